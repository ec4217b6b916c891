import PyProof.Rows.All
import Wide.All
import OpenK.AllK
import Wide.FinOn
import Lean
import PyProof.EqAt
import PyProof.EqKinds
import PyProof.TupleCall
import PySem.Challenge.RW_lentshelf_k42_whole_what_rounds_bring
set_option Elab.async false
set_option linter.all false
set_option bootstrap.genMatcherCode false
set_option maxRecDepth 100000
section
open PySem.W (Frag fnOf keepIn nsIn codeIn)
section
open PySem PySem.Spec PyProof.Rows
def aAA:=@Heap.get?_push_of_some
def aAB:=@wpAny_bind
def aAC:=@List.getElem?_eq_some_iff
def aAD:=@wpAny_pure
def aAE:=@Heap.get?_push_size
def aAF:=@Nat.le_refl
def aAG:=@List.size_toArray
def aAH:=@if_pos
def aAI:=@Int.emod_lt_of_pos
def aAJ:=@if_neg
def aAK:=@Heap.lt_size
def aAL:=@List.length_map
def aAM:=@Option.map_eq_some_iff
def aAN:=@Int.emod_nonneg
def aAO:=@List.getElem?_map
def aAP:=@PySem.W.mg_of
def aAQ:=@List.map_cons
def aAR:=@Option.some.injEq
def aAS:=@List.getElem?_append_left
def aAT:=@Nat.lt_of_lt_of_le
def aAU:=@List.mem_of_getElem?
def aAV:=@Heap.size_push
def aAW:=@decide_eq_true_eq
def aAX:=@List.take_add_one
def aAY:=@List.getElem?_set_self
def aAZ:=@List.getElem?_set_ne
def aBA:=@PassesOwn.never
def aBB:=@sizeLine_eq
def aBC:=@List.mem_singleton
def aBD:=@wpAny_loadPart'
def aBE:=@List.mem_cons
def aBF:=@wpAny_field
def aBG:=@decide_eq_false
def aBH:=@List.mem_append_right
def aBI:=@Nat.ne_of_lt
def aBJ:=@Bool.false_ne_true
def aBK:=@List.getElem?_eq_getElem
def aBL:=@Nat.le_trans
def aBM:=@wpAny_newObj_type
def aBN:=@PyProof.Rows.slot_tuple_getitem
def aBO:=@wpAny_callSpecial?_slot
def aBP:=@PySem.W.mg_none_of
def aBQ:=@List.set_set
def aBR:=@List.length_append
def aBS:=@List.mem_cons_of_mem
def aBT:=@List.length_cons
def aBU:=@wpAny_call_entry
def aBV:=@Int.pow_succ
def aBW:=@List.getElem?_append_right
def aBX:=@List.mem_map
def aBY:=@List.length_range
def aBZ:=@Int.emod_eq_of_lt
def aCA:=@List.mem_append
def aCB:=@List.foldl_cons
def aCC:=@List.lookup_cons
def aCD:=@wpAny_setField_rec
def aCE:=@Bool.and_eq_true
def aCF:=@wpAny_holding
def aCG:=@List.sum_cons
def aCH:=@Int.dvd_mul_of_dvd_left
def aCI:=@PyProof.Rows.callWith_type1
def aCJ:=@List.replicate_succ
def aCK:=@List.getD_eq_getElem?_getD
def aCL:=@List.getElem?_eq_none
def aCM:=@wpAny_seqItems
def aCN:=@List.mem_of_mem_take
def aCO:=@List.take_length
def aCP:=@List.take_of_length_le
def aCQ:=@wpAny_mono
def aCR:=@Obj.data_mapFields
def aCS:=@Int.mul_comm
def aCT:=@List.mem_cons_self
def aCU:=@List.nodup_cons
def aCV:=@wpAny_passesOwn
def aCW:=@List.find?_cons
def aCX:=@Int.dvd_trans
def aCY:=@F.slot_tuple_iterator_next
def aCZ:=@wpAny_pyIter_list
def aDA:=@Function.comp_def
def aDB:=@wpAny_rule
def aDC:=@List.pairwise_iff_getElem
def aDD:=@List.drop_eq_getElem_cons
def aDE:=@wpAny_of_eq
def aDF:=@if_true
def aDG:=@PySem.boot_len
def aDH:=@Option.isSome_iff_exists
def aDI:=@List.not_mem_nil
def aDJ:=@Heap.SameBut.update
def aDK:=@PySem.mem_of_lookup
def aDL:=@wpAny_pyIter_tuple
def aDM:=@Bool.false_eq_true
def aDN:=@Option.toList_some
def aDO:=@call_meets
def aDP:=@List.forIn_cons
def aDQ:=@List.drop_eq_nil_of_le
def aDR:=@List.flatten_cons
def aDS:=@Int.toNat_natCast
def aDT:=@Heap.get?_update_self
def aDU:=@builtinLookup_eq_fast
def aDV:=@List.getElem?_concat_length
def aDW:=@Nat.pow_le_pow_right
def aDX:=@List.filter_cons
def aDY:=@F.args_object_init_3
def aDZ:=@List.all_eq_true
def aEA:=@F.slot_tuple_mul
def aEB:=@List.mem_iff_getElem
def aEC:=@List.any_cons
def aED:=@wpAny_attempt
def aEE:=@Nat.lt_irrefl
def aEF:=@F.slot_zip_next
def aEG:=@wpAny_Call_Name_kw
def aEH:=@F.slot_list_getattribute
def aEI:=@Nat.mul_comm
def aEJ:=@List.map_map
def aEK:=@Nat.ne_of_gt
def aEL:=@PySem.F.args_tuple_add_2
def aEM:=@wpAny_setField
def aEN:=@List.foldl_nil
def aEO:=@isSubtype_type
def aEP:=@Int.mul_le_mul
def aEQ:=@Int.mul_nonneg
def aER:=@PySem.F.entry_tuple_add
def aES:=@List.nodup_append
def aET:=@of_decide_eq_true
def aEU:=@List.pairwise_map
def aEV:=@List.foldl_append
def aEW:=@Nat.zero_le
def aEX:=@PySem.F.slot_tuple_add
def aEY:=@Int.dvd_add
def aEZ:=@List.all_cons
def aFA:=@F.typeCall_zip_2
def aFB:=@List.length_take
def aFC:=@if_false
def aFD:=@wpAny_isInstance
def aFE:=@List.length_replicate
def aFF:=@Int.emod_add_mul_ediv
def aFG:=@Obj.isFreed_of_fields
def aFH:=@Bool.eq_iff_iff
def aFI:=@F.entry_zip_new
def aFJ:=@wpAny_specialOf
def aFK:=@Option.map_some
def aFL:=@callType_new
def aFM:=@F.slot_int_rmul
def aFN:=@Bool.or_eq_false_iff
def aFO:=@wpAny_updateSeq_pair
def aFP:=@wpAny_ite_false
def aFQ:=@Heap.get?_none_of_le
def aFR:=@List.nil_append
def aFS:=@typeLookup_type
def aFT:=@wpAny_execs_nil
def aFU:=@F.newCall_zip_2
def aFV:=@wpAny_typeOf
def aFW:=@List.length_nil
def aFX:=@List.append_nil
def aFY:=@List.filterMap_cons
def aFZ:=@Array.length_toList
def aGA:=@List.forIn_nil
def aGB:=@seqIndex_of
def aGC:=@Nat.le_succ
def aGD:=@Int.mul_one
def aGE:=@assignInOrder_cons
def aGF:=@F.args_tuple_mul_2
def aGG:=@List.getElem?_take
def aGH:=@wpAny_standAt
def aGI:=@Int.le_of_dvd
def aGJ:=@wpAny_onRaise
def aGK:=@Int.dvd_mul_right
def aGL:=@List.ext_getElem?
def aGM:=@F.entry_tuple_mul
def aGN:=@typeIs_int
abbrev aGO:List Str:=["n","k","e"]
abbrev aGP:List Str:=["n","deeds"]
abbrev aGQ:List Str:=["n","deed"]
abbrev aGR:List Str:=["n","w","m"]
abbrev aGS:List Str:=["n","m"]
abbrev aGT:List Str:=["n","m","bringers","inner"]
abbrev aGU:List Str:=["n","m","w","bringers","inner"]
abbrev aGV:List Str:=["_law_script","_law_k"]
abbrev aGW:List Str:=["_law_box_here","_law_many"]
abbrev aGX:List Str:=["_law_box_here","_law_n"]
abbrev aGY:List Str:=["_law_box_here","_law_n","_law_many"]
abbrev aGZ:List Str:=["_law_box_here","_law_givens","_law_room","_law_deep"]
abbrev aHA:List Str:=["_law_n","_law_expr_here","_law_given"]
abbrev aHB:List Str:=["_law_n","_law_u"]
abbrev aHC:List Str:=["_law_program","_law_given","_law_contents"]
abbrev aHD:List Str:=["_law_n","_law_deeds"]
abbrev aHE:List Str:=["_law_n","_law_expr_here","_law_ks","_law_kb","_law_kc"]
abbrev aHF:List Str:=["_law_box_here","_law_m"]
abbrev aHG:List Str:=["_law_box_here","_law_many","_law_of"]
abbrev aHH:List Str:=["_law_box_here","_law_n","_law_m","_law_shelves"]
abbrev aHI:List Str:=["_law_n","_law_inner_here","_law_worths","_law_given","_law_lying"]
abbrev aHJ:List Str:=["_law_script"]
abbrev aHK:List Str:=["n","m","w","bringers","inner","u","row","shelf","deeds","back"]
abbrev aHL:List Str:=["_law_n","_law_expr_here","_law_ks","_law_kb","_law_kc","_law_word","_law_one","_law_other"]
abbrev aHM:List Str:=["_law_box_here","_law_n","_law_many","_law_found","_law_exprs","_law_shelf","_law_spares","_law_expr_here"]
abbrev aHN:List Str:=["_law_box_here","_law_n","_law_m","_law_shelves","_law_found","_law_others","_law_k","_law_gs","_law_many","_law_ts","_law_ks"]
abbrev aHO:List Str:=["_law_script","_law_box_here","_law_m","_law_n","_law_bringers_here","_law_exprs","_law_inner_here","_law_deeds","_law_k","_law_given","_law_lying","_law_worths"]
abbrev aHP:List Str:=["word","S","c","gs","ts","n","u"]
abbrev aHQ:List Str:=["shelf","deeds","w"]
abbrev aHR:List Str:=["_law_k","_law_box_here","_law_n"]
abbrev aHS:List Str:=["_law_j","_law_shelves","_law_box_here"]
abbrev aHT:List Str:=["_law_shelf","_law_deeds"]
abbrev aHU:List Str:=["_law_one","_law_expr_here","_law_n","_law_given"]
end
variable{xs ys items:Array PySem.Value}{us its bm:List PySem.Value}{x name qual:PySem.Str}{u u2:PySem.Value}{κ α β:Type}{a it C dx l LE src z l1 l2:PySem.Addr}{P:PySem.Program}{w:PySem.World}{h h' base:PySem.Heap}{pins:List (PySem.Addr×PySem.Obj)}{s s' s₂:PySem.Shared}{t' i j m G S:Nat}{ch fp μ μ1:List PySem.Addr}{N ps loose Nc:List PySem.Str}{A A':PySem.Around}{Q:PySem.Value->PySem.Shared->Prop}{pos pos' p tpos apos p2 cpos pos2:PySem.Pos}{K:Frag}{st:PySem.Stmt}{n:Int}{body:List PySem.Stmt}{lo hi:Option Int}{op:PySem.CmpOp}{mA mg:PySem.Str->Option PySem.Value}{fd:PySem.FuncData}{kindOf:PySem.Str->Option PySem.NameKind}{outer:List PySem.Env}{osl sl:Array (Option PySem.Value)}{XP:(PySem.Str->Option PySem.Value)->PySem.Heap->Prop}{YP:PySem.World->PySem.Heap->Prop}{d:Option PySem.Addr}{ns gs cs:List Int}{env:PySem.Env}{js:List (Option Nat)}{cl:List (PySem.Str×PySem.Addr)}{tn:Nat->PySem.Heap->Prop}{ad:List (Nat×Int×List Nat)}
section
open PySem PySem.Spec PyProof.Rows
namespace L2
noncomputable section
abbrev Key:=Sum Int Str
def keyIs:Key->Value->Bool
 |.inl k,v=>Value.isInt k v
 |.inr x,v=>Value.isStrOf x v
def keyH(w:World):Key->Int
 |.inl k=>hashInt k
 |.inr x=>hashStr w x
theorem cD:∀{k:Key} {v:Value},keyIs k v=true->(∃i t,k=Sum.inl i/\v=Value.int i t)\/(∃x t,k=Sum.inr x/\v=Value.str x t)
 |.inl i,v,h=>by
  obtain⟨t,e⟩:=Value.isInt_shape (k:=i) (v:=v) h
  exact .inl ⟨i,t,rfl,e⟩
 |.inr x,v,h=>by
  obtain⟨t,e⟩:=Value.isStrOf_shape (x:=x) (v:=v) h
  exact .inr ⟨x,t,rfl,e⟩
theorem uC(i:Int)(t:Tok):keyIs (.inl i) (.int i t)=true:=by simp[keyIs,Value.isInt]
theorem uO(x:Str)(t:Tok):keyIs (.inr x) (.str x t)=true:=by simp[keyIs,Value.isStrOf]
theorem aAy(a b:Int):decide ((Sum.inl a:Key)=Sum.inl b)=(a==b):=by
 by_cases e:a=b
 ·subst e;simp
 ·have h:¬(Sum.inl a:Key)=Sum.inl b:=λq=>e (Sum.inl.inj q)
  rw[aBG h]
  exact(beq_eq_false_iff_ne.mpr e).symm
theorem aBm(a b:Str):decide ((Sum.inr a:Key)=Sum.inr b)=decide (a=b):=by
 by_cases e:a=b
 ·subst e;simp
 ·have h:¬(Sum.inr a:Key)=Sum.inr b:=λq=>e (Sum.inr.inj q)
  rw[aBG h,aBG e]
theorem aDa(a:Int)(b:Str):decide ((Sum.inl a:Key)=Sum.inr b)=false:=aBG (λq=>nomatch q)
theorem aBa(a:Str)(b:Int):decide ((Sum.inr a:Key)=Sum.inl b)=false:=aBG (λq=>nomatch q)
def mixKind(prog:Program)(w:World):PySem.KeyKind prog w Key where
 is:=keyIs
 hash:=keyH w
 inj:=λv a b ha hb=>by
  rcases cD ha with⟨i,t,rfl,rfl⟩|⟨x,t,rfl,rfl⟩
  ·rcases cD hb with⟨j,u,rfl,e⟩|⟨y,u,rfl,e⟩
   ·injection e with e1 _;rw[e1]
   ·exact nomatch e
  ·rcases cD hb with⟨j,u,rfl,e⟩|⟨y,u,rfl,e⟩
   ·exact nomatch e
   ·injection e with e1 _;rw[e1]
 byValue:=λk v h=>by
  rcases cD h with⟨i,t,rfl,rfl⟩|⟨x,t,rfl,rfl⟩ <;> rfl
 pyHash:=λhv h=>by
  rcases cD hv with⟨i,t,rfl,rfl⟩|⟨x,t,rfl,rfl⟩
  ·exact wpAny_pyHash_int h
  ·exact wpAny_pyHash_str h
 eqBool:=λhu hv h=>by
  rcases cD hu with⟨i,t,rfl,rfl⟩|⟨x,t,rfl,rfl⟩
  ·rcases cD hv with⟨j,u,rfl,rfl⟩|⟨y,u,rfl,rfl⟩
   ·rw[aAy]at h;exact wpAny_eqBool_int h
   ·rw[aDa]at h;exact SeqAt.EqAt.int_str i t y u _ _ _ _ h
  ·rcases cD hv with⟨j,u,rfl,rfl⟩|⟨y,u,rfl,rfl⟩
   ·rw[aBa]at h;exact SeqAt.EqAt.str_int x t j u _ _ _ _ h
   ·rw[aBm]at h;exact wpAny_eqBool_str h
 «strs»:=λk x t v h=>by
  rcases cD h with⟨i,u,rfl,e⟩|⟨y,u,rfl,e⟩
  ·exact nomatch e
  ·injection e with e1 _
   subst e1
   cases v <;> rfl
end
theorem pP(prog:Program)(w:World)(i:Int)(t:Tok):(mixKind prog w).is (.inl i) (.int i t)=true:=uC i t
theorem pO(prog:Program)(w:World)(x:Str)(t:Tok):(mixKind prog w).is (.inr x) (.str x t)=true:=uO x t
inductive V where
 |non|bl (b:Bool)|int (i:Int)|str (x:Str)|byt (b:Array UInt8)|flt (b:UInt64)|ref (a:Addr)|ty (n:String)
 deriving DecidableEq
noncomputable section
def RelV:V->Value->Prop
 |.non,u=>u=Value.none
 |.bl b,u=>u=Value.bool b
 |.int i,u=>∃t,u=Value.int i t
 |.str x,u=>∃t,u=Value.str x t
 |.byt b,u=>∃t,u=Value.bytes b t
 |.flt b,u=>∃t,u=Value.float b t
 |.ref a,u=>u=Value.ref a
 |.ty n,u=>u=Value.type n
abbrev Vals:List V->List Value->Prop:=Paired RelV
theorem Vals.length{xs:List V}{us:List Value}(r:Vals xs us):xs.length=us.length:=Paired.length r
theorem Vals.get:∀{xs:List V} {us:List Value} {i:Nat} {x:V},Vals xs us->xs[i]?=some x->∃u,us[i]?=some u/\RelV x u
 |_,_,_,_,.nil,e=>by simp at e
 |_,_,0,_,.cons r _,e=>by simp at e;subst e;exact⟨_,rfl,r⟩
 |_,_,i+1,x,.cons _ t,e=>by
  obtain⟨u,h1,h2⟩:=Vals.get (i:=i) (x:=x) t (by simpa using e)
  exact⟨u,by simpa using h1,h2⟩
theorem Vals.set{x:V}{u:Value}(r:RelV x u):∀{xs:List V} {us:List Value} (i:Nat),Vals xs us->Vals (xs.set i x) (us.set i u)
 |_,_,_,.nil=>.nil
 |_,_,0,.cons _ t=>.cons r t
 |_,_,i+1,.cons q t=>.cons q (Vals.set r i t)
theorem Vals.append:∀{xs ys:List V} {us ws:List Value},Vals xs us->Vals ys ws->Vals (xs++ys) (us++ws)
 |_,_,_,_,.nil,s=>s
 |_,_,_,_,.cons r t,s=>.cons r (Vals.append t s)
theorem Vals.take:∀{xs:List V} {us:List Value} (n:Nat),Vals xs us->Vals (xs.take n) (us.take n)
 |_,_,0,_=>.nil
 |_,_,_+1,.nil=>.nil
 |_,_,n+1,.cons r t=>.cons r (Vals.take n t)
theorem Vals.drop:∀{xs:List V} {us:List Value} (n:Nat),Vals xs us->Vals (xs.drop n) (us.drop n)
 |_,_,0,r=>r
 |_,_,_+1,.nil=>.nil
 |_,_,n+1,.cons _ t=>Vals.drop n t
def RelO:Option V->Option Value->Prop
 |some v,some u=>RelV v u
 |none,none=>True
 |_,_=>False
def KV{κ:Type}:List (κ×V)->List (κ×Value)->Prop:=Paired λ(p:κ×V) (q:κ×Value)=>p.1=q.1/\RelV p.2 q.2
def kV:Key->V
 |.inl i=>.int i
 |.inr x=>.str x
end
inductive HO where
 |lst (xs:List V)
 |tup (xs:List V)
 |dK (kvs:List (Key×V))|dT (kvs:List (List Key×V))
 |set (S:Int->Bool) (n:Nat)
 |ins (C dx:Addr) (fs:List (Str×V))
 |own (x:Addr)
 |xd (fs:List (Str×V))
 |met (f x:Addr)
 |rng (lo hi:Int)
 |frz (o:Obj) (u:HO)
 |tbl (ps:Array Value)
 |ext (φ:Heap->Prop)
noncomputable abbrev Hp:=Addr->Option HO
noncomputable def upd(H:Hp)(a:Addr)(o:HO):Hp:=λb=>if b=a then some o else H b
variable{H:Hp}{o:HO}
theorem bS :upd H a o a=some o:=by unfold upd;rw[aAH rfl]
variable{b:Addr}
theorem aY(h:b≠a):upd H a o b=H b:=by unfold upd;rw[aAJ h]
theorem cA(h:H a=some o)(h':H b=none):a≠b:=by
 intro e;subst e;rw[h]at h';cases h'
section
variable(P:Program)(w:World)
noncomputable def ObjOk(H:Hp)(h:Heap)(a:Addr):HO->Prop
 |.lst xs=>xs.length<=sizeLine/\∃(its:List Value) (n:Nat),Vals xs its/\h.get? a=some {cls:=.type "list",data:=.seq its.toArray n}
 |.tup xs=>xs.length<=sizeLine/\∃its:List Value,Vals xs its/\IsTup h a its.toArray
 |.dK kvs=>kvs.length<=sizeLine/\(a==sysModules)=false/\∃vs,KV kvs vs/\h.DictOf (mixKind P w) a vs
 |.dT kvs=>kvs.length<=sizeLine/\(a==sysModules)=false/\∃xs:List (List Key×Addr×Value),
   Paired (λ(p:List Key×V) (q:List Key×Addr×Value)=>p.1=q.1/\H q.2.1=some (.tup (p.1.map kV))/\RelV p.2 q.2.2) kvs xs /\
   ∃o es ep,h.get? a=some o/\o.ExactDict/\o.data=.dict es ep/\es.toList=xs.map (entryOfKey (tupleKind (mixKind P w)))/\(xs.map (·.1)).Nodup
 |.set S n=>h.SetOf (intKind P w) a S n
 |.ins C dx fs=>H dx=some (.own a)/\fs.length<=1000/\dx≠a/\h.get? a=some (PySem.W.instObj C dx) /\
   ∃mA,h.Ns1 dx mA/\(∀f,RelO (fs.lookup f) (mA f))/\PySem.Within mA (fs.map (·.1))
 |.own _=>∃o,h.get? a=some o
 |.xd fs=>∃mA,h.Ns1 a mA/\∀f,RelO (fs.lookup f) (mA f)
 |.rng lo hi=>∃t u v,h.get? a=some {cls:=.type "range",data:=.fields #[.int lo t,.int hi u,.int 1 v]}
 |.frz o u=>h.get? a=some o/\ObjOk H h a u
 |.tbl ps=>h.get? a=some {cls:=.none,data:=.fields ps}
 |.met f x=>h.get? a=some (PySem.W.methodObj (.ref f) (.ref x))
 |.ext φ=>φ h/\(∃o,h.get? a=some o)/\∀h1 h2:Heap,φ h1->(∀o,h1.get? a=some o->h2.get? a=some o)->φ h2
noncomputable def HOk(H:Hp)(h:Heap):Prop:=∀a o,H a=some o->ObjOk P w H h a o
end
variable{H':Hp}
theorem ObjOk.lt(x:ObjOk P w H h a o):a < h.objs.size:=by
 cases o with
 |lst xs=>obtain⟨_,_,_,_,e⟩:=x;exact aAK e
 |tup xs=>obtain⟨_,_,_,p⟩:=x;exact p.lt
 |dK kvs=>obtain⟨_,_,_,_,o,_,_,e,_⟩:=x;exact aAK e
 |dT kvs=>obtain⟨_,_,_,_,o,_,_,e,_⟩:=x;exact aAK e
 |set S n=>obtain⟨o,_,_,_,e,_⟩:=x;exact aAK e
 |ins C dx fs=>obtain⟨_,_,_,e,_⟩:=x;exact aAK e
 |own y=>obtain⟨_,e⟩:=x;exact aAK e
 |xd fs=>obtain⟨_,⟨_,_,_,e,_⟩,_⟩:=x;exact aAK e
 |rng lo hi=>obtain⟨_,_,_,e⟩:=x;exact aAK e
 |frz ob u=>obtain⟨e,_⟩:=x;exact aAK e
 |tbl ps=>exact aAK (show h.get? a=some _ from x)
 |met f y=>exact aAK (show h.get? a=some _ from x)
 |ext φ=>obtain⟨_,⟨_,e⟩,_⟩:=x;exact aAK e
theorem Paired.mapP{α β:Type}{F G:α->β->Prop}:∀{l₁:List α} {l₂:List β},Paired F l₁ l₂->(∀a b,F a b->G a b)->Paired G l₁ l₂
 |_,_,.nil,_=>.nil
 |_,_,.cons r t,f=>.cons (f _ _ r) (Paired.mapP t f)
theorem ObjOk.stay(x:ObjOk P w H h a o)(k:∀b u,(b=a\/H b=some (.own a))->h.get? b=some u->h'.get? b=some u)
  (ho:∀b,H b=some (.own a)->H' b=some (.own a))(ht:∀b xs,H b=some (.tup xs)->H' b=some (.tup xs)):ObjOk P w H' h' a o:=by
 induction o with
 |lst xs=>obtain⟨z,its,n,r,e⟩:=x;exact⟨z,its,n,r,k _ _ (.inl rfl) e⟩
 |tup xs=>obtain⟨z,its,r,ob,e,c⟩:=x;exact⟨z,its,r,ob,k _ _ (.inl rfl) e,c⟩
 |dK kvs=>obtain⟨z,y,vs,r,ob,es,ep,e,c⟩:=x;exact⟨z,y,vs,r,ob,es,ep,k _ _ (.inl rfl) e,c⟩
 |dT kvs =>
  obtain⟨z,y,xs,r,ob,es,ep,e,c⟩:=x
  exact⟨z,y,xs,Paired.mapP r λp q z=>⟨z.1,ht _ _ z.2.1,z.2.2⟩,ob,es,ep,k _ _ (.inl rfl) e,c⟩
 |set S n=>obtain⟨ob,es,ep,t,e,c⟩:=x;exact⟨ob,es,ep,t,k _ _ (.inl rfl) e,c⟩
 |ins C dx fs =>
  obtain⟨d,z,ne,e,mA,⟨od,es,ep,e2,c⟩,r⟩:=x
  exact⟨ho _ d,z,ne,k _ _ (.inl rfl) e,mA,⟨od,es,ep,k _ _ (.inr d) e2,c⟩,r⟩
 |own y=>obtain⟨ob,e⟩:=x;exact⟨ob,k _ _ (.inl rfl) e⟩
 |xd fs=>obtain⟨mA,⟨od,es,ep,e,c⟩,r⟩:=x;exact⟨mA,⟨od,es,ep,k _ _ (.inl rfl) e,c⟩,r⟩
 |rng lo hi=>obtain⟨t,u,v,e⟩:=x;exact⟨t,u,v,k _ _ (.inl rfl) e⟩
 |frz ob u ih=>obtain⟨e,q⟩:=x;exact⟨k _ _ (.inl rfl) e,ih q⟩
 |tbl ps =>
  have e:h.get? a=some {cls:=.none,data:=.fields ps}:=x
  show h'.get? a=some {cls:=.none,data:=.fields ps}
  exact k a _ (.inl rfl) e
 |met f y =>
  have e:h.get? a=some (PySem.W.methodObj (.ref f) (.ref y)):=x
  show h'.get? a=some (PySem.W.methodObj (.ref f) (.ref y))
  exact k a _ (.inl rfl) e
 |ext φ=>obtain⟨p,⟨o,e⟩,st⟩:=x;exact⟨st _ _ p λo q=>k _ _ (.inl rfl) q,⟨o,k _ _ (.inl rfl) e⟩,st⟩
theorem HOk.lt(x:HOk P w H h)(e:H a=some o):a < h.objs.size:=(x a o e).lt
theorem HOk.fresh(x:HOk P w H h)(e:h.objs.size<=a):H a=none:=by
 cases q:H a with
 |none=>rfl
 |some u=>exact absurd (aAT (x.lt q) e) (aEE _)
theorem HOk.kept(x:HOk P w H h)(k:∀b u,h.get? b=some u->h'.get? b=some u):HOk P w H h':=λa o e =>
 (x a o e).stay (λb u _ q=>k b u q) (λ_ q=>q) λ_ _ q=>q
theorem HOk.laid(x:HOk P w H h)(k:∀b u,h.get? b=some u->h'.get? b=some u)(hp:h.objs.size<=a)(new:ObjOk P w (upd H a o) h' a o):HOk P w (upd H a o) h':=λb u e=>by
 have hn:=x.fresh hp
 by_cases hb:b=a
 ·subst hb;rw[bS]at e;cases e;exact new
 ·rw[aY hb]at e
  exact(x b u e).stay (λc v _ q=>k c v q) (λc q=>by rw[aY (cA q hn)];exact q) λc xs q=>by rw[aY (cA q hn)];exact q
noncomputable def Rd(H:Hp)(a:Addr)(u:HO):Prop:=H a=some u\/∃o,H a=some (.frz o u)
variable{u:HO}
theorem Rd.of(h:H a=some u):Rd H a u:=.inl h
theorem Rd.ok(r:Rd H a u)(x:HOk P w H h):ObjOk P w H h a u:=by
 rcases r with r|⟨o,r⟩
 ·exact x a u r
 ·obtain⟨_,q⟩:=x a _ r
  exact q
noncomputable def Mut:Option HO->Prop
 |some (.lst _)=>True
 |some (.dK _)=>True
 |some (.dT _)=>True
 |some (.set _ _)=>True
 |some (.ins _ _ _)=>True
 |some (.ext _)=>True
 |_=>False
variable{x e:Addr}{o':HO}
theorem HOk.write(ok:HOk P w H h)(mu:Mut (H x))(he:e=x\/H e=some (.own x))(k:∀b u,b≠e->h.get? b=some u->h'.get? b=some u)(heo:∃u,h'.get? e=some u)
  (new:ObjOk P w (upd H x o') h' x o'):HOk P w (upd H x o') h':=λb u q=>by
 have nown:∀c y,H c=some (.own y)->c≠x:=λc y r z=>by subst z;rw[r]at mu;exact mu
 have ntup:∀c xs,H c=some (.tup xs)->c≠x:=λc xs r z=>by subst z;rw[r]at mu;exact mu
 by_cases hb:b=x
 ·subst hb;rw[bS]at q;cases q;exact new
 ·rw[aY hb]at q
  by_cases hbe:b=e
  ·have q':H b=some (.own x):=by
    rcases he with z|z
    ·exact absurd (hbe.trans z) hb
    ·rw[hbe];exact z
   rw[q]at q';cases q'
   obtain⟨v,hv⟩:=heo
   exact⟨v,by rw[hbe];exact hv⟩
  ·refine(ok b u q).stay (λc v hc r=>k c v ?_ r) (λc r=>by rw[aY (nown c b r)];exact r) λc xs r=>by rw[aY (ntup c xs r)];exact r
   rcases hc with rfl|hc
   ·exact hbe
   ·rintro rfl
    rcases he with z|z
    ·exact nown c b hc z
    ·rw[hc]at z;cases z;exact hb rfl
structure Un(fs ex:List Addr)(H H':Hp)(h h':Heap):Prop where
 keep:∀b o,h.get? b=some o->H b=none->b∉fs->b∉ex->h'.get? b=some o
 slot:∀b o,h.get? b=some o->H b=none->b∈fs->b∉ex->∃sl,h'.get? b=some {o with slots:=sl}
 free:∀b o,h.get? b=some o->H b=none->b∉ex->H' b=none
 there:∀b o,h.get? b=some o->b∉ex->∃o',h'.get? b=some o'
 tups:∀b xs,H b=some (.tup xs)->H' b=some (.tup xs)
 frzs:∀b o u,H b=some (.frz o u)->H' b=some (.frz o u)
 tbls:∀b ps,H b=some (.tbl ps)->∃more,H' b=some (.tbl (ps++more))
section
variable{fs fs' ex ex':List Addr}{H1 H2:Hp}{h1 h2:Heap}
theorem Un.any(u:Un fs ex H H1 h h1){ob:Obj}(q:h.get? b=some ob)(n:H b=none)(hx:b∉ex):∃sl,h1.get? b=some {ob with slots:=sl}:=by
 by_cases hb:b∈fs
 ·exact u.slot b ob q n hb hx
 ·exact⟨ob.slots,u.keep b ob q n hb hx⟩
theorem Un.trans(a:Un fs ex H H1 h h1)(b:Un fs ex H1 H2 h1 h2):Un fs ex H H2 h h2 where
 keep:=λc ob q n hc hx=>b.keep c ob (a.keep c ob q n hc hx) (a.free c ob q n hx) hc hx
 slot:=λc ob q n hc hx=>by
  obtain⟨sl,e1⟩:=a.slot c ob q n hc hx
  obtain⟨sl',e2⟩:=b.slot c _ e1 (a.free c ob q n hx) hc hx
  exact⟨sl',e2⟩
 free:=λc ob q n hx=>by
  obtain⟨o',e1⟩:=a.there c ob q hx
  exact b.free c o' e1 (a.free c ob q n hx) hx
 there:=λc ob q hx=>by
  obtain⟨o',e1⟩:=a.there c ob q hx
  exact b.there c o' e1 hx
 tups:=λc xs q=>b.tups c xs (a.tups c xs q)
 frzs:=λc ob xs q=>b.frzs c ob xs (a.frzs c ob xs q)
 tbls:=λc ps q=>by
  obtain⟨m1,e1⟩:=a.tbls c ps q
  obtain⟨m2,e2⟩:=b.tbls c _ e1
  exact⟨m1++m2,by rw[e2,Array.append_assoc]⟩
theorem Un.kept(k:∀b u,h.get? b=some u->h'.get? b=some u):Un fs ex H H h h' :=
 ⟨λb ob q _ _ _=>k b ob q,λb ob q _ _ _=>⟨ob.slots,k b ob q⟩,λ_ _ _ n _=>n,λb ob q _=>⟨ob,k b ob q⟩,λ_ _ q=>q,λ_ _ _ q=>q,λ_ ps q=>⟨#[],by rw[q];simp⟩⟩
theorem Un.refl:Un fs ex H H h h:=Un.kept λ_ _ q=>q
theorem Un.laid(k:∀b u,h.get? b=some u->h'.get? b=some u)(hp:h.objs.size<=a)(hn:H a=none):Un fs ex H (upd H a o) h h' where
 keep:=λb u q _ _ _=>k b u q
 slot:=λb u q _ _ _=>⟨u.slots,k b u q⟩
 free:=λb u q n _=>by rw[aY (aBI (aAT (aAK q) hp))];exact n
 there:=λb u q _=>⟨u,k b u q⟩
 tups:=λb xs q=>by rw[aY (cA q hn)];exact q
 frzs:=λb u xs q=>by rw[aY (cA q hn)];exact q
 tbls:=λb ps q=>⟨#[],by rw[aY (cA q hn),q];simp⟩
theorem Un.write(mu:Mut (H x))(he:e=x\/H e=some (.own x))(k:∀b u,b≠e->h.get? b=some u->h'.get? b=some u)(heo:∃u,h'.get? e=some u):Un fs ex H (upd H x o) h h':=by
 have hx:∀b,H b=none->b≠x:=λb n z=>by subst z;rw[n]at mu;exact mu
 have hb:∀b,H b=none->b≠e:=λb n z=>by
  subst z
  rcases he with r|r
  ·exact hx b n r
  ·rw[n]at r;cases r
 have hm:∀b u,H b=some u->¬Mut (some u)->b≠x:=λb u q nm z=>by subst z;rw[q]at mu;exact nm mu
 refine⟨λb u q n _ _=>k b u (hb b n) q,λb u q n _ _=>⟨u.slots,k b u (hb b n) q⟩,λb u q n _=>by rw[aY (hx b n)];exact n,λb u q _=>?_,
  λb xs q=>by rw[aY (hm b _ q λz=>z)];exact q,λb u xs q=>by rw[aY (hm b _ q λz=>z)];exact q,λb ps q=>⟨#[],by rw[aY (hm b _ q λz=>z),q];simp⟩⟩
 by_cases hbe:b=e
 ·subst hbe;exact heo
 ·exact⟨u,k b u hbe q⟩
end
noncomputable def trk(h:Heap)(H:Hp):List Addr:=(List.range h.objs.size).filter λa=>(H a).isSome
noncomputable def hidT(h:Heap)(H:Hp):Heap:=PySem.W.hideAll h (trk h H)
theorem vB(h:Heap)(H:Hp):(hidT h H).objs.size=h.objs.size:=PySem.W.hideAll_size _ _
variable{o:Obj}
theorem wT(e:h.get? b=some o)(n:H b=none):(hidT h H).get? b=some o :=
 PySem.W.hideAll_get _ e λhm=>by
  have q:(H b).isSome=true:=(List.mem_filter.mp hm).2
  rw[n]at q;simp at q
theorem zF(e:(hidT h H).get? b=some o):h.get? b=some o/\H b=none:=by
 have e':h.get? b=some o:=PySem.W.of_hideAll (trk h H) e
 refine⟨e',?_⟩
 cases q:H b with
 |none=>rfl
 |some x =>
  have hm:b∈trk h H:=List.mem_filter.mpr ⟨List.mem_range.mpr (aAK e'),by simp[q]⟩
  have z:(hidT h H).get? b=none:=PySem.W.hideAll_none (trk h H) hm
  rw[z]at e;cases e
noncomputable def allNews(g h:Heap)(L:Addr):List (Addr×Obj):=(List.range h.objs.size).filterMap λa=>if a=L\/(g.get? a).isSome=true then none else(h.get? a).map λo=>(a,o)
noncomputable def rest(g h:Heap)(L d:Addr):List (Addr×Obj):=(allNews g h L).filter λp=>decide (p.1≠d)
structure Mod(K:Frag)(mg:Str->Option Value)(base:Heap):Prop where
 kin:K.In base
 glob:base.Ns mainGlobals mg
 blt:∃mb,base.Ns builtinsNs mb/\∀x:Str,x≠"__name__"->mb x=bootBuiltins x
 nolimit:base.NoLimit
structure Cx where
 prog:Program
 w:World
 K:Frag
 mg:Str->Option Value
 base:Heap
 A:Around
 N:List Str
 s₀:Shared
 H₀:Hp
 env:Env
 outer:List Env
 stack:List Env
 ex:List Addr
 fn:Str->Bool
 calm:Bool
 pn:List (Addr×Obj)
 xe:Value->Shared->Prop
noncomputable section
def frs(l:List Env):List Addr:=l.filterMap (·.frame)
abbrev Cx.fs(X:Cx):List Addr:=frs X.outer
def Vis(sc:Scope)(x:Str):Prop:=sc.names.lookup x=some .local\/sc.names.lookup x=some .cell\/sc.names.lookup x=some .free
def Loc(sc:Scope)(x:Str):Prop:=sc.names.lookup x=some .local\/sc.names.lookup x=some .cell
def Look(env:Env)(h:Heap)(m:Str->Option Value)(x:Str)(u:Value):Prop :=
 (env.kindOf x=some .local/\m x=some u)\/((env.kindOf x=some .cell\/env.kindOf x=some .free)/\∃c,env.cells.lookup x=some c/\h.IsCell c (some u))
end
structure Cx.Ok(X:Cx):Prop where
 mod:Mod X.K X.mg X.base
 kind:X.env.scope.kind=.function
 glob:X.env.globals=mainGlobals
 blt:X.env.builtins=builtinsNs
 above:X.s₀.heap.objs.size<=X.env.locals
 inj:∀x y c,X.env.cells.lookup x=some c->X.env.cells.lookup y=some c->x=y
 has:∀x,(X.env.kindOf x=some .cell\/X.env.kindOf x=some .free)->∃c,X.env.cells.lookup x=some c
 cab:∀x c,X.fn x=true->X.env.cells.lookup x=some c->X.s₀.heap.objs.size<=c
 hd:X.calm=true->X.A.handled=none
 frames:X.A.frames=some X.stack
 stk:X.stack=X.outer\/(X.stack=X.env::X.outer/\X.env.frame=some X.env.locals)
 exf:∀b∈X.ex,b≠X.env.locals/\∀x c,X.env.cells.lookup x=some c->c≠b
 bs:∀b o,X.base.get? b=some o->X.s₀.heap.get? b=some o/\X.H₀ b=none
 bsz:X.base.objs.size<=X.s₀.heap.objs.size
 noex:∀b o,X.base.get? b=some o->b∉X.ex
 exfs:∀b∈X.ex,b∉X.fs
 funs:X.s₀.heap.FunFrames X.base X.outer
 frf:∀b∈X.fs,X.H₀ b=none
structure Inv(X:Cx)(pins:List (Addr×Obj))(σ:List (Option V))(H:Hp)(s:Shared):Prop where
 ok:X.Ok
 os:s.os=X.s₀.os
 bare:AllBare s.gens
 base:Un X.fs X.ex X.H₀ H X.s₀.heap s.heap
 loc:∃m,s.heap.Ns X.env.locals m/\∀(i:Nat) (x:Str) (v:V),X.N[i]?=some x->σ[i]?=some (some v)->Vis X.env.scope x->∃u,RelV v u/\Look X.env s.heap m x u
 cell:∀x c,X.env.cells.lookup x=some c->∃v,s.heap.IsCell c v
 free:H X.env.locals=none
 freeC:∀x c,X.env.cells.lookup x=some c->H c=none
 pin:∀p∈X.pn++pins,s.heap.get? p.1=some p.2/\H p.1=none/\p.1≠X.env.locals/\p.1∉X.fs/\∀v,p.2.data≠.cell v
 hok:HOk X.prog X.w H s.heap
 len:σ.length=X.N.length
variable{X:Cx}{σ:List (Option V)}
theorem Cx.Ok.nofr(ok:X.Ok)(e:X.base.get? b=some o):b∉X.fs:=λhb=>by
 have:=(ok.funs.mem hb).1
 rw[e]at this;cases this
theorem Inv.bs(I:Inv X pins σ H s):∀b o,X.base.get? b=some o->s.heap.get? b=some o/\H b=none:=λb o e =>
 ⟨I.base.keep b o (I.ok.bs b o e).1 (I.ok.bs b o e).2 (I.ok.nofr e) (I.ok.noex b o e),I.base.free b o (I.ok.bs b o e).1 (I.ok.bs b o e).2 (I.ok.noex b o e)⟩
theorem Inv.bk(I:Inv X pins σ H s):∀b o,X.base.get? b=some o->s.heap.get? b=some o:=λb o e=>(I.bs b o e).1
theorem Inv.mod(I:Inv X pins σ H s):Mod X.K X.mg X.base:=I.ok.mod
theorem Inv.kIn(I:Inv X pins σ H s):X.K.In s.heap:=I.ok.mod.kin.keeps I.bk
theorem Inv.lt(I:Inv X pins σ H s):X.env.locals < s.heap.objs.size:=let⟨_,hn,_⟩:=I.loc;hn.lt
theorem Inv.sz(I:Inv X pins σ H s):X.s₀.heap.objs.size<=s.heap.objs.size:=aBL I.ok.above (Nat.le_of_lt I.lt)
theorem Inv.nofs(I:Inv X pins σ H s)(h:s.heap.objs.size<=a):a∉X.fs:=λhb=>by
 obtain⟨_,o,ho,_⟩:=I.ok.funs.mem hb
 exact absurd (aAT (aAK ho) (aBL I.sz h)) (aEE _)
theorem Inv.cne(I:Inv X pins σ H s):∀x c,X.env.cells.lookup x=some c->c≠X.env.locals:=λx c e z=>by
 obtain⟨v,o,ho,hd⟩:=I.cell x c e
 obtain⟨m,⟨o',es,ep,ho',hd',_⟩,_⟩:=I.loc
 rw[z,ho']at ho;cases ho;rw[hd']at hd;cases hd
theorem Inv.funs(I:Inv X pins σ H s):s.heap.FunFrames X.base X.outer:=by
 have all:∀(l:List Env),(∀b∈frs l,b∈X.fs)->X.s₀.heap.FunFrames X.base l->s.heap.FunFrames X.base l:=by
  intro l
  induction l with
  |nil=>intro _ _;trivial
  |cons env r ih =>
   intro hs hl
   obtain⟨hk,⟨L,o,hf,hn,ho,hd⟩,hr⟩:=hl
   have hL:L∈X.fs:=hs L (by unfold frs;rw[aFY,hf];exact aCT)
   obtain⟨sl,e⟩:=I.base.slot L o ho (I.ok.frf L hL) hL λz=>I.ok.exfs L z hL
   exact⟨hk,⟨L,_,hf,hn,e,hd⟩,ih (λb hb=>hs b (by unfold frs;rw[aFY,hf];exact aBS _ hb)) hr⟩
 exact all X.outer (λ_ hb=>hb) I.ok.funs
theorem Inv.stack(I:Inv X pins σ H s):s.heap.FunFrames X.base X.stack:=by
 rcases I.ok.stk with e|⟨e,hf⟩
 ·rw[e];exact I.funs
 ·rw[e]
  obtain⟨m,hn,_⟩:=I.loc
  refine .cons (by rw[I.ok.kind];decide) hf hn ?_ I.funs
  exact aFQ (aBL I.ok.bsz I.ok.above)
theorem Inv.stkSub(I:Inv X pins σ H s):∀b∈frs X.stack,b∈X.env.locals::X.fs:=λb hb=>by
 rcases I.ok.stk with e|⟨e,hf⟩
 ·rw[e]at hb;exact aBS _ hb
 ·rw[e]at hb
  unfold frs at hb
  rw[aFY,hf]at hb
  exact hb
theorem Inv.stkFree(I:Inv X pins σ H s):∀b∈frs X.stack,H b=none:=λb hb=>by
 rcases aBE.mp (I.stkSub b hb)with e|hb
 ·rw[e];exact I.free
 ·obtain⟨_,o,ho,_⟩:=I.ok.funs.mem hb
  exact I.base.free b o ho (I.ok.frf b hb) λz=>I.ok.exfs b z hb
variable{g':Array GenState}{d':Drawn}
theorem Inv.step{ch:List Addr}(I:Inv X pins σ H s)
  (hch:∀b∈ch,(b∈X.ex\/X.s₀.heap.objs.size<=b)/\b≠X.env.locals/\(∀x c,X.env.cells.lookup x=some c->c≠b)/\∀p∈X.pn++pins,p.1≠b)
  (keep:∀b o,b≠X.env.locals->b∉X.fs->b∉ch->s.heap.get? b=some o->H b=none->h'.get? b=some o)
  (slot:∀b o,b≠X.env.locals->b∈X.fs->b∉ch->s.heap.get? b=some o->H b=none->∃sl,h'.get? b=some {o with slots:=sl})(free:∀b o,b∉ch->s.heap.get? b=some o->H b=none->H' b=none)
  (there:∀b o,b∉ch->s.heap.get? b=some o->∃o',h'.get? b=some o')
  (tups:∀b xs,H b=some (.tup xs)->H' b=some (.tup xs))(frzs:∀b o u,H b=some (.frz o u)->H' b=some (.frz o u))(tbls:∀b ps,H b=some (.tbl ps)->∃more,H' b=some (.tbl (ps++more)))
  (ns:∀m,s.heap.Ns X.env.locals m->h'.Ns X.env.locals m)(hok:HOk X.prog X.w H' h')(hg:AllBare g') :
  Inv X pins σ H' {s with heap:=h',gens:=g',drawn:=d',toks:=t'}:=by
 have neL:∀b o,X.s₀.heap.get? b=some o->b≠X.env.locals:=λb o e=>aBI (aAT (aAK e) I.ok.above)
 have neC:∀b o,X.s₀.heap.get? b=some o->b∉X.ex->b∉ch:=λb o e hx hb=>by
  rcases(hch b hb).1 with z|z
  ·exact hx z
  ·exact absurd (aAT (aAK e) z) (aEE _)
 have cellK:∀x c,X.env.cells.lookup x=some c->∀v,s.heap.IsCell c v->h'.IsCell c v:=λx c e v ⟨o,ho,hd⟩=>by
  have nch:c∉ch:=λz=>(hch c z).2.2.1 x c e rfl
  by_cases hc:c∈X.fs
  ·obtain⟨sl,q⟩:=slot c o (I.cne x c e) hc nch ho (I.freeC x c e)
   exact⟨_,q,hd⟩
  ·exact⟨o,keep c o (I.cne x c e) hc nch ho (I.freeC x c e),hd⟩
 refine⟨I.ok,I.os,hg,⟨λb o e n hb hx=>?_,λb o e n hb hx=>?_,λb o e n hx=>?_,λb o e hx=>?_,λb xs e=>tups b xs (I.base.tups b xs e),λb o xs e=>frzs b o xs (I.base.frzs b o xs e),λb ps e=>?_⟩,?_,λx c e=>?_,?_,λx c e=>?_,λp hp=>?_,hok,I.len⟩
 ·exact keep b o (neL b o e) hb (neC b o e hx) (I.base.keep b o e n hb hx) (I.base.free b o e n hx)
 ·obtain⟨sl,e1⟩:=I.base.slot b o e n hb hx
  obtain⟨sl',e2⟩:=slot b _ (neL b o e) hb (neC b o e hx) e1 (I.base.free b o e n hx)
  exact⟨sl',e2⟩
 ·obtain⟨o',e1⟩:=I.base.there b o e hx
  exact free b o' (neC b o e hx) e1 (I.base.free b o e n hx)
 ·obtain⟨o',e1⟩:=I.base.there b o e hx
  exact there b o' (neC b o e hx) e1
 ·obtain⟨m1,e1⟩:=I.base.tbls b ps e
  obtain⟨m2,e2⟩:=tbls b _ e1
  exact⟨m1++m2,by rw[e2,Array.append_assoc]⟩
 ·obtain⟨m,hn,hl⟩:=I.loc
  refine⟨m,ns m hn,λi x v e1 e2 e3=>?_⟩
  obtain⟨u,r,l⟩:=hl i x v e1 e2 e3
  refine⟨u,r,?_⟩
  rcases l with l|⟨k,c,e,z⟩
  ·exact .inl l
  ·exact .inr ⟨k,c,e,cellK x c e _ z⟩
 ·obtain⟨v,z⟩:=I.cell x c e
  exact⟨v,cellK x c e v z⟩
 ·obtain⟨m,⟨o,_,_,ho,_⟩,_⟩:=I.loc
  exact free _ o (λz=>(hch _ z).2.1 rfl) ho I.free
 ·obtain⟨v,o,ho,hd⟩:=I.cell x c e
  exact free c o (λz=>(hch c z).2.2.1 x c e rfl) ho (I.freeC x c e)
 ·obtain⟨e,n,ne,nf,d⟩:=I.pin p hp
  have nch:p.1∉ch:=λz=>(hch p.1 z).2.2.2 p hp rfl
  exact⟨keep p.1 p.2 ne nf nch e n,free p.1 p.2 nch e n,ne,nf,d⟩
theorem Inv.un(I:Inv X pins σ H s)(u:Un X.fs [] H H' s.heap h')(hok:HOk X.prog X.w H' h'):Inv X pins σ H' {s with heap:=h',toks:=t'}:=by
 obtain⟨m,⟨o,es,ep,ho,r⟩,_⟩:=id I.loc
 obtain⟨sl,hL⟩:=u.any ho I.free (by simp)
 exact I.step (g':=s.gens) (d':=s.drawn) (ch:=[]) (λ_ z=>nomatch z) (λb o _ hb _ e n=>u.keep b o e n hb (by simp)) (λb o _ hb _ e n=>u.slot b o e n hb (by simp)) (λb o _ e n=>u.free b o e n (by simp)) (λb o _ e=>u.there b o e (by simp)) u.tups u.frzs u.tbls (λm' hm=>by
  obtain⟨o',es',ep',ho',r'⟩:=hm
  rw[ho]at ho';cases ho'
  exact⟨_,es',ep',hL,r'⟩) hok I.bare
theorem Inv.call{ch:List Addr}(I:Inv X pins σ H s)(u:Un (frs X.stack) ch H H' s.heap h')(hok:HOk X.prog X.w H' h')(hg:AllBare g')
  (hch:∀b∈ch,(b∈X.ex\/X.s₀.heap.objs.size<=b)/\b≠X.env.locals/\(∀x c,X.env.cells.lookup x=some c->c≠b)/\∀p∈X.pn++pins,p.1≠b) :
  Inv X pins σ H' {s with heap:=h',gens:=g',drawn:=d',toks:=t'}:=by
 obtain⟨m,⟨o,es,ep,ho,r⟩,_⟩:=id I.loc
 obtain⟨sl,hL⟩:=u.any ho I.free λz=>(hch _ z).2.1 rfl
 exact I.step (ch:=ch) hch (λb o hL hb hc e n=>u.keep b o e n (λz=>(aBE.mp (I.stkSub b z)).elim hL hb) hc) (λb o _ _ hc e n=>u.any e n hc) (λb o hc e n=>u.free b o e n hc) (λb o hc e=>u.there b o e hc) u.tups u.frzs u.tbls (λm' hm=>by
  obtain⟨o',es',ep',ho',r'⟩:=hm
  rw[ho]at ho';cases ho'
  exact⟨_,es',ep',hL,r'⟩) hok hg
theorem Inv.turned(I:Inv X pins σ H s)(k:∀b o,b≠it->s.heap.get? b=some o->h'.get? b=some o)(hn:H it=none)(hL:it≠X.env.locals)
  (h1:it∈X.ex\/X.s₀.heap.objs.size<=it)(h2:∀x c,X.env.cells.lookup x=some c->c≠it)(h3:∀p∈X.pn++pins,p.1≠it):Inv X pins σ H {s with heap:=h',toks:=t'}:=by
 have nit:∀b u,H b=some u->b≠it:=λb u e z=>by rw[z,hn]at e;cases e
 refine I.step (g':=s.gens) (d':=s.drawn) (ch:=[it]) (λb hb=>?_) (λb o _ _ hc e _=>k b o (λz=>hc (by simp[z])) e) (λb o _ _ hc e _=>⟨o.slots,k b o (λz=>hc (by simp[z])) e⟩) (λ_ _ _ _ n=>n)
  (λb o hc e=>⟨o,k b o (λz=>hc (by simp[z])) e⟩) (λ_ _ e=>e) (λ_ _ _ e=>e) (λb ps e=>⟨#[],by rw[e];simp⟩) (λm hm=>?_) (λb u e=>?_) I.bare
 ·have e:b=it:=by simpa using hb
  subst e
  exact⟨h1,hL,h2,h3⟩
 ·obtain⟨o,es,ep,ho,r⟩:=hm
  exact⟨o,es,ep,k _ o (Ne.symm hL) ho,r⟩
 ·refine(I.hok b u e).stay (λc v hc q=>k c v ?_ q) (λ_ q=>q) λ_ _ q=>q
  rcases hc with z|z
  ·rw[z];exact nit b u e
  ·exact nit c _ z
theorem Inv.tok(I:Inv X pins σ H s)(t:Nat):Inv X pins σ H {s with toks:=t}:=I.un (h':=s.heap) (t':=t) Un.refl I.hok
theorem Inv.kept{t':Nat}(I:Inv X pins σ H s)(k:∀b u,s.heap.get? b=some u->h'.get? b=some u):Inv X pins σ H {s with heap:=h',toks:=t'}:=I.un (Un.kept k) (I.hok.kept k)
theorem Inv.laid{a:Addr}{o:HO}{t':Nat}(I:Inv X pins σ H s)(k:∀b u,s.heap.get? b=some u->h'.get? b=some u)(hp:s.heap.objs.size<=a)(new:ObjOk X.prog X.w (upd H a o) h' a o) :
  Inv X pins σ (upd H a o) {s with heap:=h',toks:=t'}:=I.un (Un.laid k hp (I.hok.fresh hp)) (I.hok.laid k hp new)
theorem Inv.write{x e:Addr}{o:HO}{t':Nat}(I:Inv X pins σ H s)(mu:Mut (H x))(he:e=x\/H e=some (.own x))(k:∀b u,b≠e->s.heap.get? b=some u->h'.get? b=some u)(heo:∃u,h'.get? e=some u)
  (new:ObjOk X.prog X.w (upd H x o) h' x o):Inv X pins σ (upd H x o) {s with heap:=h',toks:=t'}:=I.un (Un.write mu he k heo) (I.hok.write mu he k heo new)
theorem Inv.pins_of{pins':List (Addr×Obj)}(I:Inv X pins σ H s)(h:∀p∈pins',s.heap.get? p.1=some p.2/\H p.1=none/\p.1≠X.env.locals/\p.1∉X.fs/\∀v,p.2.data≠.cell v):Inv X pins' σ H s :=
 ⟨I.ok,I.os,I.bare,I.base,I.loc,I.cell,I.free,I.freeC,λp hp=>(aCA.mp hp).elim (λz=>I.pin p (List.mem_append_left _ z)) (h p),I.hok,I.len⟩
variable{x:Str}
theorem qH(hN:N.Nodup)(a:N[i]?=some x)(b:N[j]?=some x):i=j:=by
 obtain⟨h1,e1⟩:=aAC.mp a
 obtain⟨h2,e2⟩:=aAC.mp b
 exact(List.getElem_inj hN).mp (e1.trans e2.symm)
variable{M:Model}{E:Value->Shared->Prop}{v:V}{u:Value}{Q:Unit->Shared->Prop}
theorem nB(I:Inv X pins σ H s)(hN:X.N.Nodup)(hi:X.N[i]?=some x)(hx:Loc X.env.scope x)(r:RelV v u)
  (h:∀s',Inv X pins (σ.set i (some v)) H s'->(∃a,Heap.SameBut a s.heap s'.heap/\(a=X.env.locals\/X.env.cells.lookup x=some a))->Q () s')(hf:X.fn x=true\/X.env.scope.names.lookup x=some .local:=by first|exact .inl rfl|exact .inr rfl|assumption):wpAny M A (storeName X.env x u) Q E s:=by
 obtain⟨m,hn,hl⟩:=id I.loc
 have hcls:(X.env.scope.kind==.class || (X.env.scope.kind==.module&&X.env.locals != X.env.globals))=false:=by rw[I.ok.kind];rfl
 have hiσ:i < σ.length:=by rw[I.len];exact(aAC.mp hi).1
 have cne:=I.cne
 have tracked:∀{a:Addr} {h':Heap},(∃o,s.heap.get? a=some o/\H a=none)->Heap.SameBut a s.heap h'->HOk X.prog X.w H h':=λ{a h'} ha hs b ob e=>by
  obtain⟨_,_,hfree⟩:=ha
  refine(I.hok b ob e).stay (λc w' hc q=>(hs.2 c ?_).trans q) (λ_ q=>q) λ_ _ q=>q
  rintro rfl
  rcases hc with rfl|hc
  ·rw[hfree]at e;cases e
  ·rw[hfree]at hc;cases hc
 rcases hx with hk|hk
 ·refine wpAny_storeName_local hk hn (λh' hn' hs=>?_) hcls
  obtain⟨oL,_,_,hoL,_⟩:=id hn
  refine h _ ⟨I.ok,I.os,I.bare,⟨λb o e n hb hx=>?_,λb o e n hb hx=>?_,I.base.free,λb o e hx=>?_,I.base.tups,I.base.frzs,I.base.tbls⟩,⟨_,hn',λj y v' e1 e2 e3=>?_⟩,λy c e=>?_,I.free,I.freeC,λp hp=>?_,tracked ⟨oL,hoL,I.free⟩ hs,by simpa using I.len⟩ ⟨_,hs,.inl rfl⟩
  ·exact(hs.2 b (aBI (aAT (aAK e) I.ok.above))).trans (I.base.keep b o e n hb hx)
  ·obtain⟨sl,e1⟩:=I.base.slot b o e n hb hx
   exact⟨sl,(hs.2 b (aBI (aAT (aAK e) I.ok.above))).trans e1⟩
  ·obtain⟨o',e1⟩:=I.base.there b o e hx
   exact⟨o',(hs.2 b (aBI (aAT (aAK e) I.ok.above))).trans e1⟩
  ·by_cases hj:j=i
   ·subst hj
    rw[hi]at e1;cases e1
    rw[aAY hiσ]at e2
    cases e2
    exact⟨u,r,.inl ⟨hk,by simp⟩⟩
   ·rw[aAZ (Ne.symm hj)]at e2
    obtain⟨u',r',q⟩:=hl j y v' e1 e2 e3
    refine⟨u',r',?_⟩
    rcases q with⟨k,e⟩|⟨k,c,e,z⟩
    ·refine .inl ⟨k,?_⟩
     have:y≠x:=λe=>hj (qH hN e1 (e▸hi))
     simp[this,e]
    ·exact .inr ⟨k,c,e,z.sameBut hs (cne y c e)⟩
  ·obtain⟨w',z⟩:=I.cell y c e
   exact⟨w',z.sameBut hs (cne y c e)⟩
  ·obtain⟨e,n,ne,nf,d⟩:=I.pin p hp
   exact⟨(hs.2 p.1 ne).trans e,n,ne,nf,d⟩
 ·have hfn:X.fn x=true:=by
   rcases hf with z|z
   ·exact z
   ·rw[z]at hk;cases hk
  obtain⟨c,hc⟩:=I.ok.has x (.inl hk)
  obtain⟨w',z⟩:=I.cell x c hc
  refine wpAny_storeName_cell I.ok.kind hk hc z (λh' hc' hs=>?_)
  obtain⟨oc,hoc,hocd⟩:=id z
  refine h {s with heap:=h'} ⟨I.ok,I.os,I.bare,⟨λb o e n hb hx=>?_,λb o e n hb hx=>?_,I.base.free,λb o e hx=>?_,I.base.tups,I.base.frzs,I.base.tbls⟩,⟨m,hn.sameBut hs (Ne.symm (cne x c hc)),λj y v' e1 e2 e3=>?_⟩,λy c' e=>?_,I.free,I.freeC,λp hp=>?_,tracked ⟨oc,hoc,I.freeC x c hc⟩ hs,by simpa using I.len⟩ ⟨c,hs,.inr hc⟩
  ·exact(hs.2 b (aBI (aAT (aAK e) (I.ok.cab x c hfn hc)))).trans (I.base.keep b o e n hb hx)
  ·obtain⟨sl,e1⟩:=I.base.slot b o e n hb hx
   exact⟨sl,(hs.2 b (aBI (aAT (aAK e) (I.ok.cab x c hfn hc)))).trans e1⟩
  ·obtain⟨o',e1⟩:=I.base.there b o e hx
   exact⟨o',(hs.2 b (aBI (aAT (aAK e) (I.ok.cab x c hfn hc)))).trans e1⟩
  ·by_cases hj:j=i
   ·subst hj
    rw[hi]at e1;cases e1
    rw[aAY hiσ]at e2
    cases e2
    exact⟨u,r,.inr ⟨.inl hk,c,hc,hc'⟩⟩
   ·rw[aAZ (Ne.symm hj)]at e2
    obtain⟨u',r',q⟩:=hl j y v' e1 e2 e3
    refine⟨u',r',?_⟩
    rcases q with q|⟨k,c',e,z'⟩
    ·exact .inl q
    ·refine .inr ⟨k,c',e,z'.sameBut hs ?_⟩
     rintro rfl
     exact hj (qH hN e1 (I.ok.inj _ _ _ e hc▸hi))
  ·by_cases hcc:c'=c
   ·subst hcc;exact⟨_,hc'⟩
   ·obtain⟨w2,z2⟩:=I.cell y c' e
    exact⟨w2,z2.sameBut hs hcc⟩
  ·obtain⟨e,n,ne,nf,d⟩:=I.pin p hp
   refine⟨(hs.2 p.1 ?_).trans e,n,ne,nf,d⟩
   intro q
   rw[q,hoc]at e
   have q':oc=p.2:=Option.some.inj e
   exact d w' (by rw[<- q'];exact hocd)
theorem iS(I:Inv X pins σ H s)(hN:X.N.Nodup)(hi:X.N[i]?=some x)(hx:Loc X.env.scope x)(r:RelV v u)
  (h:∀s',Inv X pins (σ.set i (some v)) H s'->Q () s')(hf:X.fn x=true\/X.env.scope.names.lookup x=some .local:=by first|exact .inl rfl|exact .inr rfl|assumption):wpAny M A (storeName X.env x u) Q E s :=
 nB I hN hi hx r (λs' I' _=>h s' I') hf
theorem Inv.call'{ch:List Addr}(I:Inv X pins σ H s)(ho:s'.os=s.os)(u:Un (frs X.stack) ch H H' s.heap s'.heap)(hok:HOk X.prog X.w H' s'.heap)(hg:AllBare s'.gens)
  (hch:∀b∈ch,(b∈X.ex\/X.s₀.heap.objs.size<=b)/\b≠X.env.locals/\(∀x c,X.env.cells.lookup x=some c->c≠b)/\∀p∈X.pn++pins,p.1≠b):Inv X pins σ H' s':=by
 obtain⟨h',g',d',t',o'⟩:=s'
 have e:o'=s.os:=ho
 subst e
 exact I.call (g':=g') (t':=t') (d':=d') u hok hg hch
noncomputable section
abbrev XK:=Value->Option Addr->Hp->Prop
abbrev St:=List (Option V)
abbrev VK:=V->Hp->Prop
abbrev TE:=St->Hp->VK->Prop
abbrev TT:=St->Hp->(Bool->Hp->Prop)->Prop
abbrev TA:=St->Hp->(List V->Hp->Prop)->Prop
end
structure Ends where
 nx:St->Hp->Prop
 rt:VK
 bk:St->Hp->Prop:=λ_ _=>False
 ct:St->Hp->Prop:=λ_ _=>False
noncomputable section
abbrev TS:=Ends->St->Hp->Prop
def EP(X:Cx)(pins:List (Addr×Obj))(σ:St)(Q:VK)(u:Value)(s':Shared):Prop:=∃v H',Inv X pins σ H' s'/\RelV v u/\Q v H'
def TP(X:Cx)(pins:List (Addr×Obj))(σ:St)(Q:Bool->Hp->Prop)(b:Bool)(s':Shared):Prop:=∃H',Inv X pins σ H' s'/\Q b H'
def AP(X:Cx)(pins:List (Addr×Obj))(σ:St)(Q:List V->Hp->Prop)(us:List Value)(s':Shared):Prop:=∃vs H',Inv X pins σ H' s'/\Vals vs us/\Q vs H'
def SP(X:Cx)(pins:List (Addr×Obj))(D:Ends)(f:Flow)(s':Shared):Prop :=
 match f with
 |.next=>∃σ' H',Inv X pins σ' H' s'/\D.nx σ' H'
 |.brk=>∃σ' H',Inv X pins σ' H' s'/\D.bk σ' H'
 |.cont=>∃σ' H',Inv X pins σ' H' s'/\D.ct σ' H'
 |.ret u=>∃v σ' H',Inv X pins σ' H' s'/\RelV v u/\D.rt v H'
def PE(X:Cx)(e:Expr)(t:TE):Prop :=
 ∀(pins:List (Addr×Obj)) (s:Shared) (σ:St) (H:Hp) (Q:VK),Inv X pins σ H s->t σ H Q->wpAny (model X.prog X.w) X.A (eval e X.env) (EP X pins σ Q) X.xe s
def PT(X:Cx)(e:Expr)(t:TT):Prop :=
 ∀(pins:List (Addr×Obj)) (s:Shared) (σ:St) (H:Hp) (Q:Bool->Hp->Prop),Inv X pins σ H s->t σ H Q->wpAny (model X.prog X.w) X.A (isTrue e X.env (eval e X.env)) (TP X pins σ Q) X.xe s
def PW(X:Cx)(e:Expr)(t:TT):Prop :=
 ∀(whole:Sem Value) (pins:List (Addr×Obj)) (s:Shared) (σ:St) (H:Hp) (Q:Bool->Hp->Prop),Inv X pins σ H s->t σ H Q->wpAny (model X.prog X.w) X.A (isTrue e X.env whole) (TP X pins σ Q) X.xe s
end
variable{e:Expr}
theorem PW.pt{t:TT}(h:PW X e t):PT X e t:=h _
noncomputable section
def PA(X:Cx)(es:List Expr)(t:TA):Prop :=
 ∀(pos:Pos) (pins:List (Addr×Obj)) (s:Shared) (σ:St) (H:Hp) (Q:List V->Hp->Prop),Inv X pins σ H s->t σ H Q->wpAny (model X.prog X.w) X.A (spliced (backTo pos (starEach es X.env))) (AP X pins σ Q) X.xe s
def PS(X:Cx)(st:Stmt)(t:TS):Prop :=
 ∀(pins:List (Addr×Obj)) (s:Shared) (σ:St) (H:Hp) (D:Ends),Inv X pins σ H s->t D σ H->wpAny (model X.prog X.w) X.A (exec st X.env) (SP X pins D) X.xe s
def PSs(X:Cx)(st:List Stmt)(t:TS):Prop :=
 ∀(pins:List (Addr×Obj)) (s:Shared) (σ:St) (H:Hp) (D:Ends),Inv X pins σ H s->t D σ H->wpAny (model X.prog X.w) X.A (execs st X.env) (SP X pins D) X.xe s
end
theorem thn{t:Sem α}{Q Q':α->Shared->Prop}{s:Shared}(h:wpAny M A t Q E s)(hQ:∀a s,Q a s->Q' a s):wpAny M A t Q' E s:=aCQ h hQ λ_ _ x=>x
section
noncomputable section
def tVar(i:Nat):TE:=λσ H Q=>∃v,σ[i]?=some (some v)/\Q v H
def tC(v:V):TE:=λ_ H Q=>Q v H
theorem aCj(hN:X.N[i]?=some x)(hv:Vis X.env.scope x)(hd:(x==("__debug__":Str))=false:=by decide)(hcd:(x==("__classdict__":Str))=false:=by decide):PE X (.Name x pos) (tVar i):=by
 intro pins s σ H Q I h
 obtain⟨v,e,h⟩:=h
 obtain⟨m,hn,hl⟩:=I.loc
 obtain⟨u,r,l⟩:=hl i x v hN e hv
 have fin:EP X pins σ Q u s:=⟨v,H,I,r,h⟩
 rcases l with⟨hk,hm⟩|⟨hk,c,hc,hcell⟩
 ·exact wpAny_Name (wpAny_loadName_local I.ok.kind hk hn hm fin) hd
 ·rcases hk with hk|hk
  ·exact wpAny_Name (wpAny_loadName_cell I.ok.kind hk hc hcell fin) hd
  ·exact wpAny_Name (wpAny_loadName_free I.ok.kind hk hc hcell fin hcd) hd
theorem wU{i j pos}:PE X (.Constant (.int i) j pos) (tC (.int i)):=λ_ _ _ H _ I h=>wpAny_Constant_int ⟨.int i,H,I.tok _,⟨_,rfl⟩,h⟩
theorem aEi{b j pos}:PE X (.Constant (.bool b) j pos) (tC (.bl b)):=λ_ _ _ H _ I h=>Constant_bool ⟨.bl b,H,I,rfl,h⟩
theorem aCr{j pos}:PE X (.Constant .none j pos) (tC .non):=λ_ _ _ H _ I h=>Constant_none ⟨.non,H,I,rfl,h⟩
theorem aBc{x j pos}:PE X (.Constant (.str x) j pos) (tC (.str x)):=λ_ _ _ H _ I h=>Calls.Constant_str ⟨.str x,H,I.tok _,⟨_,rfl⟩,h⟩
def Gl(X:Cx)(x:Str):Prop:=X.env.kindOf x=some .globalImplicit
end
variable{σ:St}{Q:Value->Shared->Prop}
theorem zP(I:Inv X pins σ H s)(hg:Gl X x)(hm:X.mg x=some u)(h:Q u s)
  (hd:(x==("__debug__":Str))=false:=by decide):wpAny (model X.prog X.w) X.A (eval (.Name x pos) X.env) Q E s :=
 Calls.Name_function_global I.ok.kind hg (Calls.loadGlobal_global (by rw[I.ok.glob];exact I.mod.glob.keeps I.bk) hm h) hd
theorem jT(I:Inv X pins σ H s)(hg:Gl X x)(hm:X.mg x=none)(hv:bootBuiltins x=some u)(h:Q u s)
  (hn:x≠"__name__":=by decide)(hd:(x==("__debug__":Str))=false:=by decide):wpAny (model X.prog X.w) X.A (eval (.Name x pos) X.env) Q E s:=by
 obtain⟨mb,h1,h2⟩:=I.mod.blt
 exact Calls.Name_function_global I.ok.kind hg (Calls.loadGlobal_builtin (by rw[I.ok.glob];exact I.mod.glob.keeps I.bk) hm (by rw[I.ok.blt];exact h1.keeps I.bk) ((h2 x hn).trans hv) h) hd
noncomputable def t2I(ta tb:TE)(k:Int->Int->Hp->Prop):St->Hp->Prop:=λσ H=>ta σ H λx H1=>tb σ H1 λy H2=>∃i j,x=.int i/\y=.int j/\k i j H2
variable{a b:Expr}{ta tb:TE}
noncomputable section
def tCmp(p:Int->Int->Bool)(ta tb:TE):TE:=λσ H Q=>t2I ta tb (λi j H2=>Q (.bl (p i j)) H2) σ H
abbrev tLt:TE->TE->TE:=tCmp λi j=>decide (i < j)
def tB(t:TE):TT:=λσ H Q=>t σ H λx H1=>∃c,x=.bl c/\Q c H1
end
variable{tA tB':TT}{rest:List Expr}
noncomputable def tAnd(t u:TT):TT:=λσ H Q=>t σ H λc H1=>if c=true then u σ H1 Q else Q false H1
noncomputable def tOr(t u:TT):TT:=λσ H Q=>t σ H λc H1=>if c=true then Q true H1 else u σ H1 Q
theorem zM(ha:PT X a tA):PW X (.BoolOp .And [a] pos) tA:=by
 intro wh pins s σ H Q I h
 refine isTrue_and (thn (ha pins s σ H Q I h) λc s1 e=>?_)
 cases c with
 |true=>exact isTrue_and_nil e
 |false=>exact e
theorem aAm(ha:PT X a tA):PW X (.BoolOp .Or [a] pos) tA:=by
 intro wh pins s σ H Q I h
 refine isTrue_or (thn (ha pins s σ H Q I h) λc s1 e=>?_)
 cases c with
 |false=>exact isTrue_or_nil e
 |true=>exact e
theorem aCi(ha:PT X a tA)(hb:PW X (.BoolOp .And (b::rest) pos) tB'):PW X (.BoolOp .And (a::b::rest) pos) (tAnd tA tB'):=by
 intro wh pins s σ H Q I h
 refine isTrue_and (thn (ha pins s σ H _ I h) λc s1 ⟨H1,I1,q1⟩=>?_)
 cases c with
 |true=>exact hb wh pins s1 σ H1 Q I1 q1
 |false=>exact⟨H1,I1,q1⟩
theorem aEg(ha:PT X a tA)(hb:PW X (.BoolOp .Or (b::rest) pos) tB'):PW X (.BoolOp .Or (a::b::rest) pos) (tOr tA tB'):=by
 intro wh pins s σ H Q I h
 refine isTrue_or (thn (ha pins s σ H _ I h) λc s1 ⟨H1,I1,q1⟩=>?_)
 cases c with
 |true=>exact⟨H1,I1,q1⟩
 |false=>exact hb wh pins s1 σ H1 Q I1 q1
end
noncomputable section
def SqL(K:Frag)(H:Hp)(a:Addr)(xs:List V):Prop :=
 Rd H a (.lst xs) \/
  ∃(o:Obj) (its:Array Value) (n:Nat),K.lookup a=some o/\o.cls=.type "list"/\o.dict=none/\o.data=.seq its n/\its.size<=sizeLine/\Vals xs its.toList
def SqT(K:Frag)(H:Hp)(a:Addr)(xs:List V):Prop :=
 Rd H a (.tup xs) \/
  ∃(o:Obj) (its:Array Value) (n:Nat),K.lookup a=some o/\o.cls=.type "tuple"/\o.data=.seq its n/\its.size<=sizeLine/\Vals xs its.toList
def absV:Value->Option V
 |.none=>some .non
 |.bool b=>some (.bl b)
 |.int i _=>some (.int i)
 |.str x _=>some (.str x)
 |.bytes b _=>some (.byt b)
 |.float b _=>some (.flt b)
 |.ref a=>some (.ref a)
 |.type n=>some (.ty n)
 |_=>none
end
theorem RelV.abs{x:V}(r:RelV x u):absV u=some x:=by
 cases x with
 |non=>cases r;rfl
 |bl _=>cases r;rfl
 |int _=>obtain⟨t,rfl⟩:=r;rfl
 |str _=>obtain⟨t,rfl⟩:=r;rfl
 |byt _=>obtain⟨t,rfl⟩:=r;rfl
 |flt _=>obtain⟨t,rfl⟩:=r;rfl
 |ref _=>cases r;rfl
 |ty _=>cases r;rfl
theorem RelV.inj{x y:V}{u:Value}(r:RelV x u)(q:RelV y u):x=y:=Option.some.inj (r.abs.symm.trans q.abs)
theorem Vals.inj:∀{xs ys:List V} {us:List Value},Vals xs us->Vals ys us->xs=ys
 |_,_,_,.nil,.nil=>rfl
 |_,_,_,.cons r t,.cons r' t'=>by rw[r.inj r',Vals.inj t t']
variable{σ:St}{xs ys:List V}
theorem SqL.of(h:H a=some (.lst xs)):SqL K H a xs:=.inl (.inl h)
theorem SqT.of(h:H a=some (.tup xs)):SqT K H a xs:=.inl (.inl h)
theorem Inv.list(I:Inv X pins σ H s)(h:SqL X.K H a xs):∃its:List Value,Vals xs its/\PlainL s.heap a its.toArray/\xs.length<=sizeLine:=by
 rcases h with h|⟨o,its,n,hk,hc,hd,hs,hz,r⟩
 ·obtain⟨z,its,n,r,e⟩:=h.ok I.hok
  exact⟨its,r,⟨_,n,e,rfl,rfl,rfl⟩,z⟩
 ·refine⟨its.toList,r,⟨o,n,I.kIn a o hk,hc,hd,by simpa using hs⟩,?_⟩
  have e:=r.length
  simp only[aFZ]at e
  lia
theorem Inv.tuple(I:Inv X pins σ H s)(h:SqT X.K H a xs):∃its:List Value,Vals xs its/\IsTup s.heap a its.toArray/\xs.length<=sizeLine:=by
 rcases h with h|⟨o,its,n,hk,hc,hs,hz,r⟩
 ·obtain⟨z,its,r,p⟩:=h.ok I.hok
  exact⟨its,r,p,z⟩
 ·refine⟨its.toList,r,⟨o,I.kIn a o hk,hc,n,by simpa using hs⟩,?_⟩
  have e:=r.length
  simp only[aFZ]at e
  lia
theorem Inv.list_inj(I:Inv X pins σ H s)(h:SqL X.K H a xs)(h':SqL X.K H a ys):xs=ys:=by
 obtain⟨its,r,⟨o,n,e,_,_,d⟩,_⟩:=I.list h
 obtain⟨its',r',⟨o',n',e',_,_,d'⟩,_⟩:=I.list h'
 rw[e]at e';cases e'
 rw[d]at d'
 injection d' with d1 _
 have:its=its':=by simpa using congrArg Array.toList d1
 subst this
 exact r.inj r'
theorem Inv.tuple_inj(I:Inv X pins σ H s)(h:SqT X.K H a xs)(h':SqT X.K H a ys):xs=ys:=by
 obtain⟨its,r,⟨o,e,_,n,d⟩,_⟩:=I.tuple h
 obtain⟨its',r',⟨o',e',_,n',d'⟩,_⟩:=I.tuple h'
 rw[e]at e';cases e'
 rw[d]at d'
 injection d' with d1 _
 have:its=its':=by simpa using congrArg Array.toList d1
 subst this
 exact r.inj r'
noncomputable abbrev Cx.wish(X:Cx)(E:Value->Shared->Prop):Cx:={X with xe:=E}
noncomputable abbrev Cx.nox(X:Cx):Cx:=X.wish λ_ _=>False
theorem Cx.Ok.wish{X:Cx}(ok:X.Ok)(E:Value->Shared->Prop):(X.wish E).Ok :=
 ⟨ok.mod,ok.kind,ok.glob,ok.blt,ok.above,ok.inj,ok.has,ok.cab,ok.hd,ok.frames,ok.stk,ok.exf,ok.bs,ok.bsz,ok.noex,ok.exfs,ok.funs,ok.frf⟩
theorem Cx.Ok.unwish(ok:(X.wish E).Ok):X.Ok :=
 ⟨ok.mod,ok.kind,ok.glob,ok.blt,ok.above,ok.inj,ok.has,ok.cab,ok.hd,ok.frames,ok.stk,ok.exf,ok.bs,ok.bsz,ok.noex,ok.exfs,ok.funs,ok.frf⟩
theorem Inv.wish(I:Inv X pins σ H s)(E:Value->Shared->Prop):Inv (X.wish E) pins σ H s:=⟨I.ok.wish E,I.os,I.bare,I.base,I.loc,I.cell,I.free,I.freeC,I.pin,I.hok,I.len⟩
theorem Inv.unwish(I:Inv (X.wish E) pins σ H s):Inv X pins σ H s:=⟨I.ok.unwish,I.os,I.bare,I.base,I.loc,I.cell,I.free,I.freeC,I.pin,I.hok,I.len⟩
theorem SP.unwish{D:Ends}{f:Flow}{s':Shared}(h:SP (X.wish E) pins D f s'):SP X pins D f s':=by
 cases f with
 |next=>obtain⟨σ',H',I,q⟩:=h;exact⟨σ',H',I.unwish,q⟩
 |brk=>obtain⟨σ',H',I,q⟩:=h;exact⟨σ',H',I.unwish,q⟩
 |cont=>obtain⟨σ',H',I,q⟩:=h;exact⟨σ',H',I.unwish,q⟩
 |ret u=>obtain⟨v,σ',H',I,r,q⟩:=h;exact⟨v,σ',H',I.unwish,r,q⟩
theorem PSs.nox{st:List Stmt}{t:TS}(h:PSs X.nox st t):PSs X st t:=λpins s σ H D I hw =>
 aCQ (h pins s σ H D (I.wish _) hw) (λ_ _ q=>q.unwish) λ_ _ z=>False.elim z
section
variable{rest:List Stmt}{t u:TS}{te:TE}
noncomputable section
def tNext:TS:=λD σ H=>D.nx σ H
def tSeq(t u:TS):TS:=λD σ H=>t {D with nx:=u D} σ H
theorem yM:PSs X [] tNext:=λ_ _ σ H _ I h=>aFT ⟨σ,H,I,h⟩
theorem xR(h1:PS X st t)(h2:PSs X rest u):PSs X (st::rest) (tSeq t u):=by
 intro pins s σ H D I h
 refine wpAny_execs_cons (thn (h1 pins s σ H {D with nx:=u D} I h) λf s1 q=>?_)
 cases f with
 |next =>
  obtain⟨σ',H',I',q⟩:=q
  exact h2 pins s1 σ' H' D I' q
 |ret v=>exact q
 |brk=>exact q
 |cont=>exact q
theorem yX(h1:PS X st t):PSs X [st] t:=by
 intro pins s σ H D I h
 refine wpAny_execs_cons (thn (h1 pins s σ H D I h) λf s1 q=>?_)
 cases f with
 |next=>exact aFT q
 |ret v=>exact q
 |brk=>exact q
 |cont=>exact q
theorem Inv.quiet(I:Inv X pins σ H s):interactive X.env=false:=by simp[interactive,I.ok.kind]
def tDrop(te:TE):TS:=λD σ H=>te σ H λ_ H1=>D.nx σ H1
theorem yB(he:PE X e te)(hs:swapsWith e none pos.line X.env=pure false:=by rfl):PS X (.Expr e pos) (tDrop te):=by
 intro pins s σ H D I h
 exact wpAny_Expr_any (thn (he pins s σ H _ I h) λv s1 ⟨x,H1,I1,r1,q1⟩=>⟨σ,H1,I1,q1⟩) I.quiet hs
def tRet(te:TE):TS:=λD σ H=>te σ H D.rt
theorem aCv(he:PE X e te):PS X (.Return (some e) pos) (tRet te):=by
 intro pins s σ H D I h
 exact wpAny_Return_some (thn (he pins s σ H _ I h) λv s1 ⟨x,H1,I1,r1,q1⟩=>⟨x,σ,H1,I1,r1,q1⟩)
def tIfS(c:TT)(t u:TS):TS:=λD σ H=>c σ H λb H1=>if b=true then t D σ H1 else u D σ H1
theorem aEk{c:Expr}{a b:List Stmt}{tc:TT}(hc:PT X c tc)(ha:PSs X a t)(hb:PSs X b u):PS X (.If c a b pos) (tIfS tc t u):=by
 intro pins s σ H D I h
 refine wpAny_If (thn (hc pins s σ H _ I h) λd s1 ⟨H1,I1,q1⟩=>?_)
 cases d with
 |true=>exact ha pins s1 σ H1 D I1 q1
 |false=>exact hb pins s1 σ H1 D I1 q1
def tNever:TS:=λ_ _ _=>False
end
theorem xD:PS X st tNever:=λ_ _ _ _ _ _ h=>h.elim
end
noncomputable section
abbrev TG:=V->St->Hp->(St->Hp->Prop)->Prop
abbrev TGs:=List V->St->Hp->(St->Hp->Prop)->Prop
def PG(X:Cx)(target:Expr)(t:TG):Prop :=
 ∀(pins:List (Addr×Obj)) (s:Shared) (σ:St) (H:Hp) (v:V) (u:Value) (Q:St->Hp->Prop),Inv X pins σ H s->RelV v u->t v σ H Q ->
  wpAny (model X.prog X.w) X.A (assign target X.env u) (λ_ s'=>∃σ' H',Inv X pins σ' H' s'/\Q σ' H') X.xe s
def PGs(X:Cx)(ts:List Expr)(t:TGs):Prop :=
 ∀(pins:List (Addr×Obj)) (s:Shared) (σ:St) (H:Hp) (vs:List V) (us:List Value) (Q:St->Hp->Prop),Inv X pins σ H s->Vals vs us->t vs σ H Q ->
  wpAny (model X.prog X.w) X.A (assignInOrder ((assignEach ts X.env).map (·.2)) us) (λ_ s'=>∃σ' H',Inv X pins σ' H' s'/\Q σ' H') X.xe s
abbrev TSet:=V->V->V->Hp->(Hp->Prop)->Prop
def PSet(X:Cx)(t:TSet):Prop :=
 ∀(pins:List (Addr×Obj)) (s:Shared) (σ:St) (H:Hp) (o i v:V) (ov iv u:Value) (Q:Hp->Prop),Inv X pins σ H s->RelV o ov->RelV i iv->RelV v u->t o i v H Q ->
  wpAny (model X.prog X.w) X.A (setItem ov iv u) (λ_ s'=>∃H',Inv X pins σ H' s'/\Q H') X.xe s
def gName(i:Nat):TG:=λv σ H Q=>Q (σ.set i (some v)) H
theorem yL(hN:X.N.Nodup)(hi:X.N[i]?=some x)(hx:Loc X.env.scope x)(hf:X.fn x=true\/X.env.scope.names.lookup x=some .local:=by first|exact .inl rfl|exact .inr rfl|assumption):PG X (.Name x pos) (gName i):=by
 intro pins s σ H v u Q I r h
 exact wpAny_assign_Name (iS I hN hi hx r (λs' I'=>⟨_,H,I',h⟩) hf)
def gNil:TGs:=λvs σ H Q=>vs=[]/\Q σ H
def gCons(t:TG)(u:TGs):TGs:=λvs σ H Q=>∃v r,vs=v::r/\t v σ H λσ' H'=>u r σ' H' Q
end
theorem yV:PGs X [] gNil:=by
 intro pins s σ H vs us Q I r h
 obtain⟨e,h⟩:=h
 subst e
 cases r
 exact assignInOrder_nil ⟨σ,H,I,h⟩
variable{es:List Expr}
theorem xQ{t:TG}{u:TGs}(h1:PG X e t)(h2:PGs X es u)
  (hs:(assignEach (e::es) X.env).map (·.2)=assign e X.env::(assignEach es X.env).map (·.2):=by rfl):PGs X (e::es) (gCons t u):=by
 intro pins s σ H vs us Q I r h
 obtain⟨v,vr,e1,h⟩:=h
 subst e1
 cases r with
 |cons r rr =>
  rw[hs]
  refine aGE (thn (h1 pins s σ H _ _ _ I r h) λ_ s1 ⟨σ1,H1,I1,q1⟩=>?_)
  exact h2 pins s1 σ1 H1 _ _ Q I1 rr q1
noncomputable section
def gTup(K:Frag)(n:Nat)(t:TGs):TG:=λv σ H Q=>∃a xs,v=.ref a/\SqT K H a xs/\xs.length=n/\t xs σ H Q
theorem aCw{k:Nat}{t:TGs}{n:Nat}(hc:X.calm=true)(h:PGs X es t)
  (hn:(assignEach es X.env).length=n:=by rfl)(hst:(assignEach es X.env).findIdx? (·.1)=none:=by rfl):PG X (.Tuple es k pos) (gTup X.K n t):=by
 intro pins s σ H v u Q I r hw
 obtain⟨a,xs,e1,hq,hl,hw⟩:=hw
 subst e1
 cases r
 obtain⟨its,rv,ht,hz⟩:=I.tuple hq
 refine assign_Tuple_tuple (I.ok.hd hc) ht (by simp[hn,<- hl,rv.length]) hst λh' hx=>?_
 have I1:Inv X pins σ H {s with heap:=h'}:=I.kept (t':=s.toks) λb o e=>hx b o (aBI (aAK e)) e
 exact h pins _ σ H xs _ Q I1 (by simpa using rv) hw
def gSub(to ti:TE)(t:TSet):TG:=λv σ H Q=>to σ H λo H1=>ti σ H1 λi H2=>t o i v H2 λH3=>Q σ H3
theorem aDo{o i:Expr}{to ti:TE}{t:TSet}(ho:PE X o to)(hi:PE X i ti)(hs:PSet X t)
  (ha:∀v,assign (.Subscript o i pos) X.env v=(do
   let ov <- holding [v] (eval o X.env)
   let iv <- holding [v,ov] (eval i X.env)
   standAt pos
   holding [v,ov,iv] (setItem ov iv v)
   release [v,ov,iv] []):=by intro _;rfl):PG X (.Subscript o i pos) (gSub to ti t):=by
 intro pins s σ H v u Q I r h
 rw[ha]
 refine aAB (aCF (thn (ho pins s σ H _ I h) λov s1 ⟨x,H1,I1,r1,q1⟩=>?_))
 refine aAB (aCF (thn (hi pins s1 σ H1 _ I1 q1) λiv s2 ⟨y,H2,I2,r2,q2⟩=>?_))
 refine aAB (aGH (aAB (aCF (thn (hs pins s2 σ H2 x y v ov iv u _ I2 r1 r2 r q2) λ_ s3 ⟨H3,I3,q3⟩=>?_))))
 exact wpAny_release ⟨σ,H3,I3,q3⟩
def tAsg(te:TE)(g:TG):TS:=λD σ H=>te σ H λx H1=>g x σ H1 D.nx
end
variable{tg:Expr}{te:TE}{g:TG}
theorem aCt(he:PE X e te)(hg:PG X tg g)(hs:swapsWithSole [tg] e pos.line X.env=pure false:=by rfl)(hw:swappedStores [tg] e X.env=pure none:=by rfl)
  (h1:(assignEach [tg] X.env).map (·.2)=[assign tg X.env]:=by rfl):PS X (.Assign [tg] e pos) (tAsg te g):=by
 intro pins s σ H D I h
 refine wpAny_Assign_stores (thn (he pins s σ H _ I h) λv s1 ⟨x,H1,I1,r1,q1⟩=>?_) hs hw
 rw[h1]
 exact thn (hg pins s1 σ H1 x v _ I1 r1 q1) λ_ s2 q=>q
theorem aDb(hN:X.N.Nodup)(hi:X.N[i]?=some x)(hx:Loc X.env.scope x)(he:PE X e te)(hs:swapsWith e (some (.Name x pos')) pos.line X.env=pure false:=by rfl)(hf:X.fn x=true\/X.env.scope.names.lookup x=some .local:=by first|exact .inl rfl|exact .inr rfl|assumption) :
  PS X (.Assign [.Name x pos'] e pos) (tAsg te (gName i)):=by
 intro pins s σ H D I h
 refine wpAny_Assign_Name (thn (he pins s σ H _ I h) λv s1 ⟨y,H1,I1,r1,q1⟩=>?_) hs
 exact iS I1 hN hi hx r1 (λs2 I2=>⟨_,H1,I2,q1⟩) hf
noncomputable def tPar(i j:Nat)(ta:TA):TS:=λD σ H=>ta σ H λvs H1=>∃v w,vs=[v,w]/\D.nx ((σ.set i (some v)).set j (some w)) H1
variable{a:Expr}{ta:TA}
theorem aCx{y:Str}{b:Expr}{px py pt:Pos}{kt k2 pt2}(hc:X.calm=true)(hN:X.N.Nodup)(hi:X.N[i]?=some x)(hj:X.N[j]?=some y)(hij:i≠j)
  (hx:X.env.scope.names.lookup x=some .local)(hy:X.env.scope.names.lookup y=some .local)(ha:PA X [a,b] ta)
  (hw:swappedStores [.Tuple [.Name x px,.Name y py] kt pt] (.Tuple [a,b] k2 pt2) X.env=pure (some [x,y]))
  (hs:swapsWithSole [.Tuple [.Name x px,.Name y py] kt pt] (.Tuple [a,b] k2 pt2) pos.line X.env=pure false:=by rfl) :
  PS X (.Assign [.Tuple [.Name x px,.Name y py] kt pt] (.Tuple [a,b] k2 pt2) pos) (tPar i j ta):=by
 intro pins s σ H D I h
 rw[exec_Assign_arm]
 refine aAB (aGH ?_)
 rw[hs]
 refine aAB (aAD ?_)
 rw[aAJ (by decide)]
 refine aAB (Tuple_ (thn (ha _ pins s σ H _ I h) λus s1 ⟨vs,H1,I1,r1,q1⟩=>?_))
 obtain⟨v,w,e1,q1⟩:=q1
 subst e1
 obtain⟨u1,u2,rfl,rv,rw'⟩:∃u1 u2,us=[u1,u2]/\RelV v u1/\RelV w u2:=by
  cases r1 with
  |cons p q =>
   cases q with
   |cons p' q' =>
    cases q'
    exact⟨_,_,rfl,p,p'⟩
 refine aBM ?_ (by show 2<=sizeLine;decide)
 have I2:Inv X pins σ H1 {s1 with heap:=s1.heap.push {cls:=.type "tuple",data:=.seq [u1,u2].toArray}}:=I1.kept (t':=s1.toks) λb o e=>aAA _ e
 rw[hw]
 refine aAB (aAD ?_)
 show wpAny (model X.prog X.w) X.A (do rule "assign.swapped-stores";let items <- unpackItems (.ref s1.heap.objs.size) 2 none;assignInOrder [λv=>bindName X.env y v,λv=>bindName X.env x v] items.reverse;pure Flow.next) _ _ _
 refine aAB (aDB (aAB (unpackItems_tuple (items:=#[u1,u2]) (I.ok.hd hc) (IsTup.new s1.heap _) λh' hx'=>?_)))
 have I3:=I2.kept (h':=h') (t':=s1.toks) λb o e=>hx' b o (aBI (aAK e)) e
 show wpAny _ _ (assignInOrder [λv=>bindName X.env y v,λv=>bindName X.env x v] [u2,u1] >>= λ_=>pure Flow.next) _ _ _
 refine aAB (aGE (wpAny_bindName (iS I3 hN hj (.inl hy) rw' (λs2 I4=>?_) (.inr hy))))
 refine aGE (wpAny_bindName (iS I4 hN hi (.inl hx) rv (λs3 I5=>assignInOrder_nil (aAD ?_)) (.inr hx)))
 rw[List.set_comm _ _ (Ne.symm hij)]at I5
 exact⟨_,H1,I5,q1⟩
noncomputable def tWhile(c:TT)(tb:TS):TS:=λD σ H=>∃W:Nat->St->Hp->Prop,(∃m,W m σ H)/\∀m σ H,W m σ H ->
 c σ H λb H1=>if b=true then ∃N:St->Hp->Prop,(∀σ' H',N σ' H'->∃m',m' < m/\W m' σ' H')/\tb {D with nx:=N,ct:=N,bk:=D.nx} σ H1 else D.nx σ H1
variable{c:Expr}{tb:TS}
theorem wI{tc:TT}(hp:PassesOwn (model X.prog X.w) X.A X.env X.xe)(hc:PT X c tc)(hb:PSs X body tb):PS X (.While c body [] pos) (tWhile tc tb):=by
 intro pins s σ H D I h
 obtain⟨W,⟨m0,w0⟩,turn⟩:=h
 refine wpAny_While (codeAny_whileLoop (λn s'=>∃σ' H',Inv X pins σ' H' s'/\W n σ' H') ?_ m0 ⟨σ,H,I,w0⟩)
 rintro n s1 ⟨σ1,H1,I1,w1⟩
 refine aCV hp (thn (hc pins s1 σ1 H1 _ I1 (turn n σ1 H1 w1)) λb s2 ⟨H2,I2,q2⟩=>?_)
 cases b with
 |true =>
  obtain⟨N,hN,q2⟩:=q2
  rw[aAH rfl]
  refine aCV hp (thn (hb pins s2 σ1 H2 _ I2 q2) λf s3 q3=>?_)
  cases f with
  |next =>
   obtain⟨σ3,H3,I3,n3⟩:=q3
   obtain⟨m',hm,w3⟩:=hN σ3 H3 n3
   exact⟨m',hm,σ3,H3,I3,w3⟩
  |cont =>
   obtain⟨σ3,H3,I3,n3⟩:=q3
   obtain⟨m',hm,w3⟩:=hN σ3 H3 n3
   exact⟨m',hm,σ3,H3,I3,w3⟩
  |brk=>exact q3
  |ret v=>exact q3
 |false =>
  rw[aAJ aBJ]
  exact aFT ⟨σ1,H2,I2,q2⟩
structure It where
 go:Nat->Hp->Prop
 yld:Nat->Hp->V->Hp->Prop
 stop:Nat->Hp->Prop
noncomputable def FpOk(X:Cx)(pins:List (Addr×Obj))(H:Hp)(b:Addr):Prop :=
 H b=none/\b≠X.env.locals/\b∉X.fs/\(b∈X.ex\/X.s₀.heap.objs.size<=b)/\(∀x c,X.env.cells.lookup x=some c->c≠b)/\∀p∈X.pn++pins,p.1≠b
theorem Inv.fpOk(I:Inv X pins σ H s)(hb:s.heap.objs.size<=b)(hn:H' b=none):FpOk X pins H' b:=by
 refine⟨hn,aEK (aAT I.lt hb),I.nofs hb,.inr (aBL I.sz hb),λx c e z=>?_,λp hp z=>?_⟩
 ·obtain⟨v,q⟩:=I.cell x c e
  exact absurd (aAT q.lt (by rw[z];exact hb)) (aEE _)
 ·exact absurd (aAT (aAK (I.pin p hp).1) (by rw[z];exact hb)) (aEE _)
structure Turn(P:Program)(w:World)(K:Frag)(tg:Expr)(J:It)(fp:List Addr)(it:Addr)(tn:Nat->Heap->Prop):Prop where
 mem:it∈fp
 obj:∀i h,tn i h->∀b∈fp,∃o,h.get? b=some o/\∀v,o.data≠.cell v
 keep:∀i h h',tn i h->(∀b∈fp,∀o,h.get? b=some o->h'.get? b=some o)->tn i h'
 item:∀(X:Cx),X.prog=P->X.w=w->X.K=K->X.calm=true->∀(i:Nat) (pins:List (Addr×Obj)) (s:Shared) (σ:St) (H:Hp) (E:Value->Shared->Prop),Inv X pins σ H s->(∀b∈fp,FpOk X pins H b)->tn i s.heap->J.go i H ->
  wpAny (model P w) X.A (pyNext (.ref it)) (λr s1=>∃u,r=some u /\
   wpAny (model P w) X.A (letOwnedTupleGo tg (.ref it) u) (λ_ s2=>∃x H',Inv X pins σ H' s2/\RelV x u/\J.yld i H x H'/\tn (i+1) s2.heap/\∀b∈fp,H' b=none) E s1) E s
 done:∀(X:Cx),X.prog=P->X.w=w->X.K=K->X.calm=true->∀(i:Nat) (pins:List (Addr×Obj)) (s:Shared) (σ:St) (H:Hp) (E:Value->Shared->Prop),Inv X pins σ H s->(∀b∈fp,FpOk X pins H b)->tn i s.heap->J.stop i H ->
  wpAny (model P w) X.A (pyNext (.ref it)) (λr s1=>r=none/\Inv X pins σ H s1) E s
 self:∀(A:Around) (i:Nat) (s:Shared) (Q:Value->Shared->Prop) (E:Value->Shared->Prop),tn i s.heap->Q (.ref it) s->wpAny (model P w) A (pyIter (.ref it)) Q E s
noncomputable section
abbrev TI:=St->Hp->(It->Hp->Prop)->Prop
def PIE(X:Cx)(pins:List (Addr×Obj))(σ:St)(tg:Expr)(R:It->Hp->Prop)(itv:Value)(s2:Shared):Prop :=
 ∃(it:Addr) (fp:List Addr) (tn:Nat->Heap->Prop) (J:It) (H':Hp),itv=.ref it/\Inv X pins σ H' s2/\Turn X.prog X.w X.K tg J fp it tn/\tn 0 s2.heap/\(∀b∈fp,FpOk X pins H' b)/\R J H'
def PI(X:Cx)(tg iter:Expr)(wi:TI):Prop :=
 ∀(pins:List (Addr×Obj)) (s:Shared) (σ:St) (H:Hp) (R:It->Hp->Prop),Inv X pins σ H s->wi σ H R ->
  wpAny (model X.prog X.w) X.A (eval iter X.env) (λv s1=>wpAny (model X.prog X.w) X.A (pyIter v) (PIE X pins σ tg R) X.xe s1) X.xe s
theorem pE{n:String}{vs:Array Value}(ho:s.heap.get? it=some o)(hc:o.cls=.type n)(hd:o.data=.fields vs)
  (hn:["enumerate","zip","dict_itemiterator","dict_reverseitemiterator","odict_iterator","itertools.zip_longest","itertools.pairwise"].contains n=false)(hQ:Q () s):wpAny M A (letOwnedTupleGo tg (.ref it) u) Q E s:=by
 unfold letOwnedTupleGo
 cases tg <;> first
  |exact aAD hQ
  |(cases u <;> first
    |exact aAD hQ
    |(refine aAB (wpAny_load ho ?_)
      rw[hc,hd]
      show wpAny M A (if(["enumerate","zip","dict_itemiterator","dict_reverseitemiterator","odict_iterator","itertools.zip_longest","itertools.pairwise"].contains n&&vs[0]?==some (rawInt _))=true then _ else _) Q E s
      rw[aAJ (by intro h;rw[hn,Bool.false_and]at h;cases h)]
      exact aAD hQ))
def Itl(K:Frag)(a:Addr):It :=
 ⟨λi H=>∃xs x,SqL K H a xs/\xs[i]?=some x,λi H x H'=>H'=H/\∀xs,SqL K H a xs->xs[i]?=some x,λi H=>∃xs,SqL K H a xs/\xs.length<=i⟩
def Itt(K:Frag)(a:Addr):It :=
 ⟨λi H=>∃xs x,SqT K H a xs/\xs[i]?=some x,λi H x H'=>H'=H/\∀xs,SqT K H a xs->xs[i]?=some x,λi H=>∃xs,SqT K H a xs/\xs.length<=i⟩
def Itr(lo:Int)(n:Nat):It:=⟨λi _=>i < n,λi H x H'=>H'=H/\x=.int (lo+i),λi _=>n<=i⟩
theorem uE(a it:Addr):Turn P w K tg (Itl K a) [it] it (λi h=>h.IsListIter it a i)where
 mem:=by simp
 obj:=λi h st b hb=>by
  have e:b=it:=by simpa using hb
  subst e
  obtain⟨o,e,c,d⟩:=st
  exact⟨o,e,λv z=>by rw[d]at z;cases z⟩
 keep:=λi h h' st k=>st.at λo e=>k it (by simp) o e
 item:=by
  intro X hP hw hK hc i pins s σ H E I hf st hg
  subst hP hw hK
  obtain⟨xs,x,hq,hx⟩:=hg
  obtain⟨its,rv,p,hz⟩:=I.list hq
  obtain⟨u,hu,ru⟩:=rv.get hx
  obtain⟨f0,f1,f2,f3,f4,f5⟩:=hf it (by simp)
  refine wpAny_pyNext_list_item st p.isList (x:=u) (by simpa using hu) λh' st' sb=>?_
  have I1:Inv X pins σ H {s with heap:=h'}:=I.turned (t':=s.toks) (λb o hb e=>(sb.2 b hb).trans e) f0 f1 f3 f4 f5
  obtain⟨o,e,c,d⟩:=id st'
  exact⟨u,rfl,pE (s:={s with heap:=h'}) e c d (by decide) ⟨x,H,I1,ru,⟨rfl,λys hy=>by rw[I.list_inj hy hq];exact hx⟩,st',λb hb=>(hf b hb).1⟩⟩
 done:=by
  intro X hP hw hK hc i pins s σ H E I hf st hg
  subst hP hw hK
  obtain⟨xs,hq,hx⟩:=hg
  obtain⟨its,rv,p,hz⟩:=I.list hq
  obtain⟨f0,f1,f2,f3,f4,f5⟩:=hf it (by simp)
  have hl:=rv.length
  exact wpAny_pyNext_list_end (I.ok.hd hc) st p.isList (by simp;lia) λh' eb=>⟨rfl,I.turned (t':=s.toks) (λb o hb e=>eb b o hb e) f0 f1 f3 f4 f5⟩
 self:=λ_ _ _ _ _ st h=>wpAny_pyIter_listiter st h
theorem sI(a it:Addr):Turn P w K tg (Itt K a) [it] it (λi h=>h.IsTupleIter it a i)where
 mem:=by simp
 obj:=λi h st b hb=>by
  have e:b=it:=by simpa using hb
  subst e
  obtain⟨o,e,c,d⟩:=st
  exact⟨o,e,λv z=>by rw[d]at z;cases z⟩
 keep:=λi h h' st k=>st.at λo e=>k it (by simp) o e
 item:=by
  intro X hP hw hK hc i pins s σ H E I hf st hg
  subst hP hw hK
  obtain⟨xs,x,hq,hx⟩:=hg
  obtain⟨its,rv,p,hz⟩:=I.tuple hq
  obtain⟨u,hu,ru⟩:=rv.get hx
  obtain⟨f0,f1,f2,f3,f4,f5⟩:=hf it (by simp)
  refine wpAny_pyNext_tuple_item st (show s.heap.IsTuple a its.toArray from p) (x:=u) (by simpa using hu) λh' st' sb=>?_
  have I1:Inv X pins σ H {s with heap:=h'}:=I.turned (t':=s.toks) (λb o hb e=>(sb.2 b hb).trans e) f0 f1 f3 f4 f5
  obtain⟨o,e,c,d⟩:=id st'
  exact⟨u,rfl,pE (s:={s with heap:=h'}) e c d (by decide) ⟨x,H,I1,ru,⟨rfl,λys hy=>by rw[I.tuple_inj hy hq];exact hx⟩,st',λb hb=>(hf b hb).1⟩⟩
 done:=by
  intro X hP hw hK hc i pins s σ H E I hf st hg
  subst hP hw hK
  obtain⟨xs,hq,hx⟩:=hg
  obtain⟨its,rv,p,hz⟩:=I.tuple hq
  obtain⟨f0,f1,f2,f3,f4,f5⟩:=hf it (by simp)
  have hl:=rv.length
  exact wpAny_pyNext_tuple_end (I.ok.hd hc) st (show s.heap.IsTuple a its.toArray from p) (by simp;lia) λh' eb=>⟨rfl,I.turned (t':=s.toks) (λb o hb e=>eb b o hb e) f0 f1 f3 f4 f5⟩
 self:=λ_ _ _ _ _ st h=>wpAny_pyIter_tupleiter st h
theorem qV(it:Addr)(lo:Int)(n:Nat):Turn P w K tg (Itr lo n) [it] it (λi h=>IsRangeIter h it (lo+(i:Nat)*1) ((n:Int) - (i:Nat)) 1)where
 mem:=by simp
 obj:=λi h st b hb=>by
  have e:b=it:=by simpa using hb
  subst e
  exact⟨_,st,λv z=>by
   have z':Data.fields _=Data.cell v:=z
   cases z'⟩
 keep:=λi h h' st k=>k it (by simp) _ st
 item:=by
  intro X hP hw hK hc i pins s σ H E I hf st hg
  subst hP hw hK
  obtain⟨f0,f1,f2,f3,f4,f5⟩:=hf it (by simp)
  have W:=Walks.range (prog:=X.prog) (w:=X.w) (I.ok.hd hc) it lo 1 n
  refine W.item i s _ _ hg st λv h' tk hv st' kk=>?_
  obtain⟨t,rfl⟩:=hv
  have I1:Inv X pins σ H {s with heap:=h',toks:=tk}:=I.turned (λb o hb e=>kk b o (by simpa using hb) e) f0 f1 f3 f4 f5
  refine⟨_,rfl,pE (s:={s with heap:=h',toks:=tk}) (n:="range_iterator") st' rfl rfl (by decide) ⟨.int (lo+i),H,I1,⟨t,?_⟩,⟨rfl,rfl⟩,st',λb hb=>(hf b hb).1⟩⟩
  rw[aGD]
 done:=by
  intro X hP hw hK hc i pins s σ H E I hf st hg
  subst hP hw hK
  obtain⟨f0,f1,f2,f3,f4,f5⟩:=hf it (by simp)
  exact wpAny_pyNext_range_end (I.ok.hd hc) st (by have:n<=i:=hg;lia) λh' eb=>⟨rfl,I.turned (t':=s.toks) (λb o hb e=>eb b o hb e) f0 f1 f3 f4 f5⟩
 self:=λ_ _ _ _ _ st h=>wpAny_pyIter_rangeiter st h
theorem pY{R:It->Hp->Prop}{lo hi:Int}{t u v:Tok}{tk:Nat}(I:Inv X pins σ H s)(h1 : -(2 ^ 62)<=lo)(h2:lo < 2 ^ 62)(h3 : -(2 ^ 62)<=hi)(h4:hi < 2 ^ 62)
  (q:R (Itr lo (hi - lo).toNat) H):wpAny (model X.prog X.w) X.A (pyIter (.ref s.heap.objs.size)) (PIE X pins σ tg R) E {s with heap:=s.heap.push {cls:=.type "range",data:=.fields #[.int lo t,.int hi u,.int 1 v]},toks:=tk}:=by
 refine wpAny_pyIter_range (IsRange.new ..) (small_one h1 h2 h3 h4) ?_
 have I1:Inv X pins σ H {s with heap:=s.heap.push {cls:=.type "range",data:=.fields #[.int lo t,.int hi u,.int 1 v]},toks:=tk}:=I.kept λb o e=>aAA _ e
 refine⟨(s.heap.push {cls:=.type "range",data:=.fields #[.int lo t,.int hi u,.int 1 v]}).objs.size,[(s.heap.push {cls:=.type "range",data:=.fields #[.int lo t,.int hi u,.int 1 v]}).objs.size],_,_,H,rfl,
  I1.kept (t':=tk) λb o e=>aAA _ e,qV _ lo (hi - lo).toNat,?_,λb hb=>?_,q⟩
 ·have e1:lo+((0:Nat):Int)*1=lo:=by simp
  have e2:(((hi - lo).toNat:Nat):Int) - ((0:Nat):Int)=Builtin.Range.rangeSize lo hi 1:=by rw[rangeSize_one];split <;> lia
  show IsRangeIter _ _ (lo+((0:Nat):Int)*1) ((((hi - lo).toNat:Nat):Int) - ((0:Nat):Int)) 1
  rw[e1,e2]
  exact aAE _ rfl
 ·have e:b=(s.heap.push {cls:=.type "range",data:=.fields #[.int lo t,.int hi u,.int 1 v]}).objs.size:=by simpa using hb
  subst e
  exact I1.fpOk (aAF _) (I1.hok.fresh (aAF _))
def iRng1(ta:TA):TI:=λσ H R=>ta σ H λvs H1=>∃j:Int,vs=[.int j] /\ -(2 ^ 62)<=j/\j < 2 ^ 62/\R (Itr 0 j.toNat) H1
def iRng2(ta:TA):TI:=λσ H R=>ta σ H λvs H1=>∃i j:Int,vs=[.int i,.int j]/\(-(2 ^ 62)<=i/\i < 2 ^ 62 /\ -(2 ^ 62)<=j/\j < 2 ^ 62)/\R (Itr i (j - i).toNat) H1
theorem uR(hg:Gl X "range")(hm:X.mg "range"=none)(ha:PA X [a] ta)(hs:starEach [a] X.env=[(false,eval a X.env)]:=by rfl):PI X tg (.Call (.Name "range" p) [a] [] pos) (iRng1 ta):=by
 intro pins s σ H R I h
 refine Call_ (jT I hg hm boot_range (aCI (thn (ha pos pins s σ H _ I h) λus s1 ⟨vs,H1,I1,r1,q1⟩=>?_) hs rfl))
 obtain⟨j,e,q1,q2,q⟩:=q1
 subst e
 cases r1 with
 |cons r rr =>
  cases rr
  obtain⟨t,rfl⟩:=r
  exact call_range_1 (pY I1 (by lia) (by lia) q1 q2 (by simpa using q))
theorem uZ{b:Expr}(hg:Gl X "range")(hm:X.mg "range"=none)(ha:PA X [a,b] ta)(hs:starEach [a,b] X.env=[(false,eval a X.env),(false,eval b X.env)]:=by rfl)(hs2:starEach [b] X.env=[(false,eval b X.env)]:=by rfl) :
  PI X tg (.Call (.Name "range" p) [a,b] [] pos) (iRng2 ta):=by
 intro pins s σ H R I h
 refine Call_ (jT I hg hm boot_range (aCI (thn (ha pos pins s σ H _ I h) λus s1 ⟨vs,H1,I1,r1,q1⟩=>?_) (by rw[hs,hs2]) (by rw[hs2];rfl)))
 obtain⟨i,j,e,⟨q1,q2,q3,q4⟩,q⟩:=q1
 subst e
 cases r1 with
 |cons r rr =>
  cases rr with
  |cons r' rr =>
   cases rr
   obtain⟨t,rfl⟩:=r
   obtain⟨t',rfl⟩:=r'
   exact call_range_2 (pY I1 q1 q2 q3 q4 q)
def tFor(wi:TI)(g:TG)(tb:TS):TS:=λD σ H=>wi σ H λJ H1=>∃W:Nat->Nat->St->Hp->Prop,(∃m,W 0 m σ H1)/\∀i m σ H,W i m σ H ->
 (J.stop i H/\D.nx σ H)\/(J.go i H/\∃N:St->Hp->Prop,(∀σ' H',N σ' H'->∃m',m' < m/\W (i+1) m' σ' H')/\∀x H',J.yld i H x H'->g x σ H' λσ2 H2=>tb {D with nx:=N,ct:=N,bk:=D.nx} σ2 H2)
def pinsAt(fp:List Addr)(h:Heap):List (Addr×Obj):=fp.filterMap λb=>(h.get? b).map λo=>(b,o)
theorem gC(hb:b∈fp)(e:h.get? b=some o):(b,o)∈pinsAt fp h:=List.mem_filterMap.mpr ⟨b,hb,by rw[e];rfl⟩
theorem uH{p:Addr×Obj}(hp:p∈pinsAt fp h):p.1∈fp/\h.get? p.1=some p.2:=by
 obtain⟨b,hb,e⟩:=List.mem_filterMap.mp hp
 cases q:h.get? b with
 |none=>rw[q]at e;cases e
 |some o =>
  rw[q]at e
  have e':(b,o)=p:=Option.some.inj e
  subst e'
  exact⟨hb,q⟩
theorem Inv.pinned{fp:List Addr}(I:Inv X pins σ H s)(hf:∀b∈fp,FpOk X pins H b)(ho:∀b∈fp,∃o,s.heap.get? b=some o/\∀v,o.data≠.cell v):Inv X (pins++pinsAt fp s.heap) σ H s :=
 I.pins_of λp hp=>(aCA.mp hp).elim (λz=>I.pin p (aBH _ z)) λz=>by
  obtain⟨hb,e⟩:=uH z
  obtain⟨f0,f1,f2,_⟩:=hf p.1 hb
  obtain⟨o,e',d⟩:=ho p.1 hb
  rw[e]at e';cases e'
  exact⟨e,f0,f1,f2,d⟩
theorem Inv.unpinned{pl:List (Addr×Obj)}(I:Inv X (pins++pl) σ H s):Inv X pins σ H s:=I.pins_of λp hp=>I.pin p (aBH _ (List.mem_append_left _ hp))
theorem aBo{iter:Expr}{wi:TI}(hp:PassesOwn (model X.prog X.w) X.A X.env X.xe)(hc:X.calm=true)(hi:PI X tg iter wi)(hg:PG X tg g)(hb:PSs X body tb)
  (hs:∀x,foldedSetIterable iter X.env x=pure x:=by intro _;rfl):PS X (.For tg iter body [] pos) (tFor wi g tb):=by
 intro pins s σ H D I h
 refine wpAny_For (thn (hi pins s σ H _ I h) λv s1 h1=>thn h1 λitv s2 h2=>?_) hs
 obtain⟨it,fp,tn,J,H2,e,I2,T,st2,f2,W,⟨m0,w0⟩,turn⟩:=h2
 subst e
 have stat:∀{H':Hp},(∀b∈fp,H' b=none)->∀b∈fp,FpOk X pins H' b:=λhn b hb=>⟨hn b hb,(f2 b hb).2⟩
 refine codeAny_forLoop_any (λn s'=>∃i σ' H',Inv X pins σ' H' s'/\tn i s'.heap/\(∀b∈fp,H' b=none)/\W i n σ' H') ?_ m0 ⟨0,σ,H2,I2,st2,λb hb=>(f2 b hb).1,w0⟩
 rintro n s3 ⟨i,σ3,H3,I3,st3,fr3,w3⟩
 rcases turn i n σ3 H3 w3 with⟨stop,qn⟩|⟨go,N,hN,step⟩
 ·refine aCV hp (thn (T.done X rfl rfl rfl hc i pins s3 σ3 H3 X.xe I3 (stat fr3) st3 stop) λr s4 ⟨hr,I4⟩=>?_)
  subst hr
  exact aFT ⟨σ3,H3,I4,qn⟩
 ·refine aCV hp (thn (T.item X rfl rfl rfl hc i pins s3 σ3 H3 X.xe I3 (stat fr3) st3 go) λr s4 ⟨u,hr,h4⟩=>?_)
  subst hr
  refine aCV hp (thn h4 λ_ s5 ⟨x,H5,I5,r5,y5,st5,fr5⟩=>?_)
  have I5':=I5.pinned (stat fr5) (T.obj _ _ st5)
  refine aCV hp (thn (hg _ s5 σ3 H5 x u _ I5' r5 (step x H5 y5)) λ_ s6 ⟨σ6,H6,I6,q6⟩=>?_)
  refine aCV hp (thn (hb _ s6 σ6 H6 _ I6 q6) λf s7 q7=>?_)
  have again:∀{σ7:St} {H7:Hp},Inv X (pins++pinsAt fp s5.heap) σ7 H7 s7->N σ7 H7->∃m,m < n/\∃i σ' H',Inv X pins σ' H' s7/\tn i s7.heap/\(∀b∈fp,H' b=none)/\W i m σ' H':=λ{σ7 H7} I7 n7=>by
   obtain⟨m',hm,w7⟩:=hN σ7 H7 n7
   refine⟨m',hm,i+1,σ7,H7,I7.unpinned,T.keep _ _ _ st5 λb hb o e=>(I7.pin (b,o) (aBH _ (aBH _ (gC hb e)))).1,λb hb=>?_,w7⟩
   obtain⟨o,e,d⟩:=T.obj _ _ st5 b hb
   exact(I7.pin (b,o) (aBH _ (aBH _ (gC hb e)))).2.1
  cases f with
  |next=>obtain⟨σ7,H7,I7,n7⟩:=q7;exact again I7 n7
  |cont=>obtain⟨σ7,H7,I7,n7⟩:=q7;exact again I7 n7
  |brk=>obtain⟨σ7,H7,I7,q7⟩:=q7;exact⟨σ7,H7,I7.unpinned,q7⟩
  |ret v=>obtain⟨x7,σ7,H7,I7,r7,q7⟩:=q7;exact⟨x7,σ7,H7,I7.unpinned,r7,q7⟩
abbrev R2:=V->V->Hp->VK->Prop
def OpR(X:Cx)(f:Value->Value->Sem Value)(r:R2):Prop :=
 ∀(pins:List (Addr×Obj)) (s:Shared) (σ:St) (H:Hp) (x y:V) (v u:Value) (Q:VK),Inv X pins σ H s->RelV x v->RelV y u->r x y H Q ->
  wpAny (model X.prog X.w) X.A (f v u) (EP X pins σ Q) X.xe s
def UnR(X:Cx)(f:Value->Sem Value)(r:V->Hp->VK->Prop):Prop :=
 ∀(pins:List (Addr×Obj)) (s:Shared) (σ:St) (H:Hp) (x:V) (v:Value) (Q:VK),Inv X pins σ H s->RelV x v->r x H Q ->
  wpAny (model X.prog X.w) X.A (f v) (EP X pins σ Q) X.xe s
def CallR(X:Cx)(f:Value)(r:List V->Hp->VK->Prop):Prop :=
 ∀(pins:List (Addr×Obj)) (s:Shared) (σ:St) (H:Hp) (xs:List V) (us:List Value) (Q:VK),Inv X pins σ H s->Vals xs us->r xs H Q ->
  wpAny (model X.prog X.w) X.A (call f us) (EP X pins σ Q) X.xe s
def TruR(X:Cx)(r:V->Hp->(Bool->Hp->Prop)->Prop):Prop :=
 ∀(pins:List (Addr×Obj)) (s:Shared) (σ:St) (H:Hp) (x:V) (v:Value) (Q:Bool->Hp->Prop),Inv X pins σ H s->RelV x v->r x H Q ->
  wpAny (model X.prog X.w) X.A (truthy v) (TP X pins σ Q) X.xe s
def tOp(r:R2)(ta tb:TE):TE:=λσ H Q=>ta σ H λx H1=>tb σ H1 λy H2=>r x y H2 Q
def tUn(r:V->Hp->VK->Prop)(ta:TE):TE:=λσ H Q=>ta σ H λx H1=>r x H1 Q
def rI(C:Int->Int->Prop)(g:Int->Int->V):R2:=λx y H Q=>∃i j,x=.int i/\y=.int j/\C i j/\Q (g i j) H
def rI0(g:Int->Int->V):R2:=λx y H Q=>∃i j,x=.int i/\y=.int j/\Q (g i j) H
def rU(g:Int->V):V->Hp->VK->Prop:=λx H Q=>∃i,x=.int i/\Q (g i) H
end
variable{b:Expr}{ta tb tc:TE}{f:Value->Value->Sem Value}
theorem binT(ha:PE X a ta)(hb:PE X b tb){R:V->V->Hp->Prop}(I:Inv X pins σ H s)
  (h:ta σ H λx H1=>tb σ H1 λy H2=>R x y H2){Q:Value->Shared->Prop}
  (hf:∀v u s2 x y H2,Inv X pins σ H2 s2->RelV x v->RelV y u->R x y H2->wpAny (model X.prog X.w) X.A (f v u) Q X.xe s2) :
  wpAny (model X.prog X.w) X.A (eval a X.env) (λv s₁=>wpAny (model X.prog X.w) X.A (eval b X.env) (λu s₂=>wpAny (model X.prog X.w) X.A (f v u) Q X.xe s₂) X.xe s₁) X.xe s:=by
 refine thn (ha pins s σ H _ I h) λv s1 ⟨x,H1,I1,r1,q1⟩=>?_
 refine thn (hb pins s1 σ H1 _ I1 q1) λu s2 ⟨y,H2,I2,r2,q2⟩=>?_
 exact hf v u s2 x y H2 I2 r1 r2 q2
theorem aDy{op:Operator}{r:R2}(ho:OpR X (binaryOp op) r)(ha:PE X a ta)(hb:PE X b tb):PE X (.BinOp a op b pos) (tOp r ta tb):=by
 intro pins s σ H Q I h
 exact wpAny_BinOp (binT ha hb I h λv u s2 x y H2 I2 rx ry q=>ho pins s2 σ H2 x y v u Q I2 rx ry q)
theorem aEw{op:UnaryOp}{r:V->Hp->VK->Prop}(ho:UnR X (unaryOp op) r)(ha:PE X a ta):PE X (.UnaryOp op a pos) (tUn r ta):=by
 intro pins s σ H Q I h
 exact UnaryOp_ (thn (ha pins s σ H _ I h) λv s1 ⟨x,H1,I1,r1,q1⟩=>ho pins s1 σ H1 x v Q I1 r1 q1)
variable{g:Int->Int->Int}
theorem opI{C:Int->Int->Prop}
  (rule:∀(i j:Int) (t u:Tok) (s:Shared) (Q:Value->Shared->Prop) (E:Value->Shared->Prop),C i j->Q (.int (g i j) s.toks) {s with toks:=s.toks+1}->wpAny (model X.prog X.w) X.A (f (.int i t) (.int j u)) Q E s) :
  OpR X f (rI C λi j=>.int (g i j)):=by
 intro pins s σ H x y v u Q I rx ry h
 obtain⟨i,j,rfl,rfl,hc,q⟩:=h
 obtain⟨t,rfl⟩:=rx
 obtain⟨t',rfl⟩:=ry
 exact rule i j t t' s _ _ hc ⟨.int (g i j),H,I.tok _,⟨_,rfl⟩,q⟩
theorem opI0 
  (rule:∀(i j:Int) (t u:Tok) (s:Shared) (Q:Value->Shared->Prop) (E:Value->Shared->Prop),Q (.int (g i j) s.toks) {s with toks:=s.toks+1}->wpAny (model X.prog X.w) X.A (f (.int i t) (.int j u)) Q E s) :
  OpR X f (rI0 λi j=>.int (g i j)):=by
 intro pins s σ H x y v u Q I rx ry h
 obtain⟨i,j,rfl,rfl,q⟩:=h
 obtain⟨t,rfl⟩:=rx
 obtain⟨t',rfl⟩:=ry
 exact rule i j t t' s _ _ ⟨.int (g i j),H,I.tok _,⟨_,rfl⟩,q⟩
theorem opB0{g:Int->Int->Bool}
  (rule:∀(i j:Int) (t u:Tok) (s:Shared) (Q:Value->Shared->Prop) (E:Value->Shared->Prop),Q (.bool (g i j)) s->wpAny (model X.prog X.w) X.A (f (.int i t) (.int j u)) Q E s) :
  OpR X f (rI0 λi j=>.bl (g i j)):=by
 intro pins s σ H x y v u Q I rx ry h
 obtain⟨i,j,rfl,rfl,q⟩:=h
 obtain⟨t,rfl⟩:=rx
 obtain⟨t',rfl⟩:=ry
 exact rule i j t t' s _ _ ⟨.bl (g i j),H,I,rfl,q⟩
noncomputable def CPow(i j:Int):Prop:=0<=j/\j<=1000000/\i.natAbs < 2 ^ 64
noncomputable def CMul(i j:Int):Prop:=(-(2 ^ 64) < i/\i < 2 ^ 64)\/(-(2 ^ 64) < j/\j < 2 ^ 64)
theorem CMul.ok{i j:Int}(h:CMul i j):IntMulOk i j:=by
 rcases h with⟨h1,h2⟩|⟨h1,h2⟩
 ·exact .of_left (intBits_le_64 h1 h2)
 ·exact .of_right (intBits_le_64 h1 h2)
theorem aCh:OpR X (binaryOp .Add) (rI0 λi j=>.int (i+j)):=opI0 λ_ _ _ _ _ _ _ q=>add_int q
theorem aBs:OpR X (binaryOp .Sub) (rI0 λi j=>.int (i - j)):=opI0 λ_ _ _ _ _ _ _ q=>sub_int q
theorem aCy:OpR X (binaryOp .Mod) (rI (λ_ j=>0 < j) λi j=>.int (i % j)):=opI λi j _ _ _ _ _ hc q=>by
 have h1:(0:Int) < j:=hc
 exact mod_int' (by lia) (by rw[Int.fmod_eq_emod_of_nonneg i (by lia)];exact q)
theorem aBj:OpR X (binaryOp .Pow) (rI CPow λi j=>.int (i ^ j.toNat)):=opI λ_ _ _ _ _ _ _ hc q=>pow_int_small hc.1 hc.2.1 hc.2.2 q
theorem unI{f:Value->Sem Value}{g:Int->Int}
  (rule:∀(i:Int) (t:Tok) (s:Shared) (Q:Value->Shared->Prop) (E:Value->Shared->Prop),Q (.int (g i) s.toks) {s with toks:=s.toks+1}->wpAny (model X.prog X.w) X.A (f (.int i t)) Q E s) :
  UnR X f (rU λi=>.int (g i)):=by
 intro pins s σ H x v Q I rx h
 obtain⟨i,rfl,q⟩:=h
 obtain⟨t,rfl⟩:=rx
 exact rule i t s _ _ ⟨.int (g i),H,I.tok _,⟨_,rfl⟩,q⟩
theorem aDt:UnR X (unaryOp .USub) (rU λi=>.int (-i)):=unI λ_ _ _ _ _ q=>neg_int q
theorem aCz{Q:VK}{k k':Bool}(I:Inv X pins σ H s)(q:Q (.bl k) H)(e:k=k'):EP X pins σ Q (.bool k') s:=by
 subst e
 exact⟨.bl k,H,I,rfl,q⟩
theorem aFb:OpR X (compareOp .Lt) (rI0 λi j=>.bl (decide (i < j))):=opB0 λ_ _ _ _ _ _ _ q=>lt_int q
theorem aEq:OpR X (compareOp .Gt) (rI0 λi j=>.bl (decide (j < i))):=opB0 λ_ _ _ _ _ _ _ q=>gt_int q
theorem aEm:OpR X (compareOp .GtE) (rI0 λi j=>.bl (decide (j<=i))):=opB0 λ_ _ _ _ _ _ _ q=>ge_int q
theorem aBe:OpR X (compareOp .Is) (λx y H Q=>y=.non/\Q (.bl (decide (x=.non))) H):=by
 intro pins s σ H x y v u Q I rx ry h
 obtain⟨rfl,q⟩:=h
 cases ry
 refine is_none_gen (aCz I q ?_)
 cases x <;> first
  |(cases rx;rfl)
  |(obtain⟨t,rfl⟩:=rx;rfl)
theorem nomark(b:Expr)(h:op≠.In:=by decide)(h2:op≠.NotIn:=by decide):behindInMarks op b=false:=by
 have e1:(op==CmpOp.In)=false:=by cases op <;> first|rfl|exact absurd rfl h
 have e2:(op==CmpOp.NotIn)=false:=by cases op <;> first|rfl|exact absurd rfl h2
 cases b <;> simp[behindInMarks,e1,e2]
variable{r:R2}
theorem xW(ho:OpR X (compareOp op) r)(ha:PE X a ta)(hb:PE X b tb)(hm:behindInMarks op b=false):PE X (.Compare a [op] [b] pos) (tOp r ta tb):=by
 intro pins s σ H Q I h
 exact wpAny_Compare1 (binT ha hb I h λv u s2 x y H2 I2 rx ry q=>ho pins s2 σ H2 x y v u Q I2 rx ry q) hm
noncomputable def tTest(t:TE):TT:=λσ H Q=>t σ H λx H'=>∃k,x=.bl k/\Q k H'
theorem xT(ho:OpR X (compareOp op) r)(ha:PE X a ta)(hb:PE X b tb)(hm:behindInMarks op b=false):PT X (.Compare a [op] [b] pos) (tTest (tOp r ta tb)):=by
 intro pins s σ H Q I h
 refine wpAny_isTrue_Compare1 (thn (ha pins s σ H _ I h) λv s1 ⟨x,H1,I1,r1,q1⟩=>thn (hb pins s1 σ H1 _ I1 q1) λu s2 ⟨y,H2,I2,r2,q2⟩ =>
  thn (ho pins s2 σ H2 x y v u _ I2 r1 r2 q2) λc s3 ⟨z,H3,I3,r3,k,e,q3⟩=>?_) hm
 subst e
 cases r3
 exact wpAny_truthy_bool ⟨H3,I3,q3⟩
noncomputable def TruV(K:Frag)(x:V)(H:Hp)(k:Bool):Prop :=
 match x with
 |.non=>k=false
 |.bl b=>k=b
 |.int i=>k=(i != 0)
 |.str y=>y.length<=sizeLine/\k=((y.length:Int) != 0)
 |.byt y=>y.size<=sizeLine/\k=((y.size:Int) != 0)
 |.ref p=>(∃xs,SqL K H p xs/\k=!xs.isEmpty)\/(∃xs,SqT K H p xs/\k=!xs.isEmpty)\/∃kvs,H p=some (.dK kvs)/\k=!kvs.isEmpty
 |_=>False
theorem qZ{kvs:List (κ×V)}{vs:List (κ×Value)}(r:KV kvs vs):(!vs.isEmpty)=!kvs.isEmpty:=by
 cases r <;> rfl
theorem lM(r:Vals xs its):(!its.toArray.isEmpty)=!xs.isEmpty:=by
 cases r <;> simp
theorem line63:(sizeLine:Nat) < 2 ^ 63:=by rw[aBB];decide
theorem aAn:TruR X (λx H Q=>∃k,TruV X.K x H k/\Q k H):=by
 intro pins s σ H x v Q I rx h
 obtain⟨k,e,q⟩:=h
 have hl:=line63
 have hs:sizeLine=16777216:=aBB
 cases x with
 |non =>
  cases rx
  have e':k=false:=e
  subst e'
  exact truthy_none ⟨H,I,q⟩
 |bl b =>
  cases rx
  have e':k=b:=e
  subst e'
  exact wpAny_truthy_bool ⟨H,I,q⟩
 |int i =>
  obtain⟨t,rfl⟩:=rx
  have e':k=(i != 0):=e
  subst e'
  exact PySem.P.truthy_int ⟨H,I,q⟩
 |str y =>
  obtain⟨t,rfl⟩:=rx
  obtain⟨hy,e'⟩:y.length<=sizeLine/\k=((y.length:Int) != 0):=e
  subst e'
  exact PySem.P.truthy_str (by lia) ⟨H,I.tok _,q⟩
 |byt y =>
  obtain⟨t,rfl⟩:=rx
  obtain⟨hy,e'⟩:y.size<=sizeLine/\k=((y.size:Int) != 0):=e
  subst e'
  exact PySem.W.truthy_bytes (by lia) ⟨H,I.tok _,q⟩
 |ref p =>
  cases rx
  have e':(∃xs,SqL X.K H p xs/\k=!xs.isEmpty)\/(∃xs,SqT X.K H p xs/\k=!xs.isEmpty)\/∃kvs,H p=some (.dK kvs)/\k=!kvs.isEmpty:=e
  rcases e' with⟨xs,hx,e'⟩|⟨xs,hx,e'⟩|⟨kvs,hx,e'⟩
  ·subst e'
   obtain⟨its,r,pl,hz⟩:=I.list hx
   have hlen:=r.length
   exact wpAny_truthy_list pl.isList (by simp only[aAG];lia) ⟨H,I.tok _,by rw[lM r];exact q⟩
  ·subst e'
   obtain⟨its,r,pl,hz⟩:=I.tuple hx
   have hlen:=r.length
   exact truthy_tuple pl (by simp only[aAG];lia) ⟨H,I.tok _,by rw[lM r];exact q⟩
  ·subst e'
   obtain⟨hz,hS,vs,r,m⟩:kvs.length<=sizeLine/\(p==sysModules)=false/\∃vs,KV kvs vs/\s.heap.DictOf (mixKind X.prog X.w) p vs:=I.hok p _ hx
   have hlen:kvs.length=vs.length:=Paired.length r
   exact wpAny_truthy_dict hS m (by lia) ⟨H,I.tok _,by rw[qZ r];exact q⟩
 |_=>exact(show False from e).elim
theorem wD(ha:PE X a ta)(he:∀whole,isTrue a X.env whole=(do let v <- whole;standAt a.pos;holding [v] (truthy v))) :
  PT X a (λσ H Q=>ta σ H λx H'=>∃k,TruV X.K x H' k/\Q k H'):=by
 intro pins s σ H Q I h
 exact isTrue_plain (thn (ha pins s σ H _ I h) λv s1 ⟨x,H1,I1,r1,q1⟩=>aAn pins s1 σ H1 x v Q I1 r1 q1) (he _)
theorem rJ:OpR X (binaryOp .Add) (λx y H Q=>∃i j,x=.str i/\y=.str j/\i.length+j.length<=sizeLine/\Q (.str (i++j)) H):=by
 intro pins s σ H x y v u Q I rx ry h
 obtain⟨i,j,rfl,rfl,hz,q⟩:=h
 obtain⟨t,rfl⟩:=rx
 obtain⟨t',rfl⟩:=ry
 exact add_str (λt' tk=>⟨.str (i++j),H,I.tok _,⟨_,rfl⟩,q⟩) hz
variable{x:V}
theorem vals1(r:Vals [x] us):∃u,us=[u]/\RelV x u:=by
 cases r with
 |cons r1 r2=>cases r2;exact⟨_,rfl,r1⟩
theorem vals2{y:V}(r:Vals [x,y] us):∃u w',us=[u,w']/\RelV x u/\RelV y w':=by
 cases r with
 |cons r1 r2 =>
  cases r2 with
  |cons r3 r4=>cases r4;exact⟨_,_,rfl,r1,r3⟩
theorem uB(hc:X.calm=true):CallR X (.builtin "min") (λxs H Q=>∃i j,xs=[.int i,.int j]/\Q (.int (if j < i then j else i)) H):=by
 intro pins s σ H xs us Q I r h
 obtain⟨i,j,rfl,q⟩:=h
 obtain⟨u,w',rfl,⟨t,rfl⟩,⟨t',rfl⟩⟩:=vals2 r
 refine min_two_ints (I.ok.hd hc) λh' tk k=>⟨_,H,I.kept k,?_,q⟩
 by_cases hj:j < i
 ·rw[aAH hj,aAH hj];exact⟨_,rfl⟩
 ·rw[aAJ hj,aAJ hj];exact⟨_,rfl⟩
theorem uQ:CallR X (.type "int") (λxs H Q=>(∃i,xs=[.int i]/\Q (.int i) H)\/∃k,xs=[.bl k]/\Q (.int (if k then 1 else 0)) H):=by
 intro pins s σ H xs us Q I r h
 rcases h with⟨i,rfl,q⟩|⟨k,rfl,q⟩
 ·obtain⟨u,rfl,t,rfl⟩:=vals1 r
  exact call_int_int ⟨.int i,H,I,⟨_,rfl⟩,q⟩
 ·obtain⟨u,rfl,r1⟩:=vals1 r
  cases r1
  exact call_int_bool ⟨.int (if k then 1 else 0),H,I.tok _,⟨_,rfl⟩,q⟩
structure ObjM(h:Heap)(x dx C:Addr)(mA:Str->Option Value):Prop where
 obj:h.get? x=some (PySem.W.instObj C dx)
 ns:h.Ns1 dx mA
 ne:dx≠x
variable{prog:Program}{K:Frag}{x f:Addr}{v:Value}{v:V}
theorem RelO.some_of{o:Option Value}(r:RelO (some v) o):∃u,o=some u/\RelV v u:=by
 cases o with
 |none=>exact(show False from r).elim
 |some u=>exact⟨u,rfl,r⟩
section
variable{a:Addr}{fs fs':List (Str×V)}
end
structure Cls(K:Frag)(C:Addr):Prop where
 pg:PySem.W.plainGet K C Str.empty=true
 hd:PySem.W.hasDictIn K C=true
 po:PySem.W.plainOver K C=true
 sa:PySem.W.findIn K (.ref C) "__setattr__"=some (some (.builtin "object.__setattr__"))
structure Con(K:Frag)(C:Addr)(f:Str)(v:V)(u:Value):Prop where
 at_:PySem.W.findIn K (.ref C) f=some (some u)
 rel:RelV v u
 get:PySem.W.specialIn K u "__get__"=some none
 cp:PySem.W.copiedNames.contains f=false
structure Meth(K:Frag)(C:Addr)(m:Str)(f:Addr):Prop where
 at_:PySem.W.findIn K (.ref C) m=some (some (.ref f))
 fn:PySem.W.isFn K (.ref f)=true
 kp:keepIn K (.ref f)=true
section
variable{a:Addr}{fs:List (Str×V)}{f:Str}
end
variable{o value:Expr}{f:Str}{tv:TE}{Q:Value->Shared->Prop}{c:Value}{b:Bool}
inductive TyOf(K:Frag)(H:Hp):V->Value->Prop where
 |non:TyOf K H .non (.type "NoneType")
 |bl (x:Bool):TyOf K H (.bl x) (.type "bool")
 |int (i:Int):TyOf K H (.int i) (.type "int")
 |str (x:Str):TyOf K H (.str x) (.type "str")
 |flt (x:UInt64):TyOf K H (.flt x) (.type "float")
 |lst {a:Addr} {xs:List V} (e:H a=some (.lst xs)):TyOf K H (.ref a) (.type "list")
 |frz {a:Addr} {o:Obj} {xs:List V} (e:H a=some (.frz o (.lst xs))):TyOf K H (.ref a) (.type "list")
 |tup {a:Addr} {xs:List V} (e:H a=some (.tup xs)):TyOf K H (.ref a) (.type "tuple")
 |dK {a:Addr} {kvs:List (Key×V)} (e:H a=some (.dK kvs)):TyOf K H (.ref a) (.type "dict")
 |dT {a:Addr} {kvs:List (List Key×V)} (e:H a=some (.dT kvs)):TyOf K H (.ref a) (.type "dict")
 |ins {a C dx:Addr} {fs:List (Str×V)} (e:H a=some (.ins C dx fs)) (cl:Cls K C) (ha:PySem.W.findIn K (.ref C) "__class__"=some (some (.builtin "object.__class__")))
   (hn:PySem.W.specialIn K (.builtin "object.__class__") "__get__"=some (some (.builtin "getset_descriptor.__get__"))) (htk:PySem.W.takesIn K (.builtin "object.__class__")=some true)
   (hm:PySem.W.mroIn K C (.type "object")=some true):TyOf K H (.ref a) (.ref C)
structure Room(k:Nat)(A:Around):Prop where
 hd:A.handled=none
 dp:A.depth+3*k+5 < recursionLimit
 un:A.units+16*k+200 < cLine
theorem Room.mono{k:Nat}(r:Room k A)(h:j<=k):Room j A:=⟨r.hd,by have:=r.dp;lia,by have:=r.un;lia⟩
theorem Room.deeper{k:Nat}{A:Around}(r:Room (k+1) A)(env:Env):Room k (A.deeper env) :=
 ⟨r.hd,by have:=r.dp;show A.depth+1+3*k+5 < _;lia,by have:=r.un;show A.units+3+16*k+200 < _;lia⟩
theorem Room.depth{k:Nat}{A:Around}(r:Room k A):A.depth < recursionLimit:=by have:=r.dp;lia
noncomputable def tNil:TA:=λ_ H Q=>Q [] H
noncomputable def tCons(ta:TE)(tr:TA):TA:=λσ H Q=>ta σ H λx H1=>tr σ H1 λxs H2=>Q (x::xs) H2
section
variable{t:TA}
theorem fJ:PA X [] tNil:=λ_ _ _ _ H Q I h=>Calls.spliced_nil ⟨[],H,I,.nil,h⟩
theorem cY(ha:PE X e te)(hr:PA X es t)(hs:starEach (e::es) X.env=(false,eval e X.env)::starEach es X.env:=by rfl):PA X (e::es) (tCons te t):=by
 intro pos pins s σ H Q I h
 rw[hs]
 show wpAny _ _ (spliced ((false,eval e X.env)::backTo pos (starEach es X.env))) _ _ s
 refine Calls.spliced_cons (thn (ha pins s σ H _ I h) λu s1 ⟨x,H1,I1,r1,q1⟩=>?_)
 exact thn (hr pos pins s1 σ H1 _ I1 q1) λus s2 ⟨xs,H2,I2,r2,q2⟩=>⟨x::xs,H2,I2,.cons r1 r2,q2⟩
noncomputable def tTup(t:TA):TE:=λσ H Q=>t σ H λxs H1=>xs.length<=sizeLine/\∀p,H1 p=none->Q (.ref p) (upd H1 p (.tup xs))
noncomputable def tLst(t:TA):TE:=λσ H Q=>t σ H λxs H1=>xs.length<=sizeLine/\∀p,H1 p=none->Q (.ref p) (upd H1 p (.lst xs))
theorem vK{x1}(h:PA X es t):PE X (.Tuple es x1 pos) (tTup t):=by
 intro pins s σ H Q I hq
 refine wpAny_Tuple_spliced (thn (h pos pins s σ H _ I hq) λus s1 ⟨xs,H1,I1,r,z,q⟩=>⟨by rw[<- r.length];exact z,?_⟩)
 have hf:H1 s1.heap.objs.size=none:=I1.hok.fresh (aAF _)
 refine⟨.ref s1.heap.objs.size,upd H1 s1.heap.objs.size (.tup xs),I1.laid (t':=s1.toks) (λb u e=>aAA _ e) (aAF _) ?_,rfl,q _ hf⟩
 exact⟨z,us,r,⟨_,aAE _ rfl,rfl,_,rfl⟩⟩
theorem qY(h:PA X es t):PE X (.List es pos) (tLst t):=by
 intro pins s σ H Q I hq
 refine wpAny_List_spliced (thn (h pos pins s σ H _ I hq) λus s1 ⟨xs,H1,I1,r,z,q⟩=>⟨by rw[<- r.length];exact z,?_⟩)
 have hf:H1 s1.heap.objs.size=none:=I1.hok.fresh (aAF _)
 refine⟨.ref s1.heap.objs.size,upd H1 s1.heap.objs.size (.lst xs),I1.laid (t':=s1.toks) (λb u e=>aAA _ e) (aAF _) ?_,rfl,q _ hf⟩
 exact⟨z,us,0,r,aAE _ rfl⟩
end
noncomputable abbrev Sp:=List V->Hp->VK->XK->Prop
noncomputable abbrev CXT:=List Env->Hp->Shared->XK->Value->Shared->Prop
structure Env0(P:Program)(w:World)(K:Frag)(mg:Str->Option Value)(base:Heap)(A:Around)(outer:List Env)(s:Shared)(H:Hp):Prop where
 frames:A.frames=some outer
 mod:Mod K mg base
 bs:∀b o,base.get? b=some o->s.heap.get? b=some o/\H b=none
 bsz:base.objs.size<=s.heap.objs.size
 funs:s.heap.FunFrames base outer
 frf:∀b∈frs outer,H b=none
 hok:HOk P w H s.heap
 bare:AllBare s.gens
noncomputable def CE(outer:List Env)(P:Program)(w:World)(H:Hp)(s:Shared)(Q:VK)(u:Value)(s':Shared):Prop :=
 ∃v H',s'.os=s.os/\AllBare s'.gens/\Un (frs outer) [] H H' s.heap s'.heap/\HOk P w H' s'.heap/\RelV v u/\Q v H'
noncomputable def CR(CX:CXT)(outer:List Env)(P:Program)(w:World)(H:Hp)(s:Shared)(Q:VK)(E:XK)(r:Result)(s':Shared):Prop :=
 match r with
 |.ok (.ret u)=>CE outer P w H s Q u s'
 |.ok _=>False
 |.error e=>CX outer H s E e s'
structure FnOk(P:Program)(w:World)(K:Frag)(mg:Str->Option Value)(base:Heap)(CX:CXT)(k:Nat)(f:Addr)(fd:FuncData)(ps:List Str)(sp:Sp):Prop where
 len:∀vs H Q E,sp vs H Q E->vs.length=ps.length
 run:∀(A:Around) (outer:List Env) (s:Shared) (H:Hp) (args:Args) (us:List Value) (vs:List V) (Q:VK) (E:XK),Room k A->Env0 P w K mg base A outer s H->BindsTo s fd args (ps.zip us)->Vals vs us->sp vs H Q E ->
  codeAny (model P w) A (.call (.ref f) args) (CR CX outer P w H s Q E) s
theorem FnOk.mono{P:Program}{w:World}{K:Frag}{mg:Str->Option Value}{base:Heap}{CX:CXT}{j k:Nat}{f:Addr}{fd:FuncData}{ps:List Str}{sp:Sp}(F:FnOk P w K mg base CX j f fd ps sp)(h:j<=k) :
  FnOk P w K mg base CX k f fd ps sp:=⟨F.len,λA outer s H args us vs Q E hr=>F.run A outer s H args us vs Q E (hr.mono h)⟩
theorem Inv.env0(I:Inv X pins σ H s):Env0 X.prog X.w X.K X.mg X.base X.A X.stack s H :=
 ⟨I.ok.frames,I.ok.mod,I.bs,aBL I.ok.bsz I.sz,I.stack,I.stkFree,I.hok,I.bare⟩
variable{Q:VK}
theorem Inv.after(I:Inv X pins σ H s)(h:CE X.stack X.prog X.w H s Q u s'):EP X pins σ Q u s':=by
 obtain⟨v,H',os,bare,un,hok,r,q⟩:=h
 obtain⟨hh,g,d,t,os'⟩:=s'
 obtain rfl:os'=s.os:=os
 exact⟨v,H',I.call (h':=hh) (g':=g) (d':=d) (t':=t) (ch:=[]) un hok bare (λb z=>absurd z (by simp)),r,q⟩
noncomputable section
def tCall(sp:Sp)(dvs:List V)(E:XK)(t:TA):TE:=λσ H Q=>t σ H λvs H1=>sp (vs++dvs) H1 Q E
def Binds(K:Frag)(fd:FuncData)(ps:List Str)(ds:List Value):Prop :=
 ∀(s:Shared) (us:List Value),K.In s.heap->(us++ds).length=ps.length->BindsTo s fd ⟨us,[]⟩ (ps.zip (us++ds))
theorem Binds.all(h:∀us:List Value,us.length=ps.length->bindArgs fd ⟨us,[]⟩=pure (ps.zip us)):Binds K fd ps []:=λs us _ hl=>by
 rw[aFX]at hl ⊢
 exact .of_eq (h us hl)
def Passes(CX:CXT)(X:Cx)(E:XK):Prop:=∀(pins:List (Addr×Obj)) (σ:St) (H:Hp) (s:Shared) (e:Value) (s':Shared),Inv X pins σ H s->CX X.stack H s E e s'->X.xe e s'
end
section
variable{CX:CXT}{k:Nat}{f:Addr}{sp:Sp}{dvs:List V}{ds:List Value}{E:XK}{x m:Str}{t:TA}
theorem aAs{vs:List V}(F:FnOk X.prog X.w X.K X.mg X.base CX k f fd ps sp)(hr:Room k X.A)(hb:Binds X.K fd ps ds)(hd:Vals dvs ds)(hx:Passes CX X E)
  (I:Inv X pins σ H s)(r:Vals vs us)(h:sp (vs++dvs) H Q E):wpAny (model X.prog X.w) X.A (call (.ref f) us) (EP X pins σ Q) X.xe s:=by
 have r2:Vals (vs++dvs) (us++ds):=r.append hd
 have hl:(us++ds).length=ps.length:=by rw[<- r2.length];exact F.len _ _ _ _ h
 refine wpAny_call (codeAny_mono (F.run X.A X.stack s H ⟨us,[]⟩ (us++ds) (vs++dvs) Q E hr I.env0 (hb s us I.kIn hl) r2 h) λr s' hq=>?_)
 cases r with
 |error e=>exact hx pins σ H s e s' I hq
 |ok fl =>
  cases fl with
  |ret u=>exact I.after hq
  |next=>exact False.elim hq
  |brk=>exact False.elim hq
  |cont=>exact False.elim hq
theorem yW(F:FnOk X.prog X.w X.K X.mg X.base CX k f fd ps sp)(hr:Room k X.A)(hg:Gl X x)(hm:X.mg x=some (.ref f))(hk:keepIn X.K (.ref f)=true)(hb:Binds X.K fd ps ds)(hd:Vals dvs ds)(hx:Passes CX X E)
  (ha:PA X (e::es) t)(hdb:(x==("__debug__":Str))=false:=by decide)(he:starEach (e::es) X.env=(false,eval e X.env)::starEach es X.env:=by rfl)(hpl:(backTo pos (starEach es X.env)).any (·.1)=false:=by rfl) :
  PE X (.Call (.Name x p) (e::es) [] pos) (tCall sp dvs E t):=by
 intro pins s σ H Q I h
 refine aEG (zP I hg hm ?_ hdb)
 refine PySem.W.callWith_K (h₀:=X.base) I.ok.mod.kin hk (thn (ha pos pins s σ H _ I h) λus s1 ⟨vs,H1,I1,r,q⟩=>⟨I1.kIn,?_⟩) he hpl
 exact aAs F hr hb hd hx I1 r q
structure Mk(K:Frag)(C f:Addr):Prop where
 makes:PySem.W.makesIn K C=true
 init:PySem.W.findIn K (.ref C) "__init__"=some (some (.ref f))
 fn:PySem.W.isFn K (.ref f)=true
 kp:keepIn K (.ref C)=true
end
section
variable{CX:CXT}{k:Nat}{f:Addr}{ks:List Str}{sp:Sp}{E:XK}{x m:Str}{kpos:Pos}{kws:List Keyword}{t tk:TA}{nm:Option Str}
structure KBinds(K:Frag)(fd:FuncData)(ps ks:List Str)(g:List Value->List Value->List Value)(gV:List V->List V->List V):Prop where
 to:∀(s:Shared) (us ws:List Value),K.In s.heap->(g us ws).length=ps.length->BindsTo s fd ⟨us,ks.zip ws⟩ (ps.zip (g us ws))
 rel:∀{vs:List V} {us:List Value} {zs:List V} {ws:List Value},Vals vs us->Vals zs ws->Vals (gV vs zs) (g us ws)
variable{g:List Value->List Value->List Value}{gV:List V->List V->List V}
end
structure FnScope(N P:List Str)(sc:Scope):Prop where
 kind:sc.kind=.function
 co:sc.isCoroutine=false
 gen:sc.isGenerator=false
 nd:N.Nodup
 pre:N.take P.length=P
 par:∀x∈P,sc.names.lookup x=some .local\/sc.names.lookup x=some .cell
 nofree:∀y∈sc.names,y.2≠.free
theorem mP{kindOf:Str->Option NameKind}{x:Str}:∀{binds:List (Str×Value)} {m:Str->Option Value},(∀v,(x,v)∉binds)->bindL kindOf binds m x=m x
 |[],_,_=>rfl
 |(n,v)::r,m,h=>by
  unfold bindL
  rw[mP λw hw=>h w (aBS _ hw)]
  split
  ·have:x≠n:=by rintro rfl;exact h v aCT
   simp[this]
  ·rfl
theorem nG{kindOf:Str->Option NameKind}{x:Str}:∀{binds:List (Str×Value)} {m:Str->Option Value},(∀v,(x,v)∉binds)->bindC kindOf binds m x=m x
 |[],_,_=>rfl
 |(n,v)::r,m,h=>by
  unfold bindC
  rw[nG λw hw=>h w (aBS _ hw)]
  split
  ·rfl
  ·have:x≠n:=by rintro rfl;exact h v aCT
   simp[this]
theorem nD{kindOf:Str->Option NameKind}{x:Str}{v:Value}:∀{P:List Str} {vs:List Value} {i:Nat} {m:Str->Option Value},P.Nodup->P[i]?=some x->vs[i]?=some v->kindOf x=some .local ->
  bindL kindOf (P.zip vs) m x=some v
 |[],_,_,_,_,h,_,_=>by simp at h
 |_::_,[],_,_,_,_,h,_=>by simp at h
 |p::P,w::vs,0,m,nd,h1,h2,hk=>by
  simp at h1 h2;subst h1;subst h2
  show bindL kindOf ((p,w)::P.zip vs) m p=_
  unfold bindL
  rw[mP λv hv=>(aCU.mp nd).1 (List.of_mem_zip hv).1,aAH hk]
  simp
 |p::P,w::vs,i+1,m,nd,h1,h2,hk=>by
  show bindL kindOf ((p,w)::P.zip vs) m x=_
  unfold bindL
  exact nD (i:=i) (aCU.mp nd).2 (by simpa using h1) (by simpa using h2) hk
theorem nC{kindOf:Str->Option NameKind}{x:Str}{v:Value}:∀{P:List Str} {vs:List Value} {i:Nat} {m:Str->Option Value},P.Nodup->P[i]?=some x->vs[i]?=some v->kindOf x≠some .local ->
  bindC kindOf (P.zip vs) m x=some v
 |[],_,_,_,_,h,_,_=>by simp at h
 |_::_,[],_,_,_,_,h,_=>by simp at h
 |p::P,w::vs,0,m,nd,h1,h2,hk=>by
  simp at h1 h2;subst h1;subst h2
  show bindC kindOf ((p,w)::P.zip vs) m p=_
  unfold bindC
  rw[nG λv hv=>(aCU.mp nd).1 (List.of_mem_zip hv).1,aAJ hk]
  simp
 |p::P,w::vs,i+1,m,nd,h1,h2,hk=>by
  show bindC kindOf ((p,w)::P.zip vs) m x=_
  unfold bindC
  exact nC (i:=i) (aCU.mp nd).2 (by simpa using h1) (by simpa using h2) hk
noncomputable def start(N:List Str)(vs:List V):St:=vs.map some++List.replicate (N.length - vs.length) none
noncomputable def cxOf(CX:CXT)(P:Program)(w:World)(K:Frag)(mg:Str->Option Value)(base:Heap)(N:List Str)(qual:Str)(scope:Scope)(f:Addr)(cd:Value)(A:Around)(outer:List Env)(s:Shared)(H:Hp)(E:XK):Cx where
 prog:=P
 w:=w
 K:=K
 mg:=mg
 base:=base
 A:=A.deeper (envOfC qual scope s.heap.objs.size f cd)
 N:=N
 s₀:=s
 H₀:=H
 env:=envOfC qual scope s.heap.objs.size f cd
 outer:=outer
 stack:=envOfC qual scope s.heap.objs.size f cd::outer
 ex:=[]
 calm:=true
 fn:=λ_=>true
 pn:=[]
 xe:=λe s'=>wpAny (model P w) (A.deeper (envOfC qual scope s.heap.objs.size f cd)) (leaving (envOfC qual scope s.heap.objs.size f cd) e) (λ_ s''=>CX outer H s E e s'') (λe' s''=>CX outer H s E e' s'') s'
variable{x:Str}
theorem pC{sc:Scope}{n:Nat}(h:sc.names.lookup x=some .cell):∃c,(cellsFrom n sc.names []).lookup x=some c:=by
 have q:=PySem.W.cellsFrom_some sc.names n [] (.inl h)
 exact aDH.mp q
variable{CX:CXT}{scope:Scope}{f:Addr}
theorem vG{cd:Value}{s1:Shared}{E:XK}{vs:List V}
  (S:FnScope N ps scope)(hd:A.handled=none)(e0:Env0 P w K mg base A outer s H)(hl:vs.length=ps.length)(r:Vals vs us)
  (x:InCallC s s.heap.objs.size (bindL (envOfC qual scope s.heap.objs.size f cd).kindOf (ps.zip us) λ_=>none) (cellsFrom (s.heap.objs.size+1) scope.names []) (bindC (envOfC qual scope s.heap.objs.size f cd).kindOf (ps.zip us) λ_=>none) s1) :
  Inv (cxOf CX P w K mg base N qual scope f cd A outer s H E) [] (start N vs) H s1:=by
 have hpl:ps.length<=N.length:=by have:=congrArg List.length S.pre;rw[aFB]at this;lia
 obtain⟨h1,tk,rfl,hk⟩:=x.done
 have noA:∀b:Addr,b∉(cxOf CX P w K mg base N qual scope f cd A outer s H E).ex:=λb z=>absurd (show b∈([]:List Addr)from z) (by simp)
 refine⟨⟨e0.mod,S.kind,rfl,rfl,aAF _,λy z c h1 h2=>?_,λy hy=>?_,λy c _ h=>?_,λ_=>hd,Around.frames_deeper e0.frames,.inr ⟨rfl,rfl⟩,λb z=>absurd z (noA b),e0.bs,e0.bsz,λb _ _=>noA b,λb z=>absurd z (noA b),e0.funs,e0.frf⟩,
  rfl,e0.bare,Un.kept hk,⟨_,x.toInCall.ns,λi y v h1 h2 h3=>?_⟩,λy c h=>⟨_,x.cell y c h⟩,e0.hok.fresh (aAF _),λy c h=>?_,λp hp=>absurd (show p∈([]:List (Addr×Obj))from hp) (by simp),e0.hok.kept hk,?_⟩
 ·exact name_of_addr x.apart (aDK h1) (aDK h2)
 ·have hy:scope.names.lookup y=some .cell\/scope.names.lookup y=some .free:=hy
  rcases hy with hy|hy
  ·exact pC hy
  ·exact absurd rfl (S.nofree _ (aDK hy))
 ·exact Nat.le_of_lt (x.above y c (aDK h))
 ·have hi:i < vs.length:=by
   unfold start at h2
   by_cases hi:i < vs.length
   ·exact hi
   ·rw[aBW (by simpa using hi)]at h2
    rw[List.getElem?_replicate]at h2
    split at h2 <;> cases h2
  have ha:vs[i]?=some v:=by
   unfold start at h2
   rw[aAS (by simpa using hi),aAO]at h2
   cases e:vs[i]? with
   |none=>rw[e]at h2;cases h2
   |some a=>rw[e]at h2;cases h2;rfl
  obtain⟨u,hu,rv⟩:=r.get ha
  have hp:ps[i]?=some y:=by
   rw[<- S.pre,List.getElem?_take_of_lt (by lia)];exact h1
  have ndP:ps.Nodup:=by rw[<- S.pre];exact S.nd.sublist (List.take_sublist _ _)
  refine⟨u,rv,?_⟩
  rcases S.par y (aAU hp)with k|k
  ·exact .inl ⟨k,nD ndP hp hu k⟩
  ·obtain⟨c,e⟩:=pC (n:=s.heap.objs.size+1) k
   refine .inr ⟨.inl k,c,e,?_⟩
   have q:=x.cell y c e
   rw[nC ndP hp hu (by show scope.names.lookup y≠_;rw[k];decide)]at q
   exact q
 ·exact e0.hok.fresh (Nat.le_of_lt (x.above y c (aDK h)))
 ·unfold start
  show _=N.length
  rw[aBR,aAL,aFE]
  lia
theorem aEn{k:Nat}{params:Arguments}{dV kV doc pm cdv ct oc:Value}{an od:Option Addr}
  {sp:Sp}(lk:K.lookup f=some ⟨oc,od,.func (fnOf name qual params body scope dV kV doc pm an cdv ct),osl⟩)(hcd:codeIn K cdv qual=true)(S:FnScope N ps scope)
  (len:∀vs H Q E,sp vs H Q E->vs.length=ps.length)
  (hbody:∀(A:Around) (outer:List Env) (s:Shared) (H:Hp) (vs:List V) (Q:VK) (E:XK),Room k (A.deeper (envOfC qual scope s.heap.objs.size f cdv))->sp vs H Q E ->
   ∃t,PSs (cxOf CX P w K mg base N qual scope f cdv A outer s H E) body t/\t {nx:=λ_ H'=>Q .non H',rt:=Q} (start N vs) H) :
  FnOk P w K mg base CX (k+1) f (fnOf name qual params body scope dV kV doc pm an cdv ct) ps sp:=by
 refine⟨len,λA outer s H args us vs Q E hr e0 hb r hsp=>?_⟩
 have hl:=len _ _ _ _ hsp
 have KX:K.In s.heap:=e0.mod.kin.keeps λb o e=>(e0.bs b o e).1
 have lim:s.heap.NoLimit:=e0.mod.nolimit.keeps λb o e=>(e0.bs b o e).1
 have hkind:∀y∈ps.zip us,scope.names.lookup y.1=some .local\/(scope.names.lookup y.1=some .cell/\((cellsFrom (s.heap.objs.size+1) scope.names []).lookup y.1).isSome=true):=λ⟨n,v⟩ hy=>by
  rcases S.par n (List.of_mem_zip hy).1 with q|q
  ·exact .inl q
  ·exact .inr ⟨q,PySem.W.cellsFrom_some _ _ _ (.inl q)⟩
 refine codeAny_call_function hr.depth (KX _ _ lk) rfl S.co S.gen rfl (PySem.W.codeRec_of KX hcd) (hb _ _ _ _ ?_)
 refine wpAny_newFunctionEnv_cells S.kind hkind λenv he s1 x=>?_
 subst he
 refine⟨lim.keeps x.toInCall.keep,codeAny_func ?_⟩
 obtain⟨t,ht,hq⟩:=hbody A outer s H vs Q E (hr.deeper _) hsp
 have I:Inv (cxOf CX P w K mg base N qual scope f cdv A outer s H E) [] (start N vs) H s1:=vG S hr.hd e0 hl r x
 refine aCQ (ht [] s1 (start N vs) H _ I hq) (λfl s' hs=>?_) λe s' hs=>hs
 have fin:∀{σ':St} {H':Hp} {v:V} {u:Value},Inv (cxOf CX P w K mg base N qual scope f cdv A outer s H E) [] σ' H' s'->RelV v u->Q v H'->CE outer P w H s Q u s' :=
  λ{σ' H' v u} J rv q=>⟨v,H',J.os,J.bare,J.base,J.hok,rv,q⟩
 cases fl with
 |ret u =>
  obtain⟨v,σ',H',J,rv,q⟩:=hs
  exact fin J rv q
 |next =>
  obtain⟨σ',H',J,q⟩:=hs
  exact fin (v:=V.non) (u:=Value.none) J rfl q
 |brk =>
  obtain⟨_,_,_,q⟩:=hs
  exact False.elim q
 |cont =>
  obtain⟨_,_,_,q⟩:=hs
  exact False.elim q
section
variable{t:TA}{id T:String}{r:List V->Hp->VK->Prop}
noncomputable def tCB(r:List V->Hp->VK->Prop)(t:TA):TE:=λσ H Q=>t σ H λvs H1=>r vs H1 Q
theorem xF(hc:CallR X (.builtin id) r)(hg:Gl X x)(hm:X.mg x=none)(hv:bootBuiltins x=some (.builtin id))(ha:PA X (e::es) t)(hn:x≠"__name__":=by decide)(hdb:(x==("__debug__":Str))=false:=by decide)
  (he:starEach (e::es) X.env=(false,eval e X.env)::starEach es X.env:=by rfl)(hpl:(backTo pos (starEach es X.env)).any (·.1)=false:=by rfl):PE X (.Call (.Name x p) (e::es) [] pos) (tCB r t):=by
 intro pins s σ H Q I h
 refine aEG (jT I hg hm hv ?_ hn hdb)
 exact PyProof.Rows.callWith_builtin1 (thn (ha pos pins s σ H _ I h) λus s1 ⟨vs,H1,I1,r1,q1⟩=>hc pins s1 σ H1 vs us Q I1 r1 q1) he hpl
theorem iA(hc:CallR X (.type T) r)(hg:Gl X x)(hm:X.mg x=none)(hv:bootBuiltins x=some (.type T))(ha:PA X (e::es) t)(hn:x≠"__name__":=by decide)(hdb:(x==("__debug__":Str))=false:=by decide)
  (he:starEach (e::es) X.env=(false,eval e X.env)::starEach es X.env:=by rfl)(hpl:(backTo pos (starEach es X.env)).any (·.1)=false:=by rfl):PE X (.Call (.Name x p) (e::es) [] pos) (tCB r t):=by
 intro pins s σ H Q I h
 refine aEG (jT I hg hm hv ?_ hn hdb)
 exact aCI (thn (ha pos pins s σ H _ I h) λus s1 ⟨vs,H1,I1,r1,q1⟩=>hc pins s1 σ H1 vs us Q I1 r1 q1) he hpl
end
end L2
end
variable{H H' H1 H2:L2.Hp}{X:L2.Cx}{v y:L2.V}{ta tb te:L2.TE}{vs:List L2.V}{R:PySem.Addr->L2.Hp->Prop}{r:List L2.V->L2.Hp->L2.VK->Prop}{CX:L2.CXT}{sp:L2.Sp}{kvs:List (L2.Key×L2.V)}
section
open PySem PySem.Spec PyProof.Rows
end
namespace HT
open PySem PyProof.Rows
noncomputable def lexLt:List Int->List Int->Bool
 |[],[]=>false
 |[],_::_=>true
 |_::_,[]=>false
 |x::xs,y::ys=>if x=y then lexLt xs ys else decide (x < y)
section
open PySem.SeqAt
open PySem.AutoSeq1 (wpAny_loadPart')
open PySem.MeetsSeq PySem.MeetsSeq2 PySem.MeetsSeq3
end
variable{prog:Program}{E:Value->Shared->Prop}
theorem cat_tup{t b:Addr}{vs ws:List Value}(ht:IsTup s.heap t vs.toArray)(hb:IsTup s.heap b ws.toArray)(hv:vs≠[])
  (h1:ws=[]->Q (.ref t) s)(h2:ws≠[]->Q (.ref s.heap.objs.size) {s with heap:=s.heap.push {cls:=.type "tuple",data:=.seq (vs++ws).toArray}})
  (hsz:vs.length+ws.length<=sizeLine):wpAny (model prog w) A (binaryOp .Add (.ref t) (.ref b)) Q E s:=by
 obtain⟨⟨cls,dd,data,sl⟩,ho,hc,n,hd⟩:=id ht
 obtain⟨⟨cls2,dd2,data2,sl2⟩,ho2,hc2,n2,hd2⟩:=id hb
 simp only at hc hd hc2 hd2
 subst hc hd hc2 hd2
 have e:vs.toArray++ws.toArray=(vs++ws).toArray:=by simp
 by_cases hw:ws=[]
 ·exact concat_meets ⟨_,ho,rfl⟩ ⟨_,ho2,rfl⟩ noFill_tuple_add seq_tuple_add aEX aER (aEL _ _)
   (tuple_addW1 t b vs.toArray ws.toArray n n2 dd dd2 sl sl2 (by simpa using hv) (by simp[hw])) ⟨ho,ho2,h1 hw⟩
 ·refine concat_meets ⟨_,ho,rfl⟩ ⟨_,ho2,rfl⟩ noFill_tuple_add seq_tuple_add aEX aER (aEL _ _)
   (tuple_addW2 t b vs.toArray ws.toArray n n2 dd dd2 sl sl2 (by simpa using hv) (by simpa using hw) (by rw[aAG,aAG];exact hsz)) ⟨ho,ho2,?_⟩
  rw[e]
  exact h2 hw
noncomputable def sIx(n d:Nat):Option Int->Nat
 |none=>d
 |some v=>if v < 0 then(v+(n:Int)).toNat else min v.toNat n
theorem aCg(n d:Nat)(hd:d<=n)(o:Option Int):sIx n d o<=n:=by
 cases o with
 |none=>exact hd
 |some v =>
  show(if v < 0 then(v+(n:Int)).toNat else min v.toNat n)<=n
  by_cases hv:v < 0
  ·rw[aAH hv];lia
  ·rw[aAJ hv];exact Nat.min_le_right _ _
theorem tG(v:Int)(n d:Nat):(if v < 0 then max (v+(n:Int)) 0 else min v (n:Int))=((sIx n d (some v):Nat):Int):=by
 show(if v < 0 then max (v+(n:Int)) 0 else min v (n:Int))=(((if v < 0 then(v+(n:Int)).toNat else min v.toNat n):Nat):Int)
 by_cases hv:v < 0
 ·simp only[aAH hv];lia
 ·simp only[aAJ hv];lia
theorem rE(lo hi:Option Int)(n:Nat):Builtin.Slice.sliceAdjust lo hi 1 (n:Int)=(((sIx n 0 lo:Nat):Int),((sIx n n hi:Nat):Int)):=by
 have h1:¬((1:Int) < 0):=by lia
 unfold Builtin.Slice.sliceAdjust
 simp only[h1,aFC]
 refine Prod.ext ?_ ?_
 ·cases lo with
  |none=>rfl
  |some v=>exact tG v n 0
 ·cases hi with
  |none=>rfl
  |some v=>exact tG v n n
theorem rN(i j:Nat):Builtin.Slice.slicePlaces (i:Int) (j:Int) 1=j - i:=by
 unfold Builtin.Slice.slicePlaces
 have h1:(1:Int) > 0:=by lia
 simp only[h1,aDF,Int.ediv_one]
 split <;> lia
theorem lI{v:Value}{o:Option Int}{Q:Option Int->Shared->Prop}(p:IsPart v o)(h:Q o s):wpAny (model prog w) A (Builtin.Slice.slicePartIndex v) Q E s:=by
 cases p with
 |none=>exact slicePart_none h
 |int i t=>exact slicePart_int h
variable{sl:Addr}
theorem fV{vl vu:Value}{n:Nat}{Q:Int×Int×Nat->Shared->Prop}(hs:s.heap.IsSliceOf sl vl vu .none)(pl:IsPart vl lo)(pu:IsPart vu hi)
  (h:Q (((sIx n 0 lo:Nat):Int),1,sIx n n hi - sIx n 0 lo) s):wpAny (model prog w) A (Builtin.Slice.sliceApplied (.ref sl) (pure (n:Int))) Q E s:=by
 obtain⟨os,hos,hcs,hds⟩:=id hs
 unfold Builtin.Slice.sliceApplied Builtin.Slice.sliceFields
 refine aAB (aAB (aBF hos hds (x:=vl) rfl (aAB (aBF hos hds (x:=vu) rfl (aAB (aBF hos hds (x:=.none) rfl (aAD ?_)))))))
 refine aAB (slicePart_none ?_)
 show wpAny _ _ (if((1:Int)==0)=true then _ else _) _ _ s
 rw[aAJ (by decide)]
 refine aAB (lI pl (aAB (lI pu (aAB (aAD ?_)))))
 show wpAny _ _ (match Builtin.Slice.sliceAdjust lo hi 1 (n:Int)with|(lo,hi)=>pure (lo,(1:Int),Builtin.Slice.slicePlaces lo hi 1)) _ _ s
 rw[rE lo hi n]
 show wpAny _ _ (pure (((sIx n 0 lo:Nat):Int),(1:Int),Builtin.Slice.slicePlaces ((sIx n 0 lo:Nat):Int) ((sIx n n hi:Nat):Int) 1)) _ _ s
 rw[rN]
 exact aAD h
theorem xA(xs:Array Value)(i k:Nat):((List.range k).filterMap λ(m:Nat)=>xs[((i:Int)+(m:Int)*1).toNat]?).toArray=((xs.toList.drop i).take k).toArray:=by
 have e:(λ(m:Nat)=>xs[((i:Int)+(m:Int)*1).toNat]?)=λm=>xs[i+m]?:=by
  funext m
  have:((i:Int)+(m:Int)*1).toNat=i+m:=by lia
  rw[this]
 rw[e]
 have:=pick_run xs i k
 rw[List.filterMap_map]at this
 have e2:((λx=>xs[x]?) ∘ λx=>i+x)=λm=>xs[i+m]?:=rfl
 rw[e2]at this
 rw[this]
theorem getItem_tuple_cut{t:Addr}{vl vu:Value}(ht:IsTup s.heap t items)(hs:s.heap.IsSliceOf sl vl vu .none)(pl:IsPart vl lo)(pu:IsPart vu hi)
  (hw:¬(sIx items.size 0 lo=0/\sIx items.size items.size hi=items.size))
  (h:Q (.ref s.heap.objs.size) {s with heap:=s.heap.push {cls:=.type "tuple",data:=.seq ((items.toList.drop (sIx items.size 0 lo)).take (sIx items.size items.size hi - sIx items.size 0 lo)).toArray}})
  (hsz:items.size<=sizeLine):wpAny (model prog w) A (getItem (.ref t) (.ref sl)) Q E s:=by
 have htake:sizeOk (.seq ((items.toList.drop (sIx items.size 0 lo)).take (sIx items.size items.size hi - sIx items.size 0 lo)).toArray):=by
  show((items.toList.drop (sIx items.size 0 lo)).take (sIx items.size items.size hi - sIx items.size 0 lo)).toArray.size<=sizeLine
  rw[aAG,aFB,List.length_drop,aFZ]
  lia
 have hj:sIx items.size items.size hi<=items.size:=aCg _ _ (aAF _) hi
 obtain⟨os,hos,hcs,hds⟩:=id hs
 have hTs:s.TypeIs (.ref sl) "slice":=⟨os,hos,hcs⟩
 unfold getItem
 try with_reducible refine aCF ?_
 first|refine aAB (aAD ?_)|skip
 refine aAB (wpAny_sequenceKey ht.typeIs (by decide) ?_)
 refine aAB (aBO (name:=Str.ofString "__getitem__") ht.typeIs aBN
  (aBU aBN ht.typeIs entry_tuple_getitem ?_ (args_tuple_getitem _ _)))
 show wpAny _ _ (Builtin.Tuple.tupleItemsOf (.ref t) >>= _) _ _ s
 refine aAB (tupleItemsOf_ ht ?_)
 refine aAB (aFV hTs ?_)
 rw[aAH (by decide)]
 refine aAB (fV hs pl pu ?_)
 have hno:¬((((sIx items.size 0 lo:Nat):Int)==0&&(1:Int)==1&&(sIx items.size items.size hi - sIx items.size 0 lo)==items.size)=true):=by
  intro q
  rw[aCE,aCE]at q
  have q1:((sIx items.size 0 lo:Nat):Int)=0:=eq_of_beq q.1.1
  have q2:sIx items.size items.size hi - sIx items.size 0 lo=items.size:=eq_of_beq q.2
  exact hw ⟨by lia,by lia⟩
 show wpAny _ _ (if(((sIx items.size 0 lo:Nat):Int)==0&&(1:Int)==1&&(sIx items.size items.size hi - sIx items.size 0 lo)==items.size)=true then _ else _) _ _ s
 rw[aAJ hno,xA]
 first
  |exact aAB (m:=Builtin.Tuple.tupleExact _) (aBM (aAD ⟨_,rfl,aAD h⟩) htake)
  |exact aAB (m:=Builtin.Tuple.tupleExact _) (aBM (aAB (aAD (aAD ⟨_,rfl,aAD h⟩))) htake)
  |exact aAB (aAB (m:=Builtin.Tuple.tupleExact _) (aBM (aAD (aAD ⟨_,rfl,aAD h⟩)) htake))
  |exact aAB (aAB (m:=Builtin.Tuple.tupleExact _) (aBM (aAD ⟨_,rfl,aAD h⟩) htake))
end HT
section
open PySem PySem.Spec PyProof.Rows
namespace L2
noncomputable section
abbrev TO:=St->Hp->(Option Int->Hp->Prop)->Prop
def PO(X:Cx)(e:Option Expr)(t:TO):Prop :=
 ∀(pins:List (Addr×Obj)) (s:Shared) (σ:St) (H:Hp) (Q:Option Int->Hp->Prop),Inv X pins σ H s->t σ H Q ->
  wpAny (model X.prog X.w) X.A (evalPart e X.env) (λu s'=>∃o H',Inv X pins σ H' s'/\IsPart u o/\Q o H') X.xe s
def tNoPart:TO:=λ_ H Q=>Q none H
def tPart(t:TE):TO:=λσ H Q=>t σ H λx H1=>∃i,x=.int i/\Q (some i) H1
end
variable{e:Expr}{lo hi:Option Expr}{tl th:TO}
theorem yP:PO X none tNoPart:=by
 intro pins s σ H Q I h
 rw[evalPart_none]
 exact aAD ⟨none,H,I,.none,h⟩
theorem yK(h:PE X e te):PO X (some e) (tPart te):=by
 intro pins s σ H Q I hw
 rw[evalPart_some]
 refine thn (h pins s σ H _ I hw) λu s1 ⟨x,H1,I1,r1,q1⟩=>?_
 obtain⟨i,rfl,q⟩:=q1
 obtain⟨t,rfl⟩:=r1
 exact⟨some i,H1,I1,.int i t,q⟩
noncomputable def SlR(X:Cx)(r:V->Option Int->Option Int->Hp->VK->Prop):Prop :=
 ∀(pins:List (Addr×Obj)) (s:Shared) (σ:St) (H:Hp) (x:V) (v vl vu:Value) (lo hi:Option Int) (sl:Addr) (Q:VK),Inv X pins σ H s->RelV x v->s.heap.IsSliceOf sl vl vu .none->IsPart vl lo->IsPart vu hi->r x lo hi H Q ->
  ∃T id,typeLookup (.type T) "__getitem__"=pure (some (.builtin id))/\s.TypeIs v T/\wpAny (model X.prog X.w) X.A (getItem v (.ref sl)) (EP X pins σ Q) X.xe s
variable{r:V->Option Int->Option Int->Hp->VK->Prop}
theorem SlR.or{r':V->Option Int->Option Int->Hp->VK->Prop}(h:SlR X r)(h':SlR X r'):SlR X (λx lo hi H Q=>r x lo hi H Q\/r' x lo hi H Q):=by
 intro pins s σ H x v vl vu lo hi sl Q I rx hs pl pu q
 rcases q with q|q
 ·exact h pins s σ H x v vl vu lo hi sl Q I rx hs pl pu q
 ·exact h' pins s σ H x v vl vu lo hi sl Q I rx hs pl pu q
noncomputable section
def tSl(r:V->Option Int->Option Int->Hp->VK->Prop)(te:TE)(tl th:TO):TE:=λσ H Q=>te σ H λx H1=>tl σ H1 λl H2=>th σ H2 λu H3=>r x l u H3 Q
theorem vI(hr:SlR X r)(he:PE X e te)(hl:PO X lo tl)(hu:PO X hi th):PE X (.Subscript e (.Slice lo hi none p2) pos) (tSl r te tl th):=by
 intro pins s σ H Q I h
 refine Subscript_ (thn (he pins s σ H _ I h) λv s1 ⟨x,H1,I1,r1,q1⟩=>?_)
 refine wpAny_Slice (thn (hl pins s1 σ H1 _ I1 q1) λvl s2 ⟨l,H2,I2,pl,q2⟩=>thn (hu pins s2 σ H2 _ I2 q2) λvu s3 ⟨u,H3,I3,pu,q3⟩=>?_)
 rw[evalPart_none]
 refine aAD ?_
 have I4:Inv X pins σ H3 {s3 with heap:=s3.heap.push {cls:=.type "slice",data:=.fields #[vl,vu,.none]}}:=I3.kept (t':=s3.toks) λb ob q=>aAA _ q
 obtain⟨T,id,hT,ht,hg⟩:=hr pins {s3 with heap:=s3.heap.push {cls:=.type "slice",data:=.fields #[vl,vu,.none]}} σ H3 x v vl vu l u s3.heap.objs.size Q I4 r1 (Heap.IsSliceOf.new ..) pl pu q3
 show wpAny (model X.prog X.w) X.A (subscriptTail e (.Slice lo hi none p2) v (.ref s3.heap.objs.size)) (EP X pins σ Q) X.xe {s3 with heap:=s3.heap.push {cls:=.type "slice",data:=.fields #[vl,vu,.none]}}
 exact tail_any (ops:=[.ref s3.heap.objs.size,v]) ht hT hg (by with_unfolding_all rfl)
def cutV(xs:List V)(lo hi:Option Int):List V:=(xs.drop (HT.sIx xs.length 0 lo)).take (HT.sIx xs.length xs.length hi - HT.sIx xs.length 0 lo)
theorem kA(xs:List V)(lo hi:Option Int):(cutV xs lo hi).length<=xs.length:=by
 unfold cutV
 rw[aFB,List.length_drop]
 lia
def rSlT(K:Frag):V->Option Int->Option Int->Hp->VK->Prop:=λx lo hi H Q=>∃a xs,x=.ref a/\SqT K H a xs /\
 ¬(HT.sIx xs.length 0 lo=0/\HT.sIx xs.length xs.length hi=xs.length)/\∀p,H p=none->Q (.ref p) (upd H p (.tup (cutV xs lo hi)))
theorem aDr:SlR X (rSlT X.K):=by
 intro pins s σ H x v vl vu lo hi sl Q I rx hs pl pu h
 obtain⟨a,xs,rfl,hx,hw,q⟩:=h
 cases rx
 obtain⟨its,r,ht,hz⟩:=I.tuple hx
 have hlen:its.toArray.size=xs.length:=by rw[aAG];exact r.length.symm
 refine⟨"tuple",_,aBN.lookup,ht.typeIs,?_⟩
 refine HT.getItem_tuple_cut ht hs pl pu (by rw[hlen];exact hw) ?_ (by rw[hlen];exact hz)
 rw[hlen]
 refine⟨.ref s.heap.objs.size,_,I.laid (t':=s.toks) (o:=.tup (cutV xs lo hi)) (λb ob q=>aAA _ q) (aAF _) ?_,rfl,q _ (I.hok.fresh (aAF _))⟩
 exact⟨aBL (kA xs lo hi) hz,_,(r.drop (HT.sIx xs.length 0 lo)).take (HT.sIx xs.length xs.length hi - HT.sIx xs.length 0 lo),IsTup.new _ _⟩
def rCatT(K:Frag):R2:=λx y H Q=>∃a b xs ys,x=.ref a/\y=.ref b/\SqT K H a xs/\SqT K H b ys/\xs≠[]/\xs.length+ys.length<=sizeLine /\
 (ys=[]->Q (.ref a) H)/\(ys≠[]->∀p,H p=none->Q (.ref p) (upd H p (.tup (xs++ys))))
end
variable{xs:List V}
theorem Vals.nil_iff(r:Vals xs us):us=[] ↔ xs=[]:=by
 cases r with
 |nil=>simp
 |cons _ _=>simp
theorem yG:OpR X (binaryOp .Add) (rCatT X.K):=by
 intro pins s σ H x y v u Q I rx ry h
 obtain⟨a,b,xs,ys,rfl,rfl,ha,hb,hx,hz,q1,q2⟩:=h
 cases rx
 cases ry
 obtain⟨its,r1,p1,_⟩:=I.tuple ha
 obtain⟨its2,r2,p2,_⟩:=I.tuple hb
 refine HT.cat_tup p1 p2 (λz=>hx (r1.nil_iff.mp z)) (λz=>⟨.ref a,H,I,rfl,q1 (r2.nil_iff.mp z)⟩) (λz=>?_) (by rw[<- r1.length,<- r2.length];exact hz)
 refine⟨.ref s.heap.objs.size,_,I.laid (t':=s.toks) (o:=.tup (xs++ys)) (λb ob q=>aAA _ q) (aAF _) ?_,rfl,q2 (λw=>z (r2.nil_iff.mpr w)) _ (I.hok.fresh (aAF _))⟩
 exact⟨by rw[aBR];exact hz,_,r1.append r2,IsTup.new _ _⟩
noncomputable def ixN(n:Nat)(i:Int):Option Nat:=if 0<=i then(if i < n then some i.toNat else none)else if -(n:Int)<=i then some (i+n).toNat else none
noncomputable def atI(xs:List α)(i:Int):Option α:=(ixN xs.length i).bind λj=>xs[j]?
variable{n:Nat}{i:Int}
theorem tH(h:ixN n i=some j):seqIndex? i n=some j/\j < n /\ -(n:Int)<=i/\i < n:=by
 unfold ixN at h
 by_cases h0:0<=i
 ·rw[aAH h0]at h
  by_cases h1:i < n
  ·rw[aAH h1]at h
   have e:i.toNat=j:=Option.some.inj h
   exact⟨by rw[aGB h0 h1,e],by lia,by lia,h1⟩
  ·rw[aAJ h1]at h;cases h
 ·rw[aAJ h0]at h
  by_cases h1 : -(n:Int)<=i
  ·rw[aAH h1]at h
   have e:(i+n).toNat=j:=Option.some.inj h
   exact⟨by rw[seqIndex_neg (by lia) h1,e],by lia,h1,by lia⟩
  ·rw[aAJ h1]at h;cases h
theorem oK{xs:List α}{v:α}(h:atI xs i=some v):∃j,seqIndex? i xs.length=some j/\xs[j]?=some v/\j < xs.length /\ -(xs.length:Int)<=i/\i < xs.length:=by
 unfold atI at h
 cases e:ixN xs.length i with
 |none=>rw[e]at h;cases h
 |some j =>
  rw[e]at h
  obtain⟨h1,h2,h3,h4⟩:=tH e
  exact⟨j,h1,h,h2,h3,h4⟩
noncomputable section
def PlainIx(b:Expr):Prop:=∀o i,subscripted b false o i=operate [o,i] (getItem o i)
def IxR(X:Cx)(r:R2):Prop :=
 ∀(value slice:Expr) (pins:List (Addr×Obj)) (s:Shared) (σ:St) (H:Hp) (x y:V) (v u:Value) (Q:VK),Inv X pins σ H s->RelV x v->RelV y u->r x y H Q ->
  subscripted slice false v u=operate [v,u] (getItem v u)->wpAny (model X.prog X.w) X.A (subscriptTail value slice v u) (EP X pins σ Q) X.xe s
def MtR(X:Cx)(id:String)(r:V->List V->Hp->VK->Prop):Prop :=
 ∀(pins:List (Addr×Obj)) (s:Shared) (σ:St) (H:Hp) (x:V) (xs:List V) (v:Value) (us:List Value) (Q:VK),Inv X pins σ H s->RelV x v->Vals xs us->r x xs H Q ->
  wpAny (model X.prog X.w) X.A (call (.builtin id) (v::us)) (EP X pins σ Q) X.xe s
end
section
variable{a b:Expr}{r:R2}
theorem IxR.or{r':R2}(h:IxR X r)(h':IxR X r'):IxR X (λx y H Q=>r x y H Q\/r' x y H Q):=by
 intro value slice pins s σ H x y v u Q I rx ry q hs
 rcases q with q|q
 ·exact h value slice pins s σ H x y v u Q I rx ry q hs
 ·exact h' value slice pins s σ H x y v u Q I rx ry q hs
theorem aFe(hr:IxR X r)(ha:PE X a ta)(hb:PE X b tb)(hs:PlainIx b):PE X (.Subscript a b pos) (tOp r ta tb):=by
 intro pins s σ H Q I h
 exact Subscript_ (binT ha hb I h λv u s2 x y H2 I2 rx ry q=>hr a b pins s2 σ H2 x y v u Q I2 rx ry q (hs _ _))
noncomputable section
def rIxL(K:Frag):R2:=λx y H Q=>∃p xs i v,x=.ref p/\y=.int i/\SqL K H p xs/\atI xs i=some v/\Q v H
def rIxT(K:Frag):R2:=λx y H Q=>∃p xs i v,x=.ref p/\y=.int i/\SqT K H p xs/\atI xs i=some v/\Q v H
def rIxS:R2:=λx y H Q=>∃z i c,x=.str z/\y=.int i/\z.length<=sizeLine/\atI z.cps.toList i=some c/\Q (.str ⟨#[c]⟩) H
theorem zS:IxR X (rIxL X.K):=by
 intro value slice pins s σ H x y v u Q I rx ry h hs
 obtain⟨p,xs,i,z,rfl,rfl,hq,he,q⟩:=h
 cases rx
 obtain⟨t,rfl⟩:=ry
 obtain⟨its,r,pl,hz⟩:=I.list hq
 obtain⟨j,h1,h2,h3,h4,h5⟩:=oK he
 obtain⟨w,ew,rw'⟩:=r.get h2
 have hl:=r.length
 have hn:=line63
 have fin:EP X pins σ Q w s:=⟨z,H,I,rw',q⟩
 by_cases h0:0<=i
 ·have hj:i.toNat=j:=by
   rw[aGB h0 h5]at h1
   exact Option.some.inj h1
  exact item_listR pl.isList h0 (by lia) (by rw[hj];simpa using ew) fin hs
 ·have hj:(i+(its.toArray.size:Int)).toNat=j:=by
   rw[seqIndex_neg (by lia) h4]at h1
   rw[aAG,<- hl]
   exact Option.some.inj h1
  exact subscriptTail_builtinR (x:=w) pl.isList.typeIs slot_list_getitem.lookup
   (wpAny_getItem_list_neg (Q:=λr s'=>r=w/\EP X pins σ Q r s') pl.isList (by lia) (by rw[aAG] <;> lia) (by lia) (by rw[hj];simpa using ew) ⟨rfl,fin⟩) hs
theorem aAv:IxR X (rIxT X.K):=by
 intro value slice pins s σ H x y v u Q I rx ry h hs
 obtain⟨p,xs,i,z,rfl,rfl,hq,he,q⟩:=h
 cases rx
 obtain⟨t,rfl⟩:=ry
 obtain⟨its,r,pl,hz⟩:=I.tuple hq
 obtain⟨j,h1,h2,h3,h4,h5⟩:=oK he
 obtain⟨w,ew,rw'⟩:=r.get h2
 have hl:=r.length
 have hn:=line63
 have fin:EP X pins σ Q w s:=⟨z,H,I,rw',q⟩
 exact subscriptTail_builtinR (x:=w) pl.typeIs slot_tuple_getitem.lookup
  (getItem_tuple (j:=j) (Q:=λr s'=>r=w/\EP X pins σ Q r s') pl (by lia) (by lia) (by rw[aAG,<- hl];exact h1) (by simpa using ew) ⟨rfl,fin⟩) hs
theorem aCs:IxR X rIxS:=by
 intro value slice pins s σ H x y v u Q I rx ry h hs
 obtain⟨z,i,c,rfl,rfl,hz,he,q⟩:=h
 obtain⟨t,rfl⟩:=rx
 obtain⟨t',rfl⟩:=ry
 obtain⟨j,h1,h2,h3,h4,h5⟩:=oK he
 have hl:z.cps.toList.length=z.length:=by simp[Str.length]
 rw[hl]at h1 h4 h5
 have hn:=line63
 exact tail_any (typeIs_str s z t) slot_str_getitem.lookup (getItem_str (c:=c) (by
  have e1:decide (i < -(2 ^ 63:Int))=false:=aBG (by lia)
  have e2:decide (i>=2 ^ 63)=false:=aBG (by lia)
  rw[e1,e2,Bool.or_false]) (by rw[h1];simpa using h2) ⟨.str ⟨#[c]⟩,H,I.tok _,⟨_,rfl⟩,q⟩) hs
def rIx(K:Frag):R2:=λx y H Q=>rIxL K x y H Q\/rIxT K x y H Q\/rIxS x y H Q
end
theorem aAt:IxR X (rIx X.K):=zS.or (aAv.or aCs)
theorem sJ(its:List Value)(n j:Nat)(u:Value):Obj.mapSeq (·.setIfInBounds j u) {cls:=.type "list",data:=.seq its.toArray n}={cls:=.type "list",data:=.seq (its.set j u).toArray n}:=by
 simp[Obj.mapSeq]
theorem Inv.lst{pins:List (Addr×Obj)}{σ:St}{H:Hp}{s:Shared}{p:Addr}{xs:List V}(I:Inv X pins σ H s)(h:H p=some (.lst xs)) :
  ∃(its:List Value) (n:Nat),Vals xs its/\s.heap.get? p=some {cls:=.type "list",data:=.seq its.toArray n}/\xs.length<=sizeLine:=by
 obtain⟨z,its,n,r,e⟩:=I.hok p _ h
 exact⟨its,n,r,e,z⟩
variable{σ:St}
theorem Inv.lstUpd{p:Addr}{ys:List V}{its':List Value}{n':Nat}{f:Obj->Obj}(I:Inv X pins σ H s)(h:H p=some (.lst xs))
  (ho:s.heap.get? p=some {cls:=.type "list",data:=.seq its.toArray n})(hf:f {cls:=.type "list",data:=.seq its.toArray n}={cls:=.type "list",data:=.seq its'.toArray n'})(r:Vals ys its')(hz:ys.length<=sizeLine)(t:Nat) :
  Inv X pins σ (upd H p (.lst ys)) {s with heap:=s.heap.update p f,toks:=t}:=by
 have e:(s.heap.update p f).get? p=some {cls:=.type "list",data:=.seq its'.toArray n'}:=by
  rw[aDT f ho (by rw[hf] <;> rfl),hf]
 refine I.write (x:=p) (e:=p) (by rw[h];trivial) (.inl rfl) (λb u hb q=>(Heap.get?_update_other _ _ (Ne.symm hb)).trans q) ⟨_,e⟩ ?_
 exact⟨hz,its',n',r,e⟩
noncomputable section
def rSetL:V->V->V->Hp->(Hp->Prop)->Prop:=λo i v H Q=>∃p xs k j,o=.ref p/\i=.int k/\H p=some (.lst xs)/\ixN xs.length k=some j/\Q (upd H p (.lst (xs.set j v)))
theorem xJ:PSet X rSetL:=by
 intro pins s σ H o i v ov iv u Q I ro ri rv h
 obtain⟨p,xs,k,j,rfl,rfl,hp,hj,q⟩:=h
 cases ro
 obtain⟨t,rfl⟩:=ri
 obtain⟨its,n,r,ho,hz⟩:=I.lst hp
 obtain⟨h1,h2,h3,h4⟩:=tH hj
 have hl:=r.length
 have hn:=line63
 have I':Inv X pins σ (upd H p (.lst (xs.set j v))) {s with heap:=s.heap.update p (Obj.mapSeq (·.setIfInBounds j u))} :=
  I.lstUpd hp ho (sJ its n j u) (r.set rv j) (by rw[List.length_set];exact hz) s.toks
 by_cases h0:0<=k
 ·have hk:k.toNat=j:=by
   rw[aGB h0 h4]at h1
   exact Option.some.inj h1
  exact PySem.W.ki_setAt ho h0 (by lia) (by rw[aAG,<- hl];exact h4) (by rw[hk];exact⟨_,I',q⟩)
 ·have hk:(k+(its.toArray.size:Int)).toNat=j:=by
   rw[seqIndex_neg (by lia) h3]at h1
   rw[aAG,<- hl]
   exact Option.some.inj h1
  exact PySem.W.ki_setBack ho (by lia) (by rw[aAG,<- hl];exact h3) (by lia) (by rw[hk];exact⟨_,I',q⟩)
theorem nS(lo hi:Option Int)(n:Nat):(sliceBounds lo hi none n).1=((HT.sIx n 0 lo:Nat):Int)/\(sliceBounds lo hi none n).2.1=((HT.sIx n n hi:Nat):Int)/\(sliceBounds lo hi none n).2.2=1:=by
 refine⟨?_,?_,rfl⟩
 ·cases lo with
  |none=>simp[sliceBounds,HT.sIx]
  |some i =>
   simp only[sliceBounds,HT.sIx,Option.getD_none,show(1:Int) > 0 by decide,aDF]
   by_cases h:i < 0
   ·simp only[h,aDF] <;> lia
   ·simp only[h,aFC] <;> lia
 ·cases hi with
  |none=>simp[sliceBounds,HT.sIx]
  |some i =>
   simp only[sliceBounds,HT.sIx,Option.getD_none,show(1:Int) > 0 by decide,aDF]
   by_cases h:i < 0
   ·simp only[h,aDF] <;> lia
   ·simp only[h,aFC] <;> lia
theorem mH(its:List Value)(lo hi:Option Int):slicePick its.toArray lo hi none=((its.drop (HT.sIx its.length 0 lo)).take (HT.sIx its.length its.length hi - HT.sIx its.length 0 lo)).toArray:=by
 obtain⟨h1,h2,h3⟩:=nS lo hi its.toArray.size
 unfold slicePick
 rw[h1,h2,h3]
 simp only[sliceRange_one,pick_run,aAG] <;> rfl
def rSlL(K:Frag):V->Option Int->Option Int->Hp->VK->Prop:=λx lo hi H Q=>∃a xs,x=.ref a/\SqL K H a xs/\∀p,H p=none->Q (.ref p) (upd H p (.lst (cutV xs lo hi)))
theorem zA:SlR X (rSlL X.K):=by
 intro pins s σ H x v vl vu lo hi sl Q I rx hs pl pu h
 obtain⟨a,xs,rfl,hx,q⟩:=h
 cases rx
 obtain⟨its,r,ht,hz⟩:=I.list hx
 have hlen:=r.length
 refine⟨"list",_,slot_list_getitem.lookup,ht.isList.typeIs,?_⟩
 refine wpAny_getItem_list_slice ht.isList hs pl pu .none (by simp) ?_ (by rw[aAG] <;> lia)
 rw[mH,<- hlen]
 refine⟨.ref s.heap.objs.size,_,I.laid (t':=s.toks) (o:=.lst (cutV xs lo hi)) (λb ob q=>aAA _ q) (aAF _) ?_,rfl,q _ (I.hok.fresh (aAF _))⟩
 exact⟨aBL (kA xs lo hi) hz,_,0,(r.drop (HT.sIx xs.length 0 lo)).take (HT.sIx xs.length xs.length hi - HT.sIx xs.length 0 lo),aAE _ rfl⟩
def flatV:V->Bool
 |.non=>true
 |.bl _=>true
 |.int _=>true
 |.str _=>true
 |_=>false
def eqV:V->V->Bool
 |.non,.non=>true
 |.bl a,.bl b=>a==b
 |.bl a,.int b=>(if a then 1 else 0)==b
 |.int a,.bl b=>a==(if b then 1 else 0)
 |.int a,.int b=>a==b
 |.str a,.str b=>a==b
 |_,_=>false
end
variable{x:V}{v:Value}
theorem vT(ry:RelV y u)(rx:RelV x v)(fy:flatV y=true)(fx:flatV x=true):SeqAt.EqAt A s u v (eqV y x):=by
 cases y with
 |non =>
  cases ry
  cases x with
  |non=>cases rx;exact SeqAt.EqAt.same _
  |bl b=>cases rx;exact SeqAt.EqAt.none_bool b
  |int b=>obtain⟨t,rfl⟩:=rx;exact SeqAt.EqAt.none_int b t
  |str b=>obtain⟨t,rfl⟩:=rx;exact SeqAt.EqAt.none_str b t
  |_=>exact absurd (show false=true from fx) aBJ
 |bl a =>
  cases ry
  cases x with
  |non=>cases rx;exact SeqAt.EqAt.bool_none a
  |bl b=>cases rx;exact SeqAt.EqAt.bool_bool a b
  |int b=>obtain⟨t,rfl⟩:=rx;exact SeqAt.EqAt.bool_int a b t
  |str b=>obtain⟨t,rfl⟩:=rx;exact SeqAt.EqAt.bool_str a b t
  |_=>exact absurd (show false=true from fx) aBJ
 |int a =>
  obtain⟨t',rfl⟩:=ry
  cases x with
  |non=>cases rx;exact SeqAt.EqAt.int_none a t'
  |bl b=>cases rx;exact SeqAt.EqAt.int_bool a t' b
  |int b=>obtain⟨t,rfl⟩:=rx;exact SeqAt.EqAt.int_int a t' b t
  |str b=>obtain⟨t,rfl⟩:=rx;exact SeqAt.EqAt.int_str a t' b t
  |_=>exact absurd (show false=true from fx) aBJ
 |str a =>
  obtain⟨t',rfl⟩:=ry
  cases x with
  |non=>cases rx;exact SeqAt.EqAt.str_none a t'
  |bl b=>cases rx;exact SeqAt.EqAt.str_bool a t' b
  |int b=>obtain⟨t,rfl⟩:=rx;exact SeqAt.EqAt.str_int a t' b t
  |str b=>obtain⟨t,rfl⟩:=rx;exact SeqAt.EqAt.str_str a t' b t
  |_=>exact absurd (show false=true from fx) aBJ
 |_=>exact absurd (show false=true from fy) aBJ
noncomputable section
def eqU(x:V)(u:Value):Bool:=match u with
 |.none=>eqV .non x
 |.bool b=>eqV (.bl b) x
 |.int i _=>eqV (.int i) x
 |.str z _=>eqV (.str z) x
 |_=>false
theorem vN(r:RelV y u)(f:flatV y=true):eqU x u=eqV y x:=by
 cases y with
 |non=>cases r;rfl
 |bl b=>cases r;rfl
 |int i=>obtain⟨t,rfl⟩:=r;rfl
 |str z=>obtain⟨t,rfl⟩:=r;rfl
 |_=>exact absurd (show false=true from f) aBJ
theorem nX{x:V}:∀{xs:List V} {us:List Value},Vals xs us->xs.all flatV=true->us.any (eqU x)=xs.any λy=>eqV y x
 |_,_,.nil,_=>rfl
 |y::xs,u::us,.cons r t,f=>by
  rw[aEZ,aCE]at f
  rw[aEC,aEC,vN r f.1,nX t f.2]
theorem kW{A:Around}{s:Shared}{x:V}{v:Value}(rx:RelV x v)(fx:flatV x=true):∀{xs:List V} {us:List Value},Vals xs us->xs.all flatV=true->∀u∈us,SeqAt.EqAt A s u v (eqU x u)
 |_,_,.nil,_=>λu hu=>by cases hu
 |y::xs,u::us,.cons r t,f=>λu' hu=>by
  rw[aEZ,aCE]at f
  rcases aBE.mp hu with rfl|hu
  ·rw[vN r f.1];exact vT r rx f.1 fx
  ·exact kW rx fx t f.2 u' hu
def inV(x:V)(xs:List V):Bool:=xs.any λy=>eqV y x
def rIn(K:Frag)(neg:Bool):R2:=λx y H Q=>∃p xs,y=.ref p/\(SqL K H p xs\/SqT K H p xs)/\flatV x=true/\xs.all flatV=true/\Q (.bl (if neg then !inV x xs else inV x xs)) H
theorem nV:OpR X (compareOp .NotIn) (rIn X.K true):=by
 intro pins s σ H x y v u Q I rx ry h
 obtain⟨p,xs,rfl,hq,fx,fs,q⟩:=h
 cases ry
 rcases hq with hq|hq
 ·obtain⟨its,r,pl,hz⟩:=I.list hq
  refine SeqAt.notIn_listAt (eqU x) pl.isList (λw hw=>kW rx fx r fs w (by simpa using hw)) ⟨.bl _,H,I,rfl,?_⟩
  rw[show its.toArray.any (eqU x)=its.any (eqU x) by simp,nX r fs]
  exact q
 ·obtain⟨its,r,pl,hz⟩:=I.tuple hq
  refine SeqAt.notIn_tupleAt (eqU x) pl (λw hw=>kW rx fx r fs w (by simpa using hw)) ⟨.bl _,H,I,rfl,?_⟩
  rw[show its.toArray.any (eqU x)=its.any (eqU x) by simp,nX r fs]
  exact q
theorem oB:CallR X (.builtin "len") (λxs H Q=>∃p ys,xs=[.ref p]/\(SqL X.K H p ys\/SqT X.K H p ys)/\Q (.int ys.length) H):=by
 intro pins s σ H xs us Q I r h
 obtain⟨p,ys,rfl,hq,q⟩:=h
 obtain⟨u,rfl,rx⟩:=vals1 r
 cases rx
 have hn:=line63
 rcases hq with hq|hq
 ·obtain⟨its,r',pl,hz⟩:=I.list hq
  have hlen:=r'.length
  exact Calls.call_len_list pl.isList (by simp only[aAG] <;> lia) ⟨.int ys.length,H,I.tok _,⟨s.toks+1,by rw[aAG,hlen]⟩,q⟩
 ·obtain⟨its,r',pl,hz⟩:=I.tuple hq
  have hlen:=r'.length
  exact len_tuple pl (by simp only[aAG] <;> lia) ⟨.int ys.length,H,I.tok _,⟨s.toks+1,by rw[aAG,hlen]⟩,q⟩
theorem oJ:CallR X (.builtin "len") (λxs H Q=>∃z,xs=[.str z]/\z.length<=sizeLine/\Q (.int z.length) H):=by
 intro pins s σ H xs us Q I r h
 obtain⟨z,rfl,hz,q⟩:=h
 obtain⟨u,rfl,t,rfl⟩:=vals1 r
 have hn:=line63
 exact len_str (by lia) ⟨.int z.length,H,I.tok _,⟨_,rfl⟩,q⟩
theorem CallR.or{f:Value}{r r':List V->Hp->VK->Prop}(h:CallR X f r)(h':CallR X f r'):CallR X f (λxs H Q=>r xs H Q\/r' xs H Q):=by
 intro pins s σ H xs us Q I rs q
 rcases q with q|q
 ·exact h pins s σ H xs us Q I rs q
 ·exact h' pins s σ H xs us Q I rs q
theorem nM:CallR X (.type "list") (λxs H Q=>∃p ys,xs=[.ref p]/\(SqL X.K H p ys\/SqT X.K H p ys)/\∀l,H l=none->Q (.ref l) (upd H l (.lst ys))):=by
 intro pins s σ H xs us Q I r h
 obtain⟨p,ys,rfl,hq,q⟩:=h
 obtain⟨u,rfl,rx⟩:=vals1 r
 cases rx
 have fin:∀(its:List Value),Vals ys its->ys.length<=sizeLine->∀(h':Heap) (c':Nat),(∀b o',s.heap.get? b=some o'->h'.get? b=some o') ->
   h'.get? s.heap.objs.size=some {cls:=.type "list",dict:=none,data:=.seq its.toArray c',slots:=#[]}->EP X pins σ Q (.ref s.heap.objs.size) {s with heap:=h'}:=λits r' hz h' c' kp e =>
  ⟨.ref s.heap.objs.size,_,I.laid (t':=s.toks) kp (aAF _) (show ObjOk X.prog X.w _ h' _ (.lst ys)from⟨hz,its,c',r',e⟩),rfl,q _ (I.hok.fresh (aAF _))⟩
 rcases hq with hq|hq
 ·obtain⟨its,r',pl,hz⟩:=I.list hq
  have hlen:=r'.length
  obtain⟨o,ho,hc,n,hd⟩:=pl.isList
  exact call_list_seq p (.inl rfl) ho hc hd (λh' c' kp e=>fin its r' hz h' c' kp e) (by simp only[aAG] <;> lia)
 ·obtain⟨its,r',pl,hz⟩:=I.tuple hq
  have hlen:=r'.length
  obtain⟨o,ho,hc,n,hd⟩:=pl
  exact call_list_seq p (.inr rfl) ho hc hd (λh' c' kp e=>fin its r' hz h' c' kp e) (by simp only[aAG] <;> lia)
theorem mC:CallR X (.type "tuple") (λxs H Q=>∃p ys,xs=[.ref p]/\((SqL X.K H p ys/\∀l,H l=none->Q (.ref l) (upd H l (.tup ys)))\/(SqT X.K H p ys/\Q (.ref p) H))):=by
 intro pins s σ H xs us Q I r h
 obtain⟨p,ys,rfl,h⟩:=h
 obtain⟨u,rfl,rx⟩:=vals1 r
 cases rx
 rcases h with⟨hq,q⟩|⟨hq,q⟩
 ·obtain⟨its,r',pl,hz⟩:=I.list hq
  have hlen:=r'.length
  refine call_tuple_list pl.isList (λh' kp=>?_) (by simp only[aAG] <;> lia)
  have I1:Inv X pins σ H {s with heap:=h'}:=I.kept (t':=s.toks) kp
  have I2:Inv X pins σ (upd H h'.objs.size (.tup ys)) {s with heap:=h'.push {cls:=.type "tuple",data:=.seq its.toArray}} :=
   I1.laid (t':=s.toks) (λb o e=>aAA _ e) (aAF _) (show ObjOk X.prog X.w _ _ _ (.tup ys)from⟨hz,its,r',IsTup.new _ _⟩)
  exact⟨.ref h'.objs.size,_,I2,rfl,q _ (I1.hok.fresh (aAF _))⟩
 ·obtain⟨its,r',pl,hz⟩:=I.tuple hq
  exact call_tuple_same pl ⟨.ref p,H,I,rfl,q⟩
def tyV(K:Frag)(T:String)(x:V)(H:Hp):Prop:=match x with
 |.str _=>T="str"
 |.int _=>T="int"
 |.ref p=>(T="list"/\∃xs,SqL K H p xs)\/(T="tuple"/\∃o,K.lookup p=some o/\o.cls=.type "tuple"/\o.dict=none) \/
   (T="dict"/\((∃kvs,H p=some (.dK kvs))\/∃kvs,H p=some (.dT kvs)))\/(T="set"/\∃S n,H p=some (.set S n))
 |_=>False
end
variable{T:String}
theorem aCn(I:Inv X pins σ H s)(r:RelV x v)(ty:tyV X.K T x H) :
  s.TypeIs v T/\∀a,v=.ref a->∃ob,s.heap.get? a=some ob/\ob.dict=none:=by
 cases x with
 |str z =>
  obtain⟨t,rfl⟩:=r
  cases(show T="str"from ty)
  exact⟨typeIs_str s z t,λ_ e=>nomatch e⟩
 |int i =>
  obtain⟨t,rfl⟩:=r
  cases(show T="int"from ty)
  exact⟨aGN s i t,λ_ e=>nomatch e⟩
 |ref p =>
  cases r
  rcases ty with⟨rfl,xs,hq⟩|⟨rfl,o,hk,hc,hd⟩|⟨rfl,hk⟩|⟨rfl,S,n,hk⟩
  ·obtain⟨its,_,pl,_⟩:=I.list hq
   refine⟨pl.isList.typeIs,λa e=>?_⟩
   cases e
   obtain⟨o,n,e,c,hd,_⟩:=pl
   exact⟨o,e,hd⟩
  ·refine⟨⟨o,I.kIn p o hk,hc⟩,λa e=>?_⟩
   cases e
   exact⟨o,I.kIn _ o hk,hd⟩
  ·have z:∃o,s.heap.get? p=some o/\o.ExactDict:=by
    rcases hk with⟨kvs,hk⟩|⟨kvs,hk⟩
    ·obtain⟨_,_,_,_,o,_,_,e,ex,_⟩:=I.hok p _ hk
     exact⟨o,e,ex⟩
    ·obtain⟨_,_,_,_,o,_,_,e,ex,_⟩:=I.hok p _ hk
     exact⟨o,e,ex⟩
   obtain⟨o,e,ex⟩:=z
   refine⟨⟨o,e,ex.1⟩,λa e2=>?_⟩
   cases e2
   exact⟨o,e,ex.2.1⟩
  ·obtain⟨o,_,_,_,e,ex,_⟩:=I.hok p _ hk
   refine⟨⟨o,e,ex.1⟩,λa e2=>?_⟩
   cases e2
   exact⟨o,e,ex.2.1⟩
 |_=>exact False.elim ty
noncomputable def tBM(K:Frag)(T:String)(r:V->List V->Hp->VK->Prop)(to:TE)(t:TA):TE:=λσ H Q=>to σ H λx H1=>tyV K T x H1/\t σ H1 λxs H2=>r x xs H2 Q
variable{o:Expr}{es:List Expr}{to:TE}{t:TA}{id:String}{r:V->List V->Hp->VK->Prop}
theorem aAf(pa:PlainAttrs T)(slot:Slot T name id)(hty:typeOf (.builtin id)=pure (.type "method_descriptor"))(hm:MtR X id r)(ho:PE X o to)(ha:PA X (e::es) t)
  (hbase:attributeBase o name X.env (eval o X.env)=eval o X.env:=by rfl)
  (hfew:((backTo cpos (starEach (e::es) X.env)).all (λx=>!x.1)&&(backToKw cpos (keywordEach [] X.env)).all (λx=>x.1.isSome)
   && decide ((e::es).length+([]:List Keyword).length+(if([]:List Keyword).isEmpty then 0 else 1) < 30))=true:=by rfl)
  (hline:(apos.endLine==cpos.line)=true:=by rfl)(hs:starEach (e::es) X.env=(false,eval e X.env)::starEach es X.env:=by rfl)(hplain:(backTo cpos (starEach es X.env)).any (·.1)=false:=by rfl) :
  PE X (.Call (.Attribute o name apos) (e::es) [] cpos) (tBM X.K T r to t):=by
 intro pins s σ H Q I h
 refine wpAny_Call_method_late hbase hfew hline rfl (thn (ho pins s σ H _ I h) λv s1 ⟨x,H1,I1,r1,ty,q1⟩=>?_)
 obtain⟨h1,h2⟩:=aCn I1 r1 ty
 refine⟨T,id,pa,slot,hty,h1,h2,?_⟩
 have hA:=ha cpos pins s1 σ H1 _ I1 q1
 rw[hs]at hA ⊢
 refine Calls.callWith_builtin (by show(false || (backTo cpos (starEach es X.env)).any (·.1))=false;rw[hplain] <;> rfl) (Calls.evalArgs_plain ?_)
 exact thn hA λus s2 ⟨vs,H2,I2,r2,q2⟩=>hm pins s2 σ H2 x vs v us Q I2 r1 r2 q2
end
noncomputable def MtM(X:Cx)(id:String)(r:V->List V->Hp->VK->Prop):Prop :=
 ∀(pins:List (Addr×Obj)) (s:Shared) (σ:St) (H:Hp) (x:V) (xs:List V) (v:Value) (us:List Value) (Q:VK),Inv X pins σ H s->RelV x v->Vals xs us->r x xs H Q ->
  wpAny (model X.prog X.w) X.A (call (.builtin id) (v::us)) (EP X pins σ Q) X.xe s
theorem Vals.one:∀{x:V} {us:List Value},Vals [x] us->∃u,us=[u]/\RelV x u
 |_,_,.cons r .nil=>⟨_,rfl,r⟩
theorem Vals.two:∀{x y:V} {us:List Value},Vals [x,y] us->∃u v,us=[u,v]/\RelV x u/\RelV y v
 |_,_,_,.cons r (.cons q .nil)=>⟨_,_,rfl,r,q⟩
theorem Vals.zero:∀{us:List Value},Vals [] us->us=[]
 |_,.nil=>rfl
theorem Vals.eraseIdx:∀{xs:List V} {us:List Value} (i:Nat),Vals xs us->Vals (xs.eraseIdx i) (us.eraseIdx i)
 |_,_,_,.nil=>.nil
 |_,_,0,.cons _ t=>t
 |_,_,i+1,.cons r t=>.cons r (Vals.eraseIdx i t)
theorem Vals.rep{xs:List V}{us:List Value}(h:Vals xs us):∀k:Nat,Vals (List.replicate k xs).flatten (List.replicate k us).flatten
 |0=>.nil
 |k+1=>by
  rw[aCJ,aCJ,aDR,aDR]
  exact Vals.append h (Vals.rep h k)
theorem nE{α:Type}:∀(l:List α) (i:Nat),(l.eraseIdx i).length<=l.length
 |[],_=>aAF _
 |_::_,0=>aGC _
 |_::r,i+1=>Nat.succ_le_succ (nE r i)
theorem jP(its:List Value):∀(k:Nat) (acc:List Value),
  List.foldl (λx1 x2=>x1++x2) acc.toArray (List.replicate k its.toArray)=(acc++(List.replicate k its).flatten).toArray
 |0,acc=>by simp
 |k+1,acc=>by
  have e:acc.toArray++its.toArray=(acc++its).toArray:=by simp
  have e2:(acc++its)++(List.replicate k its).flatten=acc++(List.replicate (k+1) its).flatten:=by
   rw[aCJ,aDR,List.append_assoc]
  rw[<- e2,<- jP its k (acc++its),<- e,aCJ,aCB]
variable{σ:St}{b:Addr}{ys zs:List V}
theorem Inv.lset{its':List Value}{f:Array Value->Array Value}(I:Inv X pins σ H s)(hH:H l=some (.lst xs))
  (e:s.heap.get? l=some {cls:=.type "list",data:=.seq its.toArray n})(hf:f its.toArray=its'.toArray)(hv:Vals ys its')(hz:ys.length<=sizeLine) :
  Inv X pins σ (upd H l (.lst ys)) {s with heap:=s.heap.update l (Obj.mapSeq f),toks:=t'}:=by
 have q:=PySem.IsL.update e f
 rw[hf]at q
 refine I.write (x:=l) (e:=l) (by rw[hH];exact trivial) (.inl rfl) (λb' u hb hu=>(Heap.get?_update_other s.heap (Obj.mapSeq f) (Ne.symm hb)).trans hu) ⟨_,q⟩ ?_
 exact⟨hz,its',_,hv,q⟩
theorem Inv.lnew(I:Inv X pins σ H s)(hv:Vals ys its)(hz:ys.length<=sizeLine) :
  Inv X pins σ (upd H s.heap.objs.size (.lst ys)) {s with heap:=s.heap.push {cls:=.type "list",data:=.seq its.toArray},toks:=t'} :=
 I.laid (λ_ _ q=>aAA _ q) (aAF _) ⟨hz,its,0,hv,aAE _ rfl⟩
theorem Inv.fresh(I:Inv X pins σ H s):H s.heap.objs.size=none:=I.hok.fresh (aAF _)
theorem Inv.lstM(I:Inv X pins σ H s)(hH:H l=some (.lst xs)):xs.length<=sizeLine/\∃(its:List Value) (n:Nat),Vals xs its/\xs.length=its.length/\s.heap.get? l=some {cls:=.type "list",data:=.seq its.toArray n}:=by
 obtain⟨z,its,n,r,e⟩:=I.hok l _ hH
 exact⟨z,its,n,r,r.length,e⟩
theorem notLongL(h:n<=sizeLine):Builtin.List.listTooLong n=false:=by
 unfold Builtin.List.listTooLong
 exact aBG (by lia)
noncomputable section
def rAppend:V->List V->Hp->VK->Prop:=λx vs H Q=>∃l xs y,x=.ref l/\vs=[y]/\H l=some (.lst xs)/\xs.length < sizeLine/\Q .non (upd H l (.lst (xs++[y])))
theorem mX:MtM X "list.append" rAppend:=by
 intro pins s σ H x vs v us Q I rx rv h
 obtain⟨l,xs,y,rfl,rfl,hH,hz,q⟩:=h
 cases rx
 obtain⟨u,rfl,ru⟩:=rv.one
 obtain⟨z,its,n,r,hl,e⟩:=I.lstM hH
 refine aDO F.slot_list_append ⟨_,e,rfl⟩ F.entry_list_append (F.args_list_append_2 _ _) (PySem.list_append l its.toArray n u (by rw[aAG];lia)) ⟨e,?_⟩
 refine⟨.non,_,I.lset (its':=its++[u]) hH e (by simp) (r.append (.cons ru .nil)) ?_,rfl,q⟩
 rw[aBR,List.length_singleton]
 lia
def rPopAt:V->List V->Hp->VK->Prop:=λx vs H Q=>∃l xs i k y,x=.ref l/\vs=[.int i]/\H l=some (.lst xs) /\ -(2 ^ 63)<=i/\i < 2 ^ 63/\seqIndex? i xs.length=some k/\xs[k]?=some y/\Q y (upd H l (.lst (xs.eraseIdx k)))
theorem wV:MtM X "list.pop" rPopAt:=by
 intro pins s σ H x vs v us Q I rx rv h
 obtain⟨l,xs,i,k,y,rfl,rfl,hH,h1,h2,hk,hy,q⟩:=h
 cases rx
 obtain⟨u,rfl,ru⟩:=rv.one
 obtain⟨t,rfl⟩:=ru
 obtain⟨z,its,n,r,hl,e⟩:=I.lstM hH
 obtain⟨w,hw,rw'⟩:=r.get hy
 refine aDO F.slot_list_pop ⟨_,e,rfl⟩ F.entry_list_pop (F.args_list_pop_2 _ _)
  (MeetsSeq.list_pop_at l its.toArray n i t k w (fitsIndex_both h1 h2) (by rw[aAG,<- hl];exact hk) (by rw[<- Array.getElem?_toList];exact hw) (by rw[aAG];lia)) ⟨e,?_⟩
 refine⟨y,_,I.lset (its':=its.eraseIdx k) hH e ?_ (r.eraseIdx k) ?_,rw',q⟩
 ·show its.toArray.eraseIdxIfInBounds k=(its.eraseIdx k).toArray
  rw[List.eraseIdxIfInBounds_toArray]
 ·have:=nE xs k
  lia
def rCat:R2:=λx y H Q=>∃l b xs zs,x=.ref l/\y=.ref b/\H l=some (.lst xs)/\H b=some (.lst zs)/\xs.length+zs.length<=sizeLine/\∀p,H p=none->Q (.ref p) (upd H p (.lst (xs++zs)))
theorem aCe:OpR X (binaryOp .Add) rCat:=by
 intro pins s σ H x y v u Q I rx ry h
 obtain⟨l,b,xs,zs,rfl,rfl,hH,hB,hz,q⟩:=h
 cases rx
 cases ry
 obtain⟨z,its,n,r,hl,e⟩:=I.lstM hH
 obtain⟨z2,its2,n2,r2,hl2,e2⟩:=I.lstM hB
 refine PySem.P.add_list e e2 ?_ (by rw[aAG,aAG];lia)
 have ea:its.toArray++its2.toArray=(its++its2).toArray:=by simp
 rw[ea]
 exact⟨.ref _,_,I.lnew (t':=s.toks) (r.append r2) (by rw[aBR];lia),rfl,q _ I.fresh⟩
def rRep:R2:=λx y H Q=>∃l k xs,x=.ref l/\y=.int k/\H l=some (.lst xs) /\ -(2 ^ 63)<=k/\k < 2 ^ 63/\xs.length*k.toNat<=sizeLine /\
 ∀p,H p=none->Q (.ref p) (upd H p (.lst (List.replicate k.toNat xs).flatten))
end
theorem nT(xs:List α)(k:Nat):(List.replicate k xs).flatten.length=k*xs.length:=by
 induction k with
 |zero=>simp
 |succ k ih=>rw[aCJ,aDR,aBR,ih,Nat.succ_mul,Nat.add_comm]
theorem aCd:OpR X (binaryOp .Mult) rRep:=by
 intro pins s σ H x y v u Q I rx ry h
 obtain⟨l,k,xs,rfl,rfl,hH,h1,h2,hz,q⟩:=h
 cases rx
 obtain⟨t,rfl⟩:=ry
 obtain⟨z,its,n,r,hl,e⟩:=I.lstM hH
 have hlen:its.toArray.size*k.toNat<=sizeLine:=by rw[aAG,<- hl];exact hz
 have hcap:¬its.toArray.size*k.toNat > (2 ^ 63 - 1) / 8:=by
  have:(sizeLine:Nat)<=(2 ^ 63 - 1) / 8:=by decide
  lia
 have hfit:¬(!Builtin.List.listFitsIndex k)=true:=by
  rw[fitsIndex_both h1 h2]
  exact aBJ
 have hlong:¬Builtin.List.listTooLong (its.toArray.size*k.toNat)=true:=by
  rw[notLongL hlen]
  exact aBJ
 have hnew:List.foldl (λx1 x2=>x1++x2) #[] (List.replicate (if its.toArray.isEmpty=true then 0 else k.toNat) its.toArray)=(List.replicate k.toNat its).flatten.toArray:=by
  have f0:∀m:Nat,List.foldl (λx1 x2=>x1++x2) #[] (List.replicate m its.toArray)=(List.replicate m its).flatten.toArray:=λm=>by
   have:=jP its m []
   rw[aFR]at this
   exact this
  rw[f0]
  cases its with
  |nil=>simp
  |cons a r'=>rw[aAJ (by simp)]
 refine wpAny_binaryOp_repeat_ref (T:="list") (U:="int") (by decide) ⟨_,e,rfl⟩ (λs'=>aGN s' k t) noFill_list_mul F.fills_int_mul aFM repeat_list F.slot_int_index.lookup
  (aDO aFM (aGN s k t) F.entry_int_rmul (F.args_int_rmul_2 _ _) (int___rmul___int_list k t l its.toArray n)
   ⟨e,rfl,⟨_,e,rfl⟩,aDO F.slot_list_mul ⟨_,e,rfl⟩ F.entry_list_mul (F.args_list_mul_2 _ _) (AutoListH.list___mul___list_int_3 l its.toArray n k t hfit hcap hlong) ⟨e,?_⟩⟩)
 rw[hnew]
 exact⟨.ref _,_,I.lnew (t':=s.toks) (r.rep k.toNat) (by rw[nT,aEI];exact hz),rfl,q _ I.fresh⟩
variable{prog:Program}{E:Value->Shared->Prop}
end L2
end
namespace Att
open PySem PySem.W PySem.Calls PyProof.Rows
variable{P:Params}
theorem kB :∀(ns:List Int) (vs:List Value),WellAll P h vs (ns.map WData.int)->IntsAre vs ns:=by
 intro ns
 induction ns with
 |nil =>
  intro vs w
  rw[List.map_nil]at w
  cases w
  exact .nil
 |cons n ns ih =>
  intro vs w
  rw[aAQ]at w
  cases w with
  |cons a b =>
   cases a
   exact .cons _ _ (ih _ b)
variable{l:OpenLaw}{n:Nat}
theorem uU(hn:l.most=some n){args:List WData}{vals:List Value}
  (hpre:l.row.toRowW.claim.pre args=true)(hwl:WellAll P h vals args) :
  ∃a vs ns,vals=[Value.ref a]/\args=[WData.list (ns.map WData.int)]/\h.get? a=some {cls:=.type "list",data:=.seq vs.toArray}/\IntsAre vs ns/\ns.length<=n:=by
 have hsh:WShape.hasAll [] args [.list .int]=true:=(pre_splitW hpre).1
 have hc:l.pre.holds [] {args:=args}=true:=(pre_splitW hpre).2
 obtain⟨d,r,rfl,h1,h2⟩:=hasAllW_cons hsh
 obtain rfl:=hasAllW_nil h2
 obtain⟨xs,rfl,h3⟩:=hasW_list h1
 obtain⟨ns,rfl⟩:=items_int h3
 have hlen:ns.length<=n:=by
  unfold OpenLaw.pre at hc
  have h4:(WTm.not (.lt (.lit (.int (n:Int))) (.len (.arg 0)))).holds [] {args:=[.list (ns.map .int)]}=true:=by
   have h4:=(holds_andW hc).1
   rw[hn]at h4
   exact h4
  have h5:=condW_of h4 (w_not (w_lt w_lit (w_len_list (w_arg rfl))))
  rw[aAL]at h5
  refine Nat.le_of_not_lt λq=>?_
  have q':(n:Int) < ((ns.length:Nat):Int):=by lia
  first
   |(rw[decide_eq_true q']at h5;exact absurd h5 (by decide))
   |(simp at h5;lia)
 cases hwl with
 |cons w1 w2 =>
  cases w2
  cases w1 with
  |list ho hall=>exact⟨_,_,ns,rfl,rfl,ho,kB ns _ hall,hlen⟩
theorem uS(l:OpenLaw)(args:List WData):l.row.toRowW.claim.post args (.bool true) args=true :=
 postW_of (r:=l.row.toRowW) (X:=(true==true))
  (show WShape.has [] (.bool true) .bool=true by first|rfl|decide|simp[WShape.has,WShape.arms,WShape.armsAll])
  (show(WTm.eq .res (.lit (.bool true))).value [] {args:=args,res:=some (.bool true),after:=args}=some (.bool (true==true))from w_eq_bool (w_res rfl) w_lit) rfl
theorem attach_call{q:Program}{d:DefRec}
  (hn:l.most=some n)(hdf:d.params.defaults=[])
  (call:∀(w:World) (s₀ s₁:Shared) (mg mb:Str->Option Value) (fa:Addr) (o:Obj) (pm cd doc:Value) (a:Addr) (vs:List Value) (ns:List Int),
   Ground q loose [] XP w s₀ mg mb s₁.heap->YP w s₁.heap ->
   s₁.heap.get? fa=some o->o.data=.func (docDef d.name d.params d.body d.scope pm cd doc)->s₁.heap.CodeRec cd d.name->mg d.name=some (.ref fa) ->
   s₁.heap.get? a=some {cls:=.type "list",data:=.seq vs.toArray}->IntsAre vs ns->ns.length<=n->s₁.gens=#[] ->
   codeAny (model l.prog w) callerA (.call (.ref fa) ⟨[.ref a],[]⟩) (λr s'=>r=.ok (.ret (.bool true))/\OldK s₁.heap s'.heap/\s'.os=s₁.os/\AllBare s'.gens) s₁) :
  WalkO q loose XP YP l.row.toRowW d [] (λf vs=>PySem.call f vs):=by
 intro w s₀ s₁ mg mb G Y fa o pm cd doc dV kV ho hd hcd hD hmg hg args vals as hpre hlay hrd hwl hlo
 obtain rfl:dV=.none:=Dflts.none hD hdf
 obtain rfl:kV=.none:=Dflts.noKw hD
 obtain⟨a,vs,ns,rfl,rfl,hobj,hints,hlen⟩:=uU hn hpre hwl
 refine enter_call (codeAny_mono (call w s₀ s₁ mg mb fa o pm cd doc a vs ns G Y ho (fd_plain hd) hcd hmg hobj hints hlen hg) λr s' hq=>?_)
 obtain⟨rfl,h2,h3,h4⟩:=hq
 exact⟨.inl ⟨.bool true,.bool true,[],rfl,λ_=>rfl,.bool true,uS l _,λ_=>⟨List.Pairwise.nil,λ_ hm=>(nomatch hm)⟩⟩,h2,h3,h4⟩
variable{prog:Program}{E:Value->Shared->Prop}{K:Frag}
noncomputable def ledger(h:Heap)(L d:Addr):List (Addr×Obj):=(List.range h.objs.size).filterMap λa=>if a=L\/a=d then none else(h.get? a).map λo=>(a,o)
end Att
section
open PySem PySem.Spec PyProof.Rows
namespace L2
theorem gZ:∀{vs:List Value} {ns:List Int},IntsAre vs ns->Vals (ns.map V.int) vs
 |_,_,.nil=>.nil
 |_,_,.cons n t h=>.cons ⟨t,rfl⟩ (gZ h)
noncomputable section
def Only(H:Hp):Prop:=∀b,H b=none\/∃o xs,H b=some (.frz o (.lst xs))
theorem vZ{mb:Str->Option Value}{k:Nat}{fa:Addr}{x:Str}{s₁:Shared}{vs:List Value}
  (KX:K.In s₁.heap)(hns:s₁.heap.Ns mainGlobals mg)(hb:s₁.heap.Ns builtinsNs mb)(hbb:∀x:Str,x≠"__name__"->mb x=bootBuiltins x)(hlim:s₁.heap.NoLimit)(hg:s₁.gens=#[])
  (ha:s₁.heap.get? a=some {cls:=.type "list",data:=.seq vs.toArray})(hi:IntsAre vs ns)(hl:ns.length<=sizeLine)(hr:Room k callerA)
  (F:∀base:Heap,K.In base->base.Ns mainGlobals mg->FnOk P w K mg base CX k fa fd [x] sp)(hbind:∀(s:Shared) (u:Value),BindsTo s fd ⟨[u],[]⟩ [(x,u)])
  (hsp:∀H:Hp,Only H->SqL K H a (ns.map V.int)->sp [.ref a] H (λv _=>v=.bl true) λ_ _ _=>False)
  (hCX:∀H e s',CX [] H s₁ (λ_ _ _=>False) e s'->False) :
  codeAny (model P w) callerA (.call (.ref fa) ⟨[.ref a],[]⟩) (λr s'=>r=.ok (.ret (.bool true))/\OldK s₁.heap s'.heap/\s'.os=s₁.os/\AllBare s'.gens) s₁:=by
 have rv:=gZ hi
 have lenV:=hi.length
 have core:∀H:Hp,Only H->SqL K H a (ns.map V.int)->HOk P w H s₁.heap->(∀b,H b≠none->b=a)->(H a≠none->K.lookup a=none) ->
   codeAny (model P w) callerA (.call (.ref fa) ⟨[.ref a],[]⟩) (λr s'=>r=.ok (.ret (.bool true))/\OldK s₁.heap s'.heap/\s'.os=s₁.os/\AllBare s'.gens) s₁:=by
  intro H hO hS hok hA hK
  have base_of:∀{b:Addr} {o:Obj},s₁.heap.get? b=some o->H b=none->(hidT s₁.heap H).get? b=some o:=λe n=>wT e n
  have noA:∀{b:Addr} {o:Obj} {es:Array DictEntry} {ep:Nat},s₁.heap.get? b=some o->o.data=.dict es ep->H b=none:=λ{b o es ep} e d=>by
   cases q:H b with
   |none=>rfl
   |some u =>
    have e':b=a:=hA b (by rw[q];simp)
    subst e'
    rw[ha]at e;cases e
    have d':Data.seq vs.toArray _=Data.dict es ep:=d
    cases d'
  have nsK:∀{b:Addr} {m:Str->Option Value},s₁.heap.Ns b m->(hidT s₁.heap H).Ns b m:=λ{b m} ⟨o,es,ep,e,d,r⟩=>⟨o,es,ep,base_of e (noA e d),d,r⟩
  have hKb:K.In (hidT s₁.heap H):=λb o e=>base_of (KX b o e) (by
   cases q:H b with
   |none=>rfl
   |some u =>
    have e':b=a:=hA b (by rw[q];simp)
    subst e'
    rw[hK (by rw[q];simp)]at e;cases e)
  have hM:Mod K mg (hidT s₁.heap H):=⟨hKb,nsK hns,⟨mb,nsK hb,hbb⟩,let⟨mc,h1,h2⟩:=hlim;⟨mc,nsK h1,h2⟩⟩
  have e0:Env0 P w K mg (hidT s₁.heap H) callerA [] s₁ H:=⟨rfl,hM,λb o e=>zF e,Nat.le_of_eq (vB _ _),trivial,λb hb=>absurd (show b∈([]:List Addr)from hb) (by simp),hok,.of_eq hg⟩
  refine codeAny_mono ((F _ hKb (nsK hns)).run callerA [] s₁ H ⟨[.ref a],[]⟩ [.ref a] [.ref a] _ _ hr e0 (hbind s₁ (.ref a)) (.cons rfl .nil) (hsp H hO hS)) λr s' h=>?_
  cases r with
  |error e=>exact(hCX H e s' h).elim
  |ok fl =>
   cases fl with
   |next=>exact False.elim h
   |brk=>exact False.elim h
   |cont=>exact False.elim h
   |ret u =>
    obtain⟨v,H',os,bare,un,hok',r',q⟩:=h
    have q':v=.bl true:=q
    subst q'
    obtain rfl:u=Value.bool true:=r'
    refine⟨rfl,OldK.of_keep λb o e=>?_,os,bare⟩
    cases q:H b with
    |none=>exact un.keep b o e q (by intro z;exact absurd (show b∈([]:List Addr)from z) (by simp)) (by simp)
    |some u =>
     rcases hO b with z|⟨ob,xs,z⟩
     ·rw[q]at z;cases z
     ·have z2:=un.frzs b ob _ z
      obtain⟨e1,_⟩:=hok b _ z
      obtain⟨e2,_⟩:=hok' b _ z2
      rw[e]at e1;cases e1
      exact e2
 cases hk:K.lookup a with
 |some o =>
  have e:=KX a o hk
  rw[ha]at e
  cases e
  refine core (λ_=>none) (λ_=>.inl rfl) (.inr ⟨_,vs.toArray,_,hk,rfl,rfl,rfl,by rw[aAG,lenV];exact hl,by simpa using rv⟩) (λb u z=>by have z':(none:Option HO)=some u:=z;cases z') (λb z=>absurd rfl z) λz=>absurd rfl z
 |none =>
  refine core (λb=>if b=a then some (.frz {cls:=.type "list",data:=.seq vs.toArray} (.lst (ns.map V.int)))else none) (λb=>?_) (.inl (.inr ⟨{cls:=.type "list",data:=.seq vs.toArray},aAH rfl⟩)) (λb u z=>?_) (λb z=>?_) λ_=>hk
  ·by_cases hb:b=a
   ·exact .inr ⟨_,_,aAH hb⟩
   ·exact .inl (aAJ hb)
  ·by_cases hb:b=a
   ·have z':=(aAH hb).symm.trans z
    cases z'
    subst hb
    exact⟨ha,by rw[aAL];exact hl,vs,_,rv,ha⟩
   ·have z':=(aAJ hb).symm.trans z
    cases z'
  ·by_cases hb:b=a
   ·exact hb
   ·exact absurd (aAJ hb) z
abbrev KOf(_:K.In h):Frag:=K
theorem tE{l:PySem.W.OpenLaw}{n k:Nat}{q:Program}{d:DefRec}{K:Params->Frag}{CX:World->CXT}{sp:World->Sp}
  (hn:l.most=some n)(hn2:n<=sizeLine)(hdf:d.params.defaults=[])(hr:Room k callerA)
  (hY:∀(w:World) (h:Heap),YP w h->(K w.params).In h)
  (F:∀(w:World) (mg:Str->Option Value) (fa:Addr) (h:Heap),(K w.params).In h->h.Ns mainGlobals mg->mg d.name=some (.ref fa) ->
   ∃fd:FuncData,(∀(s:Shared) (u:Value),BindsTo s fd ⟨[u],[]⟩ [(x,u)]) /\
    ∀base:Heap,(K w.params).In base->base.Ns mainGlobals mg->FnOk l.prog w (K w.params) mg base (CX w) k fa fd [x] (sp w))
  (hsp:∀(w:World) (H:Hp) (a:Addr) (ns:List Int),ns.length<=n->Only H->SqL (K w.params) H a (ns.map V.int)->sp w [.ref a] H (λv _=>v=.bl true) λ_ _ _=>False)
  (hCX:∀(w:World) (H:Hp) (s:Shared) (e:Value) (s':Shared),CX w [] H s (λ_ _ _=>False) e s'->False) :
  PySem.W.WalkO q loose XP YP l.row.toRowW d [] (λf vs=>PySem.call f vs):=by
 refine Att.attach_call hn hdf λw s₀ s₁ mg mb fa o pm cd doc a vs ns G Y ho hd hcd hmg hobj hints hlen hg=>?_
 have KX:=hY w _ Y
 obtain⟨fd,hb,hF⟩:=F w mg fa _ KX G.T.g hmg
 exact vZ KX G.T.g G.T.b G.T.builtins G.T.nolimit hg hobj hints (aBL hlen hn2) hr hF hb (λH hO hS=>hsp w H a ns hlen hO hS) λH e s'=>hCX w H s₁ e s'
def defArgs(s:Stmt):Arguments:=match s with
 |.FunctionDef _ a _ _ _ _ _ _ _ _=>a
 |_=>{posonlyargs:=[],args:=[],vararg:=none,kwonlyargs:=[],kw_defaults:=[],kwarg:=none,defaults:=[]}
def defBody(s:Stmt):List Stmt:=match s with
 |.FunctionDef _ _ b _ _ _ _ _ _ _=>b
 |_=>[]
def defScope(s:Stmt):Scope:=match s with
 |.FunctionDef _ _ _ _ _ _ sc _ _ _=>sc
 |_=>{kind:=.function,names:=[],isGenerator:=false,isCoroutine:=false}
abbrev CX0:CXT:=λ_ _ _ _ _ _=>False
abbrev E0:XK:=λ_ _ _=>False
end
theorem pass0:Passes CX0 X E0:=λ_ _ _ _ _ _ _ h=>h.elim
structure Fun(K:Frag)(x qual:Str)(st:Stmt)(f:Addr)(fd:FuncData):Prop where
 ex:∃(oc:Value) (od:Option Addr) (kV doc pm:Value) (an:Option Addr) (cdv ct:Value) (osl:Array (Option Value)),
  fd=fnOf x qual (defArgs st) (defBody st) (defScope st) .none kV doc pm an cdv ct/\K.lookup f=some ⟨oc,od,.func fd,osl⟩/\codeIn K cdv qual=true
 kp:keepIn K (.ref f)=true
variable{K:Frag}{f:Addr}
theorem Fun.ok{k:Nat}(F:Fun K x qual st f fd)(S:FnScope N ps (defScope st))(len:∀vs H Q E,sp vs H Q E->vs.length=ps.length)
  (hbody:∀(cdv:Value) (A:Around) (outer:List Env) (s:Shared) (H:Hp) (vs:List V) (Q:VK) (E:XK),Room k (A.deeper (envOfC qual (defScope st) s.heap.objs.size f cdv))->sp vs H Q E ->
   ∃t,PSs (cxOf CX0 P w K mg base N qual (defScope st) f cdv A outer s H E).nox (defBody st) t/\t {nx:=λ_ H'=>Q .non H',rt:=Q} (start N vs) H):FnOk P w K mg base CX0 (k+1) f fd ps sp:=by
 obtain⟨oc,od,kV,doc,pm,an,cdv,ct,osl,rfl,lk,hcd⟩:=F.ex
 refine aEn lk hcd S len λA outer s H vs Q E hr hsp=>?_
 obtain⟨t,h,q⟩:=hbody cdv A outer s H vs Q E hr hsp
 exact⟨t,h.nox,q⟩
theorem Fun.binds(F:Fun K x qual st f fd)
  (h:∀(kV doc pm:Value) (an:Option Addr) (cdv ct:Value) (us:List Value),us.length=ps.length->bindArgs (fnOf x qual (defArgs st) (defBody st) (defScope st) .none kV doc pm an cdv ct) ⟨us,[]⟩=pure (ps.zip us)):Binds K fd ps []:=by
 obtain⟨oc,od,kV,doc,pm,an,cdv,ct,osl,rfl,lk,hcd⟩:=F.ex
 exact .all (h kV doc pm an cdv ct)
theorem aM{oc:Value}{od an:Option Addr}{kV doc pm cdv ct:Value}(l:K.lookup f=some ⟨oc,od,.func (fnOf x qual (defArgs st) (defBody st) (defScope st) .none kV doc pm an cdv ct),osl⟩)
  (c:codeIn K cdv qual=true)(k:keepIn K (.ref f)=true):Fun K x qual st f (fnOf x qual (defArgs st) (defBody st) (defScope st) .none kV doc pm an cdv ct):=⟨⟨oc,od,kV,doc,pm,an,cdv,ct,osl,rfl,l,c⟩,k⟩
noncomputable def Same(H H':Hp):Prop:=∀b o,H b=some o->H' b=some o
theorem Same.trans(a:Same H H1)(b:Same H1 H2):Same H H2:=λc o h=>b c o (a c o h)
theorem Same.free(e:Same H H')(h:H' l=Option.none):H l=Option.none:=by
 cases q:H l with
 |none=>rfl
 |some o =>
  rw[e l o q]at h
  cases h
theorem Same.seq{xs:List V}(e:Same H H')(h:SqL K H a xs):SqL K H' a xs:=by
 rcases h with(h|⟨o,h⟩)|h
 ·exact .inl (.inl (e _ _ h))
 ·exact .inl (.inr ⟨o,e _ _ h⟩)
 ·exact .inr h
end L2
set_option maxHeartbeats 4000000
namespace L2
variable{tg:Expr}
noncomputable def CDivW(_ j:Int):Prop:=0 < j/\j < 18446744073709551616
variable{n:Nat}
theorem uP(h:n < 18446744073709551616):n.log2 < 9000:=by
 by_cases h0:n=0
 ·subst h0;decide
 ·have:n.log2 < 64:=(Nat.log2_lt h0).2 (by simpa using h)
  lia
theorem xM:OpR X (binaryOp .FloorDiv) (rI CDivW λi j=>.int (i / j)):=opI λi j _ _ _ _ _ hc q=>by
 have h1:(0:Int) < j:=hc.1
 have h2:j < 18446744073709551616:=hc.2
 exact floordiv_int (by lia) (by rw[Int.fdiv_eq_ediv_of_nonneg i (by lia)];exact q) (.inl (PyProof.noPylong_of_log2 (uP (by lia))))
noncomputable def Itv(K:Frag)(a:Addr)(xs:List V):It :=
 ⟨λi H=>SqL K H a xs/\i < xs.length,λi H x H'=>H'=H/\xs[xs.length - 1 - i]?=some x,λi _=>xs.length<=i⟩
theorem wL(a it:Addr)(xs:List V):Turn P w K tg (Itv K a xs) [it] it (λi h=>i<=xs.length/\h.IsRevIter it a ((xs.length:Int) - 1 - (i:Int)))where
 mem:=by simp
 obj:=λi h st b hb=>by
  have e:b=it:=by simpa using hb
  subst e
  obtain⟨o,e,c,d⟩:=st.2
  exact⟨o,e,λv z=>by rw[d]at z;cases z⟩
 keep:=λi h h' st k=>⟨st.1,st.2.at λo e=>k it (by simp) o e⟩
 item:=by
  intro X hP hw hK hc i pins s σ H E I hf st hg
  subst hP hw hK
  obtain⟨hq,hx⟩:=hg
  obtain⟨its,rv,p,hz⟩:=I.list hq
  have hlt:xs.length - 1 - i < xs.length:=by lia
  have hx':xs[xs.length - 1 - i]?=some xs[xs.length - 1 - i]:=aBK hlt
  obtain⟨u,hu,ru⟩:=rv.get hx'
  obtain⟨f0,f1,f2,f3,f4,f5⟩:=hf it (by simp)
  have st2:=st.2
  have e1:(xs.length:Int) - 1 - (i:Int)=((xs.length - 1 - i:Nat):Int):=by lia
  rw[e1]at st2
  refine wpAny_pyNext_rev_item st2 p.isList (x:=u) (by simpa using hu) λh' st' sb=>?_
  have I1:Inv X pins σ H {s with heap:=h'}:=I.turned (t':=s.toks) (λb o hb e=>(sb.2 b hb).trans e) f0 f1 f3 f4 f5
  have e2:((xs.length - 1 - i:Nat):Int) - 1=(xs.length:Int) - 1 - ((i+1:Nat):Int):=by lia
  rw[e2]at st'
  obtain⟨o,e,c,d⟩:=id st'
  exact⟨u,rfl,pE (s:={s with heap:=h'}) e c d (by decide) ⟨_,H,I1,ru,⟨rfl,hx'⟩,⟨hx,st'⟩,λb hb=>(hf b hb).1⟩⟩
 done:=by
  intro X hP hw hK hc i pins s σ H E I hf st hg
  subst hP hw hK
  have hx:xs.length<=i:=hg
  obtain⟨f0,f1,f2,f3,f4,f5⟩:=hf it (by simp)
  have st2:=st.2
  have h1:=st.1
  have e1:(xs.length:Int) - 1 - (i:Int) = -1:=by lia
  rw[e1]at st2
  exact wpAny_pyNext_rev_end (I.ok.hd hc) st2 λh' eb=>⟨rfl,I.turned (t':=s.toks) (λb o hb e=>eb b o hb e) f0 f1 f3 f4 f5⟩
 self:=λ_ _ _ _ _ st h=>wpAny_pyIter_revIter st.2 h
theorem wO:bootBuiltins "reversed"=some (.type "reversed"):=by first|rfl|kernel_rfl
inductive IntsE:List Expr->List Int->Prop where
 |nil:IntsE [] []
 |cons {i:Int} {j:Nat} {p:Pos} {r:List Expr} {ns:List Int} (h:IntsE r ns):IntsE (.Constant (.int i) j p::r) (i::ns)
theorem yH{es:List Expr}(h:IntsE es ns):PA X es (λ_ H Q=>Q (ns.map V.int) H):=by
 induction h with
 |nil=>exact fJ
 |cons h ih=>exact cY wU ih
structure JE(X:Cx)(e:Expr)(t:TE):Prop where
 h:PE X e t
structure JS(X:Cx)(st:Stmt)(t:TS):Prop where
 h:PS X st t
structure JSs(X:Cx)(sts:List Stmt)(t:TS):Prop where
 h:PSs X sts t
theorem gQ{env:Env}{f:Str×NameKind->List (Str×Addr)->Sem (ForInStep (List (Str×Addr)))}
  (hf:∀y acc c,y.2=NameKind.free->env.cells.lookup y.1=some c->f y acc=pure (.yield ((y.1,c)::acc)))(hf':∀y acc,y.2≠NameKind.free->f y acc=pure (.yield acc)) :
  ∀(names:List (Str×NameKind)) (acc:List (Str×Addr)),(∀y∈names,y.2=NameKind.free->∃c,env.cells.lookup y.1=some c)->(∀x c,acc.lookup x=some c->env.cells.lookup x=some c) ->
   ∃cl,forIn names acc f=(pure cl:Sem (List (Str×Addr)))/\(∀x c,cl.lookup x=some c->env.cells.lookup x=some c)/\(∀y∈names,y.2=NameKind.free->∃c,cl.lookup y.1=some c)/\(∀x c,acc.lookup x=some c->∃c',cl.lookup x=some c')
 |[],acc,_,ha=>⟨acc,rfl,ha,(λ_ h=>nomatch h),λx c h=>⟨c,h⟩⟩
 |y::r,acc,hn,ha=>by
  by_cases hy:y.2=NameKind.free
  ·obtain⟨c,hc⟩:=hn y aCT hy
   have ha':∀x d,((y.1,c)::acc).lookup x=some d->env.cells.lookup x=some d:=λx d h=>by
    rw[aCC]at h
    cases e:x==y.1 with
    |true =>
     rw[e]at h
     have:x=y.1:=by simpa using e
     subst this
     cases h
     exact hc
    |false=>rw[e]at h;exact ha x d h
   obtain⟨cl,h1,h2,h3,h4⟩:=gQ hf hf' r _ (λz hz=>hn z (aBS _ hz)) ha'
   have hyl:∃c',cl.lookup y.1=some c':=h4 y.1 c (by rw[aCC];simp)
   refine⟨cl,?_,h2,λz hz hzf=>?_,λx d hx=>?_⟩
   ·rw[aDP,hf y acc c hy hc]
    exact h1
   ·rcases aBE.mp hz with rfl|hz
    ·exact hyl
    ·exact h3 z hz hzf
   ·by_cases e:x=y.1
    ·rw[e];exact hyl
    ·have e':(x==y.1)=false:=by simpa using e
     exact h4 x d (by rw[aCC,e'];exact hx)
  ·obtain⟨cl,h1,h2,h3,h4⟩:=gQ hf hf' r acc (λz hz=>hn z (aBS _ hz)) ha
   refine⟨cl,?_,h2,λz hz hzf=>?_,h4⟩
   ·rw[aDP,hf' y acc hy]
    exact h1
   ·rcases aBE.mp hz with rfl|hz
    ·exact absurd hzf hy
    ·exact h3 z hz hzf
theorem iH{scope:Scope}(h:∀y∈scope.names,y.2=NameKind.free->∃c,env.cells.lookup y.1=some c) :
  ∃cl,closureFor scope env=pure cl/\(∀x c,cl.lookup x=some c->env.cells.lookup x=some c)/\(∀y∈scope.names,y.2=NameKind.free->∃c,cl.lookup y.1=some c):=by
 obtain⟨cl,h1,h2,h3,_⟩:=gQ (env:=env) (f:=λx cs=>match x with
   |(name,kind)=>if(kind==NameKind.free)=true then do
     let a <- cellOf env name
     pure (ForInStep.yield ((name,a)::cs))
     else pure (ForInStep.yield cs)) (λy acc c hy hc=>by
    obtain⟨n,k⟩:=y
    simp only at hy hc
    subst hy
    simp only[beq_self_eq_true,aDF,cellOf,hc]
    rfl) (λy acc hy=>by
    obtain⟨n,k⟩:=y
    simp only at hy
    have:(k==NameKind.free)=false:=by simpa using hy
    simp only[this,aDM,aFC]) scope.names [] h (λ_ _ z=>by simp at z)
 refine⟨cl,?_,h2,h3⟩
 show(forIn scope.names [] _ >>= λcs=>pure cs)=pure cl
 exact(congrArg (· >>= λcs=>(pure cs:Sem (List (Str×Addr)))) h1).trans rfl
theorem eY{env:Env}(hk:env.scope.kind=.function):∀{names:List (Str×NameKind)} {x:Str},names.lookup x=some .free->env.kindOf x=some .cell ->
  (names.map λ(n,k)=>if(k==NameKind.free&&env.scope.kind==.function&&env.kindOf n==some .cell)then(n,NameKind.cell)else(n,k)).lookup x=some .cell
 |[],_,h,_=>by simp at h
 |(n,k)::r,x,h,hx=>by
  rw[aAQ]
  rw[aCC]at h
  cases e:x==n with
  |true =>
   rw[e]at h
   have:x=n:=by simpa using e
   subst this
   cases h
   simp[hk,hx,aCC]
  |false =>
   rw[e]at h
   have ih:=eY hk h hx
   simp only
   split <;> (rw[aCC,e];exact ih)
theorem dZ{env:Env}:∀{names:List (Str×NameKind)} {x:Str} {k':NameKind},
  (names.map λ(n,k)=>if(k==NameKind.free&&env.scope.kind==.function&&env.kindOf n==some .cell)then(n,NameKind.cell)else(n,k)).lookup x=some k'->k'=.cell\/k'=.free ->
  ∃k,(x,k)∈names/\(k=.cell\/k=.free)
 |[],_,_,h,_=>by simp at h
 |(n,k)::r,x,k',h,hk=>by
  rw[aAQ]at h
  simp only at h
  cases e:x==n with
  |true =>
   have:x=n:=by simpa using e
   subst this
   refine⟨k,aCT,?_⟩
   split at h
   ·rename_i hc
    simp only[aCE]at hc
    exact .inr (by simpa using hc.1.1)
   ·rw[aCC,e]at h
    cases h
    exact hk
  |false =>
   have h':(r.map λ(n,k)=>if(k==NameKind.free&&env.scope.kind==.function&&env.kindOf n==some .cell)then(n,NameKind.cell)else(n,k)).lookup x=some k':=by
    split at h <;> (rw[aCC,e]at h;exact h)
   obtain⟨k1,h1,h2⟩:=dZ h' hk
   exact⟨k1,aBS _ h1,h2⟩
noncomputable def compCx(X:Cx)(Nc:List Str)(scope:Scope)(cl:List (Str×Addr))(C:Addr)(fp:List Addr)(pins:List (Addr×Obj))(s₂:Shared)(H₂:Hp):Cx where
 prog:=X.prog
 w:=X.w
 K:=X.K
 mg:=X.mg
 base:=X.base
 A:=X.A
 N:=Nc
 s₀:=s₂
 H₀:=H₂
 env:=compEnvC scope cl C X.env
 outer:=X.stack
 stack:=X.stack
 ex:=fp
 fn:=λ_=>false
 calm:=true
 pn:=X.pn++pins
 xe:=λ_ _=>False
structure CompOk(N0:List Str)(sc0:Scope)(scope:Scope)(Nc:List Str)(js:List (Option Nat)):Prop where
 kind:scope.kind=.function
 nocell:∀y∈scope.names,y.2≠.cell
 names:∀y∈scope.names,y.2=.local->scope.names.lookup y.1=some .local
 free:∀y∈scope.names,y.2=.free->sc0.names.lookup y.1=some .cell
 len:js.length=Nc.length
 slots:∀p∈Nc.zip js,∀j∈p.2,N0[j]?=some p.1/\scope.names.lookup p.1=some .free/\sc0.names.lookup p.1=some .cell
noncomputable def outσ(js:List (Option Nat))(σ:St):St:=js.map λo=>o.bind λj=>(σ[j]?).join
variable{σ:St}{H₂:Hp}{scope:Scope}{js:List (Option Nat)}
theorem zK(I:Inv X pins σ H₂ s₂)(hc:X.calm=true)(T:CompOk X.N X.env.scope scope Nc js)(hcl:∀x c,cl.lookup x=some c->X.env.cells.lookup x=some c)(hfr:∀y∈scope.names,y.2=.free->∃c,cl.lookup y.1=some c)
  (hC:s₂.heap.objs.size<=C)(hf:∀b∈fp,FpOk X pins H₂ b)(ho:∀b∈fp,∃o,s₂.heap.get? b=some o):(compCx X Nc scope cl C fp pins s₂ H₂).Ok where
 mod:=I.ok.mod
 kind:=T.kind
 glob:=I.ok.glob
 blt:=I.ok.blt
 above:=hC
 inj:=λx y c h1 h2=>I.ok.inj x y c (hcl x c h1) (hcl y c h2)
 has:=λx hx=>by
  have hx':∃k',(relabel scope X.env).names.lookup x=some k'/\(k'=.cell\/k'=.free):=by
   rcases hx with h|h
   ·exact⟨_,h,.inl rfl⟩
   ·exact⟨_,h,.inr rfl⟩
  obtain⟨k',h1,h2⟩:=hx'
  obtain⟨k,h3,h4⟩:=dZ h1 h2
  rcases h4 with rfl|rfl
  ·exact absurd rfl (T.nocell _ h3)
  ·exact hfr _ h3 rfl
 cab:=λx c h=>by cases h
 hd:=λ_=>I.ok.hd hc
 frames:=I.ok.frames
 stk:=.inl rfl
 exf:=λb hb=>by
  obtain⟨f0,f1,f2,f3,f4,f5⟩:=hf b hb
  obtain⟨o,e⟩:=ho b hb
  exact⟨aBI (aAT (aAK e) hC),λx c h=>f4 x c (hcl x c h)⟩
 bs:=λb o e=>I.bs b o e
 bsz:=aBL I.ok.bsz I.sz
 noex:=λb o e hb=>by
  obtain⟨f0,f1,f2,f3,f4,f5⟩:=hf b hb
  rcases f3 with z|z
  ·exact I.ok.noex b o e z
  ·exact absurd (aAT (aAK (I.ok.bs b o e).1) z) (aEE _)
 exfs:=λb hb z=>by
  obtain⟨f0,f1,f2,f3,f4,f5⟩:=hf b hb
  rcases aBE.mp (I.stkSub b z)with q|q
  ·exact f1 q
  ·exact f2 q
 funs:=I.stack
 frf:=I.stkFree
theorem rW(I:Inv X pins σ H₂ s₂)(hc:X.calm=true)(T:CompOk X.N X.env.scope scope Nc js)(hcl:∀x c,cl.lookup x=some c->X.env.cells.lookup x=some c)(hfr:∀y∈scope.names,y.2=.free->∃c,cl.lookup y.1=some c)
  (hf:∀b∈fp,FpOk X pins H₂ b)(ho:∀b∈fp,∃o,s₂.heap.get? b=some o){h₁:Heap}{m:Str->Option Value}{tk:Nat}(hC:C=s₂.heap.objs.size+1)(old:∀b u,s₂.heap.get? b=some u->h₁.get? b=some u)
  (hns:h₁.Ns C m)(hD:h₁.get? s₂.heap.objs.size=some {cls:=.type "list",data:=.seq #[] n}) :
  Inv (compCx X Nc scope cl C fp pins s₂ H₂) [] (outσ js σ) (upd H₂ s₂.heap.objs.size (.lst [])) {s₂ with heap:=h₁,toks:=tk}:=by
 have lt:∀b o,s₂.heap.get? b=some o->b < s₂.heap.objs.size:=λb o e=>aAK e
 have hle:s₂.heap.objs.size<=C:=by rw[hC];exact aGC _
 have cellc:∀x c,cl.lookup x=some c->c < s₂.heap.objs.size:=λx c h=>by
  obtain⟨v,o,e,_⟩:=I.cell x c (hcl x c h)
  exact lt c o e
 have new:ObjOk X.prog X.w (upd H₂ s₂.heap.objs.size (.lst [])) h₁ s₂.heap.objs.size (.lst []):=⟨aEW _,[],n,.nil,hD⟩
 refine⟨zK I hc T hcl hfr hle hf ho,rfl,I.bare,?_,⟨m,hns,λi x v e1 e2 e3=>?_⟩,λx c h=>?_,?_,λx c h=>?_,λp hp=>?_,I.hok.laid old (aAF _) new,?_⟩
 ·exact Un.laid old (aAF _) (I.hok.fresh (aAF _))
 ·have e1:Nc[i]?=some x:=e1
  have e2':∃j,js[i]?=some (some j)/\σ[j]?=some (some v):=by
   unfold outσ at e2
   rw[aAO]at e2
   cases hj:js[i]? with
   |none=>rw[hj]at e2;cases e2
   |some o =>
    rw[hj]at e2
    cases o with
    |none=>cases e2
    |some j =>
     refine⟨j,rfl,?_⟩
     have e2:(σ[j]?).join=some v:=Option.some.inj e2
     cases hq:σ[j]? with
     |none=>rw[hq]at e2;cases e2
     |some o=>rw[hq]at e2;exact congrArg some e2
  obtain⟨j,hj,hv⟩:=e2'
  have hz:(x,some j)∈Nc.zip js:=by
   refine aAU (i:=i) ?_
   rw[List.getElem?_zip_eq_some]
   exact⟨e1,hj⟩
  obtain⟨t1,t2,t3⟩:=T.slots _ hz j rfl
  obtain⟨m0,hn0,hl0⟩:=I.loc
  obtain⟨u,ru,lk⟩:=hl0 j x v t1 hv (.inr (.inl t3))
  refine⟨u,ru,.inr ⟨.inl (eY I.ok.kind t2 t3),?_⟩⟩
  rcases lk with⟨k,_⟩|⟨_,c,hcc,hcell⟩
  ·have k:X.env.scope.names.lookup x=some .local:=k
   rw[t3]at k;cases k
  ·have hm:(x,NameKind.free)∈scope.names:=by
    have:∀(l:List (Str×NameKind)),l.lookup x=some .free->(x,NameKind.free)∈l:=λl=>by
     induction l with
     |nil=>intro h;simp at h
     |cons y r ih =>
      obtain⟨n',k'⟩:=y
      intro h
      rw[aCC]at h
      cases e:x==n' with
      |true =>
       rw[e]at h
       have:x=n':=by simpa using e
       subst this
       cases h
       exact aCT
      |false=>rw[e]at h;exact aBS _ (ih h)
    exact this _ t2
   obtain⟨c',hc'⟩:=hfr _ hm rfl
   have hc'':=hcl x c' hc'
   rw[hcc]at hc''
   cases hc''
   obtain⟨o,ho,hd⟩:=hcell
   exact⟨c,hc',o,old c o ho,hd⟩
 ·obtain⟨v,o,e,d⟩:=I.cell x c (hcl x c h)
  exact⟨v,o,old c o e,d⟩
 ·show upd H₂ _ _ C=none
  rw[aY (by rw[hC];exact aEK (Nat.lt_succ_self _))]
  exact I.hok.fresh hle
 ·show upd H₂ _ _ c=none
  rw[aY (aBI (cellc x c h))]
  exact I.freeC x c (hcl x c h)
 ·have hp:p∈X.pn++pins:=by
   have hp:p∈(X.pn++pins)++[]:=hp
   rwa[aFX]at hp
  obtain⟨e,n0,ne,nf,d⟩:=I.pin p hp
  have hlt:=lt _ _ e
  refine⟨old _ _ e,?_,?_,λz=>?_,d⟩
  ·show upd H₂ _ _ p.1=none
   rw[aY (aBI hlt)];exact n0
  ·show p.1≠C
   exact aBI (aAT hlt hle)
  ·rcases aBE.mp (I.stkSub _ z)with q|q
   ·exact ne q
   ·exact nf q
 ·show(outσ js σ).length=Nc.length
  unfold outσ
  rw[aAL]
  exact T.len
noncomputable section
def tTurns(J:It)(g:TG)(ti:TT)(te:TE)(D:Addr)(σ0:St)(H0:Hp)(Q:Hp->Prop):Prop :=
 ∃W:Nat->Nat->St->Hp->Prop,(∃m,W 0 m σ0 H0)/\∀i m σ' H',W i m σ' H' ->
  (J.stop i H'/\Q H')\/(J.go i H'/\∃Nn:St->Hp->Prop,(∀σ'' H'',Nn σ'' H''->∃m',m' < m/\W (i+1) m' σ'' H'') /\
   ∀x H'',J.yld i H' x H''->g x σ' H'' λσ2 H2=>ti σ2 H2 λok H3=>if ok=true then te σ2 H3 λy H4=>∃ys,H4 D=some (.lst ys)/\ys.length < sizeLine/\Nn σ2 (upd H4 D (.lst (ys++[y])))else Nn σ2 H3)
def tComp(js:List (Option Nat))(wi:TI)(g:TG)(ti:TT)(te:TE):TE:=λσ H Q=>wi σ H λJ H1=>∀D,H1 D=none->tTurns J g ti te D (outσ js σ) (upd H1 D (.lst [])) λH'=>Q (.ref D) H'
def PIf(X:Cx)(ifs:List Expr)(ti:TT):Prop :=
 ∀(pins:List (Addr×Obj)) (s:Shared) (σ:St) (H:Hp) (Q:Bool->Hp->Prop),Inv X pins σ H s->ti σ H Q ->
  wpAny (model X.prog X.w) X.A (forIn ifs true λc r=>if r=true then do let ok <- isTrue c X.env (eval c X.env);pure (ForInStep.yield ok)else pure (ForInStep.yield r)) (TP X pins σ Q) X.xe s
def tYes:TT:=λ_ H Q=>Q true H
end
theorem xY:PIf X [] tYes:=λ_ _ _ H _ I h=>wpAny_tests_nil ⟨H,I,h⟩
theorem zH{c:Expr}{tc:TT}(h:PT X c tc):PIf X [c] tc:=λpins s σ H Q I hq=>wpAny_tests_one (h pins s σ H Q I hq)
variable{E:Value->Shared->Prop}
theorem thnE{t:Sem α}{Q Q':α->Shared->Prop}{M:Model}{E0:Value->Shared->Prop}{s:Shared}(hE:∀e s,¬E0 e s)(h:wpAny M A t Q E0 s)(hQ:∀a s,Q a s->Q' a s):wpAny M A t Q' E s:=aCQ h hQ λe s z=>(hE e s z).elim
variable{ifs:List Expr}{J:It}{g:TG}{ti:TT}{D:Addr}{σ0:St}{H0:Hp}{Q:Hp->Prop}
theorem uL{Y:Cx}{iter elt:Expr}{fp:List Addr}{R:Result->Shared->Prop}{s:Shared}
  (hc:Y.calm=true)(hx:∀e s,¬Y.xe e s)(T:Turn Y.prog Y.w Y.K tg J fp it tn)(hg:PG Y tg g)(hi:PIf Y ifs ti)(he:PE Y elt te)
  (stat:∀H',(∀b∈fp,H' b=none)->∀b∈fp,FpOk Y [] H' b)(I0:Inv Y [] σ0 H0 s)(st0:tn 0 s.heap)(fr0:∀b∈fp,H0 b=none)(h:tTurns J g ti te D σ0 H0 Q)
  (hR:∀σ' H' s',Inv Y [] σ' H' s'->Q H'->R (.ok .next) s') :
  codeAny (model Y.prog Y.w) Y.A (.compLoop (.ListComp elt [⟨tg,iter,ifs,0⟩] scope pos) 0 (.ref it) (.ref D) Y.env) R s:=by
 obtain⟨W,⟨m0,w0⟩,turn⟩:=h
 refine codeAny_loop rfl (λn s'=>∃i σ' H',Inv Y [] σ' H' s'/\tn i s'.heap/\(∀b∈fp,H' b=none)/\W i n σ' H') (λn s' hI=>?_) m0 ⟨0,σ0,H0,I0,st0,fr0,w0⟩
 show wpAny _ Y.A ((compTurn (.ListComp elt [⟨tg,iter,ifs,0⟩] scope pos) 0 (.ref it) (.ref D) Y.env).onRaise (λx=>do noteFrame x Y.env;theTreesLotGoes x)) _ _ s'
 refine wpAny_noted ?_
 rw[compTurn_list]
 obtain⟨i,σ3,H3,I3,st3,fr3,w3⟩:=hI
 refine aAB (aGH (aAB ?_))
 rcases turn i n σ3 H3 w3 with⟨stop,qn⟩|⟨go,Nn,hN,step⟩
 ·refine aCQ (T.done Y rfl rfl rfl hc i [] s' σ3 H3 _ I3 (stat H3 fr3) st3 stop) (λr s4 ⟨hr,I4⟩=>?_) (λ_ _ h=>h)
  subst hr
  exact aAD (hR σ3 H3 s4 I4 qn)
 ·refine aCQ (T.item Y rfl rfl rfl hc i [] s' σ3 H3 _ I3 (stat H3 fr3) st3 go) (λr s4 ⟨u,hr,h4⟩=>?_) (λ_ _ h=>h)
  subst hr
  refine aAB (aCQ h4 (λ_ s5 ⟨x,H5,I5,r5,y5,st5,fr5⟩=>?_) λ_ _ h=>h)
  have I5':=I5.pinned (stat H5 fr5) (T.obj _ _ st5)
  refine aAB (thnE hx (hg _ s5 σ3 H5 x u _ I5' r5 (step x H5 y5)) λ_ s6 ⟨σ6,H6,I6,q6⟩=>?_)
  refine aAB (thnE hx (hi _ s6 σ6 H6 _ I6 q6) λok s7 ⟨H7,I7,q7⟩=>?_)
  have again:∀{σ7:St} {H7:Hp} {s7:Shared},Inv Y ([]++pinsAt fp s5.heap) σ7 H7 s7->Nn σ7 H7->∃m,m < n/\∃i σ' H',Inv Y [] σ' H' s7/\tn i s7.heap/\(∀b∈fp,H' b=none)/\W i m σ' H':=λ{σ7 H7 s7} I7 n7=>by
   obtain⟨m',hm,w7⟩:=hN σ7 H7 n7
   refine⟨m',hm,i+1,σ7,H7,I7.unpinned,T.keep _ _ _ st5 λb hb o e=>(I7.pin (b,o) (aBH _ (aBH _ (gC hb e)))).1,λb hb=>?_,w7⟩
   obtain⟨o,e,d⟩:=T.obj _ _ st5 b hb
   exact(I7.pin (b,o) (aBH _ (aBH _ (gC hb e)))).2.1
  cases ok with
  |false=>exact aAD ⟨rfl,again I7 q7⟩
  |true =>
   refine aAB (aAB (thnE hx (he _ s7 σ6 H7 _ I7 q7) λy s8 ⟨yv,H8,I8,r8,ys,hD,hz,n8⟩=>aAB ?_))
   refine thnE hx (mX _ s8 σ6 H8 (.ref D) [yv] (.ref D) [y] (λ_ H9=>Nn σ6 H9) I8 rfl (.cons r8 .nil) ⟨D,ys,yv,rfl,rfl,hD,hz,n8⟩) λ_ s9 ⟨_,H9,I9,_,q9⟩=>?_
   exact aAD (aAD ⟨rfl,again I9 q9⟩)
variable{iter elt:Expr}{js:List (Option Nat)}{wi:TI}
structure CompEnd(X:Cx)(pins:List (Addr×Obj))(σ:St)(H':Hp)(C:Addr)(s':Shared):Prop where
 inv:Inv X pins σ H' s'
 ns:∃m,s'.heap.Ns C m
 no:H' C=none
 ne:C≠X.env.locals
 ge:X.s₀.heap.objs.size<=C
 nc:∀x c,X.env.cells.lookup x=some c->c≠C
 np:∀p∈X.pn++pins,p.1≠C
theorem CompEnd.go{σ':St}{t:Shared}(e:CompEnd X pins σ H' C s')(I:Inv X pins σ' H' t)(hs:Heap.SameBut C t.heap h'):Inv X pins σ' H' {t with heap:=h'} :=
 I.turned (t':=t.toks) (it:=C) (λb o hb q=>(hs.2 b hb).trans q) e.no e.ne (.inr e.ge) e.nc e.np
theorem lF{pins:List (Addr×Obj)}{H₂:Hp}{s₂:Shared}{fp:List Addr}{cl:List (Str×Addr)}{RR:Value->Addr->Result->Shared->Prop}{Q':Addr->Hp->Prop}
  (hc:X.calm=true)(T:CompOk X.N X.env.scope scope Nc js)(hcl:∀x c,cl.lookup x=some c->X.env.cells.lookup x=some c)(hfr:∀y∈scope.names,y.2=.free->∃c,cl.lookup y.1=some c)
  (hg:∀cl C fp pins s₂ H₂,PG (compCx X Nc scope cl C fp pins s₂ H₂) tg g)(hi:∀cl C fp pins s₂ H₂,PIf (compCx X Nc scope cl C fp pins s₂ H₂) ifs ti)(he:∀cl C fp pins s₂ H₂,PE (compCx X Nc scope cl C fp pins s₂ H₂) elt te)
  (I2:Inv X pins σ H₂ s₂)(Tn:Turn X.prog X.w X.K tg J fp it tn)(st2:tn 0 s₂.heap)(f2:∀b∈fp,FpOk X pins H₂ b)
  (q:∀D,H₂ D=none->tTurns J g ti te D (outσ js σ) (upd H₂ D (.lst [])) (Q' D))
  (hRR:∀D C H' s',CompEnd X pins σ H' C s'->Q' D H'->RR (.ref D) C (.ok .next) s') :
  wpAny (model X.prog X.w) X.A (newList []) (λacc s₃=>wpAny (model X.prog X.w) X.A (newFunctionEnv scope X.env.globals cl [] X.env.qual none .none (some X.env)) (λcenv s₄ =>
   codeAny (model X.prog X.w) X.A (.compStart (.ListComp elt [⟨tg,iter,ifs,0⟩] scope pos) 0 (.ref it) acc {cenv with scope:=relabel scope X.env}) (RR acc cenv.locals) s₄) E s₃) E s₂:=by
 refine aBM (wpAny_newFunctionEnv T.nocell (by intro y hy;simp at hy) (λh₁ hns₁ hsb₁=>?_) T.kind)
 dsimp only at hns₁ hsb₁ ⊢
 generalize hH2:s₂.heap.push {cls:=.type "list",dict:=none,data:=.seq ([]:List Value).toArray}=Hx at hns₁ hsb₁ ⊢
 have hC:Hx.objs.size=s₂.heap.objs.size+1:=by rw[<- hH2,aAV]
 have below:∀b,b < s₂.heap.objs.size->b≠Hx.objs.size:=λb hb=>by rw[hC];exact aBI (Nat.lt_succ_of_lt hb)
 have old:∀b o,s₂.heap.get? b=some o->h₁.get? b=some o:=λb o e=>hsb₁.extBut b o (below b (aAK e)) (aAA _ (hH2▸aAA _ e))
 have hD:h₁.get? s₂.heap.objs.size=some {cls:=.type "list",data:=.seq #[]}:=hsb₁.extBut _ _ (by rw[hC];exact aBI (Nat.lt_succ_self _)) (aAA _ (hH2▸aAE _ rfl))
 have ho:∀b∈fp,∃o,s₂.heap.get? b=some o:=λb hb=>let⟨o,e,_⟩:=Tn.obj _ _ st2 b hb;⟨o,e⟩
 have hDn:H₂ s₂.heap.objs.size=none:=I2.hok.fresh (aAF _)
 have hle:s₂.heap.objs.size<=Hx.objs.size:=by rw[hC];exact aGC _
 have st1:tn 0 h₁:=Tn.keep _ _ _ st2 λb _ o e=>old b o e
 have fr1:∀b∈fp,upd H₂ s₂.heap.objs.size (.lst []) b=none:=λb hb=>by
  obtain⟨o,e⟩:=ho b hb
  rw[aY (aBI (aAK e))]
  exact(f2 b hb).1
 have stat:∀H',(∀b∈fp,H' b=none)->∀b∈fp,FpOk (compCx X Nc scope cl Hx.objs.size fp pins s₂ H₂) [] H' b:=λH' hn b hb=>by
  obtain⟨g0,g1,g2,g3,g4,g5⟩:=f2 b hb
  obtain⟨o,e⟩:=ho b hb
  refine⟨hn b hb,below b (aAK e),λz=>?_,.inl hb,λx c h=>g4 x c (hcl x c h),λp hp=>g5 p ?_⟩
  ·rcases aBE.mp (I2.stkSub b z)with y|y
   ·exact g1 y
   ·exact g2 y
  ·have hp:p∈(X.pn++pins)++[]:=hp
   rwa[aFX]at hp
 have loop:∀tk,codeAny (model X.prog X.w) X.A (.compLoop (.ListComp elt [⟨tg,iter,ifs,0⟩] scope pos) 0 (.ref it) (.ref s₂.heap.objs.size) (compEnvC scope cl Hx.objs.size X.env)) (RR (.ref s₂.heap.objs.size) Hx.objs.size) {s₂ with heap:=h₁,toks:=tk}:=λtk=>by
  refine uL (Y:=compCx X Nc scope cl Hx.objs.size fp pins s₂ H₂) rfl (λ_ _ z=>z) Tn (hg _ _ _ _ _ _) (hi _ _ _ _ _ _) (he _ _ _ _ _ _) stat
   (rW (tk:=tk) I2 hc T hcl hfr f2 ho hC old hns₁ hD) st1 fr1 (q _ hDn) λσ' H' s' I' qQ=>?_
  obtain⟨m,hm,_⟩:=I'.loc
  refine hRR _ _ H' s' ⟨?_,⟨m,hm⟩,I'.free,aEK (aAT I2.lt hle),aBL I2.sz hle,λx c h=>?_,λp hp=>?_⟩ qQ
  ·exact I2.call' (ch:=fp) I'.os I'.base I'.hok I'.bare λb hb=>let⟨g0,g1,g2,g3,g4,g5⟩:=f2 b hb;⟨g3,g1,g4,g5⟩
  ·obtain⟨v,o,e,_⟩:=I2.cell x c h
   exact below c (aAK e)
  ·exact below _ (aAK (I2.pin p hp).1)
 exact codeAny_compStart_list (loop _) (Tn.self _ _ _ _ _ st1 (loop _))
theorem zN(hc:X.calm=true)(T:CompOk X.N X.env.scope scope Nc js)(hit:PI X tg iter wi)
  (hg:∀cl C fp pins s₂ H₂,PG (compCx X Nc scope cl C fp pins s₂ H₂) tg g)(hi:∀cl C fp pins s₂ H₂,PIf (compCx X Nc scope cl C fp pins s₂ H₂) ifs ti)(he:∀cl C fp pins s₂ H₂,PE (compCx X Nc scope cl C fp pins s₂ H₂) elt te)
  (hs:∀x,foldedSetIterable iter X.env x=pure x:=by intro _;rfl):PE X (.ListComp elt [⟨tg,iter,ifs,0⟩] scope pos) (tComp js wi g ti te):=by
 intro pins s σ H Q I h
 rw[eval_ListComp]
 obtain⟨cl,hcl0,hcl,hfr⟩:=iH (scope:=scope) (env:=X.env) (λy hy hf=>I.ok.has y.1 (.inl (T.free y hy hf)))
 refine wpAny_comprehension_free (use:=none) rfl hs hcl0 T.kind T.names (thn (hit pins s σ H _ I h) λxv s1 h1=>thn h1 λitv s2 h2=>?_)
 obtain⟨it,fp,tn,J,H2,e,I2,Tn,st2,f2,q⟩:=h2
 subst e
 refine lF (RR:=λacc C=>compPost (model X.prog X.w) X.A X.xe none (EP X pins σ Q) acc C) hc T hcl hfr hg hi he I2 Tn st2 f2 q λD C H' s' ce qD=>?_
 obtain⟨m,hm⟩:=ce.ns
 exact⟨m,hm,λh' hs'=>⟨.ref D,H',ce.go ce.inv hs',rfl,qD⟩⟩
theorem yF{y:Str}{py spos:Pos}(hN:X.N.Nodup)(hyi:X.N[i]?=some y)(hy:X.env.scope.names.lookup y=some .local)(hc:X.calm=true)(T:CompOk X.N X.env.scope scope Nc js)(hit:PI X tg iter wi)
  (hg:∀cl C fp pins s₂ H₂,PG (compCx X Nc scope cl C fp pins s₂ H₂) tg g)(hi:∀cl C fp pins s₂ H₂,PIf (compCx X Nc scope cl C fp pins s₂ H₂) ifs ti)(he:∀cl C fp pins s₂ H₂,PE (compCx X Nc scope cl C fp pins s₂ H₂) elt te)
  (hsw:swapsWith (.ListComp elt [⟨tg,iter,ifs,0⟩] scope pos) (some (.Name y py)) spos.line X.env=pure true:=by rfl)
  (hs:∀x,foldedSetIterable iter X.env x=pure x:=by intro _;rfl):PS X (.Assign [.Name y py] (.ListComp elt [⟨tg,iter,ifs,0⟩] scope pos) spos) (tAsg (tComp js wi g ti te) (gName i)):=by
 intro pins s σ H D0 I h
 rw[exec_Assign_Name_used _ _ _ _ hsw]
 obtain⟨cl,hcl0,hcl,hfr⟩:=iH (scope:=scope) (env:=X.env) (λy hy hf=>I.ok.has y.1 (.inl (T.free y hy hf)))
 refine aAB (aGH (aAB ?_))
 show wpAny _ X.A (do let _ <- comprehension (.ListComp elt [⟨tg,iter,ifs,0⟩] scope pos) scope X.env _ (newList []) false (eval iter X.env) (some (assign (.Name y py) X.env))) _ _ s
 refine aAB (aCQ (wpAny_comprehension_free (use:=some (assign (.Name y py) X.env)) (Q:=λ_ s'=>SP X pins D0 .next s') rfl hs hcl0 T.kind T.names
  (thn (hit pins s σ H _ I h) λxv s1 h1=>thn h1 λitv s2 h2=>?_)) (λ_ s' hq=>aAD (aAD hq)) λ_ _ e=>e)
 obtain⟨it,fp,tn,J,H2,e,I2,Tn,st2,f2,q⟩:=h2
 subst e
 refine lF (RR:=λacc C=>compPost (model X.prog X.w) X.A X.xe (some (assign (.Name y py) X.env)) (λ_ s'=>SP X pins D0 .next s') acc C) hc T hcl hfr hg hi he I2 Tn st2 f2 q λD C H' s' ce qD=>?_
 obtain⟨m,hm⟩:=ce.ns
 show wpAny _ _ (assign (.Name y py) X.env (.ref D)) _ _ _
 refine wpAny_assign_Name (nB (v:=.ref D) ce.inv hN hyi (.inl hy) rfl (λs'' I'' ⟨a,sb,ha⟩=>?_) (.inr hy))
 have hCa:C≠a:=by
  rcases ha with rfl|ha
  ·exact ce.ne
  ·exact λz=>ce.nc y a ha z.symm
 exact⟨m,hm.sameBut sb hCa,λh' hs'=>⟨_,H',ce.go I'' hs',qD⟩⟩
noncomputable def compOkB(N0:List Str)(sc0 scope:Scope)(Nc:List Str)(js:List (Option Nat)):Bool :=
 decide (scope.kind=.function)&&scope.names.all (λy=>y.2 != .cell)&&scope.names.all (λy=>y.2 != .local || scope.names.lookup y.1==some .local)&&scope.names.all (λy=>y.2 != .free || sc0.names.lookup y.1==some .cell) &&
  (js.length==Nc.length)&&(Nc.zip js).all (λp=>match p.2 with|none=>true|some j=>N0[j]?==some p.1&&scope.names.lookup p.1==some .free&&sc0.names.lookup p.1==some .cell)
theorem CompOk.of{N0:List Str}{sc0:Scope}(h:compOkB N0 sc0 scope Nc js=true):CompOk N0 sc0 scope Nc js:=by
 unfold compOkB at h
 simp only[aCE,aDZ,beq_iff_eq,aAW]at h
 obtain⟨⟨⟨⟨⟨h1,h2⟩,h3⟩,h4⟩,h5⟩,h6⟩:=h
 refine⟨h1,λy hy=>by simpa using h2 y hy,λy hy e=>?_,λy hy e=>?_,h5,λp hp j hj=>?_⟩
 ·have:=h3 y hy
  simpa[e]using this
 ·have:=h4 y hy
  simpa[e]using this
 ·have:=h6 p hp
  have hj:p.2=some j:=hj
  rw[hj]at this
  simpa[and_assoc]using this
section
variable{a b:Expr}{rest:List Expr}
end
variable{prog:Program}
theorem pZ:CallR X (.type "range") (λxs H Q=>∃j,xs=[.int j]/\∀p,H p=none->Q (.ref p) (upd H p (.rng 0 j))):=by
 intro pins s σ H xs us Q I r h
 obtain⟨j,e,q⟩:=h
 subst e
 obtain⟨u,rfl,r1⟩:=vals1 r
 obtain⟨t,rfl⟩:=r1
 refine call_range_1 ⟨.ref s.heap.objs.size,upd H s.heap.objs.size (.rng 0 j),?_,rfl,q _ (I.hok.fresh (aAF _))⟩
 exact I.laid (λb u e=>aAA _ e) (aAF _) ⟨_,_,_,aAE _ rfl⟩
section
variable{rest:List Stmt}{t u:TS}
end
theorem nN:bootBuiltins "int"=some (.type "int"):=by decide +kernel
theorem aAo:bootBuiltins "min"=some (.builtin "min"):=by decide +kernel
theorem cX:bootBuiltins "tuple"=some (.type "tuple"):=by decide +kernel
theorem sY:bootBuiltins "list"=some (.type "list"):=by decide +kernel
theorem aAw:bootBuiltins "zip"=some (.type "zip"):=by decide +kernel
theorem nI:bootBuiltins "sorted"=some (.builtin "sorted"):=by decide +kernel
end L2
end
namespace L2
open PySem
noncomputable def Scr(K:Frag)(H:Hp)(a:Addr)(xs:List V):Prop:=(∃o,H a=some (.frz o (.lst xs)))\/∀H',SqL K H' a xs
theorem Scr.of{xs:List V}(hO:Only H)(h:SqL K H a xs):Scr K H a xs:=by
 rcases h with(h|⟨o,h⟩)|h
 ·rcases hO a with z|⟨o,ys,z⟩
  ·rw[h]at z;cases z
  ·rw[h]at z;cases z
 ·exact .inl ⟨o,h⟩
 ·exact .inr λ_=>.inr h
noncomputable def SB(l:Addr)(H H':Hp):Prop:=∀x o,x≠l->H x=some o->H' x=some o
theorem SB.trans(s:SB l H H1)(t:SB l H1 H2):SB l H H2:=λx u n e=>t x u n (s x u n e)
open PySem.Spec PyProof.Rows
end L2
namespace Com
open PySem L2
structure IW(n k high low past now:Int):Prop where
 h0:0<=high
 hb:high<=1000000
 l0:0<=low
 lb:low<=1000000
 g:Int.gcd high low=Int.gcd n (k % n)
 d1:n ∣ k*past - high
 d2:n ∣ k*now - low
structure PV(n k e told square left:Int):Prop where
 t0:0<=told
 t1:told < n
 s0:0<=square
 s1:square < n
 l0:0<=left
 eq:told*square ^ left.toNat % n=k ^ e.toNat % n
noncomputable def bitsN:List Int->Nat
 |[]=>0
 |b::r=>b.toNat+2*bitsN r
structure DG(e0 e:Int)(ds:List Int):Prop where
 nn:0<=e
 bit:∀d∈ds,d=0\/d=1
 len:∃m:Nat,e.toNat < 2 ^ m/\ds.length+m=62
 val:∀r,bitsN r=e.toNat->bitsN (ds++r)=e0.toNat
noncomputable def BoxAt(H:Hp)(b:Addr):Prop:=∃c s t:Int,H b=some (.lst [.int c,.int s,.int t])
noncomputable def Keep(b:Addr)(H H':Hp):Prop:=(∀a o,a≠b->H a=some o->H' a=some o)/\BoxAt H' b
theorem Keep.trans{b:Addr}(x:Keep b H H1)(y:Keep b H1 H2):Keep b H H2:=⟨λa o n e=>y.1 a o n (x.1 a o n e),y.2⟩
end Com
section
open PySem PySem.Spec PyProof.Rows
namespace L2
variable{K:Frag}
section
variable{W:World}{Ar:Around}{Ex:Value->Shared->Prop}{hp:Heap}{gn:Array GenState}{dr:Drawn}{tk:Nat}{oz:OsState}{nm qn:Str}{N:Addr}{bs bmB:List Value}{hdct:Bool}{sn:List Str}{sub:List Value}{ab:Bool}{col:Option Bool}{dd:Option Addr}{k0 k1 k2 k3 k5:Option Value}{B newId initId:String}
end
noncomputable def XRec(P:Addr->Prop)(H:Hp)(h:Heap)(e C:Addr)(d:Option Addr):Prop :=
 ∃vs sl,h.get? e=some ⟨.ref C,d,.fields vs,sl⟩/\1 < vs.size /\
  (vs[1]?=some .none\/∃T cT dT ts sT,vs[1]?=some (.ref T)/\P T/\H T=none/\h.get? T=some ⟨cT,dT,.fields ts,sT⟩/\3 < ts.size)
variable{M:Model}{E:Value->Shared->Prop}{L e:Addr}{P:Addr->Prop}{Q:Unit->Shared->Prop}
noncomputable def XO(e C:Addr)(d:Option Addr):HO:=.ext λh=>∃vs sl,h.get? e=some ⟨.ref C,d,.fields vs,sl⟩
variable{P:Program}
theorem XO.ok{vs:Array Value}(q:h.get? e=some ⟨.ref C,d,.fields vs,sl⟩):ObjOk P w H h e (XO e C d) :=
 ⟨⟨vs,sl,q⟩,⟨_,q⟩,λh1 h2 ⟨vs,sl,z⟩ k=>⟨vs,sl,k _ z⟩⟩
theorem XO.at(x:HOk P w H h)(q:H e=some (XO e C d)):∃vs sl,h.get? e=some ⟨.ref C,d,.fields vs,sl⟩:=(x e _ q).1
noncomputable def Free(X:Cx)(pins:List (Addr×Obj))(T:Addr):Prop:=X.s₀.heap.objs.size<=T/\T≠X.env.locals/\(∀x c,X.env.cells.lookup x=some c->c≠T)/\∀p∈X.pn++pins,p.1≠T
variable{σ:List (Option V)}
noncomputable def XE(X:Cx)(pins:List (Addr×Obj))(σ:List (Option V))(R:Addr->Hp->Prop)(ev:Value)(s':Shared):Prop :=
 ∃a H' C d,ev=.ref a/\Inv X pins σ H' s'/\XRec (Free X pins) H' s'.heap a C d/\H' a=some (XO a C d)/\R a H'
structure Xz(X:Cx)(R:Addr->Hp->Prop):Prop where
 go:∀pins σ ev s',XE X pins σ R ev s'->X.xe ev s'
end L2
namespace L2
open PySem.W PySem.Calls Builtin Builtin.ObjectAttr
noncomputable abbrev vb:List Value:=[.type "ValueError",.type "Exception",.type "BaseException",.type "object"]
variable{prog:Program}{E:Value->Shared->Prop}{K:Frag}{x:Addr}{vs:Array Value}{cd:ClassData}{v:Value}{K:Frag}
noncomputable def xcB(K:Frag)(C:Addr)(bm0:List Value)(ini:Option Value):Bool:=match K.lookup C with
 |some ⟨.type "type",_,.cls cd,sl⟩=>(match cd.mro,sl.toList with
  |.ref C'::bm,[_,_,_,_,some (.builtin n),_]=>C'==C&&bm==bm0&&n=="ValueError.__new__"&&!cd.hasDel&&nsOkIn K cd.ns&&nsIn K cd.ns "__init__"==some ini
  |_,_=>false)
 |_=>false
structure Xc(K:Frag)(c:Str)(C LE:Addr):Prop where
 nm:nsIn K mainGlobals c=some (some (.ref C))
 cd:∃cd,clsIn K C=some cd/\cd.name=c/\cd.mro=.ref C::.ref LE::vb
 le:∃cl,clsIn K LE=some cl/\cl.name="LentError"
 leN:nsIn K mainGlobals "LentError"=some (some (.ref LE))
 ne:c≠"LentError"
 hd:hasDictIn K C=true
 ga:findIn K (.ref C) "__getattribute__"=some (some (.builtin "BaseException.__getattribute__"))
 gh:findIn K (.ref C) "__getattr__"=some none
 cl:findIn K (.ref C) "__class__"=some (some (.builtin "object.__class__"))
 ob:∃ini,xcB K C (.ref LE::vb) ini=true
 leO:xcB K LE vb none=true
structure XcO(h:Heap)(C:Addr)(bm:List Value)(ini:Option Value):Prop where
 ex:∃nm q N bs hdct sn sub ab col dd k0 k1 k2 k3 k5,h.get? C=some (excClassObj nm q C N bs bm hdct sn sub ab col dd k0 k1 k2 k3 k5 "ValueError.__new__")/\∃mN,h.Ns N mN/\mN "__init__"=ini
variable{M:Model}{ini:Option Value}{Q:Flow->Shared->Prop}
noncomputable def XN(e C:Addr)(d:Option Addr):HO:=.ext λh=>∃vs sl t0,h.get? e=some ⟨.ref C,d,.fields vs,sl⟩/\vs[1]?=some .none/\vs[0]?=some (.ref t0)
variable{e:Addr}{o:HO}
theorem XN.ok{t0:Addr}(q:h.get? e=some ⟨.ref C,d,.fields vs,sl⟩)(q1:vs[1]?=some .none)(q0:vs[0]?=some (.ref t0)):ObjOk P w H h e (XN e C d) :=
 ⟨⟨vs,sl,t0,q,q1,q0⟩,⟨_,q⟩,λh1 h2 ⟨vs,sl,t0,z,z'⟩ k=>⟨vs,sl,t0,k _ z,z'⟩⟩
theorem XN.at(x:HOk P w H h)(q:H e=some (XN e C d)):∃vs sl t0,h.get? e=some ⟨.ref C,d,.fields vs,sl⟩/\vs[1]?=some .none/\vs[0]?=some (.ref t0):=(x e _ q).1
variable{σ:List (Option V)}
structure LeF(K:Frag)(LE:Addr):Prop where
 rd:readsIn K LE (.type "type")=true
 ga:specialIn K (.ref LE) "__getattribute__"=some (some (.builtin "type.__getattribute__"))
 ini:findCls K (.ref LE) (.type "type") "__init__"=some (.val (.builtin "ValueError.__init__"))
 tl:tailIn K vb (.ref LE::vb)=true
section
variable{fI:Addr}{e1 e2 o v:Expr}{t:TA}{to tv:TE}{p1 ap cp:Pos}{f:Str}
end
section
variable{k:Nat}{fI:Addr}{E:XK}{f x:Str}{e:Expr}{es:List Expr}{t:TA}{σ:St}{Q:VK}{vs:List V}
end
section
variable{g:Array GenState}{dr:Drawn}{t:Nat}{os:OsState}{D:Addr}{oe:Obj}{bmD:List Value}{iniD:Option Value}{Q:Bool->Shared->Prop}
end
noncomputable section
def PEx(X:Cx)(e:Expr)(t:St->Hp->VK->(Addr->Hp->Prop)->Prop):Prop :=
 ∀(pins:List (Addr×Obj)) (s:Shared) (σ:St) (H:Hp) (Q:VK) (R:Addr->Hp->Prop),Inv X pins σ H s->t σ H Q R->wpAny (model X.prog X.w) X.A (eval e X.env) (EP X pins σ Q) (XE X pins σ R) s
def PBx(X:Cx)(b:List Stmt)(t:Ends->(Addr->Hp->Prop)->St->Hp->Prop):Prop :=
 ∀(pins:List (Addr×Obj)) (s:Shared) (σ:St) (H:Hp) (D:Ends) (R:Addr->Hp->Prop),Inv X pins σ H s->t D R σ H->wpAny (model X.prog X.w) X.A (execs b X.env) (SP X pins D) (XE X pins σ R) s
abbrev Cx.hnd(X:Cx)(e:Addr):Cx:={X with A:=X.A.mark (some (.ref e)),calm:=false,xe:=λ_ _=>False}
end
theorem Cx.Ok.hnd{X:Cx}(ok:X.Ok)(e:Addr):(X.hnd e).Ok :=
 ⟨ok.mod,ok.kind,ok.glob,ok.blt,ok.above,ok.inj,ok.has,ok.cab,(λz=>nomatch z),ok.frames,ok.stk,ok.exf,ok.bs,ok.bsz,ok.noex,ok.exfs,ok.funs,ok.frf⟩
variable{σ:St}
theorem Inv.hnd(I:Inv X pins σ H s)(e:Addr):Inv (X.hnd e) pins σ H s:=⟨I.ok.hnd e,I.os,I.bare,I.base,I.loc,I.cell,I.free,I.freeC,I.pin,I.hok,I.len⟩
structure XM(K:Frag)(C D:Addr):Prop where
 c:∃bm ini,xcB K C bm ini=true/\(Value.ref C::bm).contains (.ref D)=true
 d:∃bm ini,xcB K D bm ini=true/\bm.contains (.type "BaseException")=true
variable{b₀:Stmt}{suite:List Stmt}{cn:Str}{Dc:Addr}{np hpos:Pos}{tb:Ends->(Addr->Hp->Prop)->St->Hp->Prop}{ts:TS}{K:Frag}{c:Str}
noncomputable def clV:V->Option Value
 |.ref a=>some (.ref a)
 |.ty n=>some (.type n)
 |_=>none
variable{σ:List (Option V)}
end L2
namespace EV
open L2
noncomputable abbrev St:=L2.St
inductive D where
 |non|bl (b:Bool)|int (i:Int)|str (x:Str)|tup (xs:List D)|lst (xs:List D)|fz (xs:List D)
 |exn (c f:Str) (xs:List D)
inductive Nst where
 |ls (js:List Nat)|pr (x:D) (i:Nat)
inductive W where
 |d (x:D)|ref (i:Nat)
 |ob (c:Str) (i:Nat)|nest (z:Nst)
noncomputable section
abbrev Lc:=List (Option W)
abbrev Mm:=List (List D)
abbrev Exn:=D
end
inductive Oc(α:Type)where
 |ok (a:α) (M:Mm)|ex (x:Exn) (M:Mm)|bad
noncomputable def Oc.bind(o:Oc α)(k:α->Mm->Oc β):Oc β:=match o with
 |.ok a M=>k a M
 |.ex x M=>.ex x M
 |.bad=>.bad
@[simp]theorem fP(a:α)(M:Mm)(k:α->Mm->Oc β):(Oc.ok a M).bind k=k a M:=rfl
@[simp]theorem aFg(x:Exn)(M:Mm)(k:α->Mm->Oc β):(Oc.ex x M:Oc α).bind k=.ex x M:=rfl
@[simp]theorem aEt(k:α->Mm->Oc β):(Oc.bad:Oc α).bind k=.bad:=rfl
section
variable(K:Frag)(μ:List Addr)(H:Hp)
noncomputable def FzL(a:Addr)(vs:List V):Prop:=(∃o,H a=some (.frz o (.lst vs))) \/
 ∃(o:Obj) (its:Array Value) (n:Nat),K.lookup a=some o/\o.cls=.type "list"/\o.dict=none/\o.data=.seq its n/\its.size<=sizeLine/\Vals vs its.toList
noncomputable def XFl(C:Addr)(f:Str)(d:Option Addr)(vs:List V):Prop:=(d=none/\vs=[])\/∃dx u,d=some dx/\vs=[u]/\H dx=some (.xd [(f,u)])/\PySem.W.findIn K (.ref C) f=some none
mutual
noncomputable def Rp:D->V->Prop
 |.non,v=>v=.non
 |.bl b,v=>v=.bl b
 |.int i,v=>v=.int i
 |.str x,v=>v=.str x
 |.tup ds,v=>∃a vs,v=.ref a/\H a=some (.tup vs)/\Rps ds vs
 |.lst ds,v=>∃a vs,v=.ref a/\H a=some (.lst vs)/\a∉μ/\Rps ds vs
 |.fz ds,v=>∃a vs,v=.ref a/\FzL K H a vs/\Rps ds vs
 |.exn c f ds,v=>∃a vs C LE d,v=.ref a/\H a=some (XO a C d)/\Xc K c C LE/\XFl K H C f d vs/\Rps ds vs
noncomputable def Rps:List D->List V->Prop
 |[],vs=>vs=[]
 |d::ds,vs=>∃v r,vs=v::r/\Rp d v/\Rps ds r
end
noncomputable section
def IsL(H:Hp)(a:Addr):Prop:=∃vs,H a=some (.lst vs)
def IsO(c:Str)(H:Hp)(a:Addr):Prop:=(∃C dx fs,H a=some (.ins C dx fs)/\nsIn K mainGlobals c=some (some (.ref C)))\/(c="dict"/\∃kvs,H a=some (.dT kvs))\/(c="dictK"/\∃kvs,H a=some (.dK kvs))
def Rjs:List Nat->List V->Prop
 |[],vs=>vs=[]
 |j::js,vs=>∃a r,vs=.ref a::r/\μ[j]?=some a/\IsL H a/\Rjs js r
def RNs:Nst->Addr->List V->Prop
 |.ls js,a,vs=>H a=some (.lst vs)/\a∉μ/\Rjs μ H js vs
 |.pr x i,a,vs=>H a=some (.tup vs)/\∃v b,vs=[v,.ref b]/\Rp K μ H x v/\μ[i]?=some b/\IsL H b
def Rw:W->V->Prop
 |.d x,v=>Rp K μ H x v
 |.ref i,v=>∃a,μ[i]?=some a/\v=.ref a/\IsL H a
 |.ob c i,v=>∃a,μ[i]?=some a/\v=.ref a/\IsO K c H a
 |.nest z,v=>∃a vs,v=.ref a/\RNs K μ H z a vs
def Frs:List D->List (Str×V)->Prop
 |[],fs=>fs=[]
 |d::ds,fs=>∃f x v r,d=.tup [.str f,x]/\fs=(f,v)::r/\Rp K μ H x v/\Frs ds r
def kyD:Key->D
 |.inl i=>.int i
 |.inr x=>.str x
def Krs:List D->List (List Key×V)->Prop
 |[],fs=>fs=[]
 |d::ds,fs=>∃k x v r,d=.tup [.tup (k.map kyD),x]/\fs=(k,v)::r/\Rp K μ H x v/\Krs ds r
def Kns:List D->List (Key×V)->Prop
 |[],fs=>fs=[]
 |d::ds,fs=>∃k x v r,d=.tup [kyD k,x]/\fs=(k,v)::r/\Rp K μ H x v/\Kns ds r
def CelO:HO->List D->Prop
 |.lst vs,ds=>Rps K μ H ds vs
 |.ins _ _ fs,ds=>Frs K μ H ds fs
 |.dT kvs,ds=>Krs K μ H ds kvs
 |.dK kvs,ds=>Kns K μ H ds kvs
 |_,_=>False
def Rws:List W->List V->Prop
 |[],vs=>vs=[]
 |d::ds,vs=>∃v r,vs=v::r/\Rw K μ H d v/\Rws ds r
end
structure HR(M:Mm):Prop where
 len:μ.length=M.length
 nd:μ.Nodup
 ent:∀(i:Nat) (a:Addr) (ds:List D),μ[i]?=some a->M[i]?=some ds->∃o,H a=some o/\CelO K μ H o ds
structure LR(L:Lc)(σ:St):Prop where
 len:L.length=σ.length
 ent:∀(i:Nat) (w:W),L[i]?=some (some w)->∃v,σ[i]?=some (some v)/\Rw K μ H w v
end
structure SameK(o o':HO):Prop where
 l:∀vs,o=.lst vs->∃us,o'=.lst us
 i:∀C dx fs,o=.ins C dx fs->∃gs,o'=.ins C dx gs
 t:∀kvs,o=.dT kvs->∃ls,o'=.dT ls
 k:∀kvs,o=.dK kvs->∃ls,o'=.dK ls
variable{o:HO}
theorem SameK.refl:SameK o o:=⟨λ_ h=>⟨_,h⟩,λ_ _ _ h=>⟨_,h⟩,λ_ h=>⟨_,h⟩,λ_ h=>⟨_,h⟩⟩
theorem SameK.trans{p q:HO}(a:SameK o p)(b:SameK p q):SameK o q:=⟨λ_ h=>let⟨_,h⟩:=a.l _ h;b.l _ h,λ_ _ _ h=>let⟨_,h⟩:=a.i _ _ _ h;b.i _ _ _ h,λ_ h=>let⟨_,h⟩:=a.t _ h;b.t _ h,λ_ h=>let⟨_,h⟩:=a.k _ h;b.k _ h⟩
structure Ext(μ:List Addr)(H:Hp)(μ':List Addr)(H':Hp):Prop where
 keep:∀a o,a∉μ->H a=some o->H' a=some o
 new:∀a,a∈μ'->a∈μ\/H a=none
 pre:∀(i:Nat) (a:Addr),μ[i]?=some a->μ'[i]?=some a
 kin:∀a o,H a=some o->∃o',H' a=some o'/\SameK o o'
variable{K:Frag}{μ2:List Addr}{M:Mm}
theorem FzL.sq(h:FzL K H a vs):SqL K H a vs:=by
 rcases h with⟨o,h⟩|h
 ·exact .inl (.inr ⟨o,h⟩)
 ·exact .inr h
theorem Ext.refl:Ext μ H μ H:=⟨λ_ _ _ h=>h,λ_ h=>.inl h,λ_ _ h=>h,λ_ _ h=>⟨_,h,.refl⟩⟩
theorem Ext.out(e:Ext μ H μ1 H1)(h:H a=some o)(n:a∉μ):a∉μ1:=λz=>by
 rcases e.new a z with z|z
 ·exact n z
 ·rw[h]at z;cases z
theorem Ext.trans(e:Ext μ H μ1 H1)(f:Ext μ1 H1 μ2 H2):Ext μ H μ2 H2 where
 keep:=λa o n h=>f.keep a o (e.out h n) (e.keep a o n h)
 new:=λa h=>by
  rcases f.new a h with h|h
  ·exact e.new a h
  ·by_cases n:a∈μ
   ·exact .inl n
   ·cases q:H a with
    |none=>exact .inr rfl
    |some o=>rw[e.keep a o n q]at h;cases h
 pre:=λi a h=>f.pre i a (e.pre i a h)
 kin:=λa o h=>let⟨_,h1,k1⟩:=e.kin a o h;let⟨_,h2,k2⟩:=f.kin a _ h1;⟨_,h2,k1.trans k2⟩
noncomputable def MutO:HO->Prop
 |.lst _=>True
 |.ins _ _ _=>True
 |.dT _=>True
 |.dK _=>True
 |_=>False
theorem CelO.mut{ds:List D}(h:CelO K μ H o ds):MutO o:=by cases o <;> first|exact h.elim|trivial
noncomputable def Lsts(μ:List Addr)(H:Hp):Prop:=∀a∈μ,∃o,H a=some o/\MutO o
theorem HR.lsts(h:HR K μ H M):Lsts μ H:=λa ha=>by
 obtain⟨i,hi,e⟩:=aEB.mp ha
 have hM:i < M.length:=h.len▸hi
 obtain⟨vs,q,m⟩:=h.ent i a M[i] (by rw[aBK hi,e]) (by simp[hM])
 exact⟨vs,q,m.mut⟩
theorem Rd.ext{u:HO}(hu:¬MutO u)(l:Lsts μ H)(e:Ext μ H μ1 H1)(h:Rd H a u):Rd H1 a u:=by
 rcases h with h|⟨o,h⟩
 ·exact .inl (e.keep a _ (λz=>by obtain⟨vs,q,m⟩:=l a z;rw[h]at q;cases q;exact hu m) h)
 ·exact .inr ⟨o,e.keep a _ (λz=>by obtain⟨vs,q,m⟩:=l a z;rw[h]at q;cases q;exact m) h⟩
theorem SqT.ext{a:Addr}{vs:List V}(l:Lsts μ H)(e:Ext μ H μ1 H1)(h:SqT K H a vs):SqT K H1 a vs:=by
 rcases h with h|h
 ·exact .inl (Rd.ext (λz=>z) l e h)
 ·exact .inr h
theorem FzL.ext(l:Lsts μ H)(e:Ext μ H μ1 H1)(h:FzL K H a vs):FzL K H1 a vs:=by
 rcases h with⟨o,h⟩|h
 ·exact .inl ⟨o,e.keep a _ (λz=>by obtain⟨vs,q,m⟩:=l a z;rw[h]at q;cases q;exact m) h⟩
 ·exact .inr h
theorem XFl.ext{f:Str}(l:Lsts μ H)(e:Ext μ H μ1 H1)(h:XFl K H C f d vs):XFl K H1 C f d vs:=by
 rcases h with h|⟨dx,u,h1,h2,h3,h4⟩
 ·exact .inl h
 ·exact .inr ⟨dx,u,h1,h2,e.keep dx _ (λz=>by obtain⟨vs,q,m⟩:=l dx z;rw[h3]at q;cases q;exact m) h3,h4⟩
mutual
theorem Rp.ext(l:Lsts μ H)(e:Ext μ H μ1 H1):∀(d:D) (v:V),Rp K μ H d v->Rp K μ1 H1 d v
 |.non,v,h=>by simpa[Rp]using h
 |.bl b,v,h=>by simpa[Rp]using h
 |.int b,v,h=>by simpa[Rp]using h
 |.str b,v,h=>by simpa[Rp]using h
 |.tup ds,v,h=>by
  simp only[Rp]at h ⊢
  obtain⟨a,vs,e1,e2,e3⟩:=h
  exact⟨a,vs,e1,e.keep _ _ (λz=>by obtain⟨us,q,m⟩:=l a z;rw[e2]at q;cases q;exact m) e2,Rps.ext l e ds vs e3⟩
 |.lst ds,v,h=>by
  simp only[Rp]at h ⊢
  obtain⟨a,vs,e1,e2,n,e3⟩:=h
  exact⟨a,vs,e1,e.keep _ _ n e2,e.out e2 n,Rps.ext l e ds vs e3⟩
 |.fz ds,v,h=>by
  simp only[Rp]at h ⊢
  obtain⟨a,vs,e1,e2,e3⟩:=h
  exact⟨a,vs,e1,FzL.ext l e e2,Rps.ext l e ds vs e3⟩
 |.exn c f ds,v,h=>by
  simp only[Rp]at h ⊢
  obtain⟨a,vs,C,LE,d,e1,e2,e3,e4,e5⟩:=h
  exact⟨a,vs,C,LE,d,e1,e.keep _ _ (λz=>by obtain⟨us,q,m⟩:=l a z;rw[e2]at q;cases q;exact m) e2,e3,XFl.ext l e e4,Rps.ext l e ds vs e5⟩
theorem Rps.ext(l:Lsts μ H)(e:Ext μ H μ1 H1):∀(ds:List D) (vs:List V),Rps K μ H ds vs->Rps K μ1 H1 ds vs
 |[],vs,h=>by simpa[Rps]using h
 |d::ds,vs,h=>by
  simp only[Rps]at h ⊢
  obtain⟨v,r,e1,e2,e3⟩:=h
  exact⟨v,r,e1,Rp.ext l e d v e2,Rps.ext l e ds r e3⟩
end
theorem IsL.ext(e:Ext μ H μ1 H1)(h:IsL H a):IsL H1 a:=by
 obtain⟨vs,h⟩:=h
 obtain⟨o,h1,k⟩:=e.kin a _ h
 obtain⟨us,rfl⟩:=k.l _ rfl
 exact⟨us,h1⟩
theorem IsO.ext(e:Ext μ H μ1 H1){c:Str}(h:IsO K c H a):IsO K c H1 a:=by
 rcases h with⟨C,dx,fs,h,n⟩|⟨hc,kvs,h⟩|⟨hc,kvs,h⟩
 ·obtain⟨o,h1,k⟩:=e.kin a _ h
  obtain⟨gs,rfl⟩:=k.i _ _ _ rfl
  exact .inl ⟨C,dx,gs,h1,n⟩
 ·obtain⟨o,h1,k⟩:=e.kin a _ h
  obtain⟨gs,rfl⟩:=k.t _ rfl
  exact .inr (.inl ⟨hc,gs,h1⟩)
 ·obtain⟨o,h1,k⟩:=e.kin a _ h
  obtain⟨gs,rfl⟩:=k.k _ rfl
  exact .inr (.inr ⟨hc,gs,h1⟩)
theorem Rjs.ext(e:Ext μ H μ1 H1):∀{js:List Nat} {vs:List V},Rjs μ H js vs->Rjs μ1 H1 js vs
 |[],_,h=>h
 |_::_,_,⟨a,r,e1,e2,e3,e4⟩=>⟨a,r,e1,e.pre _ _ e2,e3.ext e,Rjs.ext e e4⟩
theorem Frs.ext(l:Lsts μ H)(e:Ext μ H μ1 H1):∀{ds:List D} {fs:List (Str×V)},Frs K μ H ds fs->Frs K μ1 H1 ds fs
 |[],_,h=>h
 |_::_,_,⟨f,x,v,r,e1,e2,e3,e4⟩=>⟨f,x,v,r,e1,e2,Rp.ext l e _ _ e3,Frs.ext l e e4⟩
theorem Krs.ext(l:Lsts μ H)(e:Ext μ H μ1 H1):∀{ds:List D} {fs:List (List Key×V)},Krs K μ H ds fs->Krs K μ1 H1 ds fs
 |[],_,h=>h
 |_::_,_,⟨f,x,v,r,e1,e2,e3,e4⟩=>⟨f,x,v,r,e1,e2,Rp.ext l e _ _ e3,Krs.ext l e e4⟩
theorem Kns.ext(l:Lsts μ H)(e:Ext μ H μ1 H1):∀{ds:List D} {fs:List (Key×V)},Kns K μ H ds fs->Kns K μ1 H1 ds fs
 |[],_,h=>h
 |_::_,_,⟨f,x,v,r,e1,e2,e3,e4⟩=>⟨f,x,v,r,e1,e2,Rp.ext l e _ _ e3,Kns.ext l e e4⟩
theorem CelO.ext(l:Lsts μ H)(e:Ext μ H μ1 H1){o:HO}{ds:List D}(h:CelO K μ H o ds):CelO K μ1 H1 o ds:=by
 cases o <;> first|exact h.elim|skip
 all_goals first|exact Rps.ext l e _ _ h|exact Krs.ext l e h|exact Kns.ext l e h|exact Frs.ext l e h
theorem Rw.ext(l:Lsts μ H)(e:Ext μ H μ1 H1){w:W}{v:V}(h:Rw K μ H w v):Rw K μ1 H1 w v:=by
 cases w with
 |d x=>exact Rp.ext l e x v h
 |ref i=>obtain⟨a,h1,h2,h3⟩:=h;exact⟨a,e.pre i a h1,h2,h3.ext e⟩
 |ob c i=>obtain⟨a,h1,h2,h3⟩:=h;exact⟨a,e.pre i a h1,h2,h3.ext e⟩
 |nest z=>cases z with
  |ls js=>obtain⟨a,vs,h1,h2,h3,h4⟩:=h;exact⟨a,vs,h1,e.keep _ _ h3 h2,e.out h2 h3,h4.ext e⟩
  |pr x i=>obtain⟨a,vs,h1,h2,v,b,rfl,h3,h4,h5⟩:=h;exact⟨a,_,h1,e.keep _ _ (λz=>by obtain⟨us,q,m⟩:=l a z;rw[h2]at q;cases q;exact m) h2,v,b,rfl,Rp.ext l e x v h3,e.pre _ _ h4,h5.ext e⟩
theorem Rws.ext(l:Lsts μ H)(e:Ext μ H μ1 H1):∀{ws:List W} {vs:List V},Rws K μ H ws vs->Rws K μ1 H1 ws vs
 |[],_,h=>h
 |_::_,_,⟨v,r,e1,e2,e3⟩=>⟨v,r,e1,Rw.ext l e e2,Rws.ext l e e3⟩
theorem LR.ext(l:Lsts μ H)(e:Ext μ H μ1 H1){L:Lc}{σ:St}(h:LR K μ H L σ):LR K μ1 H1 L σ :=
 ⟨h.len,λi w q=>let⟨v,q1,q2⟩:=h.ent i w q;⟨v,q1,Rw.ext l e q2⟩⟩
theorem Rps.length:∀{ds:List D} {vs:List V},Rps K μ H ds vs->ds.length=vs.length
 |[],_,h=>by simp only[Rps]at h;subst h;rfl
 |_::_,_,h=>by simp only[Rps]at h;obtain⟨v,r,e1,_,e3⟩:=h;subst e1;simp[Rps.length e3]
theorem Rps.get:∀{ds:List D} {vs:List V} {i:Nat} {d:D},Rps K μ H ds vs->ds[i]?=some d->∃v,vs[i]?=some v/\Rp K μ H d v
 |[],_,_,_,_,q=>by simp at q
 |_::_,_,0,_,h,q=>by simp only[Rps]at h;obtain⟨v,r,e1,e2,e3⟩:=h;simp at q;subst q e1;exact⟨v,rfl,e2⟩
 |_::_,_,i+1,_,h,q=>by
  simp only[Rps]at h;obtain⟨v,r,e1,e2,e3⟩:=h;subst e1
  obtain⟨u,q1,q2⟩:=Rps.get (i:=i) e3 (by simpa using q)
  exact⟨u,by simpa using q1,q2⟩
theorem Rps.nil:Rps K μ H [] []:=by simp[Rps]
theorem Rps.cons{d:D}{v:V}{ds:List D}{vs:List V}(h:Rp K μ H d v)(t:Rps K μ H ds vs):Rps K μ H (d::ds) (v::vs):=by simp only[Rps];exact⟨v,vs,rfl,h,t⟩
theorem Rps.append:∀{ds es:List D} {vs us:List V},Rps K μ H ds vs->Rps K μ H es us->Rps K μ H (ds++es) (vs++us)
 |[],_,_,_,h,t=>by simp only[Rps]at h;subst h;exact t
 |_::_,_,_,_,h,t=>by simp only[Rps]at h;obtain⟨v,r,e1,e2,e3⟩:=h;subst e1;exact .cons e2 (Rps.append e3 t)
theorem Rps.drop:∀{ds:List D} {vs:List V} (n:Nat),Rps K μ H ds vs->Rps K μ H (ds.drop n) (vs.drop n)
 |_,_,0,h=>by simpa using h
 |[],_,n+1,h=>by simp only[Rps]at h;subst h;exact .nil
 |_::_,_,n+1,h=>by simp only[Rps]at h;obtain⟨v,r,e1,e2,e3⟩:=h;subst e1;simpa using Rps.drop n e3
theorem Rps.take:∀{ds:List D} {vs:List V} (n:Nat),Rps K μ H ds vs->Rps K μ H (ds.take n) (vs.take n)
 |_,_,0,h=>by simpa using Rps.nil
 |[],_,n+1,h=>by simp only[Rps]at h;subst h;exact .nil
 |_::_,_,n+1,h=>by simp only[Rps]at h;obtain⟨v,r,e1,e2,e3⟩:=h;subst e1;simpa using Rps.cons e2 (Rps.take n e3)
theorem Rps.set{d:D}{v:V}(q:Rp K μ H d v):∀{ds:List D} {vs:List V} (n:Nat),Rps K μ H ds vs->Rps K μ H (ds.set n d) (vs.set n v)
 |[],_,n,h=>by simp only[Rps]at h;subst h;simpa using Rps.nil
 |_::_,_,0,h=>by simp only[Rps]at h;obtain⟨u,r,e1,e2,e3⟩:=h;subst e1;simpa using Rps.cons q e3
 |_::_,_,n+1,h=>by simp only[Rps]at h;obtain⟨u,r,e1,e2,e3⟩:=h;subst e1;simpa using Rps.cons e2 (Rps.set q n e3)
theorem Rps.eraseIdx:∀{ds:List D} {vs:List V} (n:Nat),Rps K μ H ds vs->Rps K μ H (ds.eraseIdx n) (vs.eraseIdx n)
 |[],_,n,h=>by simp only[Rps]at h;subst h;simpa using Rps.nil
 |_::_,_,0,h=>by simp only[Rps]at h;obtain⟨u,r,e1,e2,e3⟩:=h;subst e1;simpa using e3
 |_::_,_,n+1,h=>by simp only[Rps]at h;obtain⟨u,r,e1,e2,e3⟩:=h;subst e1;simpa using Rps.cons e2 (Rps.eraseIdx n e3)
theorem Rps.reverse{ds:List D}:∀{vs:List V},Rps K μ H ds vs->Rps K μ H ds.reverse vs.reverse:=by
 induction ds with
 |nil=>intro vs h;simp only[Rps]at h;subst h;exact .nil
 |cons d ds ih=>intro vs h;simp only[Rps]at h;obtain⟨u,r,e1,e2,e3⟩:=h;subst e1;simpa using(ih e3).append (.cons e2 .nil)
theorem Rps.rep{ds:List D}{vs:List V}(h:Rps K μ H ds vs):∀k:Nat,Rps K μ H (List.replicate k ds).flatten (List.replicate k vs).flatten
 |0=>by simpa using Rps.nil
 |k+1=>by simpa[aCJ]using h.append (h.rep k)
theorem Rps.ints:Rps K μ H (ns.map D.int) (ns.map V.int):=by
 induction ns with
 |nil=>exact .nil
 |cons n r ih=>exact .cons (by simp[Rp]) ih
theorem Rws.length:∀{ws:List W} {vs:List V},Rws K μ H ws vs->ws.length=vs.length
 |[],_,h=>by cases h;rfl
 |_::_,_,⟨v,r,e1,_,e3⟩=>by subst e1;simp[Rws.length e3]
theorem Rws.get:∀{ws:List W} {vs:List V} {i:Nat} {w:W},Rws K μ H ws vs->ws[i]?=some w->∃v,vs[i]?=some v/\Rw K μ H w v
 |[],_,_,_,_,q=>by simp at q
 |_::_,_,0,_,⟨v,r,e1,e2,e3⟩,q=>by simp at q;subst q e1;exact⟨v,rfl,e2⟩
 |_::_,_,i+1,_,⟨v,r,e1,e2,e3⟩,q=>by
  subst e1
  obtain⟨u,q1,q2⟩:=Rws.get (i:=i) e3 (by simpa using q)
  exact⟨u,by simpa using q1,q2⟩
variable{p:Addr}
theorem HR.out(h:HR K μ H M)(hp:H p=none):p∉μ:=λz=>by
 obtain⟨vs,q,_⟩:=h.lsts p z
 rw[hp]at q;cases q
theorem eG(h:HR K μ H M)(hp:H p=none):Ext μ H μ (upd H p o) :=
 ⟨λa u n q=>by rw[aY (cA q hp)];exact q,λa q=>.inl q,λ_ _ q=>q,λa u q=>⟨u,by rw[aY (cA q hp)];exact q,.refl⟩⟩
theorem HR.lay(h:HR K μ H M)(hp:H p=none):HR K μ (upd H p o) M where
 len:=h.len
 nd:=h.nd
 ent:=λi a ds q1 q2=>by
  obtain⟨vs,q3,q4⟩:=h.ent i a ds q1 q2
  exact⟨vs,by rw[aY (cA q3 hp)];exact q3,CelO.ext h.lsts (eG h hp) q4⟩
theorem lL(h:HR K μ H M)(hp:H p=none):Ext μ H (μ++[p]) (upd H p o)where
 keep:=λa u n q=>by rw[aY (cA q hp)];exact q
 new:=λa q=>by
  rcases aCA.mp q with q|q
  ·exact .inl q
  ·rw[aBC]at q;subst q;exact .inr hp
 pre:=λi a q=>by
  rw[aAS (aAC.mp q).1];exact q
 kin:=λa u q=>⟨u,by rw[aY (cA q hp)];exact q,.refl⟩
theorem tX(h:HR K μ H M)(hp:H p=none):Ext μ H (μ++[p]) (upd H p (.lst vs)):=lL h hp
theorem HR.newO(h:HR K μ H M){ds:List D}(hp:H p=none)(r:CelO K μ H o ds):HR K (μ++[p]) (upd H p o) (M++[ds])where
 len:=by simp[h.len]
 nd:=aES.mpr ⟨h.nd,by simp,λa ha b hb=>by rw[aBC]at hb;subst hb;rintro rfl;exact h.out hp ha⟩
 ent:=λi a es q1 q2=>by
  have x:=lL (o:=o) h hp
  by_cases hi:i < μ.length
  ·rw[aAS hi]at q1
   rw[aAS (by rw[<- h.len];exact hi)]at q2
   obtain⟨us,q3,q4⟩:=h.ent i a es q1 q2
   exact⟨us,by rw[aY (cA q3 hp)];exact q3,CelO.ext h.lsts x q4⟩
  ·have:i=μ.length:=by
    have:=(aAC.mp q1).1
    simp at this;lia
   subst this
   rw[aBW (aAF _)]at q1
   rw[h.len,aBW (aAF _)]at q2
   simp at q1 q2
   subst q1 q2
   exact⟨o,bS,CelO.ext h.lsts x r⟩
theorem HR.new(h:HR K μ H M){ds:List D}(hp:H p=none)(r:Rps K μ H ds vs):HR K (μ++[p]) (upd H p (.lst vs)) (M++[ds]):=h.newO hp (o:=.lst vs) r
theorem pK{o':HO}(q:μ[i]?=some a)(ho:H a=some o')(k:SameK o' o):Ext μ H μ (upd H a o) :=
 ⟨λb u n q'=>by rw[aY (λz=>n (by subst z;exact aAU q))];exact q',λa q=>.inl q,λ_ _ q=>q,λb u q'=>by
  by_cases e:b=a
  ·subst e;rw[ho]at q';cases q';exact⟨o,bS,k⟩
  ·exact⟨u,by rw[aY e];exact q',.refl⟩⟩
theorem SameK.lst{vs us:List V}:SameK (.lst vs) (.lst us):=⟨λ_ _=>⟨us,rfl⟩,λ_ _ _ h=>(nomatch h),λ_ h=>(nomatch h),λ_ h=>(nomatch h)⟩
theorem eF(q:μ[i]?=some a)(hl:IsL H a:=by first|assumption|exact⟨_,by assumption⟩):Ext μ H μ (upd H a (.lst vs)):=let⟨_,h⟩:=hl;pK q h .lst
theorem HR.setO(h:HR K μ H M){ds:List D}{o':HO}(q:μ[i]?=some a)(ho:H a=some o')(k:SameK o' o)(r:CelO K μ H o ds):HR K μ (upd H a o) (M.set i ds)where
 len:=by simp[h.len]
 nd:=h.nd
 ent:=λj b es q1 q2=>by
  have x:=pK (H:=H) (o:=o) q ho k
  by_cases hj:i=j
  ·subst hj
   rw[q]at q1;cases q1
   have hlt:i < M.length:=by rw[<- h.len];exact(aAC.mp q).1
   rw[aAY hlt]at q2;cases q2
   exact⟨o,bS,CelO.ext h.lsts x r⟩
  ·rw[aAZ hj]at q2
   obtain⟨us,q3,q4⟩:=h.ent j b es q1 q2
   have hb:b≠a:=by
    rintro rfl
    have h1:=(aAC.mp q).1
    have h2:=(aAC.mp q1).1
    have e1:=(aAC.mp q).2
    have e2:=(aAC.mp q1).2
    have pw:=aDC.mp h.nd
    rcases Nat.lt_or_gt_of_ne hj with l|l
    ·exact pw i j h1 h2 l (e1.trans e2.symm)
    ·exact pw j i h2 h1 l (e2.trans e1.symm)
   exact⟨us,by rw[aY hb];exact q3,CelO.ext h.lsts x q4⟩
theorem HR.set(h:HR K μ H M){i:Nat}{a:Addr}{ds:List D}{vs:List V}(q:μ[i]?=some a)(r:Rps K μ H ds vs)(hl:IsL H a:=by first|assumption|exact⟨_,by assumption⟩):HR K μ (upd H a (.lst vs)) (M.set i ds):=let⟨_,e⟩:=hl;h.setO q e .lst (o:=.lst vs) r
theorem HR.atO(h:HR K μ H M){ds:List D}(q:M[i]?=some ds):∃a o,μ[i]?=some a/\H a=some o/\CelO K μ H o ds:=by
 have hlt:i < μ.length:=by rw[h.len];exact(aAC.mp q).1
 obtain⟨vs,q1,q2⟩:=h.ent i μ[i] ds (by simp[hlt]) q
 exact⟨μ[i],vs,by simp[hlt],q1,q2⟩
theorem HR.at(h:HR K μ H M){i:Nat}{ds:List D}(q:M[i]?=some ds){a':Addr}(qa:μ[i]?=some a')(hl:IsL H a':=by assumption):∃a vs,μ[i]?=some a/\H a=some (.lst vs)/\Rps K μ H ds vs:=by
 obtain⟨a,o,q1,q2,q3⟩:=h.atO q
 rw[qa]at q1;cases q1
 obtain⟨vs,hl⟩:=hl
 rw[hl]at q2;cases q2
 exact⟨a',vs,qa,hl,q3⟩
structure Zt where
 z:Exn->Mm->List Addr->Hp->Prop
 mono:∀{x M μ H μ' H':_},Ext μ H μ' H'->z x M μ H->z x M μ' H'
noncomputable def Z0:Zt:=⟨λ_ _ _ _=>False,λ_ h=>h⟩
noncomputable def Pst(K:Frag)(Z:Zt)(μ:List Addr)(H:Hp)(o:Oc α)(Q:List Addr->Hp->Mm->α->Prop):Prop:=match o with
 |.ok a M'=>∀μ' H',Ext μ H μ' H'->HR K μ' H' M'->Q μ' H' M' a
 |.ex x M'=>Z.z x M' μ H
 |.bad=>False
variable{α β:Type}{K:Frag}{Z:Zt}{o:Oc α}{Q Q':List Addr->Hp->Mm->α->Prop}
theorem Pst.mono(e:Ext μ H μ1 H1)(h:Pst K Z μ H o Q):Pst K Z μ1 H1 o Q:=by
 cases o with
 |ok a M=>exact λμ' H' e' hr=>h μ' H' (e.trans e') hr
 |ex x M=>exact Z.mono e h
 |bad=>exact h
theorem Pst.imp(h:Pst K Z μ H o Q)(f:∀μ' H' M' a,Ext μ H μ' H'->HR K μ' H' M'->o=.ok a M'->Q μ' H' M' a->Q' μ' H' M' a):Pst K Z μ H o Q':=by
 cases o with
 |ok a M=>exact λμ' H' e' hr=>f μ' H' M a e' hr rfl (h μ' H' e' hr)
 |ex x M=>exact h
 |bad=>exact h
theorem Pst.bind{k:α->Mm->Oc β}{R:List Addr->Hp->Mm->β->Prop}(h:Pst K Z μ H (o.bind k) R):Pst K Z μ H o (λμ' H' M' a=>Pst K Z μ' H' (k a M') R):=by
 cases o with
 |ok a M=>exact λμ' H' e' hr=>Pst.mono e' h
 |ex x M=>exact h
 |bad=>exact h
noncomputable section
abbrev FE:=Lc->Mm->Oc W
abbrev FT:=Lc->Mm->Oc Bool
abbrev FA:=Lc->Mm->Oc (List W)
end
inductive Out where
 |nx (L:Lc)|bk (L:Lc)|ct (L:Lc)|rt (w:W)
noncomputable section
abbrev FS:=Lc->Mm->Oc Out
abbrev FG:=W->Lc->Mm->Oc Lc
abbrev FGs:=List D->Lc->Mm->Oc Lc
abbrev Fn:=List W->Mm->Oc W
end
section
variable(K:Frag)(Z:Zt)
noncomputable section
def lift(f:FE):TE:=λσ H Q=>∃μ M L,HR K μ H M/\LR K μ H L σ/\Pst K Z μ H (f L M) λμ' H' _ w=>∀v,Rw K μ' H' w v->Q v H'
def liftT(f:FT):TT:=λσ H Q=>∃μ M L,HR K μ H M/\LR K μ H L σ/\Pst K Z μ H (f L M) λμ' H' M' b=>Q b H'
def liftA(f:FA):TA:=λσ H Q=>∃μ M L,HR K μ H M/\LR K μ H L σ/\Pst K Z μ H (f L M) λμ' H' _ ws=>∀vs,Rws K μ' H' ws vs->Q vs H'
end
end
section
variable(X:Cx)(K:Frag)(Z:Zt)
noncomputable section
abbrev Sk(K:Frag)(E:Ends)(μ':List Addr)(H':Hp)(_:Mm)(o:Out):Prop:=match o with
 |.nx L'=>∀σ',LR K μ' H' L' σ'->E.nx σ' H'
 |.bk L'=>∀σ',LR K μ' H' L' σ'->E.bk σ' H'
 |.ct L'=>∀σ',LR K μ' H' L' σ'->E.ct σ' H'
 |.rt w=>∀v,Rw K μ' H' w v->E.rt v H'
def liftS(F:FS):TS:=λE σ H=>∃μ M L,HR K μ H M/\LR K μ H L σ/\Pst K Z μ H (F L M) (Sk K E)
def liftG(g:FG):TG:=λv σ H Q=>∃μ M L w,HR K μ H M/\LR K μ H L σ/\Rw K μ H w v/\Pst K Z μ H (g w L M) λμ' H' _ L'=>∀σ',LR K μ' H' L' σ'->Q σ' H'
def liftGs(g:FGs):TGs:=λvs σ H Q=>∃μ M L ds,HR K μ H M/\LR K μ H L σ/\Rps K μ H ds vs/\Pst K Z μ H (g ds L M) λμ' H' _ L'=>∀σ',LR K μ' H' L' σ'->Q σ' H'
end
structure Ev(e:Expr)(f:FE):Prop where
 k:X.K=K
 h:PE X e (lift K Z f)
structure Et(e:Expr)(f:FT):Prop where
 k:X.K=K
 h:PT X e (liftT K Z f)
structure Ew(e:Expr)(f:FT):Prop where
 k:X.K=K
 h:PW X e (liftT K Z f)
structure Ea(es:List Expr)(f:FA):Prop where
 k:X.K=K
 h:PA X es (liftA K Z f)
structure Es(st:Stmt)(F:FS):Prop where
 k:X.K=K
 h:PS X st (liftS K Z F)
structure Ess(st:List Stmt)(F:FS):Prop where
 k:X.K=K
 h:PSs X st (liftS K Z F)
structure Eg(tg:Expr)(g:FG):Prop where
 k:X.K=K
 h:PG X tg (liftG K Z g)
structure Egs(tg:List Expr)(g:FGs):Prop where
 k:X.K=K
 h:PGs X tg (liftGs K Z g)
end
section
variable{K:Frag}{e a b:Expr}{es:List Expr}{f fa fb fc:FE}{t ta tb:FT}{fs:FA}
theorem cqE{t t':TE}(h:PE X e t)(i:∀σ H Q,t' σ H Q->t σ H Q):PE X e t':=λpins s σ H Q I q=>h pins s σ H Q I (i _ _ _ q)
theorem cqT{t t':TT}(h:PT X e t)(i:∀σ H Q,t' σ H Q->t σ H Q):PT X e t':=λpins s σ H Q I q=>h pins s σ H Q I (i _ _ _ q)
theorem cqW{t t':TT}(h:PW X e t)(i:∀σ H Q,t' σ H Q->t σ H Q):PW X e t':=λwh pins s σ H Q I q=>h wh pins s σ H Q I (i _ _ _ q)
theorem cqA{t t':TA}(h:PA X es t)(i:∀σ H Q,t' σ H Q->t σ H Q):PA X es t':=λp pins s σ H Q I q=>h p pins s σ H Q I (i _ _ _ q)
theorem cqS{t t':TS}(h:PS X st t)(i:∀E σ H,t' E σ H->t E σ H):PS X st t':=λpins s σ H E I q=>h pins s σ H E I (i _ _ _ q)
theorem cqSs{st:List Stmt}{t t':TS}(h:PSs X st t)(i:∀E σ H,t' E σ H->t E σ H):PSs X st t':=λpins s σ H E I q=>h pins s σ H E I (i _ _ _ q)
theorem cqG{t t':TG}(h:PG X e t)(i:∀v σ H Q,t' v σ H Q->t v σ H Q):PG X e t':=λpins s σ H v u Q I r q=>h pins s σ H v u Q I r (i _ _ _ _ q)
theorem cqGs{t t':TGs}(h:PGs X es t)(i:∀v σ H Q,t' v σ H Q->t v σ H Q):PGs X es t':=λpins s σ H v u Q I r q=>h pins s σ H v u Q I r (i _ _ _ _ q)
noncomputable section
def eV(i:Nat):FE:=λL M=>match L[i]? with
 |some (some w)=>.ok w M
 |_=>.bad
def eC(d:D):FE:=λ_ M=>.ok (.d d) M
theorem aB(i:Nat)(hN:X.N[i]?=some x:=by rfl)(hk:X.K=K:=by rfl)(hv:Vis X.env.scope x:=by first|exact Or.inl rfl|exact Or.inr (Or.inl rfl)|exact Or.inr (Or.inr rfl))
  (hd:(x==("__debug__":Str))=false:=by decide)(hcd:(x==("__classdict__":Str))=false:=by decide):Ev X K Z (.Name x pos) (eV i) :=
 ⟨hk,cqE (aCj hN hv hd hcd) λσ H Q ⟨μ,M,L,hr,lr,p⟩=>by
  unfold eV at p
  cases q:L[i]? with
  |none=>rw[q]at p;exact p.elim
  |some o =>
   cases o with
   |none=>rw[q]at p;exact p.elim
   |some w =>
    rw[q]at p
    obtain⟨v,q1,q2⟩:=lr.ent i w q
    exact⟨v,q1,p μ H .refl hr v q2⟩⟩
theorem xZ{d:D}(hd:∀K μ H,Rp K μ H d v)(hk:X.K=K)(h:PE X e (tC v)):Ev X K Z e (eC d) :=
 ⟨hk,cqE h λσ H Q ⟨μ,M,L,hr,lr,p⟩=>p μ H .refl hr v (hd K μ H)⟩
theorem aC{i:Int}(hk:X.K=K:=by rfl):Ev X K Z (.Constant (.int i) j pos) (eC (.int i)):=xZ (λ_ _ _=>by simp[Rp]) hk wU
theorem qG{i:Bool}(hk:X.K=K:=by rfl):Ev X K Z (.Constant (.bool i) j pos) (eC (.bl i)):=xZ (λ_ _ _=>by simp[Rp]) hk aEi
theorem oH(hk:X.K=K:=by rfl):Ev X K Z (.Constant .none j pos) (eC .non):=xZ (λ_ _ _=>by simp[Rp]) hk aCr
theorem bI(hk:X.K=K:=by rfl):Ev X K Z (.Constant (.str x) j pos) (eC (.str x)):=xZ (λ_ _ _=>by simp[Rp]) hk aBc
def e1(g:W->Mm->Oc W)(f:FE):FE:=λL M=>(f L M).bind g
def e2(g:W->W->Mm->Oc W)(f1 f2:FE):FE:=λL M=>(f1 L M).bind λx M1=>(f2 L M1).bind λy M2=>g x y M2
abbrev Wk(K:Frag)(Q:VK):List Addr->Hp->Mm->W->Prop:=λμ' H' _ w=>∀v,Rw K μ' H' w v->Q v H'
def Op2(K:Frag)(Z:Zt)(r:R2)(g:W->W->Mm->Oc W):Prop :=
 ∀(μ:List Addr) (H:Hp) (M:Mm) (x y:W) (v u:V) (Q:VK),HR K μ H M->Rw K μ H x v->Rw K μ H y u->Pst K Z μ H (g x y M) (Wk K Q)->r v u H Q
def OpG(X:Cx)(K:Frag)(Z:Zt)(f:Value->Value->Sem Value)(g:W->W->Mm->Oc W):Prop:=X.K=K->∃r,OpR X f r/\Op2 K Z r g
theorem lift2{r:R2}{g:W->W->Mm->Oc W}(hg:Op2 K Z r g):∀σ H Q,lift K Z (e2 g fa fb) σ H Q->tOp r (lift K Z fa) (lift K Z fb) σ H Q:=by
 rintro σ H Q ⟨μ,M,L,hr,lr,p⟩
 refine⟨μ,M,L,hr,lr,p.bind.imp λμ1 H1 M1 x e1 hr1 _ p1 v rx=>?_⟩
 refine⟨μ1,M1,L,hr1,lr.ext hr.lsts e1,p1.bind.imp λμ2 H2 M2 y e2 hr2 _ p2 u ry=>?_⟩
 exact hg μ2 H2 M2 x y v u Q hr2 (rx.ext hr1.lsts e2) ry p2
theorem aH{op:Operator}{g:W->W->Mm->Oc W}(ho:OpG X K Z (binaryOp op) g)(ha:Ev X K Z a fa)(hb:Ev X K Z b fb):Ev X K Z (.BinOp a op b pos) (e2 g fa fb):=by
 obtain⟨r,h1,h2⟩:=ho ha.k
 exact⟨ha.k,cqE (aDy h1 ha.h hb.h) (lift2 h2)⟩
theorem nP{g:W->W->Mm->Oc W}(ho:OpG X K Z (compareOp op) g)(ha:Ev X K Z a fa)(hb:Ev X K Z b fb)(hm:behindInMarks op b=false):Ev X K Z (.Compare a [op] [b] pos) (e2 g fa fb):=by
 obtain⟨r,h1,h2⟩:=ho ha.k
 exact⟨ha.k,cqE (xW h1 ha.h hb.h hm) (lift2 h2)⟩
def tB(f:FE):FT:=λL M=>(f L M).bind λw M1=>match w with
 |.d (.bl b)=>.ok b M1
 |_=>.bad
theorem bB{g:W->W->Mm->Oc W}(ho:OpG X K Z (compareOp op) g)(ha:Ev X K Z a fa)(hb:Ev X K Z b fb)(hm:behindInMarks op b=false):Et X K Z (.Compare a [op] [b] pos) (tB (e2 g fa fb)):=by
 obtain⟨r,h1,h2⟩:=ho ha.k
 refine⟨ha.k,cqT (xT h1 ha.h hb.h hm) ?_⟩
 rintro σ H Q ⟨μ,M,L,hr,lr,p⟩
 refine lift2 h2 σ H _ ⟨μ,M,L,hr,lr,p.bind.imp λμ1 H1 M1 x e1 hr1 _ p1 v rx=>?_⟩
 cases x with
 |d y=>cases y with
  |bl c=>exact⟨c,by simpa[Rw,Rp]using rx,p1 μ1 H1 .refl hr1⟩
  |_=>exact p1.elim
 |ref i=>exact p1.elim
 |ob _ _=>exact p1.elim
 |nest _=>exact p1.elim
def tru(M:Mm):W->Option Bool
 |.d .non=>some false
 |.d (.bl b)=>some b
 |.d (.int i)=>some (i != 0)
 |.d (.str x)=>if x.length<=16777216 then some (x.length != 0)else none
 |.d (.tup xs)=>some (!xs.isEmpty)
 |.d (.lst xs)=>some (!xs.isEmpty)
 |.d (.fz xs)=>some (!xs.isEmpty)
 |.d (.exn _ _ _)=>none
 |.ref i=>(M[i]?).map λxs=>!xs.isEmpty
 |.ob _ _=>none
 |.nest _=>none
def tV(f:FE):FT:=λL M=>(f L M).bind λw M1=>match tru M1 w with
 |some b=>.ok b M1
 |none=>.bad
theorem emp{ds:List D}(r:Rps K μ H ds vs):(!ds.isEmpty)=!vs.isEmpty:=by
 have:=r.length
 cases ds <;> cases vs <;> simp_all
theorem aEs{w:W}{b:Bool}(hr:HR K μ H M)(r:Rw K μ H w v)(h:tru M w=some b):TruV K v H b:=by
 cases w with
 |ref i =>
  obtain⟨a,q,rfl,il⟩:=r
  simp only[tru,aAM]at h
  obtain⟨xs,h1,rfl⟩:=h
  obtain⟨a',vs,q1,q2,q3⟩:=hr.at h1 q
  rw[q]at q1;cases q1
  exact .inl ⟨vs,SqL.of q2,emp q3⟩
 |ob _ _=>simp[tru]at h
 |nest _=>simp[tru]at h
 |d x =>
  cases x with
  |non=>simp only[Rw,Rp]at r;subst r;simp only[tru,aAR]at h;exact h.symm
  |bl c=>simp only[Rw,Rp]at r;subst r;simp only[tru,aAR]at h;exact h.symm
  |int i=>simp only[Rw,Rp]at r;subst r;simp only[tru,aAR]at h;exact h.symm
  |str z =>
   simp only[Rw,Rp]at r;subst r
   simp only[tru]at h
   split at h
   ·rename_i hz
    cases h
    refine⟨by rw[aBB];exact hz,?_⟩
    rw[aFH];simp
   ·cases h
  |tup xs=>simp only[Rw,Rp]at r;obtain⟨a,vs,rfl,q1,q2⟩:=r;simp only[tru,aAR]at h;subst h;exact .inr (.inl ⟨vs,SqT.of q1,emp q2⟩)
  |lst xs=>simp only[Rw,Rp]at r;obtain⟨a,vs,rfl,q1,_,q2⟩:=r;simp only[tru,aAR]at h;subst h;exact .inl ⟨vs,SqL.of q1,emp q2⟩
  |fz xs=>simp only[Rw,Rp]at r;obtain⟨a,vs,rfl,q1,q2⟩:=r;simp only[tru,aAR]at h;subst h;exact .inl ⟨vs,q1.sq,emp q2⟩
  |exn c f xs=>simp[tru]at h
theorem aAq(ha:Ev X K Z a f)(he:∀whole,isTrue a X.env whole=(do let v <- whole;standAt a.pos;holding [v] (truthy v)):=by intro _;rfl):Et X K Z a (tV f):=by
 refine⟨ha.k,cqT (wD ha.h he) ?_⟩
 rintro σ H Q ⟨μ,M,L,hr,lr,p⟩
 refine⟨μ,M,L,hr,lr,p.bind.imp λμ1 H1 M1 x e1 hr1 _ p1 v rx=>?_⟩
 cases q:tru M1 x with
 |none=>rw[q]at p1;exact p1.elim
 |some k=>rw[q]at p1;exact⟨k,by rw[ha.k];exact aEs hr1 rx q,p1 μ1 H1 .refl hr1⟩
def tAnd(t u:FT):FT:=λL M=>(t L M).bind λb M1=>if b=true then u L M1 else .ok false M1
def tOr(t u:FT):FT:=λL M=>(t L M).bind λb M1=>if b=true then .ok true M1 else u L M1
end
variable{rest:List Expr}
theorem yQ(ha:Et X K Z a ta):Ew X K Z (.BoolOp .And [a] pos) ta:=⟨ha.k,zM ha.h⟩
theorem aAu(ha:Et X K Z a ta):Ew X K Z (.BoolOp .Or [a] pos) ta:=⟨ha.k,aAm ha.h⟩
theorem aBi(ha:Et X K Z a ta)(hb:Ew X K Z (.BoolOp .And (b::rest) pos) tb):Ew X K Z (.BoolOp .And (a::b::rest) pos) (tAnd ta tb):=by
 refine⟨ha.k,cqW (aCi ha.h hb.h) ?_⟩
 rintro σ H Q ⟨μ,M,L,hr,lr,p⟩
 refine⟨μ,M,L,hr,lr,p.bind.imp λμ1 H1 M1 x e1 hr1 _ p1=>?_⟩
 cases x with
 |true=>exact⟨μ1,M1,L,hr1,lr.ext hr.lsts e1,p1⟩
 |false=>exact p1 μ1 H1 .refl hr1
theorem zW(ha:Et X K Z a ta)(hb:Ew X K Z (.BoolOp .Or (b::rest) pos) tb):Ew X K Z (.BoolOp .Or (a::b::rest) pos) (tOr ta tb):=by
 refine⟨ha.k,cqW (aEg ha.h hb.h) ?_⟩
 rintro σ H Q ⟨μ,M,L,hr,lr,p⟩
 refine⟨μ,M,L,hr,lr,p.bind.imp λμ1 H1 M1 x e1 hr1 _ p1=>?_⟩
 cases x with
 |true=>exact p1 μ1 H1 .refl hr1
 |false=>exact⟨μ1,M1,L,hr1,lr.ext hr.lsts e1,p1⟩
theorem aFf(h:Ew X K Z a ta):Et X K Z a ta:=⟨h.k,h.h.pt⟩
end
noncomputable section
def lv(M:Mm):W->Option (List D)
 |.d (.lst xs)=>some xs
 |.ref i=>M[i]?
 |_=>none
def lr(M:Mm):W->Option (List D)
 |.d (.fz xs)=>some xs
 |w=>lv M w
def sv(M:Mm):W->Option (List D)
 |.d (.tup xs)=>some xs
 |w=>lr M w
def okD(d:D)(M:Mm):Oc W:=.ok (.d d) M
end
@[simp]theorem aFh(d:D)(M:Mm):okD d M=.ok (.d d) M:=rfl
variable{K:Frag}{e a b:Expr}{es:List Expr}{f fa fb:FE}{fs:FA}{F:Value->Value->Sem Value}
theorem OpR.or{r r':R2}(h:OpR X F r)(h':OpR X F r'):OpR X F (λx y H Q=>r x y H Q\/r' x y H Q):=by
 intro pins s σ H x y v u Q I rx ry q
 rcases q with q|q
 ·exact h pins s σ H x y v u Q I rx ry q
 ·exact h' pins s σ H x y v u Q I rx ry q
theorem tQ{w:W}{ds:List D}(hr:HR K μ H M)(r:Rw K μ H w v)(h:lv M w=some ds):∃a vs,v=.ref a/\H a=some (.lst vs)/\Rps K μ H ds vs:=by
 cases w with
 |ref i =>
  obtain⟨a,q,rfl,il⟩:=r
  obtain⟨a',vs,q1,q2,q3⟩:=hr.at h q
  rw[q]at q1;cases q1
  exact⟨a,vs,rfl,q2,q3⟩
 |ob _ _=>simp[lv]at h
 |nest _=>simp[lv]at h
 |d x =>
  cases x with
  |lst xs=>simp only[lv,aAR]at h;subst h;simp only[Rw,Rp]at r;obtain⟨a,vs,e,q1,_,q2⟩:=r;exact⟨a,vs,e,q1,q2⟩
  |_=>simp[lv]at h
theorem tW{w:W}{ds:List D}(hr:HR K μ H M)(r:Rw K μ H w v)(h:lr M w=some ds):∃a vs,v=.ref a/\SqL K H a vs/\Rps K μ H ds vs:=by
 by_cases hf:∃xs,w=.d (.fz xs)
 ·obtain⟨xs,rfl⟩:=hf
  simp only[lr,aAR]at h;subst h
  simp only[Rw,Rp]at r;obtain⟨a,vs,e,q1,q2⟩:=r
  exact⟨a,vs,e,q1.sq,q2⟩
 ·have:lr M w=lv M w:=by
   cases w with
   |ref i=>rfl
   |ob _ _=>rfl
   |nest _=>rfl
   |d x=>cases x <;> first|rfl|exact(hf ⟨_,rfl⟩).elim
  rw[this]at h
  obtain⟨a,vs,e,q1,q2⟩:=tQ hr r h
  exact⟨a,vs,e,SqL.of q1,q2⟩
theorem sR{w:W}{ds:List D}(hr:HR K μ H M)(r:Rw K μ H w v)(h:sv M w=some ds):∃a vs,v=.ref a/\(SqL K H a vs\/SqT K H a vs)/\Rps K μ H ds vs:=by
 by_cases hf:∃xs,w=.d (.tup xs)
 ·obtain⟨xs,rfl⟩:=hf
  simp only[sv,aAR]at h;subst h
  simp only[Rw,Rp]at r;obtain⟨a,vs,e,q1,q2⟩:=r
  exact⟨a,vs,e,.inr (SqT.of q1),q2⟩
 ·have:sv M w=lr M w:=by
   cases w with
   |ref i=>rfl
   |ob _ _=>rfl
   |nest _=>rfl
   |d x=>cases x <;> first|rfl|exact(hf ⟨_,rfl⟩).elim
  rw[this]at h
  obtain⟨a,vs,e,q1,q2⟩:=tW hr r h
  exact⟨a,vs,e,.inl q1,q2⟩
variable{Q:VK}
theorem iX{ds:List D}(hr:HR K μ H M)(r:Rps K μ H ds vs)(p:Pst K Z μ H (okD (.tup ds) M) (Wk K Q)):∀q,H q=none->Q (.ref q) (upd H q (.tup vs)):=λq hq =>
 p μ _ (eG hr hq) (hr.lay hq) (.ref q) (by simp only[Rw,Rp];exact⟨q,vs,rfl,bS,Rps.ext hr.lsts (eG hr hq) _ _ r⟩)
theorem hG{ds:List D}(hr:HR K μ H M)(r:Rps K μ H ds vs)(p:Pst K Z μ H (okD (.lst ds) M) (Wk K Q)):∀q,H q=none->Q (.ref q) (upd H q (.lst vs)):=λq hq =>
 p μ _ (eG hr hq) (hr.lay hq) (.ref q) (by simp only[Rw,Rp];exact⟨q,vs,rfl,bS,hr.out hq,Rps.ext hr.lsts (eG hr hq) _ _ r⟩)
theorem nZ{ds:List D}(hr:HR K μ H M)(r:Rps K μ H ds vs)(p:Pst K Z μ H (.ok (.ref M.length) (M++[ds])) (Wk K Q)):∀q,H q=none->Q (.ref q) (upd H q (.lst vs)):=λq hq =>
 p _ _ (tX hr hq) (hr.new hq r) (.ref q) ⟨q,by rw[<- hr.len];simp,rfl,_,bS⟩
noncomputable def rCatA(K:Frag):R2:=λx y H Q=>∃a b xs ys,x=.ref a/\y=.ref b/\SqT K H a xs/\SqT K H b ys/\xs.length+ys.length<=sizeLine /\
 (xs=[]->Q (.ref b) H)/\(ys=[]->Q (.ref a) H)/\(∀p,H p=none->Q (.ref p) (upd H p (.tup (xs++ys))))
theorem yJ:OpR X (binaryOp .Add) (rCatA X.K):=by
 intro pins s σ H x y v u Q I rx ry h
 obtain⟨a,b,xs,ys,rfl,rfl,ha,hb,hz,q0,q1,q2⟩:=h
 by_cases hx:xs=[]
 ·subst hx
  cases rx
  cases ry
  obtain⟨its,r1,p1,_⟩:=I.tuple ha
  obtain⟨its2,r2,p2,_⟩:=I.tuple hb
  have hv:its=[]:=r1.nil_iff.mpr rfl
  subst hv
  obtain⟨⟨cls,dd,data,sl⟩,ho,hc,n,hd⟩:=id p1
  obtain⟨⟨cls2,dd2,data2,sl2⟩,ho2,hc2,n2,hd2⟩:=id p2
  simp only at hc hd hc2 hd2
  subst hc hd hc2 hd2
  exact concat_meets ⟨_,ho,rfl⟩ ⟨_,ho2,rfl⟩ noFill_tuple_add seq_tuple_add aEX aER (aEL _ _)
   (tuple_addW0 a b _ its2.toArray n n2 dd dd2 sl sl2 (by simp)) ⟨ho,ho2,⟨.ref b,H,I,rfl,q0 rfl⟩⟩
 ·exact yG pins s σ H _ _ v u Q I rx ry ⟨a,b,xs,ys,rfl,rfl,ha,hb,hx,hz,q1,λ_=>q2⟩
noncomputable def pAdd(x y:W)(M:Mm):Oc W:=match x,y with
 |.d (.int i),.d (.int j)=>.ok (.d (.int (i+j))) M
 |.d (.tup xs),.d (.tup ys)=>if xs.length+ys.length<=16777216 then .ok (.d (.tup (xs++ys))) M else .bad
 |.d (.str i),.d (.str j)=>if i.length+j.length<=16777216 then .ok (.d (.str (i++j))) M else .bad
 |x,y=>match lv M x,lv M y with
  |some xs,some ys=>if xs.length+ys.length<=16777216 then .ok (.d (.lst (xs++ys))) M else .bad
  |_,_=>.bad
variable{u:V}
theorem rF{x y:W}(hr:HR K μ H M)(rx:Rw K μ H x v)(ry:Rw K μ H y u)(p:Pst K Z μ H (match lv M x,lv M y with
  |some xs,some ys=>if xs.length+ys.length<=16777216 then .ok (.d (.lst (xs++ys))) M else .bad
  |_,_=>.bad) (Wk K Q)):rCat v u H Q:=by
 cases q1:lv M x with
 |none=>rw[q1]at p;exact p.elim
 |some xs =>
  cases q2:lv M y with
  |none=>rw[q1,q2]at p;exact p.elim
  |some ys =>
   rw[q1,q2]at p
   simp only at p
   split at p
   ·rename_i hz
    obtain⟨a,vs,rfl,h1,r1⟩:=tQ hr rx q1
    obtain⟨b,us,rfl,h2,r2⟩:=tQ hr ry q2
    exact⟨a,b,vs,us,rfl,rfl,h1,h2,by rw[<- r1.length,<- r2.length,aBB];exact hz,hG hr (r1.append r2) p⟩
   ·exact p.elim
theorem opAdd:OpG X K Z (binaryOp .Add) pAdd:=λhk=>by
 refine⟨_,OpR.or (OpR.or aCh (hk▸yJ)) (OpR.or aCe rJ),?_⟩
 intro μ H M x y v u Q hr rx ry p
 have gen:=λp=>rF (Q:=Q) (K:=K) (Z:=Z) hr rx ry p
 cases x with
 |ref i=>exact .inr (.inl (gen p))
 |ob _ _=>exact .inr (.inl (gen p))
 |nest _=>exact .inr (.inl (gen p))
 |d x =>
  cases y with
  |ref j=>exact .inr (.inl (gen (by cases x <;> exact p)))
  |ob _ _=>exact .inr (.inl (gen (by cases x <;> exact p)))
  |nest _=>exact .inr (.inl (gen (by cases x <;> exact p)))
  |d y =>
   cases x <;> cases y <;> first
    |exact .inr (.inl (gen p))
    |skip
   ·simp only[Rw,Rp]at rx ry;exact .inl (.inl ⟨_,_,rx,ry,p μ H .refl hr _ (by simp[Rw,Rp])⟩)
   ·simp only[Rw,Rp]at rx ry
    simp only[pAdd]at p
    split at p
    ·rename_i hz
     exact .inr (.inr ⟨_,_,rx,ry,by rw[aBB];exact hz,p μ H .refl hr _ (by simp[Rw,Rp])⟩)
    ·exact p.elim
   ·rename_i xs ys
    have rx':=rx
    have ry':=ry
    simp only[Rw,Rp]at rx ry
    obtain⟨a,vs,rfl,h1,r1⟩:=rx
    obtain⟨b,us,rfl,h2,r2⟩:=ry
    simp only[pAdd]at p
    split at p
    ·rename_i hz
     refine .inl (.inr ⟨a,b,vs,us,rfl,rfl,SqT.of h1,SqT.of h2,by rw[<- r1.length,<- r2.length,aBB];exact hz,λe=>?_,λe=>?_,iX hr (r1.append r2) p⟩)
     ·subst e
      have:xs=[]:=by have:=r1.length;simpa using this
      subst this
      exact p μ H .refl hr _ (by simpa using ry')
     ·subst e
      have:ys=[]:=by have:=r2.length;simpa using this
      subst this
      exact p μ H .refl hr _ (by simpa using rx')
    ·exact p.elim
noncomputable def pI(c:Int->Int->Bool)(g:Int->Int->D)(x y:W)(M:Mm):Oc W:=match x,y with
 |.d (.int i),.d (.int j)=>if c i j=true then .ok (.d (g i j)) M else .bad
 |_,_=>.bad
variable{gv:Int->Int->V}
theorem opI{C:Int->Int->Prop}{c:Int->Int->Bool}{g:Int->Int->D}(h:OpR X F (rI C gv))(hc:∀i j,c i j=true->C i j)(hg:∀K μ H i j,Rp K μ H (g i j) (gv i j)) :
  OpG X K Z F (pI c g):=λhk=>⟨_,h,by
 intro μ H M x y v u Q hr rx ry p
 cases x with
 |ref i=>exact p.elim
 |ob _ _=>exact p.elim
 |nest _=>exact p.elim
 |d x=>cases y with
  |ref j=>cases x <;> exact p.elim
  |ob _ _=>cases x <;> exact p.elim
  |nest _=>cases x <;> exact p.elim
  |d y=>cases x <;> cases y <;> first
   |exact p.elim
   |(simp only[Rw,Rp]at rx ry
     simp only[pI]at p
     split at p
     ·rename_i hz;exact⟨_,_,rx,ry,hc _ _ hz,p μ H .refl hr _ (hg K μ H _ _)⟩
     ·exact p.elim)⟩
theorem opI0{g:Int->Int->D}(h:OpR X F (rI0 gv))(hg:∀K μ H i j,Rp K μ H (g i j) (gv i j)):OpG X K Z F (pI (λ_ _=>true) g):=λhk=>⟨_,h,by
 intro μ H M x y v u Q hr rx ry p
 cases x with
 |ref i=>exact p.elim
 |ob _ _=>exact p.elim
 |nest _=>exact p.elim
 |d x=>cases y with
  |ref j=>cases x <;> exact p.elim
  |ob _ _=>cases x <;> exact p.elim
  |nest _=>cases x <;> exact p.elim
  |d y=>cases x <;> cases y <;> first
   |exact p.elim
   |(simp only[Rw,Rp]at rx ry
     exact⟨_,_,rx,ry,p μ H .refl hr _ (hg K μ H _ _)⟩)⟩
noncomputable section
abbrev pSub:=pI (λ_ _=>true) λi j=>.int (i - j)
abbrev pLt:=pI (λ_ _=>true) λi j=>.bl (decide (i < j))
abbrev pGt:=pI (λ_ _=>true) λi j=>.bl (decide (j < i))
abbrev pGe:=pI (λ_ _=>true) λi j=>.bl (decide (j<=i))
abbrev pMod:=pI (λ_ j=>decide (0 < j)) λi j=>.int (i % j)
abbrev pDiv:=pI (λ_ j=>decide (0 < j/\j < 18446744073709551616)) λi j=>.int (i / j)
abbrev pPow:=pI (λi j=>decide (0<=j/\j<=1000000/\i.natAbs < 18446744073709551616)) λi j=>.int (i ^ j.toNat)
theorem opSub:OpG X K Z (binaryOp .Sub) pSub:=opI0 aBs λ_ _ _ _ _=>by simp[Rp]
theorem opLt:OpG X K Z (compareOp .Lt) pLt:=opI0 aFb λ_ _ _ _ _=>by simp[Rp]
theorem opGt:OpG X K Z (compareOp .Gt) pGt:=opI0 aEq λ_ _ _ _ _=>by simp[Rp]
theorem opGe:OpG X K Z (compareOp .GtE) pGe:=opI0 aEm λ_ _ _ _ _=>by simp[Rp]
theorem opMod:OpG X K Z (binaryOp .Mod) pMod:=opI aCy (λ_ _ h=>aET h) λ_ _ _ _ _=>by simp[Rp]
theorem opDiv:OpG X K Z (binaryOp .FloorDiv) pDiv:=opI xM (λ_ _ h=>by simp only[aAW]at h;exact h) λ_ _ _ _ _=>by simp[Rp]
theorem opPow:OpG X K Z (binaryOp .Pow) pPow:=opI aBj (λ_ _ h=>by simp only[aAW]at h;exact h) λ_ _ _ _ _=>by simp[Rp]
def isN:W->Bool
 |.d .non=>true
 |_=>false
def pIs(x y:W)(M:Mm):Oc W:=match y with
 |.d .non=>.ok (.d (.bl (isN x))) M
 |_=>.bad
end
theorem aEa{x:W}(r:Rw K μ H x v):decide (v=.non)=isN x:=by
 cases x with
 |ref i=>obtain⟨a,_,rfl,_⟩:=r;simp[isN]
 |ob c i=>obtain⟨a,_,rfl,_⟩:=r;simp[isN]
 |nest c=>obtain⟨a,_,rfl,_⟩:=r;simp[isN]
 |d x=>cases x with
  |non=>simp only[Rw,Rp]at r;subst r;simp[isN]
  |bl b=>simp only[Rw,Rp]at r;subst r;simp[isN]
  |int b=>simp only[Rw,Rp]at r;subst r;simp[isN]
  |str b=>simp only[Rw,Rp]at r;subst r;simp[isN]
  |tup b=>simp only[Rw,Rp]at r;obtain⟨a,vs,rfl,_⟩:=r;simp[isN]
  |lst b=>simp only[Rw,Rp]at r;obtain⟨a,vs,rfl,_⟩:=r;simp[isN]
  |fz b=>simp only[Rw,Rp]at r;obtain⟨a,vs,rfl,_⟩:=r;simp[isN]
  |exn c f b=>simp only[Rw,Rp]at r;obtain⟨a,vs,_,_,_,rfl,_⟩:=r;simp[isN]
theorem opIs:OpG X K Z (compareOp .Is) pIs:=λhk=>⟨_,aBe,by
 intro μ H M x y v u Q hr rx ry p
 cases y with
 |ref j=>exact p.elim
 |ob _ _=>exact p.elim
 |nest _=>exact p.elim
 |d y=>cases y with
  |non=>simp only[Rw,Rp]at ry;exact⟨ry,p μ H .refl hr _ (by simp only[Rw,Rp];rw[aEa rx])⟩
  |_=>exact p.elim⟩
variable{K:Frag}
mutual
noncomputable def eqD:D->D->Bool
 |.non,.non=>true
 |.bl a,.bl b=>a==b
 |.bl a,.int b=>(if a then 1 else 0)==b
 |.int a,.bl b=>a==(if b then 1 else 0)
 |.int a,.int b=>a==b
 |.str a,.str b=>a==b
 |.tup xs,.tup ys=>eqDs xs ys
 |.lst xs,.lst ys=>eqDs xs ys
 |.lst xs,.fz ys=>eqDs xs ys
 |.fz xs,.lst ys=>eqDs xs ys
 |.fz xs,.fz ys=>eqDs xs ys
 |.exn c f xs,.exn c' f' ys=>c==c'&&f==f'&&eqDs xs ys
 |_,_=>false
noncomputable def eqDs:List D->List D->Bool
 |[],[]=>true
 |x::xs,y::ys=>eqD x y&&eqDs xs ys
 |_,_=>false
end
mutual
noncomputable def dep:D->Nat
 |.tup xs=>deps xs+1
 |.lst xs=>deps xs+1
 |.fz xs=>deps xs+1
 |.exn _ _ _=>1000
 |_=>0
noncomputable def deps:List D->Nat
 |[]=>0
 |x::xs=>max (dep x) (deps xs)
end
theorem pR:∀{xs:List D} {i:Nat} {x:D},xs[i]?=some x->dep x<=deps xs
 |[],_,_,h=>by simp at h
 |y::xs,0,x,h=>by simp at h;subst h;simp only[deps];lia
 |y::xs,i+1,x,h=>by
  have:=pR (xs:=xs) (i:=i) (x:=x) (by simpa using h)
  simp only[deps];lia
theorem jK:∀(xs ys:List D),eqDs xs ys=((List.range (min xs.length ys.length)).all (λi=>eqD (xs.getD i .non) (ys.getD i .non))&&xs.length==ys.length)
 |[],[]=>rfl
 |[],y::ys=>by simp[eqDs]
 |x::xs,[]=>by simp[eqDs]
 |x::xs,y::ys=>by
  simp only[eqDs]
  rw[jK xs ys]
  have:min (x::xs).length (y::ys).length=min xs.length ys.length+1:=by simp
  rw[this,List.range_succ_eq_map,aEZ]
  simp only[List.getD_cons_zero,List.all_map,Bool.and_assoc,aBT]
  congr 1
  congr 1
  rw[aFH];simp
variable{σ:L2.St}
theorem tF{ds:List D}(r:Rps K μ H ds vs)(rv:Vals vs its)(h:i < its.toArray.size):∃d v,ds[i]?=some d/\Rp K μ H d v/\RelV v its.toArray[i]:=by
 have h1:i < its.length:=by simpa using h
 have h2:i < vs.length:=by rw[rv.length];exact h1
 have h3:i < ds.length:=by rw[r.length];exact h2
 obtain⟨v,q1,q2⟩:=r.get (i:=i) (d:=ds[i]) (by simp[h3])
 obtain⟨u,q3,q4⟩:=rv.get q1
 refine⟨ds[i],v,by simp[h3],q2,?_⟩
 rw[aBK h1]at q3
 cases q3
 simpa using q4
theorem sV{ds:List D}{d:D}(h:ds[i]?=some d):ds.getD i .non=d:=by rw[aCK,h];rfl
noncomputable abbrev Eqs(K:Frag)(μ:List Addr)(H:Hp)(s:Shared)(A:Around)(xs:List D):Prop :=
 ∀(j:Nat) (d:D),xs[j]?=some d->∀(d2:D) (v1 v2:V) (u1 u2:Value),dep d2<=100->Rp K μ H d v1->Rp K μ H d2 v2->RelV v1 u1->RelV v2 u2->SeqAt.EqAt A s u1 u2 (eqD d d2)
variable{us:List V}
theorem iZ{xs ys:List D}{its its2:List Value}(r1:Rps K μ H xs vs)(r2:Rps K μ H ys us)(q1:Vals vs its)(q2:Vals us its2)(n2:deps ys<=100)(ih:Eqs K μ H s A xs) :
  ∀j (h1:j < its.toArray.size) (h2:j < its2.toArray.size),SeqAt.EqAt A s its.toArray[j] its2.toArray[j] ((λi=>eqD (xs.getD i .non) (ys.getD i .non)) j):=by
 intro j h1 h2
 obtain⟨d,v,e1,e2,e3⟩:=tF r1 q1 h1
 obtain⟨d',v',e1',e2',e3'⟩:=tF r2 q2 h2
 simp only[sV e1,sV e1']
 exact ih j d e1 d' v v' _ _ (aBL (pR e1') n2) e2 e2' e3 e3'
theorem iW{xs ys:List D}{its2:List Value}(r1:Rps K μ H xs vs)(r2:Rps K μ H ys us)(q1:Vals vs its)(q2:Vals us its2):its.toArray.size=xs.length/\its2.toArray.size=ys.length:=by
 simp[r1.length,r2.length,q1.length,q2.length]
theorem aBk{xs ys:List D}{a b:Addr}(I:Inv X pins σ H s)(h1:SqT X.K H a vs)(h2:SqT X.K H b us)(r1:Rps K μ H xs vs)(r2:Rps K μ H ys us)(hu:A.units < cLine)(n2:deps ys<=100)(ih:Eqs K μ H s A.in1 xs) :
  SeqAt.RcAt A s (.ref a) (.ref b) (eqDs xs ys):=by
 obtain⟨its,q1,p1,_⟩:=I.tuple h1
 obtain⟨its2,q2,p2,_⟩:=I.tuple h2
 have:=SeqAt.RcAt.tuples p1 p2 hu (iZ r1 r2 q1 q2 n2 ih)
 obtain⟨e1,e2⟩:=iW r1 r2 q1 q2
 rw[e1,e2]at this
 rw[jK];exact this
theorem xH{xs ys:List D}{a b:Addr}(I:Inv X pins σ H s)(h1:SqT X.K H a vs)(h2:SqT X.K H b us)(r1:Rps K μ H xs vs)(r2:Rps K μ H ys us)(hu:A.units < cLine)(n2:deps ys<=100)(ih:Eqs K μ H s A.in1 xs) :
  SeqAt.RcNeAt A s (.ref a) (.ref b) (!eqDs xs ys):=by
 obtain⟨its,q1,p1,_⟩:=I.tuple h1
 obtain⟨its2,q2,p2,_⟩:=I.tuple h2
 have:=SeqAt.RcNeAt.tuples p1 p2 hu (iZ r1 r2 q1 q2 n2 ih)
 obtain⟨e1,e2⟩:=iW r1 r2 q1 q2
 rw[e1,e2]at this
 rw[jK];exact this
theorem pH{xs ys:List D}(h:xs.length≠ys.length):eqDs xs ys=false:=by
 rw[jK]
 have:(xs.length==ys.length)=false:=by simpa using h
 rw[this,Bool.and_false]
theorem mS{xs ys:List D}(h:xs.length=ys.length):eqDs xs ys=(List.range xs.length).all (λi=>eqD (xs.getD i .non) (ys.getD i .non)):=by
 rw[jK,<- h];simp
theorem oP{xs ys:List D}{a b:Addr}(I:Inv X pins σ H s)(h1:SqL X.K H a vs)(h2:SqL X.K H b us)(r1:Rps K μ H xs vs)(r2:Rps K μ H ys us)(hu:A.units < cLine)(n2:deps ys<=100)(ih:Eqs K μ H s A.in1 xs) :
  SeqAt.RcAt A s (.ref a) (.ref b) (eqDs xs ys):=by
 obtain⟨its,q1,p1,_⟩:=I.list h1
 obtain⟨its2,q2,p2,_⟩:=I.list h2
 obtain⟨e1,e2⟩:=iW r1 r2 q1 q2
 by_cases hl:xs.length=ys.length
 ·have:=SeqAt.RcAt.lists p1.isList p2.isList (by rw[e1,e2,hl]) hu (iZ r1 r2 q1 q2 n2 ih)
  rw[e1]at this
  rw[mS hl];exact this
 ·rw[pH hl]
  exact SeqAt.RcAt.lists_lengths p1.isList p2.isList (by rw[e1,e2];simpa using hl) hu
theorem jD{xs ys:List D}{a b:Addr}(I:Inv X pins σ H s)(h1:SqL X.K H a vs)(h2:SqL X.K H b us)(r1:Rps K μ H xs vs)(r2:Rps K μ H ys us)(hu:A.units < cLine)(n2:deps ys<=100)(ih:Eqs K μ H s A.in1 xs) :
  SeqAt.RcNeAt A s (.ref a) (.ref b) (!eqDs xs ys):=by
 obtain⟨its,q1,p1,_⟩:=I.list h1
 obtain⟨its2,q2,p2,_⟩:=I.list h2
 obtain⟨e1,e2⟩:=iW r1 r2 q1 q2
 by_cases hl:xs.length=ys.length
 ·have:=SeqAt.RcNeAt.lists p1.isList p2.isList (by rw[e1,e2,hl]) hu (iZ r1 r2 q1 q2 n2 ih)
  rw[e1]at this
  rw[mS hl];exact this
 ·rw[pH hl]
  exact SeqAt.RcNeAt.lists_lengths p1.isList p2.isList (by rw[e1,e2];simpa using hl) hu
noncomputable def fv:D->Option V
 |.non=>some .non
 |.bl b=>some (.bl b)
 |.int i=>some (.int i)
 |.str x=>some (.str x)
 |_=>none
theorem nF{d:D}(h:fv d=some u)(r:Rp K μ H d v):v=u/\flatV u=true:=by
 cases d <;> simp only[fv,aAR,reduceCtorEq]at h <;> (simp only[Rp]at r;subst h;exact⟨r,rfl⟩)
variable{w:V}
theorem wY{d e:D}(h:fv d=some u)(h':fv e=some w):eqV u w=eqD d e:=by
 cases d <;> simp only[fv,aAR,reduceCtorEq]at h <;> (cases e <;> simp only[fv,aAR,reduceCtorEq]at h' <;> (subst h;subst h';simp[eqV,eqD]))
theorem aEv{d:D}(r:Rp K μ H d v)(h:flatV v=true):fv d=some v:=by
 cases d with
 |non=>simp only[Rp]at r;subst r;rfl
 |bl b=>simp only[Rp]at r;subst r;rfl
 |int b=>simp only[Rp]at r;subst r;rfl
 |str b=>simp only[Rp]at r;subst r;rfl
 |tup b=>simp only[Rp]at r;obtain⟨a,vs,rfl,_⟩:=r;cases h
 |lst b=>simp only[Rp]at r;obtain⟨a,vs,rfl,_⟩:=r;cases h
 |fz b=>simp only[Rp]at r;obtain⟨a,vs,rfl,_⟩:=r;cases h
 |exn c f b=>simp only[Rp]at r;obtain⟨a,vs,_,_,_,rfl,_⟩:=r;cases h
theorem vU(h:flatV v=true):eqV v v=true:=by cases v <;> first|(cases h;done)|rfl|(simp[eqV];done)
theorem iO{d d':D}(hf:fv d=some u)(h:Rp K μ H d v)(h':Rp K μ H d' v):eqD d d'=true:=by
 obtain⟨rfl,fl⟩:=nF hf h
 rw[<- wY hf (aEv h' fl)]
 exact vU fl
inductive At(K:Frag)(μ:List Addr)(H:Hp):D->Addr->List D->Bool->Prop where
 |tup {a vs ds:_}:SqT K H a vs->Rps K μ H ds vs->At K μ H (.tup ds) a ds true
 |lst {a vs ds:_}:SqL K H a vs->Rps K μ H ds vs->At K μ H (.lst ds) a ds false
 |fz {a vs ds:_}:SqL K H a vs->Rps K μ H ds vs->At K μ H (.fz ds) a ds false
theorem kI{a:Addr}(I:Inv X pins σ H s)(h1:SqT X.K H a vs)(h2:SqL X.K H a us):False:=by
 obtain⟨its,q1,p1,_⟩:=I.tuple h1
 obtain⟨its2,q2,p2,_⟩:=I.list h2
 exact SeqAt.ne_of_list_tuple p2.isList p1 rfl
mutual
theorem wK(I:Inv X pins σ H s)(hk:X.K=K):∀(d d':D) (v:V),dep d<=100->dep d'<=100->Rp K μ H d v->Rp K μ H d' v->eqD d d'=true
 |.non,d',v,n,n',h,h'=>iO rfl h h'
 |.bl x,d',v,n,n',h,h'=>iO rfl h h'
 |.int x,d',v,n,n',h,h'=>iO rfl h h'
 |.str x,d',v,n,n',h,h'=>iO rfl h h'
 |.tup xs,d',v,n,n',h,h'=>by
  simp only[Rp]at h
  obtain⟨a,vs,rfl,h1,r1⟩:=h
  cases d' with
  |tup ys =>
   simp only[Rp]at h'
   obtain⟨b,us,e,h2,r2⟩:=h'
   cases e
   cases I.tuple_inj (SqT.of (K:=X.K) h1) (SqT.of h2)
   simp only[eqD]
   exact hW I hk xs ys vs (by simp only[dep]at n;lia) (by simp only[dep]at n';lia) r1 r2
  |lst ys=>simp only[Rp]at h';obtain⟨b,us,e,h2,_,r2⟩:=h';cases e;exact(kI I (SqT.of h1) (SqL.of h2)).elim
  |fz ys=>simp only[Rp]at h';obtain⟨b,us,e,h2,r2⟩:=h';cases e;exact(kI I (SqT.of h1) (hk▸h2.sq)).elim
  |exn c f ys=>simp[dep]at n'
  |_=>simp only[Rp]at h';cases h'
 |.lst xs,d',v,n,n',h,h'=>by
  simp only[Rp]at h
  obtain⟨a,vs,rfl,h1,_,r1⟩:=h
  cases d' with
  |tup ys=>simp only[Rp]at h';obtain⟨b,us,e,h2,r2⟩:=h';cases e;exact(kI I (SqT.of h2) (SqL.of h1)).elim
  |lst ys =>
   simp only[Rp]at h';obtain⟨b,us,e,h2,_,r2⟩:=h';cases e
   cases I.list_inj (SqL.of h1) (SqL.of h2)
   simp only[eqD]
   exact hW I hk xs ys vs (by simp only[dep]at n;lia) (by simp only[dep]at n';lia) r1 r2
  |fz ys =>
   simp only[Rp]at h';obtain⟨b,us,e,h2,r2⟩:=h';cases e
   cases I.list_inj (SqL.of h1) (hk▸h2.sq)
   simp only[eqD]
   exact hW I hk xs ys vs (by simp only[dep]at n;lia) (by simp only[dep]at n';lia) r1 r2
  |exn c f ys=>simp[dep]at n'
  |_=>simp only[Rp]at h';cases h'
 |.fz xs,d',v,n,n',h,h'=>by
  simp only[Rp]at h
  obtain⟨a,vs,rfl,h1,r1⟩:=h
  cases d' with
  |tup ys=>simp only[Rp]at h';obtain⟨b,us,e,h2,r2⟩:=h';cases e;exact(kI I (SqT.of h2) (hk▸h1.sq)).elim
  |lst ys =>
   simp only[Rp]at h';obtain⟨b,us,e,h2,_,r2⟩:=h';cases e
   cases I.list_inj (hk▸h1.sq) (SqL.of h2)
   simp only[eqD]
   exact hW I hk xs ys vs (by simp only[dep]at n;lia) (by simp only[dep]at n';lia) r1 r2
  |fz ys =>
   simp only[Rp]at h';obtain⟨b,us,e,h2,r2⟩:=h';cases e
   cases I.list_inj (hk▸h1.sq) (hk▸h2.sq)
   simp only[eqD]
   exact hW I hk xs ys vs (by simp only[dep]at n;lia) (by simp only[dep]at n';lia) r1 r2
  |exn c f ys=>simp[dep]at n'
  |_=>simp only[Rp]at h';cases h'
 |.exn c f xs,d',v,n,n',h,h'=>by simp[dep]at n
theorem hW(I:Inv X pins σ H s)(hk:X.K=K):∀(xs ys:List D) (vs:List V),deps xs<=100->deps ys<=100->Rps K μ H xs vs->Rps K μ H ys vs->eqDs xs ys=true
 |[],ys,vs,n,n',h,h'=>by simp only[Rps]at h;subst h;cases ys with|nil=>rfl|cons y ys=>simp only[Rps]at h';obtain⟨_,_,e,_⟩:=h';cases e
 |x::xs,ys,vs,n,n',h,h'=>by
  simp only[Rps]at h
  obtain⟨v,r,rfl,e2,e3⟩:=h
  cases ys with
  |nil=>simp only[Rps]at h';cases h'
  |cons y ys =>
   simp only[Rps]at h'
   obtain⟨v',r',e,e2',e3'⟩:=h'
   cases e
   simp only[deps]at n n'
   simp only[eqDs,wK I hk x y v (by lia) (by lia) e2 e2',hW I hk xs ys r (by lia) (by lia) e3 e3',Bool.and_self]
end
theorem iR{d:D}(h:fv d=none)(n:dep d<=100)(r:Rp K μ H d v):∃a ds k,v=.ref a/\At K μ H d a ds k:=by
 cases d with
 |tup xs=>simp only[Rp]at r;obtain⟨a,vs,e,q1,q2⟩:=r;exact⟨a,xs,true,e,.tup (SqT.of q1) q2⟩
 |lst xs=>simp only[Rp]at r;obtain⟨a,vs,e,q1,_,q2⟩:=r;exact⟨a,xs,false,e,.lst (SqL.of q1) q2⟩
 |fz xs=>simp only[Rp]at r;obtain⟨a,vs,e,q1,q2⟩:=r;exact⟨a,xs,false,e,.fz q1.sq q2⟩
 |exn c f xs=>simp[dep]at n
 |_=>simp[fv]at h
variable{v1 v2 w2:V}{u1:Value}
theorem zQ{d d2:D}(n1:fv d=some w)(n2:fv d2=some w2)(h1:Rp K μ H d v1)(h2:Rp K μ H d2 v2)(q1:RelV v1 u1)(q2:RelV v2 u2) :
  (SeqAt.RcAt A s u1 u2 (eqD d d2)/\SeqAt.RcNeAt A s u1 u2 (!eqD d d2)):=by
 cases d with
 |non =>
  simp only[Rp]at h1;subst h1;cases q1
  cases d2 with
  |non=>simp only[Rp]at h2;subst h2;cases q2;simp only[eqD];exact⟨SeqAt.RcAt.none_none,SeqAt.RcNeAt.none_none⟩
  |bl y=>simp only[Rp]at h2;subst h2;cases q2;simp only[eqD];exact⟨SeqAt.RcAt.none_bool y,SeqAt.RcNeAt.none_bool y⟩
  |int y=>simp only[Rp]at h2;subst h2;obtain⟨t2,rfl⟩:=q2;simp only[eqD];exact⟨SeqAt.RcAt.none_int y t2,SeqAt.RcNeAt.none_int y t2⟩
  |str y=>simp only[Rp]at h2;subst h2;obtain⟨t2,rfl⟩:=q2;simp only[eqD];exact⟨SeqAt.RcAt.none_str y t2,SeqAt.RcNeAt.none_str y t2⟩
  |_=>simp[fv]at n2
 |bl x =>
  simp only[Rp]at h1;subst h1;cases q1
  cases d2 with
  |non=>simp only[Rp]at h2;subst h2;cases q2;simp only[eqD];exact⟨SeqAt.RcAt.bool_none x,SeqAt.RcNeAt.bool_none x⟩
  |bl y=>simp only[Rp]at h2;subst h2;cases q2;simp only[eqD];exact⟨SeqAt.RcAt.bool_bool x y,SeqAt.RcNeAt.bool_bool x y⟩
  |int y=>simp only[Rp]at h2;subst h2;obtain⟨t2,rfl⟩:=q2;simp only[eqD];exact⟨SeqAt.RcAt.bool_int x y t2,SeqAt.RcNeAt.bool_int x y t2⟩
  |str y=>simp only[Rp]at h2;subst h2;obtain⟨t2,rfl⟩:=q2;simp only[eqD];exact⟨SeqAt.RcAt.bool_str x y t2,SeqAt.RcNeAt.bool_str x y t2⟩
  |_=>simp[fv]at n2
 |int x =>
  simp only[Rp]at h1;subst h1;obtain⟨t,rfl⟩:=q1
  cases d2 with
  |non=>simp only[Rp]at h2;subst h2;cases q2;simp only[eqD];exact⟨SeqAt.RcAt.int_none x t,SeqAt.RcNeAt.int_none x t⟩
  |bl y=>simp only[Rp]at h2;subst h2;cases q2;simp only[eqD];exact⟨SeqAt.RcAt.int_bool x t y,SeqAt.RcNeAt.int_bool x t y⟩
  |int y=>simp only[Rp]at h2;subst h2;obtain⟨t2,rfl⟩:=q2;simp only[eqD];exact⟨SeqAt.RcAt.int_int x t y t2,SeqAt.RcNeAt.int_int x t y t2⟩
  |str y=>simp only[Rp]at h2;subst h2;obtain⟨t2,rfl⟩:=q2;simp only[eqD];exact⟨SeqAt.RcAt.int_str x t y t2,SeqAt.RcNeAt.int_str x t y t2⟩
  |_=>simp[fv]at n2
 |str x =>
  simp only[Rp]at h1;subst h1;obtain⟨t,rfl⟩:=q1
  cases d2 with
  |non=>simp only[Rp]at h2;subst h2;cases q2;simp only[eqD];exact⟨SeqAt.RcAt.str_none x t,SeqAt.RcNeAt.str_none x t⟩
  |bl y=>simp only[Rp]at h2;subst h2;cases q2;simp only[eqD];exact⟨SeqAt.RcAt.str_bool x t y,SeqAt.RcNeAt.str_bool x t y⟩
  |int y=>simp only[Rp]at h2;subst h2;obtain⟨t2,rfl⟩:=q2;simp only[eqD];exact⟨SeqAt.RcAt.str_int x t y t2,SeqAt.RcNeAt.str_int x t y t2⟩
  |str y=>simp only[Rp]at h2;subst h2;obtain⟨t2,rfl⟩:=q2;simp only[eqD];exact⟨SeqAt.RcAt.str_str x t y t2,SeqAt.RcNeAt.str_str x t y t2⟩
  |_=>simp[fv]at n2
 |_=>simp[fv]at n1
variable{its:Array Value}
theorem sE{d2:D}{a:Addr}(pl:s.heap.IsTuple a its)(hu:A.units < cLine)(n2:fv d2=some w2)(h2:Rp K μ H d2 v2)(q2:RelV v2 u2) :
  SeqAt.EqAt A s (.ref a) u2 false/\SeqAt.EqAt A s u2 (.ref a) false/\SeqAt.RcAt A s (.ref a) u2 false/\SeqAt.RcNeAt A s (.ref a) u2 true/\SeqAt.RcAt A s u2 (.ref a) false/\SeqAt.RcNeAt A s u2 (.ref a) true:=by
 cases d2 with
 |non=>simp only[Rp]at h2;subst h2;cases q2;exact⟨SeqAt.EqAt.tuple_none pl hu,SeqAt.EqAt.none_tuple pl hu,SeqAt.RcAt.tuple_none pl hu,SeqAt.RcNeAt.tuple_none pl hu,SeqAt.RcAt.none_tuple pl hu,SeqAt.RcNeAt.none_tuple pl hu⟩
 |bl y=>simp only[Rp]at h2;subst h2;cases q2;exact⟨SeqAt.EqAt.tuple_bool y pl hu,SeqAt.EqAt.bool_tuple y pl hu,SeqAt.RcAt.tuple_bool y pl hu,SeqAt.RcNeAt.tuple_bool y pl hu,SeqAt.RcAt.bool_tuple y pl hu,SeqAt.RcNeAt.bool_tuple y pl hu⟩
 |int y=>simp only[Rp]at h2;subst h2;obtain⟨t2,rfl⟩:=q2;exact⟨SeqAt.EqAt.tuple_int y t2 pl hu,SeqAt.EqAt.int_tuple y t2 pl hu,SeqAt.RcAt.tuple_int y t2 pl hu,SeqAt.RcNeAt.tuple_int y t2 pl hu,SeqAt.RcAt.int_tuple y t2 pl hu,SeqAt.RcNeAt.int_tuple y t2 pl hu⟩
 |str y=>simp only[Rp]at h2;subst h2;obtain⟨t2,rfl⟩:=q2;exact⟨SeqAt.EqAt.tuple_str y t2 pl hu,SeqAt.EqAt.str_tuple y t2 pl hu,SeqAt.RcAt.tuple_str y t2 pl hu,SeqAt.RcNeAt.tuple_str y t2 pl hu,SeqAt.RcAt.str_tuple y t2 pl hu,SeqAt.RcNeAt.str_tuple y t2 pl hu⟩
 |_=>simp[fv]at n2
theorem mY{d2:D}{a:Addr}(pl:s.heap.IsList a its)(hu:A.units < cLine)(n2:fv d2=some w2)(h2:Rp K μ H d2 v2)(q2:RelV v2 u2) :
  SeqAt.EqAt A s (.ref a) u2 false/\SeqAt.EqAt A s u2 (.ref a) false/\SeqAt.RcAt A s (.ref a) u2 false/\SeqAt.RcNeAt A s (.ref a) u2 true/\SeqAt.RcAt A s u2 (.ref a) false/\SeqAt.RcNeAt A s u2 (.ref a) true:=by
 cases d2 with
 |non=>simp only[Rp]at h2;subst h2;cases q2;exact⟨SeqAt.EqAt.list_none pl hu,SeqAt.EqAt.none_list pl hu,SeqAt.RcAt.list_none pl hu,SeqAt.RcNeAt.list_none pl hu,SeqAt.RcAt.none_list pl hu,SeqAt.RcNeAt.none_list pl hu⟩
 |bl y=>simp only[Rp]at h2;subst h2;cases q2;exact⟨SeqAt.EqAt.list_bool y pl hu,SeqAt.EqAt.bool_list y pl hu,SeqAt.RcAt.list_bool y pl hu,SeqAt.RcNeAt.list_bool y pl hu,SeqAt.RcAt.bool_list y pl hu,SeqAt.RcNeAt.bool_list y pl hu⟩
 |int y=>simp only[Rp]at h2;subst h2;obtain⟨t2,rfl⟩:=q2;exact⟨SeqAt.EqAt.list_int y t2 pl hu,SeqAt.EqAt.int_list y t2 pl hu,SeqAt.RcAt.list_int y t2 pl hu,SeqAt.RcNeAt.list_int y t2 pl hu,SeqAt.RcAt.int_list y t2 pl hu,SeqAt.RcNeAt.int_list y t2 pl hu⟩
 |str y=>simp only[Rp]at h2;subst h2;obtain⟨t2,rfl⟩:=q2;exact⟨SeqAt.EqAt.list_str y t2 pl hu,SeqAt.EqAt.str_list y t2 pl hu,SeqAt.RcAt.list_str y t2 pl hu,SeqAt.RcNeAt.list_str y t2 pl hu,SeqAt.RcAt.str_list y t2 pl hu,SeqAt.RcNeAt.str_list y t2 pl hu⟩
 |_=>simp[fv]at n2
variable{k:Bool}
theorem kE{d d2:D}{a:Addr}{xs:List D}(I:Inv X pins σ H s)(hk:X.K=K)(hu:A.units < cLine)(h1:At K μ H d a xs k)(n2:fv d2=some w2)(h2:Rp K μ H d2 v2)(q2:RelV v2 u2) :
  SeqAt.EqAt A s (.ref a) u2 false/\SeqAt.EqAt A s u2 (.ref a) false/\SeqAt.RcAt A s (.ref a) u2 false/\SeqAt.RcNeAt A s (.ref a) u2 true/\SeqAt.RcAt A s u2 (.ref a) false/\SeqAt.RcNeAt A s u2 (.ref a) true:=by
 cases h1 with
 |tup h r=>obtain⟨its,r',pl,_⟩:=I.tuple (hk▸h);exact sE pl hu n2 h2 q2
 |lst h r=>obtain⟨its,r',pl,_⟩:=I.list (hk▸h);exact mY pl.isList hu n2 h2 q2
 |fz h r=>obtain⟨its,r',pl,_⟩:=I.list (hk▸h);exact mY pl.isList hu n2 h2 q2
theorem gD{d d2:D}(n1:fv d=none)(n2:fv d2=some w):eqD d d2=false/\eqD d2 d=false:=by
 cases d <;> simp only[fv,reduceCtorEq]at n1 <;> (cases d2 <;> simp only[fv,reduceCtorEq]at n2 <;> exact⟨rfl,rfl⟩)
theorem zX{d d2:D}{a b:Addr}{xs ys:List D}{k2:Bool}(I:Inv X pins σ H s)(hk:X.K=K)(hu:A.units < cLine)(h1:At K μ H d a xs k)(h2:At K μ H d2 b ys k2)(n2:dep d2<=100)(ih:Eqs K μ H s A.in1 xs) :
  SeqAt.RcAt A s (.ref a) (.ref b) (eqD d d2)/\SeqAt.RcNeAt A s (.ref a) (.ref b) (!eqD d d2):=by
 cases h1 with
 |tup h r=>cases h2 with
  |tup h' r'=>exact⟨aBk I (hk▸h) (hk▸h') r r' hu (by simp only[dep]at n2;lia) ih,xH I (hk▸h) (hk▸h') r r' hu (by simp only[dep]at n2;lia) ih⟩
  |lst h' r' =>
   obtain⟨_,_,pl,_⟩:=I.tuple (hk▸h);obtain⟨_,_,pl',_⟩:=I.list (hk▸h')
   exact⟨.tuple_list pl pl'.isList hu,.tuple_list pl pl'.isList hu⟩
  |fz h' r' =>
   obtain⟨_,_,pl,_⟩:=I.tuple (hk▸h);obtain⟨_,_,pl',_⟩:=I.list (hk▸h')
   exact⟨.tuple_list pl pl'.isList hu,.tuple_list pl pl'.isList hu⟩
 |lst h r=>cases h2 with
  |tup h' r' =>
   obtain⟨_,_,pl,_⟩:=I.list (hk▸h);obtain⟨_,_,pl',_⟩:=I.tuple (hk▸h')
   exact⟨.list_tuple pl.isList pl' hu,.list_tuple pl.isList pl' hu⟩
  |lst h' r'=>exact⟨oP I (hk▸h) (hk▸h') r r' hu (by simp only[dep]at n2;lia) ih,jD I (hk▸h) (hk▸h') r r' hu (by simp only[dep]at n2;lia) ih⟩
  |fz h' r'=>exact⟨oP I (hk▸h) (hk▸h') r r' hu (by simp only[dep]at n2;lia) ih,jD I (hk▸h) (hk▸h') r r' hu (by simp only[dep]at n2;lia) ih⟩
 |fz h r=>cases h2 with
  |tup h' r' =>
   obtain⟨_,_,pl,_⟩:=I.list (hk▸h);obtain⟨_,_,pl',_⟩:=I.tuple (hk▸h')
   exact⟨.list_tuple pl.isList pl' hu,.list_tuple pl.isList pl' hu⟩
  |lst h' r'=>exact⟨oP I (hk▸h) (hk▸h') r r' hu (by simp only[dep]at n2;lia) ih,jD I (hk▸h) (hk▸h') r r' hu (by simp only[dep]at n2;lia) ih⟩
  |fz h' r'=>exact⟨oP I (hk▸h) (hk▸h') r r' hu (by simp only[dep]at n2;lia) ih,jD I (hk▸h) (hk▸h') r r' hu (by simp only[dep]at n2;lia) ih⟩
theorem gA{d d2:D}(I:Inv X pins σ H s)(hk:X.K=K)(hu:A.units < cLine)(h1:Rp K μ H d v1)(h2:Rp K μ H d2 v2)(q1:RelV v1 u1)(q2:RelV v2 u2)(m1:dep d<=100)(m2:dep d2<=100)
  (ih:∀a xs k,At K μ H d a xs k->Eqs K μ H s A.in1 xs):SeqAt.EqAt A s u1 u2 (eqD d d2):=by
 cases n1:fv d with
 |some w =>
  cases n2:fv d2 with
  |some w2 =>
   obtain⟨rfl,f1⟩:=nF n1 h1
   obtain⟨rfl,f2⟩:=nF n2 h2
   rw[<- wY n1 n2]
   exact vT q1 q2 f1 f2
  |none =>
   obtain⟨a,ds,k,rfl,at2⟩:=iR n2 m2 h2
   cases q2
   rw[(gD n2 n1).2]
   exact(kE I hk hu at2 n1 h1 q1).2.1
 |none =>
  cases n2:fv d2 with
  |some w2 =>
   obtain⟨a,ds,k,rfl,at1⟩:=iR n1 m1 h1
   cases q1
   rw[(gD n1 n2).1]
   exact(kE I hk hu at1 n2 h2 q2).1
  |none =>
   obtain⟨a,xs,k,rfl,at1⟩:=iR n1 m1 h1
   obtain⟨b,ys,k2,rfl,at2⟩:=iR n2 m2 h2
   cases q1
   cases q2
   by_cases hab:a=b
   ·subst hab
    rw[wK I hk d d2 _ m1 m2 h1 h2]
    exact .same _
   ·exact .of_refs hab (zX I hk hu at1 at2 m2 (ih a xs k at1)).1
mutual
theorem aDd(I:Inv X pins σ H s)(hk:X.K=K):∀(d:D) (A:Around) (d2:D) (v1 v2:V) (u1 u2:Value),A.units+dep d < cLine->dep d<=100->dep d2<=100->Rp K μ H d v1->Rp K μ H d2 v2->RelV v1 u1->RelV v2 u2->SeqAt.EqAt A s u1 u2 (eqD d d2)
 |.non,A,d2,v1,v2,u1,u2,hu,m1,m2,h1,h2,q1,q2=>gA I hk (by lia) h1 h2 q1 q2 m1 m2 λa xs k z=>nomatch z
 |.bl x,A,d2,v1,v2,u1,u2,hu,m1,m2,h1,h2,q1,q2=>gA I hk (by lia) h1 h2 q1 q2 m1 m2 λa xs k z=>nomatch z
 |.int x,A,d2,v1,v2,u1,u2,hu,m1,m2,h1,h2,q1,q2=>gA I hk (by lia) h1 h2 q1 q2 m1 m2 λa xs k z=>nomatch z
 |.str x,A,d2,v1,v2,u1,u2,hu,m1,m2,h1,h2,q1,q2=>gA I hk (by lia) h1 h2 q1 q2 m1 m2 λa xs k z=>nomatch z
 |.tup xs,A,d2,v1,v2,u1,u2,hu,m1,m2,h1,h2,q1,q2=>gA I hk (by lia) h1 h2 q1 q2 m1 m2 λa ys k z=>by
  have e:xs=ys:=by cases z;rfl
  subst e
  exact iQ I hk xs A.in1 (by simp only[dep]at hu;show A.units+1+deps xs < cLine;lia) (by simp only[dep]at m1;lia)
 |.lst xs,A,d2,v1,v2,u1,u2,hu,m1,m2,h1,h2,q1,q2=>gA I hk (by lia) h1 h2 q1 q2 m1 m2 λa ys k z=>by
  have e:xs=ys:=by cases z;rfl
  subst e
  exact iQ I hk xs A.in1 (by simp only[dep]at hu;show A.units+1+deps xs < cLine;lia) (by simp only[dep]at m1;lia)
 |.fz xs,A,d2,v1,v2,u1,u2,hu,m1,m2,h1,h2,q1,q2=>gA I hk (by lia) h1 h2 q1 q2 m1 m2 λa ys k z=>by
  have e:xs=ys:=by cases z;rfl
  subst e
  exact iQ I hk xs A.in1 (by simp only[dep]at hu;show A.units+1+deps xs < cLine;lia) (by simp only[dep]at m1;lia)
 |.exn c f xs,A,d2,v1,v2,u1,u2,hu,m1,m2,h1,h2,q1,q2=>by simp[dep]at m1
theorem iQ(I:Inv X pins σ H s)(hk:X.K=K):∀(xs:List D) (A:Around),A.units+deps xs < cLine->deps xs<=100->Eqs K μ H s A xs
 |[],A,hu,m=>λj d h=>by simp at h
 |x::xs,A,hu,m=>λj d h=>match j,h with
  |0,h=>λd2 v1 v2 u1 u2 m2 r1 r2 q1 q2=>by
   have e:d=x:=by simpa using h.symm
   rw[e]at r1 ⊢
   exact aDd I hk x A d2 v1 v2 u1 u2 (by simp only[deps]at hu;lia) (by simp only[deps]at m;lia) m2 r1 r2 q1 q2
  |j+1,h=>λd2 v1 v2 u1 u2 m2 r1 r2 q1 q2=>iQ I hk xs A (by simp only[deps]at hu;lia) (by simp only[deps]at m;lia) j d (by simpa using h) d2 v1 v2 u1 u2 m2 r1 r2 q1 q2
end
noncomputable section
def wd(M:Mm):W->Option D
 |.d x=>some x
 |.ref i=>(M[i]?).map D.lst
 |_=>none
def Rq(K:Frag)(μ:List Addr)(H:Hp)(d:D)(v:V):Prop:=Rp K μ H d v\/∃a ds vs,d=.lst ds/\v=.ref a/\H a=some (.lst vs)/\Rps K μ H ds vs
theorem tK{w:W}{d:D}(hr:HR K μ H M)(r:Rw K μ H w v)(h:wd M w=some d):Rq K μ H d v:=by
 cases w with
 |d x=>simp only[wd,aAR]at h;subst h;exact .inl r
 |ref i =>
  simp only[wd,aAM]at h
  obtain⟨ds,h1,rfl⟩:=h
  obtain⟨a,q,rfl,il⟩:=r
  obtain⟨a',vs,q1,q2,q3⟩:=hr.at h1 q
  rw[q]at q1;cases q1
  exact .inr ⟨a,ds,vs,rfl,rfl,q2,q3⟩
 |ob _ _=>simp[wd]at h
 |nest _=>simp[wd]at h
theorem nU{d:D}(n:fv d=none)(m:dep d<=100)(h:Rq K μ H d v):∃a ds k,v=.ref a/\At K μ H d a ds k:=by
 rcases h with h|⟨a,ds,vs,rfl,rfl,q1,q2⟩
 ·exact iR n m h
 ·exact⟨a,ds,false,rfl,.lst (SqL.of q1) q2⟩
theorem wC{d:D}(n:fv d=some w)(h:Rq K μ H d v):Rp K μ H d v:=by
 rcases h with h|⟨a,ds,vs,rfl,rfl,q1,q2⟩
 ·exact h
 ·cases n
theorem aAz{d:D}{a:Addr}{xs:List D}(h:At K μ H d a xs k):dep d=deps xs+1:=by cases h <;> rfl
def pEq(x y:W)(M:Mm):Oc W:=match wd M x,wd M y with
 |some d,some e=>if dep d<=100/\dep e<=100 then .ok (.d (.bl (eqD d e))) M else .bad
 |_,_=>.bad
def pNe(x y:W)(M:Mm):Oc W:=match wd M x,wd M y with
 |some d,some e=>if dep d<=100/\dep e<=100 then .ok (.d (.bl (!eqD d e))) M else .bad
 |_,_=>.bad
def rEqD(K:Frag)(neg:Bool):R2:=λv u H Q=>∃μ d e,Rq K μ H d v/\Rq K μ H e u/\(dep d<=100/\dep e<=100)/\Q (.bl (if neg=true then !eqD d e else eqD d e)) H
end
theorem aEy(I:Inv X pins σ H s)(hk:X.K=K){d d2:D}(hu:A.units+dep d+1 < cLine)(m1:dep d<=100)(m2:dep d2<=100)(h1:Rq K μ H d v1)(h2:Rq K μ H d2 v2)(q1:RelV v1 u1)(q2:RelV v2 u2) :
  (SeqAt.RcAt A s u1 u2 (eqD d d2)/\SeqAt.RcNeAt A s u1 u2 (!eqD d d2)):=by
 have hu0:A.units < cLine:=by lia
 cases n1:fv d with
 |some w =>
  have h1:=wC n1 h1
  cases n2:fv d2 with
  |some w2=>exact zQ n1 n2 h1 (wC n2 h2) q1 q2
  |none =>
   obtain⟨b,ys,k2,rfl,at2⟩:=nU n2 m2 h2
   cases q2
   rw[(gD n2 n1).2]
   obtain⟨_,_,_,_,x,y⟩:=kE I hk hu0 at2 n1 h1 q1
   exact⟨x,y⟩
 |none =>
  obtain⟨a,xs,k,rfl,at1⟩:=nU n1 m1 h1
  cases q1
  cases n2:fv d2 with
  |some w2 =>
   rw[(gD n1 n2).1]
   obtain⟨_,_,x,y,_⟩:=kE I hk hu0 at1 n2 (wC n2 h2) q2
   exact⟨x,y⟩
  |none =>
   obtain⟨b,ys,k2,rfl,at2⟩:=nU n2 m2 h2
   cases q2
   have:=aAz at1
   exact zX I hk hu0 at1 at2 m2 (iQ I hk xs A.in1 (by show A.units+1+deps xs < cLine;lia) (by lia))
theorem aBv(hu:X.A.units+101 < cLine):OpR X (compareOp .Eq) (rEqD X.K false):=by
 intro pins s σ H x y v u Q I rx ry h
 obtain⟨μ,d,e,h1,h2,h3,q⟩:=h
 exact(aEy I rfl (A:=X.A) (by lia) h3.1 h3.2 h1 h2 rx ry).1 _ _ _ _ ⟨.bl _,H,I,rfl,q⟩
theorem aCq(hu:X.A.units+101 < cLine):OpR X (compareOp .NotEq) (rEqD X.K true):=by
 intro pins s σ H x y v u Q I rx ry h
 obtain⟨μ,d,e,h1,h2,h3,q⟩:=h
 exact(aEy I rfl (A:=X.A) (by lia) h3.1 h3.2 h1 h2 rx ry).2 _ _ _ _ ⟨.bl _,H,I,rfl,q⟩
theorem opEq(hu:X.A.units+101 < cLine):OpG X K Z (compareOp .Eq) pEq:=λhk=>⟨_,hk▸aBv hu,by
 intro μ H M x y v u Q hr rx ry p
 unfold pEq at p
 cases q1:wd M x with
 |none=>rw[q1]at p;exact p.elim
 |some d=>cases q2:wd M y with
  |none=>rw[q1,q2]at p;exact p.elim
  |some e =>
   rw[q1,q2]at p
   simp only at p
   split at p
   ·exact⟨μ,d,e,tK hr rx q1,tK hr ry q2,by assumption,p μ H .refl hr _ (by simp[Rw,Rp])⟩
   ·exact p.elim⟩
theorem opNe(hu:X.A.units+101 < cLine):OpG X K Z (compareOp .NotEq) pNe:=λhk=>⟨_,hk▸aCq hu,by
 intro μ H M x y v u Q hr rx ry p
 unfold pNe at p
 cases q1:wd M x with
 |none=>rw[q1]at p;exact p.elim
 |some d=>cases q2:wd M y with
  |none=>rw[q1,q2]at p;exact p.elim
  |some e =>
   rw[q1,q2]at p
   simp only at p
   split at p
   ·exact⟨μ,d,e,tK hr rx q1,tK hr ry q2,by assumption,p μ H .refl hr _ (by simp[Rw,Rp])⟩
   ·exact p.elim⟩
section
variable{K:Frag}{o:Expr}{fo:FE}
@[irreducible] noncomputable def lid:Nat:=2 ^ 4096
variable{i:Int}
theorem qC(h:i.natAbs < lid):Builtin.Int.intBits i<=4096:=by unfold lid at h;exact intBits_le_iff.mpr h
noncomputable section
def mulOk(i j:Int):Bool:=decide ((-18446744073709551616 < i/\i < 18446744073709551616)\/(-18446744073709551616 < j/\j < 18446744073709551616)\/(i.natAbs < lid/\j.natAbs < lid))
theorem yD:OpR X (binaryOp .Mult) (rI (λi j=>CMul i j\/(i.natAbs < lid/\j.natAbs < lid)) λi j=>.int (i*j)):=L2.opI λ_ _ _ _ _ _ _ hc q=>mul_int q (by
 rcases hc with hc|⟨h1,h2⟩
 ·exact hc.ok
 ·exact mulOk_of_bits (qC h1) (qC h2) (by lia))
def pMul(x y:W)(M:Mm):Oc W:=match x,y with
 |.d (.int i),.d (.int j)=>if mulOk i j=true then .ok (.d (.int (i*j))) M else .bad
 |x,.d (.int k)=>match lv M x with
  |some xs=>if xs.length*k.toNat<=16777216/\k < 9223372036854775808 /\ -9223372036854775808<=k then .ok (.d (.lst (List.replicate k.toNat xs).flatten)) M else .bad
  |none=>.bad
 |_,_=>.bad
theorem jA{x:W}{k:Int}(hr:HR K μ H M)(rx:Rw K μ H x v)(p:Pst K Z μ H (match lv M x with
  |some xs=>if xs.length*k.toNat<=16777216/\k < 9223372036854775808 /\ -9223372036854775808<=k then .ok (.d (.lst (List.replicate k.toNat xs).flatten)) M else .bad
  |none=>.bad) (Wk K Q)):rRep v (.int k) H Q:=by
 cases q1:lv M x with
 |none=>rw[q1]at p;exact p.elim
 |some xs =>
  rw[q1]at p
  simp only at p
  split at p
  ·rename_i hz
   obtain⟨a,vs,rfl,h1,r1⟩:=tQ hr rx q1
   exact⟨a,k,vs,rfl,rfl,h1,hz.2.2,hz.2.1,by rw[<- r1.length,aBB];exact hz.1,hG hr (r1.rep k.toNat) p⟩
  ·exact p.elim
theorem opMul:OpG X K Z (binaryOp .Mult) pMul:=λhk=>by
 refine⟨_,OpR.or yD aCd,?_⟩
 intro μ H M x y v u Q hr rx ry p
 cases y with
 |ref j=>cases x with
  |d x=>cases x <;> exact p.elim
  |_=>exact p.elim
 |ob _ _=>cases x with
  |d x=>cases x <;> exact p.elim
  |_=>exact p.elim
 |nest _=>cases x with
  |d x=>cases x <;> exact p.elim
  |_=>exact p.elim
 |d y=>cases y with
  |int k =>
   have ry':u=.int k:=by simpa only[Rw,Rp]using ry
   subst ry'
   cases x with
   |ref i=>exact .inr (jA hr rx p)
   |ob _ _=>exact .inr (jA hr rx p)
   |nest _=>exact .inr (jA hr rx p)
   |d x=>cases x with
    |int i =>
     simp only[pMul]at p
     simp only[Rw,Rp]at rx
     split at p
     ·rename_i hz
      refine .inl ⟨i,k,rx,rfl,?_,p μ H .refl hr _ (by simp[Rw,Rp])⟩
      simp only[mulOk,aAW]at hz
      rcases hz with hz|hz|hz
      ·exact .inl (.inl hz)
      ·exact .inl (.inr hz)
      ·exact .inr hz
     ·exact p.elim
    |_=>exact .inr (jA hr rx p)
  |_=>cases x with
   |ref i=>exact p.elim
   |ob _ _=>exact p.elim
   |nest _=>exact p.elim
   |d x=>cases x <;> exact p.elim
def pNeg(x:W)(M:Mm):Oc W:=match x with
 |.d (.int i)=>.ok (.d (.int (-i))) M
 |_=>.bad
end
theorem aDv(ha:Ev X K Z a fa):Ev X K Z (.UnaryOp .USub a pos) (e1 pNeg fa):=by
 refine⟨ha.k,cqE (aEw aDt ha.h) ?_⟩
 rintro σ H Q ⟨μ,M,L,hr,lr,p⟩
 refine⟨μ,M,L,hr,lr,p.bind.imp λμ1 H1 M1 x e1 hr1 _ p1 v rx=>?_⟩
 cases x with
 |ref i=>exact p1.elim
 |ob _ _=>exact p1.elim
 |nest _=>exact p1.elim
 |d x=>cases x with
  |int i=>simp only[Rw,Rp]at rx;exact⟨i,rx,p1 μ1 H1 .refl hr1 _ (by simp[Rw,Rp])⟩
  |_=>exact p1.elim
variable{rest:List Expr}
noncomputable section
def pIx(x y:W)(M:Mm):Oc W:=match y with
 |.d (.int i)=>match x with
  |.d (.str z)=>match atI z.cps.toList i with
   |some c=>if z.length<=16777216 then .ok (.d (.str ⟨#[c]⟩)) M else .bad
   |none=>.bad
  |x=>match sv M x with
   |some xs=>match atI xs i with
    |some d=>.ok (.d d) M
    |none=>.bad
   |none=>.bad
 |_=>.bad
theorem aBg{ds:List D}{d:D}(r:Rps K μ H ds vs)(h:atI ds i=some d):∃v,atI vs i=some v/\Rp K μ H d v:=by
 unfold atI at h ⊢
 rw[r.length]at h
 cases q:ixN vs.length i with
 |none=>rw[q]at h;cases h
 |some j=>rw[q]at h;exact r.get h
theorem kG{x:W}(hr:HR K μ H M)(rx:Rw K μ H x v)(p:Pst K Z μ H (match sv M x with
   |some xs=>match atI xs i with
    |some d=>Oc.ok (.d d) M
    |none=>.bad
   |none=>.bad) (Wk K Q)):rIx K v (.int i) H Q:=by
 cases q1:sv M x with
 |none=>rw[q1]at p;exact p.elim
 |some xs =>
  rw[q1]at p
  cases q2:atI xs i with
  |none=>simp only[q2]at p;exact p.elim
  |some d =>
   simp only[q2]at p
   obtain⟨a,vs,rfl,h1,r1⟩:=sR hr rx q1
   obtain⟨v,h2,r2⟩:=aBg r1 q2
   have q:=p μ H .refl hr v r2
   rcases h1 with h1|h1
   ·exact .inl ⟨a,vs,i,v,rfl,rfl,h1,h2,q⟩
   ·exact .inr (.inl ⟨a,vs,i,v,rfl,rfl,h1,h2,q⟩)
theorem aBy:Op2 K Z (rIx K) pIx:=by
 intro μ H M x y v u Q hr rx ry p
 cases y with
 |ref j=>exact p.elim
 |ob _ _=>exact p.elim
 |nest _=>exact p.elim
 |d y=>cases y with
  |int i =>
   have:u=.int i:=by simpa only[Rw,Rp]using ry
   subst this
   cases x with
   |ref j=>exact kG hr rx p
   |ob _ _=>exact kG hr rx p
   |nest _=>exact kG hr rx p
   |d x=>cases x with
    |str z =>
     simp only[Rw,Rp]at rx
     simp only[pIx]at p
     cases q:atI z.cps.toList i with
     |none=>simp only[q]at p;exact p.elim
     |some c =>
      simp only[q]at p
      split at p
      ·exact .inr (.inr ⟨z,i,c,rx,rfl,by rw[aBB];assumption,q,p μ H .refl hr _ (by simp[Rw,Rp])⟩)
      ·exact p.elim
    |_=>exact kG hr rx p
  |_=>exact p.elim
theorem aJ(ha:Ev X K Z a fa)(hb:Ev X K Z b fb)(hs:PlainIx b:=by intro _ _;rfl):Ev X K Z (.Subscript a b pos) (e2 pIx fa fb):=by
 have h:=aFe (pos:=pos) (aAt (X:=X)) ha.h hb.h hs
 rw[ha.k]at h
 exact⟨ha.k,cqE h (lift2 aBy)⟩
def aNil:FA:=λ_ M=>.ok [] M
def aCons(f:FE)(g:FA):FA:=λL M=>(f L M).bind λw M1=>(g L M1).bind λws M2=>.ok (w::ws) M2
theorem aD(hk:X.K=K:=by rfl):Ea X K Z [] aNil:=⟨hk,cqA fJ λσ H Q ⟨μ,M,L,hr,lr,p⟩=>p μ H .refl hr [] rfl⟩
theorem aA(ha:Ev X K Z e fa)(hr:Ea X K Z es fs)(hs:starEach (e::es) X.env=(false,eval e X.env)::starEach es X.env:=by rfl):Ea X K Z (e::es) (aCons fa fs):=by
 refine⟨ha.k,cqA (cY ha.h hr.h hs) ?_⟩
 rintro σ H Q ⟨μ,M,L,hr,lr,p⟩
 refine⟨μ,M,L,hr,lr,p.bind.imp λμ1 H1 M1 x e1 hr1 _ p1 v rx=>?_⟩
 refine⟨μ1,M1,L,hr1,lr.ext hr.lsts e1,p1.bind.imp λμ2 H2 M2 y e2 hr2 _ p2 us ry=>?_⟩
 exact p2 μ2 H2 .refl hr2 (v::us) ⟨v,us,rfl,rx.ext hr1.lsts e2,ry⟩
def allD:List W->Option (List D)
 |[]=>some []
 |.d x::ws=>(allD ws).map (x::·)
 |_::_=>none
theorem iM:∀{ws:List W} {vs:List V} {ds:List D},Rws K μ H ws vs->allD ws=some ds->Rps K μ H ds vs
 |[],_,_,h,q=>by cases h;simp only[allD,aAR]at q;subst q;exact .nil
 |.d x::ws,_,_,⟨v,r,e1,e2,e3⟩,q=>by
  simp only[allD,aAM]at q
  obtain⟨ds,q1,rfl⟩:=q
  subst e1
  exact .cons e2 (iM e3 q1)
 |.ref i::ws,_,_,_,q=>by simp[allD]at q
 |.ob _ i::ws,_,_,_,q=>by simp[allD]at q
 |.nest i::ws,_,_,_,q=>by simp[allD]at q
def mkT(ws:List W)(M:Mm):Oc W:=match allD ws with
 |some ds=>if ds.length<=16777216 then okD (.tup ds) M else .bad
 |none=>.bad
def mkL(ws:List W)(M:Mm):Oc W:=match allD ws with
 |some ds=>if ds.length<=16777216 then okD (.lst ds) M else .bad
 |none=>.bad
def mkR(ws:List W)(M:Mm):Oc W:=match allD ws with
 |some ds=>if ds.length<=16777216 then .ok (.ref M.length) (M++[ds])else .bad
 |none=>.bad
def eA(g:List W->Mm->Oc W)(fs:FA):FE:=λL M=>(fs L M).bind g
theorem bC{x1}(h:Ea X K Z es fs):Ev X K Z (.Tuple es x1 pos) (eA mkT fs):=by
 refine⟨h.k,cqE (vK h.h) ?_⟩
 rintro σ H Q ⟨μ,M,L,hr,lr,p⟩
 refine⟨μ,M,L,hr,lr,p.bind.imp λμ1 H1 M1 ws e1 hr1 _ p1 vs rx=>?_⟩
 unfold mkT at p1
 cases q:allD ws with
 |none=>rw[q]at p1;exact p1.elim
 |some ds =>
  rw[q]at p1
  simp only at p1
  split at p1
  ·have r:=iM rx q
   exact⟨by rw[<- r.length,aBB];assumption,iX hr1 r p1⟩
  ·exact p1.elim
theorem gP(h:Ea X K Z es fs):Ev X K Z (.List es pos) (eA mkL fs):=by
 refine⟨h.k,cqE (qY h.h) ?_⟩
 rintro σ H Q ⟨μ,M,L,hr,lr,p⟩
 refine⟨μ,M,L,hr,lr,p.bind.imp λμ1 H1 M1 ws e1 hr1 _ p1 vs rx=>?_⟩
 unfold mkL at p1
 cases q:allD ws with
 |none=>rw[q]at p1;exact p1.elim
 |some ds =>
  rw[q]at p1
  simp only at p1
  split at p1
  ·have r:=iM rx q
   exact⟨by rw[<- r.length,aBB];assumption,hG hr1 r p1⟩
  ·exact p1.elim
theorem gY(h:Ea X K Z es fs):Ev X K Z (.List es pos) (eA mkR fs):=by
 refine⟨h.k,cqE (qY h.h) ?_⟩
 rintro σ H Q ⟨μ,M,L,hr,lr,p⟩
 refine⟨μ,M,L,hr,lr,p.bind.imp λμ1 H1 M1 ws e1 hr1 _ p1 vs rx=>?_⟩
 unfold mkR at p1
 cases q:allD ws with
 |none=>rw[q]at p1;exact p1.elim
 |some ds =>
  rw[q]at p1
  simp only at p1
  split at p1
  ·have r:=iM rx q
   exact⟨by rw[<- r.length,aBB];assumption,nZ hr1 r p1⟩
  ·exact p1.elim
def eInts(ns:List Int):FE:=λ_ M=>.ok (.d (.lst (ns.map D.int))) M
theorem iB(h:IntsE es ns)(hn:ns.length<=16777216:=by decide)(hk:X.K=K:=by rfl):Ev X K Z (.List es pos) (eInts ns):=by
 refine⟨hk,cqE (qY (yH h)) ?_⟩
 rintro σ H Q ⟨μ,M,L,hr,lr,p⟩
 exact⟨by rw[aAL,aBB];exact hn,hG hr Rps.ints p⟩
def Cl(K:Frag)(Z:Zt)(r:List V->Hp->VK->Prop)(g:List W->Mm->Oc W):Prop :=
 ∀(μ:List Addr) (H:Hp) (M:Mm) (ws:List W) (vs:List V) (Q:VK),HR K μ H M->Rws K μ H ws vs->Pst K Z μ H (g ws M) (Wk K Q)->r vs H Q
def ClG(X:Cx)(K:Frag)(Z:Zt)(f:Value)(g:List W->Mm->Oc W):Prop:=X.K=K->∃r,CallR X f r/\Cl K Z r g
end
theorem liftC{g:List W->Mm->Oc W}(h:Cl K Z r g):∀σ H Q,lift K Z (eA g fs) σ H Q->tCB r (liftA K Z fs) σ H Q:=by
 rintro σ H Q ⟨μ,M,L,hr,lr,p⟩
 exact⟨μ,M,L,hr,lr,p.bind.imp λμ1 H1 M1 ws e1 hr1 _ p1 vs rx=>h μ1 H1 M1 ws vs Q hr1 rx p1⟩
variable{p:Pos}
theorem dF{id:String}{g:List W->Mm->Oc W}(hc:ClG X K Z (.builtin id) g)(hg:Gl X x)(hm:X.mg x=none)(hv:bootBuiltins x=some (.builtin id))(ha:Ea X K Z (e::es) fs)
  (hn:x≠"__name__":=by decide)(hdb:(x==("__debug__":Str))=false:=by decide)(he:starEach (e::es) X.env=(false,eval e X.env)::starEach es X.env:=by rfl)
  (hpl:(backTo pos (starEach es X.env)).any (·.1)=false:=by rfl):Ev X K Z (.Call (.Name x p) (e::es) [] pos) (eA g fs):=by
 obtain⟨r,h1,h2⟩:=hc ha.k
 exact⟨ha.k,cqE (xF h1 hg hm hv ha.h hn hdb he hpl) (liftC h2)⟩
theorem bQ{T:String}{g:List W->Mm->Oc W}(hc:ClG X K Z (.type T) g)(hg:Gl X x)(hm:X.mg x=none)(hv:bootBuiltins x=some (.type T))(ha:Ea X K Z (e::es) fs)
  (hn:x≠"__name__":=by decide)(hdb:(x==("__debug__":Str))=false:=by decide)(he:starEach (e::es) X.env=(false,eval e X.env)::starEach es X.env:=by rfl)
  (hpl:(backTo pos (starEach es X.env)).any (·.1)=false:=by rfl):Ev X K Z (.Call (.Name x p) (e::es) [] pos) (eA g fs):=by
 obtain⟨r,h1,h2⟩:=hc ha.k
 exact⟨ha.k,cqE (iA h1 hg hm hv ha.h hn hdb he hpl) (liftC h2)⟩
noncomputable section
def cLen(ws:List W)(M:Mm):Oc W:=match ws with
 |[.d (.str z)]=>if z.length<=16777216 then .ok (.d (.int z.length)) M else .bad
 |[w]=>match sv M w with
  |some xs=>.ok (.d (.int xs.length)) M
  |none=>.bad
 |_=>.bad
theorem iU{w:W}(hr:HR K μ H M)(rx:Rw K μ H w v)(p:Pst K Z μ H (match sv M w with
  |some xs=>Oc.ok (.d (.int xs.length)) M
  |none=>.bad) (Wk K Q)):∃p ys,[v]=[V.ref p]/\(SqL K H p ys\/SqT K H p ys)/\Q (.int ys.length) H:=by
 cases q1:sv M w with
 |none=>rw[q1]at p;exact p.elim
 |some xs =>
  rw[q1]at p
  obtain⟨a,vs,rfl,h1,r1⟩:=sR hr rx q1
  exact⟨a,vs,rfl,h1,p μ H .refl hr _ (by simp[Rw,Rp,r1.length])⟩
theorem callLen:ClG X K Z (.builtin "len") cLen:=λhk=>by
 refine⟨_,CallR.or (hk▸oB) oJ,?_⟩
 intro μ H M ws vs Q hr rx p
 match ws,rx,p with
 |[],_,p=>exact p.elim
 |.ref i::[],⟨v,r,e1,e2,e3⟩,p=>cases e3;subst e1;exact .inl (iU hr e2 p)
 |.ob _ i::[],⟨v,r,e1,e2,e3⟩,p=>cases e3;subst e1;exact .inl (iU hr e2 p)
 |.nest i::[],⟨v,r,e1,e2,e3⟩,p=>cases e3;subst e1;exact .inl (iU hr e2 p)
 |.d x::[],⟨v,r,e1,e2,e3⟩,p =>
  cases e3;subst e1
  cases x with
  |str z =>
   simp only[cLen]at p
   simp only[Rw,Rp]at e2
   subst e2
   split at p
   ·exact .inr ⟨z,rfl,by rw[aBB];assumption,p μ H .refl hr _ (by simp[Rw,Rp])⟩
   ·exact p.elim
  |_=>exact .inl (iU hr e2 p)
 |.ref i::_::_,_,p=>exact p.elim
 |.ob _ i::_::_,_,p=>exact p.elim
 |.nest i::_::_,_,p=>exact p.elim
 |.d x::_::_,_,p=>cases x <;> exact p.elim
def cInt(ws:List W)(M:Mm):Oc W:=match ws with
 |[.d (.int i)]=>.ok (.d (.int i)) M
 |[.d (.bl k)]=>.ok (.d (.int (if k=true then 1 else 0))) M
 |_=>.bad
theorem callInt:ClG X K Z (.type "int") cInt:=λhk=>by
 refine⟨_,uQ,?_⟩
 intro μ H M ws vs Q hr rx p
 match ws,rx,p with
 |[],_,p=>exact p.elim
 |.ref i::_,_,p=>exact p.elim
 |.ob _ i::_,_,p=>exact p.elim
 |.nest i::_,_,p=>exact p.elim
 |.d x::[],⟨v,r,e1,e2,e3⟩,p =>
  cases e3;subst e1
  cases x with
  |int i=>simp only[Rw,Rp]at e2;subst e2;exact .inl ⟨i,rfl,p μ H .refl hr _ (by simp[Rw,Rp])⟩
  |bl k=>simp only[Rw,Rp]at e2;subst e2;exact .inr ⟨k,rfl,p μ H .refl hr _ (by simp[Rw,Rp])⟩
  |_=>exact p.elim
 |.d x::_::_,_,p=>cases x <;> exact p.elim
def cMin2(ws:List W)(M:Mm):Oc W:=match ws with
 |[.d (.int i),.d (.int j)]=>.ok (.d (.int (if j < i then j else i))) M
 |_=>.bad
theorem callMin2(hc:X.calm=true):ClG X K Z (.builtin "min") cMin2:=λhk=>by
 refine⟨_,uB hc,?_⟩
 intro μ H M ws vs Q hr rx p
 unfold cMin2 at p
 split at p
 ·obtain⟨v,r,e1,e2,v',r',e1',e2',e3⟩:=rx
  simp only[Rw,Rp]at e2 e2'
  cases e3;subst e1' e1 e2 e2'
  exact⟨_,_,rfl,p μ H .refl hr _ (by simp[Rw,Rp])⟩
 ·exact p.elim
def cListR(ws:List W)(M:Mm):Oc W:=match ws with
 |[w]=>match sv M w with
  |some xs=>.ok (.ref M.length) (M++[xs])
  |none=>.bad
 |_=>.bad
def cTup(ws:List W)(M:Mm):Oc W:=match ws with
 |[w]=>match sv M w with
  |some xs=>okD (.tup xs) M
  |none=>.bad
 |_=>.bad
end
theorem sU{g:List D->Oc W}{ws:List W}{Q:List Addr->Hp->Mm->W->Prop}(hr:HR K μ H M)(rx:Rws K μ H ws vs)(p:Pst K Z μ H (match ws with
 |[w]=>match sv M w with
  |some xs=>g xs
  |none=>.bad
 |_=>.bad) Q):∃w a us xs,ws=[w]/\vs=[.ref a]/\sv M w=some xs/\Rw K μ H w (.ref a)/\(SqL K H a us\/SqT K H a us)/\Rps K μ H xs us/\Pst K Z μ H (g xs) Q:=by
 match ws,rx,p with
 |[],_,p=>exact p.elim
 |[w],⟨v,r,e1,e2,e3⟩,p =>
  cases e3;subst e1
  simp only at p
  cases q:sv M w with
  |none=>rw[q]at p;exact p.elim
  |some xs =>
   rw[q]at p
   obtain⟨a,us,rfl,h1,r1⟩:=sR hr e2 q
   exact⟨w,a,us,xs,rfl,rfl,q,e2,h1,r1,p⟩
 |_::_::_,_,p=>exact p.elim
theorem callListR:ClG X K Z (.type "list") cListR:=λhk=>by
 refine⟨_,hk▸nM,?_⟩
 intro μ H M ws vs Q hr rx p
 obtain⟨w,a,us,xs,rfl,rfl,q,e2,h1,r1,p⟩:=sU hr rx p
 exact⟨a,us,rfl,h1,nZ hr r1 p⟩
theorem callTup:ClG X K Z (.type "tuple") cTup:=λhk=>by
 refine⟨_,hk▸mC,?_⟩
 intro μ H M ws vs Q hr rx p
 obtain⟨w,a,us,xs,rfl,rfl,q,e2,h1,r1,p⟩:=sU hr rx p
 by_cases hw:∃ys,w=.d (.tup ys)
 ·obtain⟨ys,rfl⟩:=hw
  simp only[sv,aAR]at q
  subst q
  have e2':=e2
  simp only[Rw,Rp]at e2
  obtain⟨a',vs',ea,h1',r1'⟩:=e2
  cases ea
  exact⟨a,vs',rfl,.inr ⟨SqT.of h1',p μ H .refl hr _ e2'⟩⟩
 ·have hl:lr M w=some xs:=by
   cases w with
   |ref i=>exact q
   |ob _ _=>exact q
   |nest _=>exact q
   |d x=>cases x <;> first|exact q|exact(hw ⟨_,rfl⟩).elim
  obtain⟨a',vs',ea,h1',r1'⟩:=tW hr e2 hl
  cases ea
  exact⟨a,vs',rfl,.inl ⟨h1',iX hr r1' p⟩⟩
end
section
variable{K:Frag}{o:Expr}{fo:FE}{rest:List Stmt}{F G:FS}
noncomputable section
def sNil:FS:=λL M=>.ok (.nx L) M
def sSeq(F G:FS):FS:=λL M=>(F L M).bind λo M1=>match o with
 |.nx L1=>G L1 M1
 |.bk L1=>.ok (.bk L1) M1
 |.ct L1=>.ok (.ct L1) M1
 |.rt w=>.ok (.rt w) M1
theorem bK(hk:X.K=K:=by rfl):Ess X K Z [] sNil:=⟨hk,cqSs yM λE σ H ⟨μ,M,L,hr,lr,p⟩=>p μ H .refl hr σ lr⟩
theorem aE(h1:Es X K Z st F)(h2:Ess X K Z rest G):Ess X K Z (st::rest) (sSeq F G):=by
 refine⟨h1.k,cqSs (xR h1.h h2.h) ?_⟩
 rintro E σ H ⟨μ,M,L,hr,lr,p⟩
 refine⟨μ,M,L,hr,lr,p.bind.imp λμ1 H1 M1 o e1 hr1 _ p1=>?_⟩
 cases o with
 |nx L1=>exact λσ' lr'=>⟨μ1,M1,L1,hr1,lr',p1⟩
 |bk L1=>exact p1 μ1 H1 .refl hr1
 |ct L1=>exact p1 μ1 H1 .refl hr1
 |rt w=>exact p1 μ1 H1 .refl hr1
theorem aF(h1:Es X K Z st F):Ess X K Z [st] F:=⟨h1.k,yX h1.h⟩
def sEx(f:FE):FS:=λL M=>(f L M).bind λ_ M1=>.ok (.nx L) M1
theorem hV(h:Ev X K Z e f)(hs:swapsWith e none pos.line X.env=pure false:=by rfl):Es X K Z (.Expr e pos) (sEx f):=by
 refine⟨h.k,cqS (yB h.h hs) ?_⟩
 rintro E σ H ⟨μ,M,L,hr,lr,p⟩
 exact⟨μ,M,L,hr,lr,p.bind.imp λμ1 H1 M1 x e1 hr1 _ p1 v rx=>p1 μ1 H1 .refl hr1 σ (lr.ext hr.lsts e1)⟩
def sRt(f:FE):FS:=λL M=>(f L M).bind λw M1=>.ok (.rt w) M1
theorem aP(h:Ev X K Z e f):Es X K Z (.Return (some e) pos) (sRt f):=by
 refine⟨h.k,cqS (aCv h.h) ?_⟩
 rintro E σ H ⟨μ,M,L,hr,lr,p⟩
 exact⟨μ,M,L,hr,lr,p.bind.imp λμ1 H1 M1 x e1 hr1 _ p1 v rx=>p1 μ1 H1 .refl hr1 v rx⟩
def sIf(t:FT)(F G:FS):FS:=λL M=>(t L M).bind λb M1=>if b=true then F L M1 else G L M1
theorem cL{c:Expr}{p q:List Stmt}{t:FT}(hc:Et X K Z c t)(ha:Ess X K Z p F)(hb:Ess X K Z q G):Es X K Z (.If c p q pos) (sIf t F G):=by
 refine⟨hc.k,cqS (aEk hc.h ha.h hb.h) ?_⟩
 rintro E σ H ⟨μ,M,L,hr,lr,p⟩
 refine⟨μ,M,L,hr,lr,p.bind.imp λμ1 H1 M1 x e1 hr1 _ p1=>?_⟩
 cases x with
 |true=>exact⟨μ1,M1,L,hr1,lr.ext hr.lsts e1,p1⟩
 |false=>exact⟨μ1,M1,L,hr1,lr.ext hr.lsts e1,p1⟩
def gN(i:Nat):FG:=λw L M=>.ok (L.set i (some w)) M
theorem LR.set{L:Lc}{σ:St}{i:Nat}{w:W}{v:V}(h:LR K μ H L σ)(r:Rw K μ H w v):LR K μ H (L.set i (some w)) (σ.set i (some v))where
 len:=by simp[h.len]
 ent:=λj u q=>by
  by_cases hj:i=j
  ·subst hj
   have hl:i < L.length:=by
    by_cases hl:i < L.length
    ·exact hl
    ·rw[List.set_eq_of_length_le (by lia)]at q
     rw[aCL (by lia)]at q;cases q
   rw[aAY hl]at q
   cases q
   exact⟨v,by rw[aAY (by rw[<- h.len];exact hl)],r⟩
  ·rw[aAZ hj]at q
   obtain⟨x,q1,q2⟩:=h.ent j u q
   exact⟨x,by rw[aAZ hj];exact q1,q2⟩
theorem aI(hN:X.N.Nodup)(hi:X.N[i]?=some x:=by rfl)(hx:Loc X.env.scope x:=by first|exact Or.inl rfl|exact Or.inr rfl)(hk:X.K=K:=by rfl)(hf:X.fn x=true\/X.env.scope.names.lookup x=some .local:=by first|exact .inl rfl|exact .inr rfl|assumption) :
  Eg X K Z (.Name x pos) (gN i):=⟨hk,cqG (yL hN hi hx hf) λv σ H Q ⟨μ,M,L,w,hr,lr,rx,p⟩=>p μ H .refl hr _ (lr.set rx)⟩
def gsNil:FGs:=λds L M=>match ds with
 |[]=>.ok L M
 |_=>.bad
def gsCons(g:FG)(gs:FGs):FGs:=λds L M=>match ds with
 |d::r=>(g (.d d) L M).bind λL1 M1=>gs r L1 M1
 |[]=>.bad
end
theorem eH(hk:X.K=K:=by rfl):Egs X K Z [] gsNil:=⟨hk,cqGs yV λvs σ H Q ⟨μ,M,L,ds,hr,lr,rx,p⟩=>by
 cases ds with
 |nil=>simp only[Rps]at rx;exact⟨rx,p μ H .refl hr σ lr⟩
 |cons d r=>exact p.elim⟩
variable{gs:FGs}
theorem aS{g:FG}(h1:Eg X K Z e g)(h2:Egs X K Z es gs)(hs:(assignEach (e::es) X.env).map (·.2)=assign e X.env::(assignEach es X.env).map (·.2):=by rfl):Egs X K Z (e::es) (gsCons g gs) :=
 ⟨h1.k,cqGs (xQ h1.h h2.h hs) λvs σ H Q ⟨μ,M,L,ds,hr,lr,rx,p⟩=>by
  cases ds with
  |nil=>exact p.elim
  |cons d r =>
   simp only[Rps]at rx
   obtain⟨v,vr,e1,rd,rr⟩:=rx
   refine⟨v,vr,e1,μ,M,L,.d d,hr,lr,rd,p.bind.imp λμ1 H1 M1 L1 e1 hr1 _ p1 σ1 lr1=>?_⟩
   exact⟨μ1,M1,L1,r,hr1,lr1,Rps.ext hr.lsts e1 _ _ rr,p1⟩⟩
noncomputable section
def gT(n:Nat)(gs:FGs):FG:=λw L M=>match w with
 |.d (.tup xs)=>if xs.length=n then gs xs L M else .bad
 |_=>.bad
theorem fT{k n:Nat}(hc:X.calm=true)(h:Egs X K Z es gs)(hn:(assignEach es X.env).length=n:=by rfl)(hst:(assignEach es X.env).findIdx? (·.1)=none:=by rfl):Eg X K Z (.Tuple es k pos) (gT n gs):=by
 have h':=aCw (k:=k) (pos:=pos) hc h.h hn hst
 rw[h.k]at h'
 refine⟨h.k,cqG h' λv σ H Q ⟨μ,M,L,w,hr,lr,rx,p⟩=>?_⟩
 cases w with
 |ref i=>exact p.elim
 |ob _ _=>exact p.elim
 |nest _=>exact p.elim
 |d x=>cases x with
  |tup xs =>
   simp only[gT]at p
   split at p
   ·simp only[Rw,Rp]at rx
    obtain⟨a,vs,e1,q1,r1⟩:=rx
    exact⟨a,vs,e1,SqT.of q1,by rw[<- r1.length];assumption,μ,M,L,xs,hr,lr,r1,p⟩
   ·exact p.elim
  |_=>exact p.elim
def gS(fo fi:FE):FG:=λw L M=>(fo L M).bind λo M1=>(fi L M1).bind λi M2=>match o,i,w with
 |.ref k,.d (.int j),.d x=>match M2[k]? with
  |some xs=>match ixN xs.length j with
   |some t=>.ok L (M2.set k (xs.set t x))
   |none=>.bad
  |none=>.bad
 |_,_,_=>.bad
theorem jQ{i:Expr}{fi:FE}(ho:Ev X K Z o fo)(hi:Ev X K Z i fi)(ha:∀v,assign (.Subscript o i pos) X.env v=(do
   let ov <- holding [v] (eval o X.env)
   let iv <- holding [v,ov] (eval i X.env)
   standAt pos
   holding [v,ov,iv] (setItem ov iv v)
   release [v,ov,iv] []):=by intro _;rfl):Eg X K Z (.Subscript o i pos) (gS fo fi):=by
 refine⟨ho.k,cqG (aDo ho.h hi.h xJ ha) λv σ H Q ⟨μ,M,L,w,hr,lr,rx,p⟩=>?_⟩
 refine⟨μ,M,L,hr,lr,p.bind.imp λμ1 H1 M1 x e1 hr1 _ p1 vo ro=>?_⟩
 refine⟨μ1,M1,L,hr1,lr.ext hr.lsts e1,p1.bind.imp λμ2 H2 M2 y e2 hr2 _ p2 vi ri=>?_⟩
 cases x with
 |d x=>exact p2.elim
 |ob _ _=>exact p2.elim
 |nest _=>exact p2.elim
 |ref k=>cases y with
  |ref j=>exact p2.elim
  |ob _ _=>exact p2.elim
  |nest _=>exact p2.elim
  |d y=>cases y with
   |int j=>cases w with
    |ref q=>exact p2.elim
    |ob _ _=>exact p2.elim
    |nest _=>exact p2.elim
    |d z =>
     simp only at p2
     cases q1:M2[k]? with
     |none=>simp only[q1]at p2;exact p2.elim
     |some xs =>
      simp only[q1]at p2
      cases q2:ixN xs.length j with
      |none=>simp only[q2]at p2;exact p2.elim
      |some t =>
       simp only[q2]at p2
       have ro:=ro.ext hr1.lsts e2
       obtain⟨a,qa,rfl,il⟩:=ro
       obtain⟨a',vs,qa',h1,r1⟩:=hr2.at q1 qa
       rw[qa]at qa';cases qa'
       simp only[Rw,Rp]at ri
       subst ri
       have rz:=Rw.ext hr1.lsts e2 (Rw.ext hr.lsts e1 rx)
       refine⟨a,vs,j,t,rfl,rfl,h1,by rw[<- r1.length];exact q2,?_⟩
       exact p2 μ2 _ (eF qa) (hr2.set qa (Rps.set rz t r1)) σ ((lr.ext hr.lsts (e1.trans e2)).ext hr2.lsts (eF qa))
   |_=>exact p2.elim
def sAs(f:FE)(g:FG):FS:=λL M=>(f L M).bind λw M1=>(g w L M1).bind λL1 M2=>.ok (.nx L1) M2
theorem fS{tg:Expr}{g:FG}(he:Ev X K Z e f)(hg:Eg X K Z tg g)(hs:swapsWithSole [tg] e pos.line X.env=pure false:=by rfl)(hw:swappedStores [tg] e X.env=pure none:=by rfl)
  (h1:(assignEach [tg] X.env).map (·.2)=[assign tg X.env]:=by rfl):Es X K Z (.Assign [tg] e pos) (sAs f g):=by
 refine⟨he.k,cqS (aCt he.h hg.h hs hw h1) ?_⟩
 rintro E σ H ⟨μ,M,L,hr,lr,p⟩
 refine⟨μ,M,L,hr,lr,p.bind.imp λμ1 H1 M1 x e1 hr1 _ p1 v rx=>?_⟩
 exact⟨μ1,M1,L,x,hr1,lr.ext hr.lsts e1,rx,p1.bind.imp λμ2 H2 M2 L2 e2 hr2 _ p2 σ2 lr2=>p2 μ2 H2 .refl hr2 σ2 lr2⟩
theorem aN(hN:X.N.Nodup)(he:Ev X K Z e f)(hi:X.N[i]?=some x:=by rfl)(hx:Loc X.env.scope x:=by first|exact Or.inl rfl|exact Or.inr rfl)(hs:swapsWith e (some (.Name x pos')) pos.line X.env=pure false:=by rfl)
  (hf:X.fn x=true\/X.env.scope.names.lookup x=some .local:=by first|exact .inl rfl|exact .inr rfl|assumption):Es X K Z (.Assign [.Name x pos'] e pos) (sAs f (gN i)):=by
 refine⟨he.k,cqS (aDb hN hi hx he.h hs hf) ?_⟩
 rintro E σ H ⟨μ,M,L,hr,lr,p⟩
 refine⟨μ,M,L,hr,lr,p.bind.imp λμ1 H1 M1 x e1 hr1 _ p1 v rx=>?_⟩
 exact p1 μ1 H1 .refl hr1 _ (LR.set (lr.ext hr.lsts e1) rx)
def sPar(i j:Nat)(fs:FA):FS:=λL M=>(fs L M).bind λws M1=>match ws with
 |[v,w]=>.ok (.nx ((L.set i (some v)).set j (some w))) M1
 |_=>.bad
end
end
section
variable{K:Frag}{o:Expr}{fo:FE}{rest:List Stmt}{F G:FS}
theorem eW{y:Str}{px py pt:Pos}{kt k2 pt2}(hc:X.calm=true)(hN:X.N.Nodup)(ha:Ea X K Z [a,b] fs)(hi:X.N[i]?=some x:=by rfl)(hj:X.N[j]?=some y:=by rfl)(hij:i≠j:=by decide)
  (hx:X.env.scope.names.lookup x=some .local:=by rfl)(hy:X.env.scope.names.lookup y=some .local:=by rfl)
  (hw:swappedStores [.Tuple [.Name x px,.Name y py] kt pt] (.Tuple [a,b] k2 pt2) X.env=pure (some [x,y]):=by rfl)
  (hs:swapsWithSole [.Tuple [.Name x px,.Name y py] kt pt] (.Tuple [a,b] k2 pt2) pos.line X.env=pure false:=by rfl) :
  Es X K Z (.Assign [.Tuple [.Name x px,.Name y py] kt pt] (.Tuple [a,b] k2 pt2) pos) (sPar i j fs):=by
 refine⟨ha.k,cqS (aCx hc hN hi hj hij hx hy ha.h hw hs) ?_⟩
 rintro E σ H ⟨μ,M,L,hr,lr,p⟩
 refine⟨μ,M,L,hr,lr,p.bind.imp λμ1 H1 M1 ws e1 hr1 _ p1 vs rx=>?_⟩
 match ws,rx,p1 with
 |[],_,p1=>exact p1.elim
 |[_],_,p1=>exact p1.elim
 |[v,w],⟨v1,r,q1,q2,v2,r',q1',q2',q3⟩,p1 =>
  cases q3;subst q1' q1
  exact⟨v1,v2,rfl,p1 μ1 H1 .refl hr1 _ (LR.set (LR.set (lr.ext hr.lsts e1) q2) q2')⟩
 |_::_::_::_,_,p1=>exact p1.elim
noncomputable section
def pAppend(x y:W)(M:Mm):Oc W:=match x,y with
 |.ref k,.d d=>match M[k]? with
  |some xs=>if xs.length < 16777216 then .ok (.d .non) (M.set k (xs++[d]))else .bad
  |none=>.bad
 |_,_=>.bad
theorem vQ{k:Nat}(hr:HR K μ H M)(r:Rw K μ H (.ref k) v):tyV K "list" v H:=by
 obtain⟨a,q,rfl,il⟩:=r
 obtain⟨vs,h⟩:=il
 exact .inl ⟨rfl,vs,SqL.of h⟩
def eM1(g:W->W->Mm->Oc W)(fo fe:FE):FE:=λL M=>(fo L M).bind λx M1=>match x with
 |.ref k=>(fe L M1).bind λy M2=>g (.ref k) y M2
 |_=>.bad
theorem fD(ho:Ev X K Z o fo)(he:Ev X K Z e fa)(hbase:attributeBase o "append" X.env (eval o X.env)=eval o X.env:=by rfl)
  (hfew:((backTo cpos (starEach [e] X.env)).all (λx=>!x.1)&&(backToKw cpos (keywordEach [] X.env)).all (λx=>x.1.isSome)&&decide ([e].length+([]:List Keyword).length+(if([]:List Keyword).isEmpty then 0 else 1) < 30))=true:=by rfl)
  (hline:(apos.endLine==cpos.line)=true:=by rfl)(hs:starEach [e] X.env=(false,eval e X.env)::starEach [] X.env:=by rfl)(hplain:(backTo cpos (starEach [] X.env)).any (·.1)=false:=by rfl) :
  Ev X K Z (.Call (.Attribute o "append" apos) [e] [] cpos) (eM1 pAppend fo fa):=by
 have h:=aAf PySem.F.plainAttrs_list PySem.F.slot_list_append PySem.F.type_list_append mX ho.h (cY he.h fJ hs) hbase hfew hline hs hplain
 rw[ho.k]at h
 refine⟨ho.k,cqE h ?_⟩
 rintro σ H Q ⟨μ,M,L,hr,lr,p⟩
 refine⟨μ,M,L,hr,lr,p.bind.imp λμ1 H1 M1 x e1 hr1 _ p1 v rx=>?_⟩
 cases x with
 |d x=>exact p1.elim
 |ob _ _=>exact p1.elim
 |nest _=>exact p1.elim
 |ref k =>
  refine⟨vQ hr1 rx,μ1,M1,L,hr1,lr.ext hr.lsts e1,p1.bind.imp λμ2 H2 M2 y e2 hr2 _ p2 u ry=>?_⟩
  cases y with
  |ref j=>exact p2.elim
  |ob _ _=>exact p2.elim
  |nest _=>exact p2.elim
  |d d =>
   simp only[pAppend]at p2
   cases q1:M2[k]? with
   |none=>simp only[q1]at p2;exact p2.elim
   |some xs =>
    simp only[q1]at p2
    split at p2
    ·rename_i hz
     obtain⟨a,qa,rfl,il⟩:=rx.ext hr1.lsts e2
     obtain⟨a',vs,qa',h1,r1⟩:=hr2.at q1 qa
     rw[qa]at qa';cases qa'
     refine⟨a,vs,u,rfl,rfl,h1,by rw[<- r1.length,aBB];exact hz,?_⟩
     exact p2 μ2 _ (eF qa) (hr2.set qa (r1.append (.cons ry .nil))) _ (by simp[Rw,Rp])
    ·exact p2.elim
def pPopAt(x y:W)(M:Mm):Oc W:=match x,y with
 |.ref k,.d (.int i)=>match M[k]? with
  |some xs=>match seqIndex? i xs.length with
   |some j=>match xs[j]? with
    |some d=>if -9223372036854775808<=i/\i < 9223372036854775808 then .ok (.d d) (M.set k (xs.eraseIdx j))else .bad
    |none=>.bad
   |none=>.bad
  |none=>.bad
 |_,_=>.bad
theorem xG(ho:Ev X K Z o fo)(he:Ev X K Z e fa)(hbase:attributeBase o "pop" X.env (eval o X.env)=eval o X.env:=by rfl)
  (hfew:((backTo cpos (starEach [e] X.env)).all (λx=>!x.1)&&(backToKw cpos (keywordEach [] X.env)).all (λx=>x.1.isSome)&&decide ([e].length+([]:List Keyword).length+(if([]:List Keyword).isEmpty then 0 else 1) < 30))=true:=by rfl)
  (hline:(apos.endLine==cpos.line)=true:=by rfl)(hs:starEach [e] X.env=(false,eval e X.env)::starEach [] X.env:=by rfl)(hplain:(backTo cpos (starEach [] X.env)).any (·.1)=false:=by rfl) :
  Ev X K Z (.Call (.Attribute o "pop" apos) [e] [] cpos) (eM1 pPopAt fo fa):=by
 have h:=aAf PySem.F.plainAttrs_list PySem.F.slot_list_pop PySem.F.type_list_pop wV ho.h (cY he.h fJ hs) hbase hfew hline hs hplain
 rw[ho.k]at h
 refine⟨ho.k,cqE h ?_⟩
 rintro σ H Q ⟨μ,M,L,hr,lr,p⟩
 refine⟨μ,M,L,hr,lr,p.bind.imp λμ1 H1 M1 x e1 hr1 _ p1 v rx=>?_⟩
 cases x with
 |d x=>exact p1.elim
 |ob _ _=>exact p1.elim
 |nest _=>exact p1.elim
 |ref k =>
  refine⟨vQ hr1 rx,μ1,M1,L,hr1,lr.ext hr.lsts e1,p1.bind.imp λμ2 H2 M2 y e2 hr2 _ p2 u ry=>?_⟩
  cases y with
  |ref j=>exact p2.elim
  |ob _ _=>exact p2.elim
  |nest _=>exact p2.elim
  |d y=>cases y with
   |int i =>
    simp only[Rw,Rp]at ry
    subst ry
    simp only[pPopAt]at p2
    cases q1:M2[k]? with
    |none=>simp only[q1]at p2;exact p2.elim
    |some xs =>
     simp only[q1]at p2
     cases q2:seqIndex? i xs.length with
     |none=>simp only[q2]at p2;exact p2.elim
     |some j =>
      simp only[q2]at p2
      cases q3:xs[j]? with
      |none=>simp only[q3]at p2;exact p2.elim
      |some d =>
       simp only[q3]at p2
       split at p2
       ·rename_i hz
        obtain⟨a,qa,rfl,il⟩:=rx.ext hr1.lsts e2
        obtain⟨a',vs,qa',h1,r1⟩:=hr2.at q1 qa
        rw[qa]at qa';cases qa'
        obtain⟨w,q4,q5⟩:=r1.get q3
        refine⟨a,vs,i,j,w,rfl,rfl,h1,hz.1,hz.2,by rw[<- r1.length];exact q2,q4,?_⟩
        exact p2 μ2 _ (eF qa) (hr2.set qa (r1.eraseIdx j)) w (Rp.ext hr2.lsts (eF qa) _ _ q5)
       ·exact p2.elim
   |_=>exact p2.elim
abbrev FO:=Lc->Mm->Oc (Option Int)
def liftO(K:Frag)(Z:Zt)(f:FO):TO:=λσ H Q=>∃μ M L,HR K μ H M/\LR K μ H L σ/\Pst K Z μ H (f L M) λμ' H' _ w=>Q w H'
end
structure Eo(X:Cx)(K:Frag)(Z:Zt)(e:Option Expr)(f:FO):Prop where
 k:X.K=K
 h:PO X e (liftO K Z f)
noncomputable section
def oNo:FO:=λ_ M=>.ok none M
def oAt(f:FE):FO:=λL M=>(f L M).bind λw M1=>match w with
 |.d (.int i)=>.ok (some i) M1
 |_=>.bad
theorem cqO{oe:Option Expr}{t t':TO}(h:PO X oe t)(i:∀σ H Q,t' σ H Q->t σ H Q):PO X oe t':=λpins s σ H Q I q=>h pins s σ H Q I (i _ _ _ q)
theorem aAb(hk:X.K=K:=by rfl):Eo X K Z none oNo:=⟨hk,cqO yP λσ H Q ⟨μ,M,L,hr,lr,p⟩=>p μ H .refl hr⟩
theorem aAa(h:Ev X K Z e f):Eo X K Z (some e) (oAt f):=by
 refine⟨h.k,cqO (yK h.h) ?_⟩
 rintro σ H Q ⟨μ,M,L,hr,lr,p⟩
 refine⟨μ,M,L,hr,lr,p.bind.imp λμ1 H1 M1 x e1 hr1 _ p1 v rx=>?_⟩
 cases x with
 |ref i=>exact p1.elim
 |ob _ _=>exact p1.elim
 |nest _=>exact p1.elim
 |d x=>cases x with
  |int i=>simp only[Rw,Rp]at rx;exact⟨i,rx,p1 μ1 H1 .refl hr1⟩
  |_=>exact p1.elim
def cut(xs:List α)(lo hi:Option Int):List α:=(xs.drop (HT.sIx xs.length 0 lo)).take (HT.sIx xs.length xs.length hi - HT.sIx xs.length 0 lo)
def pSl(x:W)(lo hi:Option Int)(M:Mm):Oc W:=match x with
 |.d (.tup xs)=>okD (.tup (cut xs lo hi)) M
 |x=>match lr M x with
  |some xs=>okD (.lst (cut xs lo hi)) M
  |none=>.bad
def eSl(f:FE)(fl fh:FO):FE:=λL M=>(f L M).bind λx M1=>(fl L M1).bind λlo M2=>(fh L M2).bind λhi M3=>pSl x lo hi M3
end
theorem tO{ds:List D}(r:Rps K μ H ds vs):Rps K μ H (cut ds lo hi) (cutV vs lo hi):=by
 unfold cut cutV
 rw[r.length]
 exact(r.drop _).take _
end
theorem jS:fillsNumberSlot (.type "tuple") "mul"=pure false :=
 PySem.fillsNumberSlot_seq (id:="tuple.__mul__") (r:=some (.builtin "tuple.__rmul__")) aEA.lookup (by decide +kernel) F.slot_tuple_rmul.lookup (by decide +kernel)
theorem oR:seqRepeat? (.type "tuple")=pure (some (.builtin "tuple.__mul__")):=by
 unfold seqRepeat?
 rw[PySem.seqSlot_of (T:="tuple") (name:="__mul__") (id:="tuple.__mul__") aEA.lookup (by decide +kernel),PySem.seqSlot_of (T:="tuple") (name:="__rmul__") (id:="tuple.__rmul__") F.slot_tuple_rmul.lookup (by decide +kernel)]
 rfl
theorem kO(a:Int)(t:Tok)(l:Addr)(items:Array Value)(n:Nat)(dd:Option Addr)(sl:Array (Option Value)) :
  Meets (Builtin.«int.__rmul__» ⟨[.int a t,.ref l],[]⟩) (λ_ R s=>s.heap.get? l=some {cls:=.type "tuple",dict:=dd,data:=.seq items n,slots:=sl}/\R (.ok (.ret Value.notImplemented)) s) :=
 .of_wp λprog w A R s h=>by obtain⟨hp,g,d,tk,os⟩:=s;obtain⟨hl,h⟩:=h;wp_walk using aBD hl;exact⟨_,rfl,h⟩
theorem rA(l:Addr)(items:Array Value)(n:Nat)(dd:Option Addr)(sl:Array (Option Value))(x:Int)(u:Tok)(h1:(decide (x < -(2 ^ 63)) || decide (x>=2 ^ 63))=false)(h2:(items.isEmpty || x==1)=true) :
  Meets (Builtin.«tuple.__mul__» ⟨[.ref l,.int x u],[]⟩) (λ_ R s=>s.heap.get? l=some {cls:=.type "tuple",dict:=dd,data:=.seq items n,slots:=sl}/\R (.ok (.ret (Value.ref l))) s) :=
 .of_wp λprog w A R s h=>by
  obtain⟨hp,g,d,tk,os⟩:=s;obtain⟨hl,h⟩:=h
  have f1:=AutoSeq1.idx_int
  wp_walk using aBD hl
  refine aFP (by rw[h1];rfl) ?_
  wp_walk using aBD hl
  exact⟨_,rfl,h⟩
theorem rD(l:Addr)(items:Array Value)(n:Nat)(dd:Option Addr)(sl:Array (Option Value))(x:Int)(u:Tok)(h1:(decide (x < -(2 ^ 63)) || decide (x>=2 ^ 63))=false)(h2:(items.isEmpty || x==1)=false)(h3:(decide (x<=0) || items.isEmpty)=true) :
  Meets (Builtin.«tuple.__mul__» ⟨[.ref l,.int x u],[]⟩) (λ_ R s=>s.heap.get? l=some {cls:=.type "tuple",dict:=dd,data:=.seq items n,slots:=sl}/\R (.ok (.ret (Value.ref s.heap.objs.size))) {s with heap:=s.heap.push {cls:=Value.type "tuple",data:=Data.seq #[]},toks:=s.toks}) :=
 .of_wp λprog w A R s h=>by
  obtain⟨hp,g,d,tk,os⟩:=s;obtain⟨hl,h⟩:=h
  have f1:=AutoSeq1.idx_int
  wp_walk using aBD hl
  refine aFP (by rw[h1];rfl) ?_
  wp_walk using aBD hl
  exact⟨_,rfl,h⟩
theorem rS(l:Addr)(items:Array Value)(n:Nat)(dd:Option Addr)(sl:Array (Option Value))(x:Int)(u:Tok)(h1:(decide (x < -(2 ^ 63)) || decide (x>=2 ^ 63))=false)(h2:(items.isEmpty || x==1)=false)(h3:(decide (x<=0) || items.isEmpty)=false)
  (h4:¬((items.size:Int)*x > (2 ^ 63 - 1) / 8))(h5:¬Builtin.Tuple.tupleTooMany (items.size*x)=true)(hsz:(List.foldl (λx1 x2=>x1++x2) #[] (List.replicate x.toNat items)).size<=sizeLine) :
  Meets (Builtin.«tuple.__mul__» ⟨[.ref l,.int x u],[]⟩) (λ_ R s=>s.heap.get? l=some {cls:=.type "tuple",dict:=dd,data:=.seq items n,slots:=sl}/\R (.ok (.ret (Value.ref s.heap.objs.size))) {s with heap:=s.heap.push {cls:=Value.type "tuple",data:=Data.seq (List.foldl (λx1 x2=>x1++x2) #[] (List.replicate x.toNat items))},toks:=s.toks}) :=
 .of_wp λprog w A R s h=>by
  obtain⟨hp,g,d,tk,os⟩:=s;obtain⟨hl,h⟩:=h
  have f1:=AutoSeq1.idx_int
  wp_walk using aBD hl
  refine aFP (by rw[h1];rfl) ?_
  wp_walk using aBD hl
  refine aFP (aBG h4) ?_
  wp_walk using aBD hl
  exact⟨_,rfl,h⟩
variable{K:Frag}
noncomputable def rRepT(K:Frag):R2:=λx y H Q=>∃a k xs,x=.ref a/\y=.int k/\SqT K H a xs /\ -(2 ^ 63)<=k/\k < 2 ^ 63/\xs.length*k.toNat<=sizeLine /\
 ((xs=[]\/k=1)->Q (.ref a) H)/\∀p,H p=none->Q (.ref p) (upd H p (.tup (List.replicate k.toNat xs).flatten))
theorem lK(its:List Value)(m:Nat):List.foldl (λx1 x2=>x1++x2) #[] (List.replicate m its.toArray)=(List.replicate m its).flatten.toArray:=by
 have:=jP its m []
 rw[aFR]at this
 exact this
theorem zD:OpR X (binaryOp .Mult) (rRepT X.K):=by
 intro pins s σ H x y v u Q I rx ry h
 obtain⟨l,k,xs,rfl,rfl,hH,h1,h2,hz,qs,q⟩:=h
 cases rx
 obtain⟨t,rfl⟩:=ry
 obtain⟨its,r,pl,hsz⟩:=I.tuple hH
 obtain⟨⟨cls,dd,data,sl⟩,ho,hc,n,hd⟩:=id pl
 simp only at hc hd
 subst hc hd
 have hl:=r.length
 have b1:(decide (k < -(2 ^ 63)) || decide (k>=2 ^ 63))=false:=by
  rw[aFN];exact⟨aBG (by lia),aBG (by lia)⟩
 refine wpAny_binaryOp_repeat_ref (T:="tuple") (U:="int") (by decide) ⟨_,ho,rfl⟩ (λs'=>aGN s' k t) jS F.fills_int_mul aFM oR F.slot_int_index.lookup
  (aDO aFM (aGN s k t) F.entry_int_rmul (F.args_int_rmul_2 _ _) (kO k t l its.toArray n dd sl) ⟨ho,rfl,⟨_,ho,rfl⟩,?_⟩)
 by_cases hs:xs=[]\/k=1
 ·refine aDO aEA ⟨_,ho,rfl⟩ aGM (aGF _ _) (rA l its.toArray n dd sl k t b1 ?_) ⟨ho,⟨.ref l,H,I,rfl,qs hs⟩⟩
  rcases hs with hs|hs
  ·subst hs
   have:its=[]:=by simpa using hl.symm
   simp[this]
  ·simp[hs]
 ·have hne:its≠[]:=λz=>hs (.inl (by subst z;simpa using hl))
  have hn1:(its.toArray.isEmpty || k==1)=false:=by
   rw[aFN];exact⟨by simpa using hne,by simp;exact λz=>hs (.inr z)⟩
  by_cases h0:k<=0
  ·refine aDO aEA ⟨_,ho,rfl⟩ aGM (aGF _ _) (rD l its.toArray n dd sl k t b1 hn1 (by simp[h0])) ⟨ho,?_⟩
   have e:(List.replicate k.toNat xs).flatten=[]:=by rw[show k.toNat=0 by lia];rfl
   have q:=q s.heap.objs.size I.fresh
   rw[e]at q
   refine⟨.ref s.heap.objs.size,_,I.laid (t':=s.toks) (o:=.tup []) (λb ob q=>aAA _ q) (aAF _) ?_,rfl,q⟩
   exact⟨aEW _,[],.nil,IsTup.new _ _⟩
  ·have hk:((k.toNat:Nat):Int)=k:=by lia
   have hz':its.length*k.toNat<=sizeLine:=by rw[<- hl];exact hz
   have hcast:((its.toArray.size:Nat):Int)*k=((its.length*k.toNat:Nat):Int):=by
    rw[aAG,Int.natCast_mul,hk]
   have hs24:(sizeLine:Nat)=16777216:=aBB
   refine aDO aEA ⟨_,ho,rfl⟩ aGM (aGF _ _) (rS l its.toArray n dd sl k t b1 hn1 ?_ ?_ ?_ ?_) ⟨ho,?_⟩
   ·rw[aFN];exact⟨aBG h0,by simpa using hne⟩
   ·rw[hcast];lia
   ·unfold Builtin.Tuple.tupleTooMany
    rw[hcast]
    intro z
    have z:=aET z
    lia
   ·rw[lK,aAG,nT,aEI];exact hz'
   ·rw[lK]
    refine⟨.ref s.heap.objs.size,_,I.laid (t':=s.toks) (o:=.tup (List.replicate k.toNat xs).flatten) (λb ob q=>aAA _ q) (aAF _) ?_,rfl,q _ I.fresh⟩
    exact⟨by rw[nT,aEI];exact hz,_,r.rep k.toNat,IsTup.new _ _⟩
noncomputable def pMulA(x y:W)(M:Mm):Oc W:=match x,y with
 |.d (.tup xs),.d (.int k)=>if xs.length*k.toNat<=16777216/\k < 9223372036854775808 /\ -9223372036854775808<=k then okD (.tup (List.replicate k.toNat xs).flatten) M else .bad
 |x,y=>pMul x y M
theorem opMulA:OpG X K Z (binaryOp .Mult) pMulA:=λhk=>by
 obtain⟨r,h1,h2⟩:=(opMul (X:=X) (K:=K) (Z:=Z)) hk
 refine⟨_,OpR.or (hk▸zD) h1,?_⟩
 intro μ H M x y v u Q hr rx ry p
 have gen:=λp=>(Or.inr (h2 μ H M x y v u Q hr rx ry p):rRepT K v u H Q\/r v u H Q)
 cases x with
 |ref i=>exact gen (by cases y with|ref j=>exact p|ob _ _=>exact p|nest _=>exact p|d y=>cases y <;> exact p)
 |ob _ _=>exact gen (by cases y with|ref j=>exact p|ob _ _=>exact p|nest _=>exact p|d y=>cases y <;> exact p)
 |nest _=>exact gen (by cases y with|ref j=>exact p|ob _ _=>exact p|nest _=>exact p|d y=>cases y <;> exact p)
 |d x=>cases x with
  |tup xs=>cases y with
   |ref j=>exact gen p
   |ob _ _=>exact gen p
   |nest _=>exact gen p
   |d y=>cases y with
    |int k =>
     simp only[pMulA]at p
     split at p
     ·rename_i hz
      have rx':=rx
      simp only[Rw,Rp]at rx ry
      obtain⟨a,vs,rfl,q1,r1⟩:=rx
      refine .inl ⟨a,k,vs,rfl,ry,SqT.of q1,hz.2.2,hz.2.1,by rw[<- r1.length,aBB];exact hz.1,λe=>?_,iX hr (r1.rep k.toNat) p⟩
      refine p μ H .refl hr _ ?_
      have:(List.replicate k.toNat xs).flatten=xs:=by
       rcases e with e|e
       ·subst e
        have:xs=[]:=by have:=r1.length;simpa using this
        subst this;simp
       ·subst e;simp[List.replicate]
      rw[this];exact rx'
     ·exact p.elim
    |_=>exact gen p
  |_=>exact gen (by cases y with|ref j=>exact p|ob _ _=>exact p|nest _=>exact p|d y=>cases y <;> exact p)
end EV
end
variable{M:EV.Mm}{f fa fb fc fo fi:EV.FE}{L:EV.Lc}{Z:EV.Zt}{F:EV.FS}{QS:EV.Out->EV.Mm->Prop}{QG:EV.Lc->EV.Mm->Prop}{QO:Option Int->EV.Mm->Prop}{EX:EV.Exn->EV.Mm->Prop}
section
open PySem PySem.Spec PyProof.Rows
namespace HT
variable{prog:Program}{E:Value->Shared->Prop}
theorem getItem_tuple_whole{t sl:Addr}{vl vu:Value}(ht:IsTup s.heap t items)(hs:s.heap.IsSliceOf sl vl vu .none)(pl:IsPart vl lo)(pu:IsPart vu hi)
  (hw:sIx items.size 0 lo=0/\sIx items.size items.size hi=items.size)(h:Q (.ref t) s):wpAny (model prog w) A (getItem (.ref t) (.ref sl)) Q E s:=by
 obtain⟨os,hos,hcs,hds⟩:=id hs
 have hTs:s.TypeIs (.ref sl) "slice":=⟨os,hos,hcs⟩
 unfold getItem
 try with_reducible refine aCF ?_
 first|refine aAB (aAD ?_)|skip
 refine aAB (wpAny_sequenceKey ht.typeIs (by decide) ?_)
 refine aAB (aBO (name:=Str.ofString "__getitem__") ht.typeIs aBN
  (aBU aBN ht.typeIs entry_tuple_getitem ?_ (args_tuple_getitem _ _)))
 show wpAny _ _ (Builtin.Tuple.tupleItemsOf (.ref t) >>= _) _ _ s
 refine aAB (tupleItemsOf_ ht ?_)
 refine aAB (aFV hTs ?_)
 rw[aAH (by decide)]
 refine aAB (fV hs pl pu ?_)
 have hyes:((((sIx items.size 0 lo:Nat):Int)==0&&(1:Int)==1&&(sIx items.size items.size hi - sIx items.size 0 lo)==items.size)=true):=by
  rw[hw.1,hw.2];simp
 show wpAny _ _ (if(((sIx items.size 0 lo:Nat):Int)==0&&(1:Int)==1&&(sIx items.size items.size hi - sIx items.size 0 lo)==items.size)=true then _ else _) _ _ s
 rw[aAH hyes]
 refine aAB (m:=Builtin.Tuple.tupleIsExact _) ?_
 unfold Builtin.Tuple.tupleIsExact
 refine aAB (aFV ht.typeIs (aAD ?_))
 show wpAny _ _ (if((Value.type "tuple"==Value.type "tuple")=true)then _ else _) _ _ s
 rw[aAH (by decide)]
 first
  |exact aAB (aDB (aAD ⟨_,rfl,aAD h⟩))
  |exact aAB (aDB (aAB (aAD ⟨_,rfl,aAD h⟩)))
  |exact aAB (aDB (aAB (aAD (aAD ⟨_,rfl,aAD h⟩))))
end HT
namespace EV
open L2
section
variable{K:Frag}{e a b o:Expr}{es:List Expr}{fs:FA}{rest:List Stmt}{G:FS}
noncomputable def rSlA(K:Frag):V->Option Int->Option Int->Hp->VK->Prop:=λx lo hi H Q=>∃a xs,x=.ref a/\SqT K H a xs /\
 ((HT.sIx xs.length 0 lo=0/\HT.sIx xs.length xs.length hi=xs.length)->Q (.ref a) H)/\∀p,H p=none->Q (.ref p) (upd H p (.tup (cutV xs lo hi)))
theorem zJ:SlR X (rSlA X.K):=by
 intro pins s σ H x v vl vu lo hi sl Q I rx hs pl pu h
 obtain⟨a,xs,rfl,hx,q1,q2⟩:=h
 by_cases hw:HT.sIx xs.length 0 lo=0/\HT.sIx xs.length xs.length hi=xs.length
 ·cases rx
  obtain⟨its,r,ht,hz⟩:=I.tuple hx
  have hlen:its.toArray.size=xs.length:=by rw[aAG];exact r.length.symm
  refine⟨"tuple",_,aBN.lookup,ht.typeIs,?_⟩
  exact HT.getItem_tuple_whole ht hs pl pu (by rw[hlen];exact hw) ⟨.ref a,H,I,rfl,q1 hw⟩
 ·exact aDr pins s σ H _ v vl vu lo hi sl Q I rx hs pl pu ⟨a,xs,rfl,hx,hw,q2⟩
theorem uF{xs:List D}(h:HT.sIx xs.length 0 lo=0/\HT.sIx xs.length xs.length hi=xs.length):cut xs lo hi=xs:=by
 unfold cut;rw[h.1,h.2];simp
theorem iY{x:W}{Q:VK}(hr:HR K μ H M)(rx:Rw K μ H x v)(p:Pst K Z μ H (match lr M x with
  |some xs=>okD (.lst (cut xs lo hi)) M
  |none=>.bad) (Wk K Q)):rSlL K v lo hi H Q:=by
 cases q1:lr M x with
 |none=>rw[q1]at p;exact p.elim
 |some xs =>
  rw[q1]at p
  obtain⟨a,vs,rfl,h1,r1⟩:=tW hr rx q1
  exact⟨a,vs,rfl,h1,hG hr (tO r1) p⟩
theorem oV{lo hi:Option Expr}{fl fh:FO}(he:Ev X K Z e f)(hl:Eo X K Z lo fl)(hh:Eo X K Z hi fh):Ev X K Z (.Subscript e (.Slice lo hi none p2) pos) (eSl f fl fh):=by
 have h:=vI (p2:=p2) (pos:=pos) (SlR.or (zJ (X:=X)) zA) he.h hl.h hh.h
 rw[he.k]at h
 refine⟨he.k,cqE h ?_⟩
 rintro σ H Q ⟨μ,M,L,hr,lr,p⟩
 refine⟨μ,M,L,hr,lr,p.bind.imp λμ1 H1 M1 x e1 hr1 _ p1 v rx=>?_⟩
 refine⟨μ1,M1,L,hr1,lr.ext hr.lsts e1,p1.bind.imp λμ2 H2 M2 l e2 hr2 _ p2=>?_⟩
 refine⟨μ2,M2,L,hr2,lr.ext hr.lsts (e1.trans e2),p2.bind.imp λμ3 H3 M3 u e3 hr3 _ p3=>?_⟩
 have rx:=rx.ext hr1.lsts (e2.trans e3)
 cases x with
 |ref i=>exact .inr (iY hr3 rx p3)
 |ob _ _=>exact .inr (iY hr3 rx p3)
 |nest _=>exact .inr (iY hr3 rx p3)
 |d x=>cases x with
  |tup xs =>
   have rx':=rx
   simp only[Rw,Rp]at rx
   obtain⟨a,vs,rfl,q1,r1⟩:=rx
   refine .inl ⟨a,vs,rfl,SqT.of q1,λhw=>?_,iX hr3 (tO r1) p3⟩
   refine p3 μ3 H3 .refl hr3 _ ?_
   rw[uF (by rw[r1.length];exact hw)]
   exact rx'
  |_=>exact .inr (iY hr3 rx p3)
structure KitT(T:String):Prop where
 non:∀K,PySem.W.kitOne K (.type "NoneType") (.type T)=some false
 bl:∀K,PySem.W.kitOne K (.type "bool") (.type T)=some (T=="bool" || T=="int")
 int:∀K,PySem.W.kitOne K (.type "int") (.type T)=some (T=="int")
 str:∀K,PySem.W.kitOne K (.type "str") (.type T)=some (T=="str")
 tup:∀K,PySem.W.kitOne K (.type "tuple") (.type T)=some (T=="tuple")
 lst:∀K,PySem.W.kitOne K (.type "list") (.type T)=some (T=="list")
noncomputable section
def flatD(d:D):Bool:=(fv d).isSome
def pInG(neg:Bool)(x y:W)(M:Mm):Oc W:=match x,sv M y with
 |.d d,some xs=>if flatD d=true/\xs.all flatD=true then .ok (.d (.bl (if neg then !(xs.any λy=>eqD y d)else xs.any λy=>eqD y d))) M else .bad
 |_,_=>.bad
theorem sO:∀{xs:List D} {vs:List V} {d:D} {v:V},Rps K μ H xs vs->xs.all flatD=true->Rp K μ H d v->flatD d=true->vs.all flatV=true/\inV v vs=xs.any (λy=>eqD y d)
 |[],_,_,_,h,_,_,_=>by simp only[Rps]at h;subst h;exact⟨rfl,rfl⟩
 |x::xs,_,d,v,h,hf,hd,hfd=>by
  simp only[Rps]at h
  obtain⟨u,r,rfl,e2,e3⟩:=h
  rw[aEZ,aCE]at hf
  obtain⟨i1,i2⟩:=sO e3 hf.2 hd hfd
  obtain⟨w,hw⟩:=aDH.mp hf.1
  obtain⟨w2,hw2⟩:=aDH.mp hfd
  obtain⟨rfl,f1⟩:=nF hw e2
  obtain⟨rfl,f2⟩:=nF hw2 hd
  refine⟨by rw[aEZ,f1,i1];rfl,?_⟩
  show(eqV u v || inV v r)=_
  rw[i2,wY hw hw2,aEC]
theorem aBq(neg:Bool):Op2 K Z (rIn K neg) (pInG neg):=by
 intro μ H M x y v u Q hr rx ry p
 cases x with
 |ref i=>exact p.elim
 |ob _ _=>exact p.elim
 |nest _=>exact p.elim
 |d d =>
  simp only[pInG]at p
  cases q:sv M y with
  |none=>rw[q]at p;exact p.elim
  |some xs =>
   rw[q]at p
   simp only at p
   split at p
   ·rename_i hz
    obtain⟨a,vs,rfl,h1,r1⟩:=sR hr ry q
    obtain⟨i1,i2⟩:=sO r1 hz.2 rx hz.1
    obtain⟨w,hw⟩:=aDH.mp hz.1
    obtain⟨rfl,f1⟩:=nF hw rx
    refine⟨a,vs,rfl,h1,f1,i1,p μ H .refl hr _ ?_⟩
    simp only[Rw,Rp]
    cases neg <;> simp[i2]
   ·exact p.elim
abbrev pNotIn:=pInG true
end
theorem opNotIn:OpG X K Z (compareOp .NotIn) pNotIn:=λhk=>⟨_,hk▸nV,aBq true⟩
end
noncomputable def whileD(t:FT)(B:FS):Nat->FS
 |0=>λ_ _=>.bad
 |n+1=>λL M=>(t L M).bind λb M1=>if b=true then(B L M1).bind λo M2=>match o with
   |.nx L2=>whileD t B n L2 M2
   |.ct L2=>whileD t B n L2 M2
   |.bk L2=>.ok (.nx L2) M2
   |.rt w=>.ok (.rt w) M2
  else .ok (.nx L) M1
inductive Ck
 |one (t:Nat)
 |two (t:Nat) (ys:List D)
noncomputable instance:Coe Nat Ck:=⟨.one⟩
noncomputable def Ck.ok(ds:List D)(M:Mm):Ck->Prop
 |.one t=>M[t]?=some ds
 |.two t ys=>M[t]?=some ys
structure Src where
 ds:List D
 k:Option Ck
noncomputable abbrev FI:=Lc->Mm->Oc Src
noncomputable def Chk(s:Src)(M:Mm):Prop:=∀t,s.k=some t->t.ok s.ds M
open Classical in
noncomputable def forD(s:Src)(g:FG)(B:FS):List D->FS
 |[]=>λL M=>if Chk s M then .ok (.nx L) M else .bad
 |d::r=>λL M=>if Chk s M then(g (.d d) L M).bind λL1 M1=>(B L1 M1).bind λo M2=>match o with
   |.nx L2=>forD s g B r L2 M2
   |.ct L2=>forD s g B r L2 M2
   |.bk L2=>.ok (.nx L2) M2
   |.rt w=>.ok (.rt w) M2
  else .bad
noncomputable section
def sFor(fi:FI)(g:FG)(B:FS):FS:=λL M=>(fi L M).bind λs M1=>forD s g B s.ds L M1
def ItOk(K:Frag)(μ:List Addr)(H:Hp)(s:Src)(J:It):Prop :=
 ∃S:List Addr->Hp->Prop,S μ H/\(∀μ1 H1 μ2 H2,Lsts μ1 H1->S μ1 H1->Ext μ1 H1 μ2 H2->S μ2 H2) /\
  ∀μ1 H1 M1 i,HR K μ1 H1 M1->S μ1 H1->Chk s M1 ->
   (∀d,s.ds[i]?=some d->J.go i H1/\∀x H2,J.yld i H1 x H2->Ext μ1 H1 μ1 H2/\HR K μ1 H2 M1/\Rp K μ1 H2 d x)/\(s.ds.length<=i->J.stop i H1)
def liftI(K:Frag)(Z:Zt)(fi:FI):TI:=λσ H R=>∃μ M L,HR K μ H M/\LR K μ H L σ/\Pst K Z μ H (fi L M) λμ' H' _ s=>∀J,ItOk K μ' H' s J->R J H'
end
structure Ei(X:Cx)(K:Frag)(Z:Zt)(tg iter:Expr)(fi:FI):Prop where
 k:X.K=K
 h:PI X tg iter (liftI K Z fi)
variable{tg iter:Expr}
theorem cqI{t t':TI}(h:PI X tg iter t)(i:∀σ H Q,t' σ H Q->t σ H Q):PI X tg iter t':=λpins s σ H Q I q=>h pins s σ H Q I (i _ _ _ q)
section
variable{K:Frag}{e a b o:Expr}{es:List Expr}{fs:FA}{rest:List Stmt}{G:FS}{B:FS}
theorem kU{c:Expr}{t:FT}(n:Nat)(hp:PassesOwn (model X.prog X.w) X.A X.env X.xe)(hc:Et X K Z c t)(hb:Ess X K Z body B):Es X K Z (.While c body [] pos) (whileD t B n):=by
 refine⟨hc.k,cqS (wI hp hc.h hb.h) ?_⟩
 rintro E σ H ⟨μ,M,L,hr,lr,p⟩
 refine⟨λm σ H=>∃μ M L,HR K μ H M/\LR K μ H L σ/\Pst K Z μ H (whileD t B m L M) (Sk K E),⟨n,μ,M,L,hr,lr,p⟩,?_⟩
 rintro m σ H ⟨μ,M,L,hr,lr,p⟩
 cases m with
 |zero=>exact p.elim
 |succ m =>
  refine⟨μ,M,L,hr,lr,(show Pst K Z μ H ((t L M).bind _) _ from p).bind.imp λμ1 H1 M1 b e1 hr1 _ p1=>?_⟩
  cases b with
  |false=>exact p1 μ1 H1 .refl hr1 σ (lr.ext hr.lsts e1)
  |true =>
   refine⟨λσ' H'=>∃μ M L,HR K μ H' M/\LR K μ H' L σ'/\Pst K Z μ H' (whileD t B m L M) (Sk K E),λσ' H' q=>⟨m,Nat.lt_succ_self m,q⟩,?_⟩
   refine⟨μ1,M1,L,hr1,lr.ext hr.lsts e1,(show Pst K Z μ1 H1 ((B L M1).bind _) _ from p1).bind.imp λμ2 H2 M2 o e2 hr2 _ p2=>?_⟩
   cases o with
   |nx L2=>exact λσ' lr'=>⟨μ2,M2,L2,hr2,lr',p2⟩
   |ct L2=>exact λσ' lr'=>⟨μ2,M2,L2,hr2,lr',p2⟩
   |bk L2=>exact p2 μ2 H2 .refl hr2
   |rt w=>exact p2 μ2 H2 .refl hr2
theorem dX{fi:FI}{g:FG}(hp:PassesOwn (model X.prog X.w) X.A X.env X.xe)(hc:X.calm=true)(hi:Ei X K Z tg iter fi)(hg:Eg X K Z tg g)(hb:Ess X K Z body B)
  (hs:∀x,foldedSetIterable iter X.env x=pure x:=by intro _;rfl):Es X K Z (.For tg iter body [] pos) (sFor fi g B):=by
 refine⟨hi.k,cqS (aBo hp hc hi.h hg.h hb.h hs) ?_⟩
 rintro E σ H ⟨μ,M,L,hr,lr,p⟩
 refine⟨μ,M,L,hr,lr,p.bind.imp λμ1 H1 M1 s e1 hr1 _ p1 J hJ=>?_⟩
 obtain⟨S,s0,sx,step⟩:=hJ
 refine⟨λi m σ H=>m=s.ds.length - i/\i<=s.ds.length/\∃μ M L,HR K μ H M/\LR K μ H L σ/\S μ H/\Pst K Z μ H (forD s g B (s.ds.drop i) L M) (Sk K E),⟨s.ds.length,by simp,aEW _,μ1,M1,L,hr1,lr.ext hr.lsts e1,s0,by simpa using p1⟩,?_⟩
 rintro i m σ H ⟨rfl,hi,μ,M,L,hr,lr,sS,p⟩
 by_cases hlt:i < s.ds.length
 ·rw[aDD hlt]at p
  unfold forD at p
  split at p
  ·rename_i hch
   obtain⟨go,yl⟩:=(step μ H M i hr sS hch).1 s.ds[i] (by simp[hlt])
   refine .inr ⟨go,λσ' H'=>i+1<=s.ds.length/\∃μ M L,HR K μ H' M/\LR K μ H' L σ'/\S μ H'/\Pst K Z μ H' (forD s g B (s.ds.drop (i+1)) L M) (Sk K E),λσ' H' q=>⟨s.ds.length - (i+1),by lia,rfl,q.1,q.2⟩,λx H2 y=>?_⟩
   obtain⟨e2,hr2,rx⟩:=yl x H2 y
   have lr2:=lr.ext hr.lsts e2
   have s2:=sx _ _ _ _ hr.lsts sS e2
   refine⟨μ,M,L,.d s.ds[i],hr2,lr2,rx,(Pst.mono e2 p).bind.imp λμ3 H3 M3 L3 e3 hr3 _ p3 σ3 lr3=>?_⟩
   refine⟨μ3,M3,L3,hr3,lr3,p3.bind.imp λμ4 H4 M4 o e4 hr4 _ p4=>?_⟩
   have s4:=sx _ _ _ _ hr3.lsts (sx _ _ _ _ hr2.lsts s2 e3) e4
   cases o with
   |nx L4=>exact λσ' lr'=>⟨hlt,μ4,M4,L4,hr4,lr',s4,p4⟩
   |ct L4=>exact λσ' lr'=>⟨hlt,μ4,M4,L4,hr4,lr',s4,p4⟩
   |bk L4=>exact p4 μ4 H4 .refl hr4
   |rt w=>exact p4 μ4 H4 .refl hr4
  ·exact p.elim
 ·have e:i=s.ds.length:=by lia
  subst e
  rw[aDQ (aAF _)]at p
  unfold forD at p
  split at p
  ·rename_i hch
   exact .inl ⟨(step μ H M _ hr sS hch).2 (aAF _),p μ H .refl hr σ lr⟩
  ·exact p.elim
theorem wJ{ds:List D}:Chk ⟨ds,none⟩ M:=λt h=>by cases h
@[simp]theorem xV{ds:List D}:Chk ⟨ds,none⟩ M ↔ True:=⟨λ_=>trivial,λ_=>wJ⟩
@[simp]theorem yY{ds:List D}{t:Nat}:Chk ⟨ds,some t⟩ M ↔ M[t]?=some ds:=⟨λh=>h t rfl,λh t' e=>by cases e;exact h⟩
noncomputable def iSq(K:Frag)(tl:TE):TI:=λσ H R=>tl σ H λx H1=>∃a,x=.ref a/\(((∃xs,SqL K H1 a xs)/\R (Itl K a) H1)\/((∃xs,SqT K H1 a xs)/\R (Itt K a) H1))
theorem aEb{l:Expr}{tl:TE}(hl:PE X l tl):PI X tg l (iSq X.K tl):=by
 intro pins s σ H R I h
 refine thn (hl pins s σ H _ I h) λv s1 ⟨x,H1,I1,r1,q1⟩=>?_
 obtain⟨a,e,⟨⟨xs,hq⟩,q⟩|⟨⟨xs,hq⟩,q⟩⟩:=q1
 ·subst e
  cases r1
  obtain⟨its,rv,p,hz⟩:=I1.list hq
  refine aCZ p.isList ?_
  refine⟨s1.heap.objs.size,[s1.heap.objs.size],_,_,H1,rfl,I1.kept (t':=s1.toks) λb o e=>aAA _ e,uE a _,⟨_,aAE _ rfl,rfl,rfl⟩,λb hb=>?_,q⟩
  have e:b=s1.heap.objs.size:=by simpa using hb
  subst e
  exact I1.fpOk (aAF _) (I1.hok.fresh (aAF _))
 ·subst e
  cases r1
  obtain⟨its,rv,p,hz⟩:=I1.tuple hq
  refine aDL (show s1.heap.IsTuple a its.toArray from p) ?_
  refine⟨s1.heap.objs.size,[s1.heap.objs.size],_,_,H1,rfl,I1.kept (t':=s1.toks) λb o e=>aAA _ e,sI a _,⟨_,aAE _ rfl,rfl,rfl⟩,λb hb=>?_,q⟩
  have e:b=s1.heap.objs.size:=by simpa using hb
  subst e
  exact I1.fpOk (aAF _) (I1.hok.fresh (aAF _))
noncomputable def srcOf(M:Mm):W->Option Src
 |.d (.tup xs)=>some ⟨xs,none⟩
 |.d (.lst xs)=>some ⟨xs,none⟩
 |.d (.fz xs)=>some ⟨xs,none⟩
 |.ref t=>(M[t]?).map λxs=>⟨xs,some t⟩
 |_=>none
noncomputable def iE(f:FE):FI:=λL M=>(f L M).bind λw M1=>match srcOf M1 w with
 |some s=>.ok s M1
 |none=>.bad
variable{s:Src}
theorem rM{a:Addr}(S:List Addr->Hp->Prop)(s0:S μ H)(sx:∀μ1 H1 μ2 H2,Lsts μ1 H1->S μ1 H1->Ext μ1 H1 μ2 H2->S μ2 H2)
  (rd:∀μ1 H1 M1,HR K μ1 H1 M1->S μ1 H1->Chk s M1->∃vs,SqL K H1 a vs/\Rps K μ1 H1 s.ds vs):ItOk K μ H s (Itl K a):=by
 refine⟨S,s0,sx,λμ1 H1 M1 i hr hS hc=>?_⟩
 obtain⟨vs,h1,r1⟩:=rd μ1 H1 M1 hr hS hc
 refine⟨λd hd=>?_,λhl=>⟨vs,h1,by rw[<- r1.length];exact hl⟩⟩
 obtain⟨v,q1,q2⟩:=r1.get hd
 refine⟨⟨vs,v,h1,q1⟩,λx H2 y=>?_⟩
 obtain⟨rfl,y⟩:=y
 have:=y vs h1
 rw[q1]at this
 cases this
 exact⟨.refl,hr,q2⟩
theorem aCu{a:Addr}(S:List Addr->Hp->Prop)(s0:S μ H)(sx:∀μ1 H1 μ2 H2,Lsts μ1 H1->S μ1 H1->Ext μ1 H1 μ2 H2->S μ2 H2)
  (rd:∀μ1 H1 M1,HR K μ1 H1 M1->S μ1 H1->Chk s M1->∃vs,SqT K H1 a vs/\Rps K μ1 H1 s.ds vs):ItOk K μ H s (Itt K a):=by
 refine⟨S,s0,sx,λμ1 H1 M1 i hr hS hc=>?_⟩
 obtain⟨vs,h1,r1⟩:=rd μ1 H1 M1 hr hS hc
 refine⟨λd hd=>?_,λhl=>⟨vs,h1,by rw[<- r1.length];exact hl⟩⟩
 obtain⟨v,q1,q2⟩:=r1.get hd
 refine⟨⟨vs,v,h1,q1⟩,λx H2 y=>?_⟩
 obtain⟨rfl,y⟩:=y
 have:=y vs h1
 rw[q1]at this
 cases this
 exact⟨.refl,hr,q2⟩
theorem iI{d:D}:∀μ1 H1 μ2 H2,Lsts μ1 H1->Rp K μ1 H1 d v->Ext μ1 H1 μ2 H2->Rp K μ2 H2 d v:=λμ1 H1 μ2 H2 l h e=>Rp.ext l e d v h
theorem kC(h:Ev X K Z e f):Ei X K Z tg e (iE f):=by
 have h':=aEb (tg:=tg) h.h
 rw[h.k]at h'
 refine⟨h.k,cqI h' ?_⟩
 rintro σ H R ⟨μ,M,L,hr,lr,p⟩
 refine⟨μ,M,L,hr,lr,p.bind.imp λμ1 H1 M1 w e1 hr1 _ p1 v rw'=>?_⟩
 cases w with
 |ref t =>
  simp only[srcOf]at p1
  cases q:M1[t]? with
  |none=>simp only[q,Option.map_none]at p1;exact p1.elim
  |some xs =>
   simp only[q,aFK]at p1
   obtain⟨a,qa,rfl,il⟩:=rw'
   obtain⟨a',vs,qa',h1,r1⟩:=hr1.at q qa
   rw[qa]at qa';cases qa'
   refine⟨a,rfl,.inl ⟨⟨vs,SqL.of h1⟩,p1 μ1 H1 .refl hr1 _ ?_⟩⟩
   refine rM (λμ2 H2=>μ2[t]?=some a/\IsL H2 a) ⟨qa,il⟩ (λμ1 H1 μ2 H2 _ z e=>⟨e.pre _ _ z.1,z.2.ext e⟩) λμ2 H2 M2 hr2 z c=>?_
   obtain⟨a',vs,qa',h1,r1⟩:=hr2.at (c t rfl) z.1 z.2
   rw[z.1]at qa';cases qa'
   exact⟨vs,SqL.of h1,r1⟩
 |ob _ _=>exact p1.elim
 |nest _=>exact p1.elim
 |d x =>
  cases x with
  |tup xs =>
   have rw2:=rw'
   simp only[Rw,Rp]at rw'
   obtain⟨a,vs,rfl,h1,r1⟩:=rw'
   refine⟨a,rfl,.inr ⟨⟨vs,SqT.of h1⟩,p1 μ1 H1 .refl hr1 _ ?_⟩⟩
   refine aCu (λμ2 H2=>Rp K μ2 H2 (.tup xs) (.ref a)) rw2 iI λμ2 H2 M2 hr2 z c=>?_
   simp only[Rp]at z
   obtain⟨a',vs,e,h1,r1⟩:=z
   cases e
   exact⟨vs,SqT.of h1,r1⟩
  |lst xs =>
   have rw2:=rw'
   simp only[Rw,Rp]at rw'
   obtain⟨a,vs,rfl,h1,_,r1⟩:=rw'
   refine⟨a,rfl,.inl ⟨⟨vs,SqL.of h1⟩,p1 μ1 H1 .refl hr1 _ ?_⟩⟩
   refine rM (λμ2 H2=>Rp K μ2 H2 (.lst xs) (.ref a)) rw2 iI λμ2 H2 M2 hr2 z c=>?_
   simp only[Rp]at z
   obtain⟨a',vs,e,h1,_,r1⟩:=z
   cases e
   exact⟨vs,SqL.of h1,r1⟩
  |fz xs =>
   have rw2:=rw'
   simp only[Rw,Rp]at rw'
   obtain⟨a,vs,rfl,h1,r1⟩:=rw'
   refine⟨a,rfl,.inl ⟨⟨vs,h1.sq⟩,p1 μ1 H1 .refl hr1 _ ?_⟩⟩
   refine rM (λμ2 H2=>Rp K μ2 H2 (.fz xs) (.ref a)) rw2 iI λμ2 H2 M2 hr2 z c=>?_
   simp only[Rp]at z
   obtain⟨a',vs,e,h1,r1⟩:=z
   cases e
   exact⟨vs,h1.sq,r1⟩
  |_=>exact p1.elim
noncomputable def rngD(lo:Int)(n:Nat):List D:=(List.range n).map λk=>D.int (lo+(k:Nat))
variable{lo:Int}{n:Nat}
theorem eQ{d:D}(h:(rngD lo n)[i]?=some d):i < n/\d=.int (lo+i):=by
 unfold rngD at h
 rw[aAO]at h
 by_cases hi:i < n
 ·rw[List.getElem?_range hi]at h;simp at h;exact⟨hi,h.symm⟩
 ·rw[aCL (by simpa using hi)]at h;cases h
theorem wE :ItOk K μ H ⟨rngD lo n,none⟩ (Itr lo n):=by
 refine⟨λ_ _=>True,trivial,λ_ _ _ _ _ _ _=>trivial,λμ1 H1 M1 i hr _ _=>⟨λd hd=>?_,λhl=>by simp only[rngD,aAL,aBY]at hl;exact hl⟩⟩
 obtain⟨hi,rfl⟩:=eQ hd
 refine⟨hi,λx H2 y=>?_⟩
 obtain⟨rfl,rfl⟩:=y
 exact⟨.refl,hr,by simp[Rp]⟩
noncomputable section
def in62(i:Int):Bool:=decide (-4611686018427387904<=i/\i < 4611686018427387904)
def iR1(f:FE):FI:=λL M=>(f L M).bind λw M1=>match w with
 |.d (.int j)=>if in62 j=true then .ok ⟨rngD 0 j.toNat,none⟩ M1 else .bad
 |_=>.bad
def iR2(f g:FE):FI:=λL M=>(f L M).bind λw M1=>(g L M1).bind λu M2=>match w,u with
 |.d (.int i),.d (.int j)=>if in62 i=true/\in62 j=true then .ok ⟨rngD i (j - i).toNat,none⟩ M2 else .bad
 |_,_=>.bad
end
theorem dJ(hm:X.mg "range"=none)(ha:Ev X K Z a f)(hg:Gl X "range":=by rfl)(hs:starEach [a] X.env=[(false,eval a X.env)]:=by rfl):Ei X K Z tg (.Call (.Name "range" p) [a] [] pos) (iR1 f):=by
 refine⟨ha.k,cqI (uR hg hm (cY ha.h fJ hs) hs) ?_⟩
 rintro σ H R ⟨μ,M,L,hr,lr,p⟩
 refine⟨μ,M,L,hr,lr,p.bind.imp λμ1 H1 M1 w e1 hr1 _ p1 v rw'=>?_⟩
 cases w with
 |ref i=>exact p1.elim
 |ob _ _=>exact p1.elim
 |nest _=>exact p1.elim
 |d x=>cases x with
  |int j =>
   simp only at p1
   split at p1
   ·rename_i hz
    simp only[in62,aAW]at hz
    simp only[Rw,Rp]at rw'
    subst rw'
    exact⟨j,rfl,hz.1,hz.2,p1 μ1 H1 .refl hr1 _ wE⟩
   ·exact p1.elim
  |_=>exact p1.elim
theorem vC(hm:X.mg "range"=none)(ha:Ev X K Z a fa)(hb:Ev X K Z b fb)(hg:Gl X "range":=by rfl)(hs:starEach [a,b] X.env=[(false,eval a X.env),(false,eval b X.env)]:=by rfl)(hs2:starEach [b] X.env=[(false,eval b X.env)]:=by rfl) :
  Ei X K Z tg (.Call (.Name "range" p) [a,b] [] pos) (iR2 fa fb):=by
 refine⟨ha.k,cqI (uZ hg hm (cY ha.h (cY hb.h fJ hs2) (by rw[hs,hs2])) hs hs2) ?_⟩
 rintro σ H R ⟨μ,M,L,hr,lr,p⟩
 refine⟨μ,M,L,hr,lr,p.bind.imp λμ1 H1 M1 w e1 hr1 _ p1 v rw'=>?_⟩
 refine⟨μ1,M1,L,hr1,lr.ext hr.lsts e1,p1.bind.imp λμ2 H2 M2 u e2 hr2 _ p2 v2 ru=>?_⟩
 have rw':=rw'.ext hr1.lsts e2
 cases w with
 |ref i=>exact p2.elim
 |ob _ _=>exact p2.elim
 |nest _=>exact p2.elim
 |d x=>cases x with
  |int i=>cases u with
   |ref j=>exact p2.elim
   |ob _ _=>exact p2.elim
   |nest _=>exact p2.elim
   |d y=>cases y with
    |int j =>
     simp only at p2
     split at p2
     ·rename_i hz
      simp only[in62,aAW]at hz
      simp only[Rw,Rp]at rw' ru
      subst rw' ru
      exact⟨i,j,rfl,⟨hz.1.1,hz.1.2,hz.2.1,hz.2.2⟩,p2 μ2 H2 .refl hr2 _ wE⟩
     ·exact p2.elim
    |_=>exact p2.elim
  |_=>exact p2.elim
end
section
variable{K:Frag}{μ2:List Addr}{M2:Mm}
theorem Ext.back(e:Ext μ H μ2 H2):Ext μ H μ H2:=⟨e.keep,λa h=>.inl h,λ_ _ h=>h,e.kin⟩
theorem Ext.take(e:Ext μ H μ2 H2):μ2.take μ.length=μ:=by
 apply aGL
 intro i
 rw[aGG]
 split
 ·rename_i hi
  have:=e.pre i μ[i] (by simp[hi])
  rw[this];simp[hi]
 ·rename_i hi
  rw[aCL (by lia)]
mutual
theorem Rp.sub(hs:∀a,a∈μ1->a∈μ):∀(d:D) (v:V),Rp K μ H d v->Rp K μ1 H d v
 |.non,v,h=>by simpa[Rp]using h
 |.bl b,v,h=>by simpa[Rp]using h
 |.int b,v,h=>by simpa[Rp]using h
 |.str b,v,h=>by simpa[Rp]using h
 |.tup ds,v,h=>by simp only[Rp]at h ⊢;obtain⟨a,vs,e1,e2,e3⟩:=h;exact⟨a,vs,e1,e2,Rps.sub hs ds vs e3⟩
 |.lst ds,v,h=>by simp only[Rp]at h ⊢;obtain⟨a,vs,e1,e2,n,e3⟩:=h;exact⟨a,vs,e1,e2,λz=>n (hs a z),Rps.sub hs ds vs e3⟩
 |.fz ds,v,h=>by simp only[Rp]at h ⊢;obtain⟨a,vs,e1,e2,e3⟩:=h;exact⟨a,vs,e1,e2,Rps.sub hs ds vs e3⟩
 |.exn c f ds,v,h=>by simp only[Rp]at h ⊢;obtain⟨a,vs,C,LE,d,e1,e2,e3,e4,e5⟩:=h;exact⟨a,vs,C,LE,d,e1,e2,e3,e4,Rps.sub hs ds vs e5⟩
theorem Rps.sub(hs:∀a,a∈μ1->a∈μ):∀(ds:List D) (vs:List V),Rps K μ H ds vs->Rps K μ1 H ds vs
 |[],vs,h=>by simpa[Rps]using h
 |d::ds,vs,h=>by simp only[Rps]at h ⊢;obtain⟨v,r,e1,e2,e3⟩:=h;exact⟨v,r,e1,Rp.sub hs d v e2,Rps.sub hs ds r e3⟩
end
theorem Frs.sub(hs:∀a,a∈μ1->a∈μ):∀{ds:List D} {fs:List (Str×V)},Frs K μ H ds fs->Frs K μ1 H ds fs
 |[],_,h=>h
 |_::_,_,⟨f,x,v,r,e1,e2,e3,e4⟩=>⟨f,x,v,r,e1,e2,Rp.sub hs _ _ e3,Frs.sub hs e4⟩
theorem Krs.sub(hs:∀a,a∈μ1->a∈μ):∀{ds:List D} {fs:List (List Key×V)},Krs K μ H ds fs->Krs K μ1 H ds fs
 |[],_,h=>h
 |_::_,_,⟨f,x,v,r,e1,e2,e3,e4⟩=>⟨f,x,v,r,e1,e2,Rp.sub hs _ _ e3,Krs.sub hs e4⟩
theorem Kns.sub(hs:∀a,a∈μ1->a∈μ):∀{ds:List D} {fs:List (Key×V)},Kns K μ H ds fs->Kns K μ1 H ds fs
 |[],_,h=>h
 |_::_,_,⟨f,x,v,r,e1,e2,e3,e4⟩=>⟨f,x,v,r,e1,e2,Rp.sub hs _ _ e3,Kns.sub hs e4⟩
theorem CelO.sub(hs:∀a,a∈μ1->a∈μ){o:HO}{ds:List D}(h:CelO K μ H o ds):CelO K μ1 H o ds:=by
 cases o <;> first|exact h.elim|skip
 all_goals first|exact Rps.sub hs _ _ h|exact Krs.sub hs h|exact Kns.sub hs h|exact Frs.sub hs h
theorem HR.back(h:HR K μ2 H2 M2)(e:Ext μ H μ2 H2):HR K μ H2 (M2.take μ.length):=by
 have ht:=e.take
 have hsub:∀a,a∈μ->a∈μ2:=λa ha=>by rw[<- ht]at ha;exact aCN ha
 have hlen:μ.length<=μ2.length:=by have:=congrArg List.length ht;simp at this;lia
 refine⟨by rw[aFB,<- h.len];lia,by rw[<- ht];exact h.nd.sublist (List.take_sublist _ _),λi a ds q1 q2=>?_⟩
 rw[aGG]at q2
 split at q2
 ·obtain⟨vs,q3,q4⟩:=h.ent i a ds (e.pre i a q1) q2
  exact⟨vs,q3,CelO.sub hsub q4⟩
 ·cases q2
noncomputable def nestD(n:Nat)(M:Mm):List Nat->Option (List D)
 |[]=>some []
 |j::js=>if j < n then none else match M[j]?,nestD n M js with
  |some xs,some r=>some (.lst xs::r)
  |_,_=>none
noncomputable def retc(n:Nat)(w:W)(M:Mm):Oc W:=match w with
 |.d x=>.ok (.d x) (M.take n)
 |.ref i=>if i < n then .ok (.ref i) (M.take n)else match M[i]? with
  |some ds=>.ok (.d (.lst ds)) (M.take n)
  |none=>.bad
 |.ob c i=>if i < n then .ok (.ob c i) (M.take n)else .bad
 |.nest (.ls js)=>match nestD n M js with
  |some ds=>.ok (.d (.lst ds)) (M.take n)
  |none=>.bad
 |.nest (.pr x i)=>if i < n then .bad else match M[i]? with
  |some ds=>.ok (.d (.tup [x,.lst ds])) (M.take n)
  |none=>.bad
theorem HR.fresh(hr1:HR K μ2 H2 M2)(e1:Ext μ H μ2 H2)(qa:μ2[i]?=some a)(hi:¬i < μ.length):a∉μ:=λha=>by
 obtain⟨j,hj,ej⟩:=aEB.mp ha
 have h2:=e1.pre j a (by rw[<- ej];simp[hj])
 have l1:=(aAC.mp qa).1
 have l2:=(aAC.mp h2).1
 have g1:=(aAC.mp qa).2
 have g2:=(aAC.mp h2).2
 have pw:=aDC.mp hr1.nd
 exact pw j i l2 l1 (by lia) (g2.trans g1.symm)
theorem nA{n:Nat}(hn:n=μ.length)(e1:Ext μ H μ2 H2)(hr1:HR K μ2 H2 M2)(hsub:∀a,a∈μ->a∈μ2):∀{js:List Nat} {vs:List V} {ds:List D},Rjs μ2 H2 js vs->nestD n M2 js=some ds->Rps K μ H2 ds vs
 |[],vs,ds,h,q=>by cases h;simp only[nestD,aAR]at q;subst q;exact .nil
 |j::js,vs,ds,⟨a,r,e1',e2,e3,e4⟩,q=>by
  subst e1'
  simp only[nestD]at q
  split at q
  ·cases q
  ·rename_i hj
   cases q1:M2[j]? with
   |none=>rw[q1]at q;cases q
   |some xs =>
    cases q2:nestD n M2 js with
    |none=>rw[q1,q2]at q;cases q
    |some r' =>
     rw[q1,q2]at q;cases q
     obtain⟨a',us,qa',h1,r1⟩:=hr1.at q1 e2 e3
     rw[e2]at qa';cases qa'
     refine .cons ?_ (nA hn e1 hr1 hsub e4 q2)
     simp only[Rp]
     exact⟨a,us,rfl,h1,hr1.fresh e1 e2 (by lia),Rps.sub hsub _ _ r1⟩
theorem mV{w:W}{Q:VK}(hr:HR K μ H M)(e1:Ext μ H μ2 H2)(hr1:HR K μ2 H2 M2)(hw:(∃c i,w=.ob c i)\/∃js,w=.nest js)(rv:Rw K μ2 H2 w v)(p:Pst K Z μ H (retc M.length w M2) (Wk K Q)):Q v H2:=by
 have hb:=hr1.back e1
 rw[hr.len]at hb
 have hsub:∀a,a∈μ->a∈μ2:=λa ha=>by rw[<- e1.take]at ha;exact aCN ha
 rcases hw with⟨c,i,rfl⟩|⟨js,rfl⟩
 ·simp only[retc]at p
  split at p
  ·rename_i hi
   obtain⟨a,qa,rfl,il⟩:=rv
   refine p μ H2 e1.back hb _ ⟨a,?_,rfl,il⟩
   rw[<- hr.len]at hi
   have:=e1.pre i μ[i] (by simp[hi])
   rw[qa]at this;cases this
   simp[hi]
  ·exact p.elim
 ·cases js with
  |ls js =>
   simp only[retc]at p
   cases q:nestD M.length M2 js with
   |none=>rw[q]at p;exact p.elim
   |some ds =>
    rw[q]at p
    obtain⟨a,vs,rfl,h1,hna,hj⟩:=rv
    refine p μ H2 e1.back hb _ ?_
    simp only[Rw,Rp]
    exact⟨a,vs,rfl,h1,λz=>hna (hsub a z),nA hr.len.symm e1 hr1 hsub hj q⟩
  |pr x i =>
   simp only[retc]at p
   split at p
   ·exact p.elim
   ·rename_i hi
    cases q:M2[i]? with
    |none=>rw[q]at p;exact p.elim
    |some ds =>
     rw[q]at p
     obtain⟨a,vs,rfl,h1,v,b,rfl,rp,mb,il⟩:=rv
     obtain⟨a',us,qa',h2,r1⟩:=hr1.at q mb il
     rw[mb]at qa';cases qa'
     refine p μ H2 e1.back hb _ ?_
     simp only[Rw,Rp]
     refine⟨a,_,rfl,h1,.cons (Rp.sub hsub _ _ rp) (.cons ?_ .nil)⟩
     simp only[Rp]
     exact⟨b,us,rfl,h2,hr1.fresh e1 mb (by rw[hr.len];exact hi),Rps.sub hsub _ _ r1⟩
end
noncomputable def outL(js:List (Option Nat))(L:Lc):Lc:=js.map λo=>o.bind λj=>(L[j]?).join
open Classical in
noncomputable def compD(t:Nat)(s:Src)(g:FG)(c:FT)(f:FE):List D->Lc->Mm->Oc Unit
 |[]=>λ_ M=>if Chk s M then .ok () M else .bad
 |d::r=>λL M=>if Chk s M then(g (.d d) L M).bind λL1 M1=>(c L1 M1).bind λb M2=>if b=true then(f L1 M2).bind λw M3=>match w,M3[t]? with
   |.d x,some acc=>if acc.length < 16777216 then compD t s g c f r L1 (M3.set t (acc++[x]))else .bad
   |_,_=>.bad
   else compD t s g c f r L1 M2
  else .bad
noncomputable section
def compT(js:List (Option Nat))(fi:FI)(g:FG)(c:FT)(f:FE)(L:Lc)(M:Mm):Oc (List D):=(fi L M).bind λs M1=>match compD M1.length s g c f s.ds (outL js L) (M1++[[]])with
 |.ok _ M2=>match M2[M1.length]? with
  |some acc=>.ok acc (M2.take M1.length)
  |none=>.bad
 |_=>.bad
def eComp(js:List (Option Nat))(fi:FI)(g:FG)(c:FT)(f:FE):FE:=λL M=>(compT js fi g c f L M).bind λacc M1=>.ok (.d (.lst acc)) M1
def tYes:FT:=λ_ M=>.ok true M
end
structure Eif(X:Cx)(K:Frag)(Z:Zt)(ifs:List Expr)(t:FT):Prop where
 k:X.K=K
 h:PIf X ifs (liftT K Z t)
section
variable{K:Frag}{e a b o:Expr}{es:List Expr}{fs:FA}{rest:List Stmt}{G:FS}
theorem fO(hk:X.K=K:=by rfl):Eif X K Z [] tYes:=⟨hk,λpins s σ H Q I ⟨μ,M,L,hr,lr,p⟩=>xY pins s σ H Q I (p μ H .refl hr)⟩
theorem sW{c:Expr}{t:FT}(h:Et X K Z c t):Eif X K Z [c] t:=⟨h.k,zH h.h⟩
variable{σ:St}
theorem LR.out(h:LR K μ H L σ):LR K μ H (outL js L) (outσ js σ)where
 len:=by simp[outL,outσ]
 ent:=λi w q=>by
  unfold outL at q
  unfold outσ
  rw[aAO]at q ⊢
  cases e:js[i]? with
  |none=>rw[e]at q;cases q
  |some oj =>
   rw[e]at q
   cases oj with
   |none=>simp at q
   |some j =>
    simp only[aFK,Option.bind_some,aAR]at q ⊢
    cases e2:L[j]? with
    |none=>rw[e2]at q;cases q
    |some ow =>
     rw[e2]at q
     simp at q
     subst q
     obtain⟨v,q1,q2⟩:=h.ent j w e2
     exact⟨v,by rw[q1];rfl,q2⟩
variable{c:FT}
theorem vY{Zi:Zt}{s:Src}{g:FG}{J:It}{Dt:Addr}{Q:Hp->Prop}(n:Nat)(μ0:List Addr)(H0:Hp)(e0:Ext μ0 H0 μ H)(hn:μ0.length=n)(hD:μ[n]?=some Dt)(hIL:IsL H Dt)
  (hr:HR K μ H M)(lr:LR K μ H L σ)(hJ:ItOk K μ H s J)
  (p:match compD n s g c f s.ds L M with
   |.ok _ M2=>∀μ2 H2,Ext μ H μ2 H2->HR K μ2 H2 M2->Q H2
   |.ex z M2=>Zi.z z M2 μ H
   |.bad=>False):tTurns J (liftG K Zi g) (liftT K Zi c) (lift K Zi f) Dt σ H Q:=by
 obtain⟨S,s0,sx,step⟩:=hJ
 let R:List Addr->Hp->Lc->Mm->List D->Prop:=λμ1 H1 L M rest=>match compD n s g c f rest L M with
   |.ok _ M2=>∀μ2 H2,Ext μ1 H1 μ2 H2->HR K μ2 H2 M2->Q H2
   |.ex z M2=>Zi.z z M2 μ1 H1
   |.bad=>False
 refine⟨λi m σ H1=>m=s.ds.length - i/\i<=s.ds.length/\∃μ1 M L,Ext μ0 H0 μ1 H1/\(μ1[n]?=some Dt/\IsL H1 Dt)/\HR K μ1 H1 M/\LR K μ1 H1 L σ/\S μ1 H1/\R μ1 H1 L M (s.ds.drop i),⟨s.ds.length,by simp,aEW _,μ,M,L,e0,⟨hD,hIL⟩,hr,lr,s0,by simpa[R]using p⟩,?_⟩
 rintro i m σ H1 ⟨rfl,hi,μ1,M,L,e1,⟨hD1,hI1⟩,hr,lr,sS,p⟩
 by_cases hlt:i < s.ds.length
 ·simp only[R]at p
  rw[aDD hlt]at p
  unfold compD at p
  by_cases hch:Chk s M
  ·rw[aAH hch]at p
   obtain⟨go,yl⟩:=(step μ1 H1 M i hr sS hch).1 s.ds[i] (by simp[hlt])
   refine .inr ⟨go,λσ' H'=>i+1<=s.ds.length/\∃μ1 M L,Ext μ0 H0 μ1 H'/\(μ1[n]?=some Dt/\IsL H' Dt)/\HR K μ1 H' M/\LR K μ1 H' L σ'/\S μ1 H'/\R μ1 H' L M (s.ds.drop (i+1)),λσ' H' q=>⟨s.ds.length - (i+1),by lia,rfl,q.1,q.2⟩,λx H2 y=>?_⟩
   obtain⟨e2,hr2,rx⟩:=yl x H2 y
   have lr2:=lr.ext hr.lsts e2
   have s2:=sx _ _ _ _ hr.lsts sS e2
   refine⟨μ1,M,L,.d s.ds[i],hr2,lr2,rx,?_⟩
   cases q3:g (.d s.ds[i]) L M with
   |bad=>rw[q3]at p;exact p.elim
   |ex z M2=>rw[q3]at p;exact Zi.mono e2 p
   |ok L3 M3 =>
    rw[q3]at p
    intro μ3 H3 e3 hr3 σ3 lr3
    refine⟨μ3,M3,L3,hr3,lr3,?_⟩
    simp only[fP]at p
    have s3:=sx _ _ _ _ hr2.lsts s2 e3
    cases q4:c L3 M3 with
    |bad=>rw[q4]at p;exact p.elim
    |ex z M2=>rw[q4]at p;exact Zi.mono (e2.trans e3) p
    |ok b M4 =>
     rw[q4]at p
     intro μ4 H4 e4 hr4
     simp only[fP]at p
     have s4:=sx _ _ _ _ hr3.lsts s3 e4
     have lr4:=lr3.ext hr3.lsts e4
     have E4:=((e1.trans e2).trans e3).trans e4
     have D4:=e4.pre _ _ (e3.pre _ _ (e2.pre _ _ hD1))
     cases b with
     |false =>
      refine⟨hlt,μ4,M4,L3,E4,⟨D4,hI1.ext ((e2.trans e3).trans e4)⟩,hr4,lr4,s4,?_⟩
      simp only[R]
      simp only[aDM,aFC]at p
      cases q5:compD n s g c f (s.ds.drop (i+1)) L3 M4 with
      |ok u M5=>rw[q5]at p;exact λμ5 H5 e5 hr5=>p μ5 H5 (((e2.trans e3).trans e4).trans e5) hr5
      |ex z M5=>rw[q5]at p;exact Zi.mono ((e2.trans e3).trans e4) p
      |bad=>rw[q5]at p;exact p
     |true =>
      simp only[aDF]at p
      refine⟨μ4,M4,L3,hr4,lr4,?_⟩
      cases q5:f L3 M4 with
      |bad=>rw[q5]at p;exact p.elim
      |ex z M2=>rw[q5]at p;exact Zi.mono ((e2.trans e3).trans e4) p
      |ok w M5 =>
       rw[q5]at p
       intro μ5 H5 e5 hr5 v rw'
       simp only[fP]at p
       cases w with
       |ref k=>exact p.elim
       |ob _ _=>exact p.elim
       |nest _=>exact p.elim
       |d x =>
        cases q6:M5[n]? with
        |none=>rw[q6]at p;exact p.elim
        |some acc =>
         rw[q6]at p
         simp only at p
         by_cases hz:acc.length < 16777216
         ·rw[aAH hz]at p
          have D5:=e5.pre _ _ D4
          have I5:=hI1.ext (((e2.trans e3).trans e4).trans e5)
          obtain⟨a',vs,qa',h1,r1⟩:=hr5.at q6 D5
          rw[D5]at qa';cases qa'
          refine⟨vs,h1,by rw[<- r1.length,aBB];exact hz,hlt,μ5,M5.set n (acc++[x]),L3,(E4.trans e5).trans (eF D5),⟨D5,_,bS⟩,hr5.set D5 (r1.append (.cons rw' .nil)),?_,?_,?_⟩
          ·exact(lr4.ext hr4.lsts e5).ext hr5.lsts (eF D5)
          ·exact sx _ _ _ _ hr5.lsts (sx _ _ _ _ hr4.lsts s4 e5) (eF D5)
          ·simp only[R]
           cases q7:compD n s g c f (s.ds.drop (i+1)) L3 (M5.set n (acc++[x]))with
           |ok u M6=>rw[q7]at p;exact λμ6 H6 e6 hr6=>p μ6 H6 (((((e2.trans e3).trans e4).trans e5).trans (eF D5)).trans e6) hr6
           |ex z M6=>rw[q7]at p;exact Zi.mono ((((e2.trans e3).trans e4).trans e5).trans (eF D5)) p
           |bad=>rw[q7]at p;exact p
         ·rw[aAJ hz]at p;exact p.elim
  ·rw[aAJ hch]at p;exact p.elim
 ·have e:i=s.ds.length:=by lia
  subst e
  simp only[R]at p
  rw[aDQ (aAF _)]at p
  unfold compD at p
  by_cases hch:Chk s M
  ·rw[aAH hch]at p
   exact .inl ⟨(step μ1 H1 M _ hr sS hch).2 (aAF _),p μ1 H1 .refl hr⟩
  ·rw[aAJ hch]at p;exact p.elim
variable{fi:FI}
theorem vM{g:FG}{Q:VK}(h:∃μ M L,HR K μ H M/\LR K μ H L σ/\Pst K Z μ H (compT js fi g c f L M) λμ' H' M' acc=>∀q vs,H' q=some (.lst vs)->q∉μ'->Rps K μ' H' acc vs->Q (.ref q) H') :
  tComp js (liftI K Z fi) (liftG K Z0 g) (liftT K Z0 c) (lift K Z0 f) σ H Q:=by
 obtain⟨μ,M,L,hr,lr,p⟩:=h
 refine⟨μ,M,L,hr,lr,p.bind.imp λμ1 H1 M1 s e1 hr1 _ p1 J hJ Dt hDt=>?_⟩
 have x:=tX (vs:=[]) hr1 hDt
 have hlen:=hr1.len
 obtain⟨S,s0,sx,step⟩:=hJ
 refine vY (M:=M1++[[]]) M1.length μ1 H1 x hr1.len (by rw[<- hlen];simp) ⟨_,bS⟩ (hr1.new hDt .nil) (LR.out ((lr.ext hr.lsts e1).ext hr1.lsts x)) ⟨S,sx _ _ _ _ hr1.lsts s0 x,sx,step⟩ ?_
 cases q:compD M1.length s g c f s.ds (outL js L) (M1++[[]])with
 |bad=>simp only[q]at p1;exact p1.elim
 |ex z M2=>simp only[q]at p1;exact p1.elim
 |ok u M2 =>
  simp only[q]at p1
  intro μ2 H2 e2 hr2
  cases q2:M2[M1.length]? with
  |none=>simp only[q2]at p1;exact p1.elim
  |some acc =>
   simp only[q2]at p1
   have E:=x.trans e2
   have hb:=hr2.back E
   rw[hlen]at hb
   have hD2:μ2[M1.length]?=some Dt:=e2.pre _ _ (by rw[<- hlen];simp)
   obtain⟨a',vs,qa',h1,r1⟩:=hr2.at q2 hD2 (IsL.ext e2 ⟨_,bS⟩)
   rw[hD2]at qa';cases qa'
   exact p1 μ1 H2 E.back hb Dt vs h1 (hr1.out hDt) (Rps.sub (λa ha=>by rw[<- E.take]at ha;exact aCN ha) _ _ r1)
theorem pU{g:FG} :∀σ H Q,lift K Z (eComp js fi g c f) σ H Q->tComp js (liftI K Z fi) (liftG K Z0 g) (liftT K Z0 c) (lift K Z0 f) σ H Q:=by
 rintro σ H Q ⟨μ,M,L,hr,lr,p⟩
 refine vM ⟨μ,M,L,hr,lr,p.bind.imp λμ1 H1 M1 acc e1 hr1 _ p1 q vs h1 h2 h3=>?_⟩
 exact p1 μ1 H1 .refl hr1 _ (by simp only[Rw,Rp];exact⟨q,vs,rfl,h1,h2,h3⟩)
variable{ifs:List Expr}{scope:Scope}
theorem fL{elt:Expr}{g:FG}(hc:X.calm=true)(T:CompOk X.N X.env.scope scope Nc js)(hit:Ei X K Z tg iter fi)
  (hg:∀cl C fp pins s₂ H₂,Eg (compCx X Nc scope cl C fp pins s₂ H₂) K Z0 tg g)(hi:∀cl C fp pins s₂ H₂,Eif (compCx X Nc scope cl C fp pins s₂ H₂) K Z0 ifs c)(he:∀cl C fp pins s₂ H₂,Ev (compCx X Nc scope cl C fp pins s₂ H₂) K Z0 elt f)
  (hs:∀x,foldedSetIterable iter X.env x=pure x:=by intro _;rfl):Ev X K Z (.ListComp elt [⟨tg,iter,ifs,0⟩] scope pos) (eComp js fi g c f) :=
 ⟨hit.k,cqE (zN hc T hit.h (λ_ _ _ _ _ _=>(hg _ _ _ _ _ _).h) (λ_ _ _ _ _ _=>(hi _ _ _ _ _ _).h) (λ_ _ _ _ _ _=>(he _ _ _ _ _ _).h) hs) pU⟩
theorem sX{elt:Expr}{g:FG}{y:Str}{py spos:Pos}(hN:X.N.Nodup)(hc:X.calm=true)(T:CompOk X.N X.env.scope scope Nc js)(hit:Ei X K Z tg iter fi)
  (hg:∀cl C fp pins s₂ H₂,Eg (compCx X Nc scope cl C fp pins s₂ H₂) K Z0 tg g)(hi:∀cl C fp pins s₂ H₂,Eif (compCx X Nc scope cl C fp pins s₂ H₂) K Z0 ifs c)(he:∀cl C fp pins s₂ H₂,Ev (compCx X Nc scope cl C fp pins s₂ H₂) K Z0 elt f)
  (hyi:X.N[i]?=some y:=by rfl)(hy:X.env.scope.names.lookup y=some .local:=by rfl)
  (hsw:swapsWith (.ListComp elt [⟨tg,iter,ifs,0⟩] scope pos) (some (.Name y py)) spos.line X.env=pure true:=by rfl)
  (hs:∀x,foldedSetIterable iter X.env x=pure x:=by intro _;rfl):Es X K Z (.Assign [.Name y py] (.ListComp elt [⟨tg,iter,ifs,0⟩] scope pos) spos) (sAs (eComp js fi g c f) (gN i)):=by
 refine⟨hit.k,cqS (yF hN hyi hy hc T hit.h (λ_ _ _ _ _ _=>(hg _ _ _ _ _ _).h) (λ_ _ _ _ _ _=>(hi _ _ _ _ _ _).h) (λ_ _ _ _ _ _=>(he _ _ _ _ _ _).h) hsw hs) ?_⟩
 rintro E σ H ⟨μ,M,L,hr,lr,p⟩
 refine pU _ _ _ ⟨μ,M,L,hr,lr,p.bind.imp λμ1 H1 M1 x e1 hr1 _ p1 v rx=>?_⟩
 exact p1 μ1 H1 .refl hr1 _ (LR.set (lr.ext hr.lsts e1) rx)
noncomputable section
def fnD(m n:Nat)(F:FS):Fn:=λws M=>if ws.length=m then(F (ws.map some++List.replicate (n - ws.length) none) M).bind λo M'=>match o with
  |.rt w=>retc M.length w M'
  |.nx _=>.ok (.d .non) (M'.take M.length)
  |_=>.bad
 else .bad
def fnR(m n:Nat)(F:FS):Fn:=λws M=>if ws.length=m then(F (ws.map some++List.replicate (n - ws.length) none) M).bind λo M'=>match o with
  |.rt (.ref i)=>if M.length<=i then(match M'[i]? with
   |some ds=>.ok (.ref M.length) (M'.take M.length++[ds])
   |none=>.bad)else .bad
  |_=>.bad
 else .bad
def spF(K:Frag)(Z:Zt)(m:Nat)(Fm:Fn):Sp:=λvs H Q E=>vs.length=m/\∃μ M ws,HR K μ H M/\Rws K μ H ws vs/\Pst K Z μ H (Fm ws M) (Wk K Q)
end
theorem qM{ws:List W}(r:Rws K μ H ws vs):LR K μ H (ws.map some++List.replicate (N.length - ws.length) none) (L2.start N vs):=by
 have hl:=r.length
 refine⟨by simp[L2.start,hl],λi w q=>?_⟩
 by_cases hi:i < ws.length
 ·rw[aAS (by simpa using hi),aAO]at q
  cases e:ws[i]? with
  |none=>rw[e]at q;cases q
  |some w' =>
   rw[e]at q;cases q
   obtain⟨v,q1,q2⟩:=r.get e
   refine⟨v,?_,q2⟩
   unfold L2.start
   rw[aAS (by simp;lia),aAO,q1];rfl
 ·rw[aBW (by simpa using hi),List.getElem?_replicate]at q
  split at q <;> cases q
variable{k:Nat}
theorem cN{fa:Addr}(hf:Fun K x qual st fa fd)(S:FnScope N ps (defScope st))
  (hb:∀(cdv:Value) (A:Around) (outer:List Env) (s:Shared) (H:Hp) (E:XK),Room k (A.deeper (envOfC qual (defScope st) s.heap.objs.size fa cdv))->Ess (cxOf CX0 P w K mg base N qual (defScope st) fa cdv A outer s H E).nox K Z0 (defBody st) F) :
  FnOk P w K mg base CX0 (k+1) fa fd ps (spF K Z0 ps.length (fnD ps.length N.length F)):=by
 refine hf.ok S (λvs H Q E h=>h.1) λcdv A outer s H vs Q E hr hsp=>⟨_,(hb cdv A outer s H E hr).h,?_⟩
 obtain⟨hv,μ,M,ws,hr,rx,p⟩:=hsp
 refine⟨μ,M,_,hr,qM rx,?_⟩
 unfold fnD at p
 rw[aAH (by rw[rx.length];exact hv)]at p
 cases q:F (ws.map some++List.replicate (N.length - ws.length) none) M with
 |bad=>rw[q]at p;exact p
 |ex z M'=>rw[q]at p;exact p
 |ok o M' =>
  rw[q]at p
  simp only[fP]at p
  intro μ1 H1 e1 hr1
  have hb:=hr1.back e1
  rw[hr.len]at hb
  cases o with
  |nx L'=>exact λσ' lr'=>p μ H1 e1.back hb _ (by simp[Rw,Rp])
  |bk L'=>exact p.elim
  |ct L'=>exact p.elim
  |rt w =>
   intro v rv
   have hsub:∀a,a∈μ->a∈μ1:=λa ha=>by rw[<- e1.take]at ha;exact aCN ha
   cases w with
   |ob c i=>exact mV hr e1 hr1 (.inl ⟨_,_,rfl⟩) rv p
   |nest c=>exact mV hr e1 hr1 (.inr ⟨_,rfl⟩) rv p
   |d x=>exact p μ H1 e1.back hb v (Rp.sub hsub x v rv)
   |ref i =>
    simp only[retc]at p
    split at p
    ·rename_i hi
     obtain⟨a,qa,rfl,il⟩:=rv
     refine p μ H1 e1.back hb _ ⟨a,?_,rfl,il⟩
     rw[<- hr.len]at hi
     have:=e1.pre i μ[i] (by simp[hi])
     rw[qa]at this;cases this
     simp[hi]
    ·rename_i hi
     cases q2:M'[i]? with
     |none=>simp only[q2]at p;exact p.elim
     |some ds =>
      simp only[q2]at p
      obtain⟨a,qa,rfl,il⟩:=rv
      obtain⟨a',vs',qa',h1,r1⟩:=hr1.at q2 qa
      rw[qa]at qa';cases qa'
      refine p μ H1 e1.back hb _ ?_
      simp only[Rw,Rp]
      refine⟨a,vs',rfl,h1,λha=>?_,Rps.sub hsub _ _ r1⟩
      obtain⟨j,hj,ej⟩:=aEB.mp ha
      have h2:=e1.pre j a (by rw[<- ej];simp[hj])
      have l1:=(aAC.mp qa).1
      have l2:=(aAC.mp h2).1
      have g1:=(aAC.mp qa).2
      have g2:=(aAC.mp h2).2
      have pw:=aDC.mp hr1.nd
      rw[hr.len]at hj
      exact pw j i l2 l1 (by lia) (g2.trans g1.symm)
theorem aBb{fa:Addr}(hf:Fun K x qual st fa fd)(S:FnScope N ps (defScope st))
  (hb:∀(cdv:Value) (A:Around) (outer:List Env) (s:Shared) (H:Hp) (E:XK),Room k (A.deeper (envOfC qual (defScope st) s.heap.objs.size fa cdv))->Ess (cxOf CX0 P w K mg base N qual (defScope st) fa cdv A outer s H E).nox K Z0 (defBody st) F) :
  FnOk P w K mg base CX0 (k+1) fa fd ps (spF K Z0 ps.length (fnR ps.length N.length F)):=by
 refine hf.ok S (λvs H Q E h=>h.1) λcdv A outer s H vs Q E hr hsp=>⟨_,(hb cdv A outer s H E hr).h,?_⟩
 obtain⟨hv,μ,M,ws,hr,rx,p⟩:=hsp
 refine⟨μ,M,_,hr,qM rx,?_⟩
 unfold fnR at p
 rw[aAH (by rw[rx.length];exact hv)]at p
 cases q:F (ws.map some++List.replicate (N.length - ws.length) none) M with
 |bad=>rw[q]at p;exact p
 |ex z M'=>rw[q]at p;exact p
 |ok o M' =>
  rw[q]at p
  simp only[fP]at p
  intro μ1 H1 e1 hr1
  have hb:=hr1.back e1
  rw[hr.len]at hb
  cases o with
  |nx L'=>exact p.elim
  |bk L'=>exact p.elim
  |ct L'=>exact p.elim
  |rt w =>
   intro v rv
   have hsub:∀a,a∈μ->a∈μ1:=λa ha=>by rw[<- e1.take]at ha;exact aCN ha
   cases w with
   |d x=>exact p.elim
   |ob _ _=>exact p.elim
   |nest _=>exact p.elim
   |ref i =>
    simp only at p
    split at p
    ·rename_i hi
     cases q2:M'[i]? with
     |none=>simp only[q2]at p;exact p.elim
     |some ds =>
      simp only[q2]at p
      obtain⟨a,qa,rfl,il⟩:=rv
      obtain⟨a',vs',qa',h1,r1⟩:=hr1.at q2 qa
      rw[qa]at qa';cases qa'
      have hna:a∉μ:=λha=>by
       obtain⟨j,hj,ej⟩:=aEB.mp ha
       have h2:=e1.pre j a (by rw[<- ej];simp[hj])
       have l1:=(aAC.mp qa).1
       have l2:=(aAC.mp h2).1
       have g1:=(aAC.mp qa).2
       have g2:=(aAC.mp h2).2
       have pw:=aDC.mp hr1.nd
       rw[hr.len]at hj
       exact pw j i l2 l1 (by lia) (g2.trans g1.symm)
      have hsub2:∀b,b∈μ++[a]->b∈μ1:=λb hb=>by
       rcases aCA.mp hb with hb|hb
       ·exact hsub b hb
       ·rw[aBC]at hb;subst hb;exact aAU qa
      refine p (μ++[a]) H1 ⟨e1.keep,λb hb=>e1.new b (hsub2 b hb),λj b hj=>by rw[aAS (aAC.mp hj).1];exact hj,e1.kin⟩ ?_ _ ⟨a,by rw[<- hr.len];simp,rfl,_,h1⟩
      refine⟨by simp[hb.len],aES.mpr ⟨hb.nd,by simp,λb hb' c hc=>by rw[aBC]at hc;subst hc;rintro rfl;exact hna hb'⟩,λj b es q1 q3=>?_⟩
      by_cases hj:j < μ.length
      ·rw[aAS hj]at q1
       rw[aAS (by rw[<- hb.len];exact hj),aGG]at q3
       split at q3
       ·obtain⟨us,q4,q5⟩:=hr1.ent j b es (e1.pre j b q1) q3
        exact⟨us,q4,CelO.sub hsub2 q5⟩
       ·cases q3
      ·have hj':j=μ.length:=by have:=(aAC.mp q1).1;simp at this;lia
       subst hj'
       rw[aBW (aAF _)]at q1
       rw[hb.len,aBW (aAF _)]at q3
       simp at q1 q3
       subst q1 q3
       exact⟨_,h1,Rps.sub hsub2 _ _ r1⟩
    ·exact p.elim
variable{Fm:Fn}
theorem aG{fa:Addr}(Gf:FnOk X.prog X.w X.K X.mg X.base CX0 k fa fd ps (spF K Z0 m Fm))(hr:Room k X.A)(hm:X.mg x=some (.ref fa))(hk:keepIn X.K (.ref fa)=true)(hb:Binds X.K fd ps [])
  (ha:Ea X K Z0 (e::es) fs)(hl:ps.length=m:=by rfl)(hg:Gl X x:=by rfl)(hdb:(x==("__debug__":Str))=false:=by decide)(he:starEach (e::es) X.env=(false,eval e X.env)::starEach es X.env:=by rfl)(hpl:(backTo pos (starEach es X.env)).any (·.1)=false:=by rfl)
  (hlen:∀ws M,ws.length≠m->Fm ws M=.bad:=by intro ws M h;first|exact aAJ h|rfl):Ev X K Z0 (.Call (.Name x p) (e::es) [] pos) (eA Fm fs):=by
 refine⟨ha.k,cqE (yW Gf hr hg hm hk hb .nil pass0 ha.h hdb he hpl) ?_⟩
 rintro σ H Q ⟨μ,M,L,hr,lr,p⟩
 refine⟨μ,M,L,hr,lr,p.bind.imp λμ1 H1 M1 ws e1 hr1 _ p1 vs rx=>?_⟩
 show spF K Z0 m Fm (vs++[]) H1 Q E0
 rw[aFX]
 refine⟨?_,μ1,M1,ws,hr1,rx,p1⟩
 by_cases hw:ws.length=m
 ·rw[<- rx.length];exact hw
 ·rw[hlen ws M1 hw]at p1;exact p1.elim
theorem aDp{a:Addr}(hO:Only H)(hS:SqL K H a (ns.map V.int))(h:∃M',Fm [.d (.fz (ns.map D.int))] []=.ok (.d (.bl true)) M'):spF K Z0 1 Fm [.ref a] H (λv _=>v=.bl true) λ_ _ _=>False:=by
 obtain⟨M',h⟩:=h
 refine⟨rfl,[],[],[.d (.fz (ns.map D.int))],⟨rfl,List.nodup_nil,λi a ds q=>by simp at q⟩,⟨.ref a,[],rfl,?_,rfl⟩,?_⟩
 ·simp only[Rw,Rp]
  refine⟨a,ns.map V.int,rfl,?_,Rps.ints⟩
  rcases hS with(z|z)|z
  ·rcases hO a with q|⟨o,xs,q⟩ <;> rw[z]at q <;> cases q
  ·exact .inl z
  ·exact .inr z
 ·rw[h]
  intro μ' H' _ _ v rv
  simpa only[Rw,Rp]using rv
end
@[irreducible] noncomputable def NW:Nat:=18446744073709551616
theorem tI:NW=18446744073709551616:=by unfold NW;rfl
variable{k:Nat}
theorem bH(hr:Room k A):A.units+101 < cLine:=by have:=hr.un;lia
theorem oS{f:Addr}(hl:ps.length=m):FnOk P w K mg base CX k f fd ps (spF K Z m (λ_ _=>.bad)) :=
 ⟨λvs H Q E h=>by rw[h.1,hl],λA outer s H args us vs Q E _ _ _ _ h=>by obtain⟨_,μ,M,ws,_,_,p⟩:=h;exact p.elim⟩
section
variable{K:Frag}{e a b o:Expr}{es:List Expr}{fs:FA}{rest:List Stmt}{G:FS}
end
end EV
namespace ZP
variable{prog:Program}{E:Value->Shared->Prop}{x:Value}
theorem jJ(hit:s.heap.IsTupleIter it l i)
  (hl:s.heap.IsTuple l items)(hx:items[i]?=some x)
  (hQ:∀h',h'.IsTupleIter it l (i+1)->Heap.SameBut it s.heap h'->Q x {s with heap:=h'}) :
  wpAny (model prog w) A (Builtin.SmallTypes.nextOf (.ref it)) Q E s:=by
 obtain⟨o,ho,hc,hd⟩:=id hit
 obtain⟨ol,hol,_,nl,hdl⟩:=hl
 unfold Builtin.SmallTypes.nextOf
 refine aAB (aBO (name:=Str.ofString "__next__") hit.typeIs aCY
  (aBU aCY hit.typeIs F.entry_tuple_iterator_next ?_ (F.args_tuple_iterator_next_1 _)))
 show wpAny _ _ (field (.ref it) 0 >>= _) _ _ s
 refine aAB (aBF ho hd (x:=.ref l) rfl ?_)
 show wpAny _ _ (if(Value.ref l==Value.none)=true then _ else _) _ _ s
 rw[aAJ (show ¬((Value.ref l==Value.none)=true)from aBJ)]
 show wpAny _ _ (field (.ref it) 1 >>= _) _ _ s
 refine aAB (aBF ho hd (x:=.int i 0) rfl ?_)
 show wpAny _ _ (seqItems? (.ref l) >>= _) _ _ s
 refine aAB (aCM hol hdl ?_)
 simp only[aDS,hx]
 refine aAB (aEM ho hd (by simp) (aAD ⟨x,rfl,aAD (hQ _ ?_ (aDJ ..))⟩))
 exact⟨_,aDT _ ho (aFG (aCR hd _)),(Obj.cls_mapFields ..).trans hc,by
  rw[aCR hd];simp[rawInt]⟩
theorem jV(hh:A.handled=none)
  (hit:s.heap.IsTupleIter it l i)(hl:s.heap.IsTuple l items)(hx:items[i]?=none)
  (hE:∀h' e,Heap.ExtBut it s.heap h'->(∃o,h'.get? e=some o/\o.cls=.type "StopIteration")->E (.ref e) {s with heap:=h'}) :
  wpAny (model prog w) A (Builtin.SmallTypes.nextOf (.ref it)) Q E s:=by
 obtain⟨o,ho,hc,hd⟩:=id hit
 obtain⟨ol,hol,_,nl,hdl⟩:=hl
 unfold Builtin.SmallTypes.nextOf
 refine aAB (aBO (name:=Str.ofString "__next__") hit.typeIs aCY
  (aBU aCY hit.typeIs F.entry_tuple_iterator_next ?_ (F.args_tuple_iterator_next_1 _)))
 show wpAny _ _ (field (.ref it) 0 >>= _) _ _ s
 refine aAB (aBF ho hd (x:=.ref l) rfl ?_)
 show wpAny _ _ (if(Value.ref l==Value.none)=true then _ else _) _ _ s
 rw[aAJ (show ¬((Value.ref l==Value.none)=true)from aBJ)]
 show wpAny _ _ (field (.ref it) 1 >>= _) _ _ s
 refine aAB (aBF ho hd (x:=.int i 0) rfl ?_)
 show wpAny _ _ (seqItems? (.ref l) >>= _) _ _ s
 refine aAB (aCM hol hdl ?_)
 simp only[aDS,hx]
 refine aAB (aDB (aAB (aEM ho hd (by simp) ?_)))
 show wpAny _ _ (newExc (.type "StopIteration") [] >>= _) _ _ _
 refine aAB ?_
 simp only[newExc,newTuple]
 refine aAB (aBM ?_ (by size_fits))
 refine aAB (m:=firstArgMember _ _) (aDE (a:=Value.none) (by first|rfl|(simp only[firstArgMember];rfl)) ?_)
 refine aBM ?_ (by size_fits)
 simp only[raiseNew]
 refine aAB (wpAny_handled ?_)
 first|rw[show A.in1.handled=none from hh]|rw[hh]
 refine aAB (aAD (wpAny_throw ?_))
 exact hE _ _ (((aDJ ..).extBut.push _).push _) ⟨_,aAE _ rfl,rfl⟩
noncomputable def It1(h:Heap)(it src:Addr)(i:Nat)(xs:Array Value):Prop:=(h.IsListIter it src i/\h.IsList src xs)\/(h.IsTupleIter it src i/\h.IsTuple src xs)
theorem It1.at{h h':Heap}{it src:Addr}{i:Nat}{xs:Array Value}(x:It1 h it src i xs)(k1:∀o,h.get? it=some o->h'.get? it=some o)(k2:∀o,h.get? src=some o->h'.get? src=some o):It1 h' it src i xs:=by
 rcases x with⟨a,b⟩|⟨a,b⟩
 ·exact .inl ⟨a.at k1,b.at k2⟩
 ·refine .inr ⟨a.at k1,?_⟩
  obtain⟨o,ho,r⟩:=b
  exact⟨o,k2 o ho,r⟩
theorem It1.ne(x:It1 h it src i xs):src≠it:=by
 rintro rfl
 rcases x with⟨⟨o,e,c,_⟩,⟨o',e',c',_⟩⟩|⟨⟨o,e,c,_⟩,⟨o',e',c',_⟩⟩ <;> (rw[e]at e';cases e';rw[c]at c';simp at c')
theorem It1.next(h:It1 s.heap it src i xs)(hx:xs[i]?=some x)(hQ:∀h',It1 h' it src (i+1) xs->Heap.SameBut it s.heap h'->Q x {s with heap:=h'}) :
  wpAny (model prog w) A (Builtin.SmallTypes.nextOf (.ref it)) Q E s:=by
 have hn:=h.ne
 rcases h with⟨a,b⟩|⟨a,b⟩
 ·exact wpAny_nextOf_list_item a b hx λh' a' sb=>hQ h' (.inl ⟨a',b.extBut sb.extBut hn⟩) sb
 ·exact jJ a b hx λh' a' sb=>hQ h' (.inr ⟨a',b.extBut sb.extBut hn⟩) sb
theorem It1.stop(hh:A.handled=none)(h:It1 s.heap it src i xs)(hx:xs[i]?=none)
  (hE:∀h' e,Heap.ExtBut it s.heap h'->(∃o,h'.get? e=some o/\o.cls=.type "StopIteration")->E (.ref e) {s with heap:=h'}):wpAny (model prog w) A (Builtin.SmallTypes.nextOf (.ref it)) Q E s:=by
 rcases h with⟨a,b⟩|⟨a,b⟩
 ·exact wpAny_nextOf_list_end hh a b hx hE
 ·exact jV hh a b hx hE
theorem loadAlive{Q:Option Obj->Shared->Prop}(h:Q (s.heap.get? a) s):wpAny (model prog w) A (loadIfAlive a) Q E s:=by
 intro Γ p hΓ
 show Sem.wp _ _ (Sem.loadIfAlive a _) _ _ _ _
 rw[Sem.wp_loadIfAlive]
 simpa using h
noncomputable abbrev zobj(TI TO:Addr)(f0 f1:Value):Obj:={cls:=.type "zip",dict:=none,data:=.fields #[f0,f1,.bool false,.ref TI,.ref TO],slots:=#[]}
structure Ap(z TI TO i1 i2 l1 l2:Addr):Prop where
 TIz:TI≠z
 TOz:TO≠z
 i1z:i1≠z
 i2z:i2≠z
 TITO:TI≠TO
 TIi1:TI≠i1
 TIi2:TI≠i2
 TOi1:TO≠i1
 TOi2:TO≠i2
 i12:i1≠i2
 l1z:l1≠z
 l1TO:l1≠TO
 l1i1:l1≠i1
 l1i2:l1≠i2
 l2z:l2≠z
 l2TO:l2≠TO
 l2i1:l2≠i1
 l2i2:l2≠i2
structure Zs(h:Heap)(z TI TO i1 i2 l1 l2:Addr)(i:Nat)(xs ys:Array Value):Prop where
 z:∃f0 f1,h.get? z=some (zobj TI TO f0 f1)/\(f0=.none\/∃T:Nat,f0=rawInt T)
 ti:IsPair h TI (.ref i1) (.ref i2)
 to:∃a b,IsPair h TO a b
 a:It1 h i1 l1 i xs
 b:It1 h i2 l2 i ys
theorem tS{TI TO:Addr}{f0 f1:Value}{Q:Bool->Shared->Prop}(hz:s.heap.get? z=some (zobj TI TO f0 f1))(hf:f0=.none\/∃T:Nat,f0=rawInt T)(h1:Q true s)(h2:∀h' f1',h'.get? z=some (zobj TI TO f0 f1')->Heap.SameBut z s.heap h'->Q false {s with heap:=h'}) :
  wpAny (model prog w) A (Builtin.SmallTypes.ownedTupleIsFree (.ref z)) Q E s:=by
 unfold Builtin.SmallTypes.ownedTupleIsFree
 refine aAB (aBF hz rfl (x:=f0) rfl ?_)
 rcases hf with rfl|⟨T,rfl⟩
 ·exact aAD h1
 ·show wpAny _ _ (loadIfAlive _ >>= _) _ _ _
  refine aAB (loadAlive ?_)
  cases q:s.heap.get? ((T:Int).toNat)with
  |none=>exact aAD h1
  |some o =>
   show wpAny _ _ (field (.ref z) 1 >>= _) _ _ _
   refine aAB (aBF hz rfl (x:=f1) rfl ?_)
   by_cases hb:(f1 != .bool true)=true
   ·rw[aAH hb]
    refine aAB (aCD hz (by simp) λh1 hz1 hs1=>aAD (h2 h1 _ hz1 hs1))
   ·rw[aAJ hb]
    exact aAD (h2 s.heap f1 hz ⟨rfl,λ_ _=>rfl⟩)
variable{k:Nat}
theorem zip_next_item{TI TO i1 i2:Addr}{y:Value}(D:Ap z TI TO i1 i2 l1 l2)(Z:Zs s.heap z TI TO i1 i2 l1 l2 k xs ys)(hx:xs[k]?=some x)(hy:ys[k]?=some y)
  (hQ:∀h' T,Zs h' z TI TO i1 i2 l1 l2 (k+1) xs ys->IsPair h' T x y->s.heap.objs.size<=T->(∀c o,c≠z->c≠TO->c≠i1->c≠i2->s.heap.get? c=some o->h'.get? c=some o)->Q (.ref T) {s with heap:=h'}) :
  wpAny (model prog w) A (Builtin.«zip.__next__» ⟨[.ref z],[]⟩) (λfin s'=>∃v,fin=.done (.ret v)/\Q v s') E s:=by
 obtain⟨⟨f0,f1,hz,hf⟩,hTI,⟨a,b,hTO⟩,h1,h2⟩:=Z
 show wpAny _ _ (field (.ref z) 2 >>= _) _ _ _
 refine aAB (aBF hz rfl (x:=.bool false) rfl ?_)
 show wpAny _ _ (field (.ref z) 3 >>= _) _ _ _
 refine aAB (aBF hz rfl (x:=.ref TI) rfl ?_)
 refine aAB (aCM hTI rfl ?_)
 show wpAny _ _ (Builtin.SmallTypes.ownedTupleIsFree (.ref z) >>= _) _ _ _
 refine aAB (tS hz hf ?_ λh₁ f1' hz₁ hs₁=>?_)
 ·simp only[aDF]
  refine aAB (aDB ?_)
  refine aAB (aBF hz rfl (x:=.ref TO) rfl ?_)
  refine aAB (aCD hz (by simp) λh₁ hz₁ hs₁=>?_)
  replace hz₁:h₁.get? z=some (zobj TI TO .ellipsis f1):=hz₁
  refine aAB ?_
  simp only[List.zipIdx_cons,List.zipIdx_nil,aDP,aGA]
  refine aAB (aAB (aGJ ?_))
  show wpAny _ _ (Builtin.SmallTypes.nextOf (.ref i1) >>= _) _ _ _
  refine aAB (It1.next (h1.at (λo e=>hs₁.extBut _ _ D.i1z e) λo e=>hs₁.extBut _ _ D.l1z e) hx λh₂ h1₂ hs₂=>aAD ?_)
  have hTO₂:IsPair h₂ TO a b:=hs₂.extBut _ _ D.TOi1 (hs₁.extBut _ _ D.TOz hTO)
  refine aAB (aCM hTO₂ rfl ?_)
  refine aAB (aFO hTO₂ λh₃ hTO₃ hs₃=>?_)
  replace hTO₃:IsPair h₃ TO x b:=hTO₃
  refine aAB (wpAny_letGo (aAD ?_))
  refine aAB (aAB (aGJ ?_))
  show wpAny _ _ (Builtin.SmallTypes.nextOf (.ref i2) >>= _) _ _ _
  refine aAB (It1.next (h2.at (λo e=>hs₃.extBut _ _ D.TOi2.symm (hs₂.extBut _ _ D.i12.symm (hs₁.extBut _ _ D.i2z e))) λo e=>hs₃.extBut _ _ D.l2TO (hs₂.extBut _ _ D.l2i1 (hs₁.extBut _ _ D.l2z e))) hy λh₄ h2₄ hs₄=>aAD ?_)
  have hTO₄:IsPair h₄ TO x b:=hs₄.extBut _ _ D.TOi2 hTO₃
  refine aAB (aCM hTO₄ rfl ?_)
  refine aAB (aFO hTO₄ λh₅ hTO₅ hs₅=>?_)
  replace hTO₅:IsPair h₅ TO x y:=hTO₅
  refine aAB (wpAny_letGo (aAD (aAD ?_)))
  refine aAB (aCM hTO₅ rfl ?_)
  refine aAB (wpAny_newTuple ?_)
  have hsz:h₅.objs.size=s.heap.objs.size:=by rw[hs₅.1,hs₄.1,hs₃.1,hs₂.1,hs₁.1]
  have hz₅:h₅.get? z=some (zobj TI TO .ellipsis f1):=hs₅.extBut _ _ D.TOz.symm (hs₄.extBut _ _ D.i2z.symm (hs₃.extBut _ _ D.TOz.symm (hs₂.extBut _ _ D.i1z.symm hz₁)))
  have hk₅:∀c o,c≠z->c≠TO->c≠i1->c≠i2->s.heap.get? c=some o->h₅.get? c=some o:=λc o c1 c2 c3 c4 e =>
   hs₅.extBut _ _ c2 (hs₄.extBut _ _ c4 (hs₃.extBut _ _ c2 (hs₂.extBut _ _ c3 (hs₁.extBut _ _ c1 e))))
  have h1₅:It1 h₅ i1 l1 (k+1) xs:=h1₂.at (λo e=>hs₅.extBut _ _ D.TOi1.symm (hs₄.extBut _ _ D.i12 (hs₃.extBut _ _ D.TOi1.symm e))) λo e=>hs₅.extBut _ _ D.l1TO (hs₄.extBut _ _ D.l1i2 (hs₃.extBut _ _ D.l1TO e))
  have h2₅:It1 h₅ i2 l2 (k+1) ys:=h2₄.at (λo e=>hs₅.extBut _ _ D.TOi2.symm e) λo e=>hs₅.extBut _ _ D.l2TO e
  have hzlt:z < h₅.objs.size:=aAK hz₅
  show wpAny _ _ (Builtin.SmallTypes.ownedTupleHandOut (.ref z) (.ref h₅.objs.size) >>= _) _ _ _
  refine aAB ?_
  unfold Builtin.SmallTypes.ownedTupleHandOut
  have hz₆:(h₅.push {cls:=.type "tuple",data:=.seq #[x,y]}).get? z=some (zobj TI TO .ellipsis f1):=aAA _ hz₅
  refine aAB (aCD hz₆ (by simp) λh₇ hz₇ hs₇=>?_)
  replace hz₇:h₇.get? z=some (zobj TI TO (rawInt h₅.objs.size) f1):=hz₇
  refine aCD hz₇ (by simp) λh₈ hz₈ hs₈=>?_
  replace hz₈:h₈.get? z=some (zobj TI TO (rawInt h₅.objs.size) (.bool false)):=hz₈
  have up:∀c o,c≠z->h₅.get? c=some o->h₈.get? c=some o:=λc o c1 e=>hs₈.extBut _ _ c1 (hs₇.extBut _ _ c1 (aAA _ e))
  have hT₈:IsPair h₈ h₅.objs.size x y:=hs₈.extBut _ _ (aEK hzlt) (hs₇.extBut _ _ (aEK hzlt) (aAE _ rfl))
  refine aAD ⟨_,rfl,hQ h₈ h₅.objs.size ⟨⟨_,_,hz₈,.inr ⟨_,rfl⟩⟩,up _ _ D.TIz (hk₅ _ _ D.TIz D.TITO D.TIi1 D.TIi2 hTI),⟨_,_,up _ _ D.TOz hTO₅⟩,h1₅.at (λo e=>up _ o D.i1z e) λo e=>up _ o D.l1z e,h2₅.at (λo e=>up _ o D.i2z e) λo e=>up _ o D.l2z e⟩ hT₈ (by rw[hsz];exact aAF _) λc o c1 c2 c3 c4 e=>up c o c1 (hk₅ c o c1 c2 c3 c4 e)⟩
 ·simp only[aDM,aFC]
  refine aAB ?_
  simp only[List.forIn_toArray,aDP,aGA]
  refine aAB (aAB (aCF ?_))
  show wpAny _ _ (Builtin.SmallTypes.nextOf (.ref i1) >>= _) _ _ _
  refine aAB (It1.next (h1.at (λo e=>hs₁.extBut _ _ D.i1z e) λo e=>hs₁.extBut _ _ D.l1z e) hx λh₂ h1₂ hs₂=>aAD (aAD ?_))
  refine aAB (aAB (aCF ?_))
  show wpAny _ _ (Builtin.SmallTypes.nextOf (.ref i2) >>= _) _ _ _
  refine aAB (It1.next (h2.at (λo e=>hs₂.extBut _ _ D.i12.symm (hs₁.extBut _ _ D.i2z e)) λo e=>hs₂.extBut _ _ D.l2i1 (hs₁.extBut _ _ D.l2z e)) hy λh₃ h2₃ hs₃=>aAD (aAD (aAD ?_)))
  show wpAny _ _ (newTuple [x,y] >>= _) _ _ _
  refine aAB (wpAny_newTuple ?_)
  have hsz:h₃.objs.size=s.heap.objs.size:=by rw[hs₃.1,hs₂.1,hs₁.1]
  have kp:∀c o,c≠z->c≠i1->c≠i2->s.heap.get? c=some o->(h₃.push {cls:=.type "tuple",data:=.seq #[x,y]}).get? c=some o:=λc o c1 c2 c3 e=>aAA _ (hs₃.extBut _ _ c3 (hs₂.extBut _ _ c2 (hs₁.extBut _ _ c1 e)))
  refine aAD ⟨_,rfl,hQ _ h₃.objs.size ⟨⟨f0,f1',aAA _ (hs₃.extBut _ _ D.i2z.symm (hs₂.extBut _ _ D.i1z.symm hz₁)),hf⟩,kp _ _ D.TIz D.TIi1 D.TIi2 hTI,⟨_,_,kp _ _ D.TOz D.TOi1 D.TOi2 hTO⟩,?_,?_⟩ (aAE _ rfl) (by rw[hsz];exact aAF _) λc o c1 c2 c3 c4 e=>kp c o c1 c3 c4 e⟩
  ·exact h1₂.at (λo e=>aAA _ (hs₃.extBut _ _ D.i12 e)) λo e=>aAA _ (hs₃.extBut _ _ D.l1i2 e)
  ·exact h2₃.at (λo e=>aAA _ e) λo e=>aAA _ e
theorem zip_next_end{TI TO i1 i2:Addr}{Q:Fin->Shared->Prop}(hh:A.handled=none)(D:Ap z TI TO i1 i2 l1 l2)(Z:Zs s.heap z TI TO i1 i2 l1 l2 k xs ys)(hend:xs[k]?=none\/ys[k]?=none)
  (hE:∀h' e,(∀c o,c≠z->c≠TO->c≠i1->c≠i2->s.heap.get? c=some o->h'.get? c=some o)->(∃o,h'.get? e=some o/\o.cls=.type "StopIteration")->E (.ref e) {s with heap:=h'}) :
  wpAny (model prog w) A (Builtin.«zip.__next__» ⟨[.ref z],[]⟩) Q E s:=by
 obtain⟨⟨f0,f1,hz,hf⟩,hTI,⟨a,b,hTO⟩,h1,h2⟩:=Z
 show wpAny _ _ (field (.ref z) 2 >>= _) _ _ _
 refine aAB (aBF hz rfl (x:=.bool false) rfl ?_)
 show wpAny _ _ (field (.ref z) 3 >>= _) _ _ _
 refine aAB (aBF hz rfl (x:=.ref TI) rfl ?_)
 refine aAB (aCM hTI rfl ?_)
 show wpAny _ _ (Builtin.SmallTypes.ownedTupleIsFree (.ref z) >>= _) _ _ _
 refine aAB (tS hz hf ?_ λh₁ f1' hz₁ hs₁=>?_)
 ·simp only[aDF]
  refine aAB (aDB ?_)
  refine aAB (aBF hz rfl (x:=.ref TO) rfl ?_)
  refine aAB (aCD hz (by simp) λh₁ hz₁ hs₁=>?_)
  replace hz₁:h₁.get? z=some (zobj TI TO .ellipsis f1):=hz₁
  refine aAB ?_
  simp only[List.zipIdx_cons,List.zipIdx_nil,aDP,aGA]
  refine aAB (aAB (aGJ ?_))
  show wpAny _ _ (Builtin.SmallTypes.nextOf (.ref i1) >>= _) _ _ _
  have h1':=h1.at (h':=h₁) (λo e=>hs₁.extBut _ _ D.i1z e) λo e=>hs₁.extBut _ _ D.l1z e
  cases hx:xs[k]? with
  |none =>
   refine aAB (It1.stop hh h1' hx λh₂ e hs₂ he=>?_)
   obtain⟨oe,hoe,hce⟩:=he
   have hz₂:h₂.get? z=some (zobj TI TO .ellipsis f1):=hs₂ _ _ D.i1z.symm hz₁
   have hez:e≠z:=λx=>by subst x;rw[hz₂]at hoe;cases hoe;simp at hce
   exact aCD hz₂ (by simp) λh₃ _ hs₃=>hE h₃ e (λc o c1 _ c3 _ x=>hs₃.extBut _ _ c1 (hs₂ _ _ c3 (hs₁.extBut _ _ c1 x))) ⟨oe,hs₃.extBut _ _ hez hoe,hce⟩
  |some x =>
   have hy:ys[k]?=none:=by rcases hend with h|h;rw[hx]at h;cases h;exact h
   refine aAB (It1.next h1' hx λh₂ h1₂ hs₂=>aAD ?_)
   have hTO₂:IsPair h₂ TO a b:=hs₂.extBut _ _ D.TOi1 (hs₁.extBut _ _ D.TOz hTO)
   refine aAB (aCM hTO₂ rfl ?_)
   refine aAB (aFO hTO₂ λh₃ hTO₃ hs₃=>?_)
   refine aAB (wpAny_letGo (aAD ?_))
   refine aAB (aAB (aGJ ?_))
   show wpAny _ _ (Builtin.SmallTypes.nextOf (.ref i2) >>= _) _ _ _
   refine aAB (It1.stop hh (h2.at (λo e=>hs₃.extBut _ _ D.TOi2.symm (hs₂.extBut _ _ D.i12.symm (hs₁.extBut _ _ D.i2z e))) λo e=>hs₃.extBut _ _ D.l2TO (hs₂.extBut _ _ D.l2i1 (hs₁.extBut _ _ D.l2z e))) hy λh₄ e hs₄ he=>?_)
   obtain⟨oe,hoe,hce⟩:=he
   have hz₄:h₄.get? z=some (zobj TI TO .ellipsis f1):=hs₄ _ _ D.i2z.symm (hs₃.extBut _ _ D.TOz.symm (hs₂.extBut _ _ D.i1z.symm hz₁))
   have hez:e≠z:=λx=>by subst x;rw[hz₄]at hoe;cases hoe;simp at hce
   exact aCD hz₄ (by simp) λh₅ _ hs₅=>hE h₅ e (λc o c1 c2 c3 c4 x=>hs₅.extBut _ _ c1 (hs₄ _ _ c4 (hs₃.extBut _ _ c2 (hs₂.extBut _ _ c3 (hs₁.extBut _ _ c1 x))))) ⟨oe,hs₅.extBut _ _ hez hoe,hce⟩
 ·simp only[aDM,aFC]
  refine aAB ?_
  simp only[List.forIn_toArray,aDP,aGA]
  refine aAB (aAB (aCF ?_))
  show wpAny _ _ (Builtin.SmallTypes.nextOf (.ref i1) >>= _) _ _ _
  have h1':=h1.at (h':=h₁) (λo e=>hs₁.extBut _ _ D.i1z e) λo e=>hs₁.extBut _ _ D.l1z e
  cases hx:xs[k]? with
  |none=>exact aAB (It1.stop hh h1' hx λh₂ e hs₂ he=>hE h₂ e (λc o c1 _ c3 _ x=>hs₂ _ _ c3 (hs₁.extBut _ _ c1 x)) he)
  |some x =>
   have hy:ys[k]?=none:=by rcases hend with h|h;rw[hx]at h;cases h;exact h
   refine aAB (It1.next h1' hx λh₂ h1₂ hs₂=>aAD (aAD ?_))
   refine aAB (aAB (aCF ?_))
   show wpAny _ _ (Builtin.SmallTypes.nextOf (.ref i2) >>= _) _ _ _
   exact aAB (It1.stop hh (h2.at (λo e=>hs₂.extBut _ _ D.i12.symm (hs₁.extBut _ _ D.i2z e)) λo e=>hs₂.extBut _ _ D.l2i1 (hs₁.extBut _ _ D.l2z e)) hy λh₃ e hs₃ he=>hE h₃ e (λc o c1 _ c3 c4 x=>hs₃ _ _ c4 (hs₂.extBut _ _ c3 (hs₁.extBut _ _ c1 x))) he)
noncomputable section
abbrev zH1LL(h:Heap)(l1:Addr):Heap:=h.push {cls:=.type "list_iterator",data:=.fields #[.ref l1,.int 0 0]}
abbrev zH2LL(h:Heap)(l1 l2:Addr):Heap:=(zH1LL h l1).push {cls:=.type "list_iterator",data:=.fields #[.ref l2,.int 0 0]}
abbrev zH3LL(h:Heap)(l1 l2:Addr):Heap:=(zH2LL h l1 l2).push {cls:=.type "tuple",data:=.seq #[.ref h.objs.size,.ref (zH1LL h l1).objs.size]}
abbrev zH4LL(h:Heap)(l1 l2:Addr):Heap:=(zH3LL h l1 l2).push {cls:=.type "tuple",data:=.seq #[.none,.none]}
abbrev zH5LL(h:Heap)(l1 l2:Addr):Heap:=(zH4LL h l1 l2).push {cls:=.type "zip",data:=.fields #[.none,.bool false,.bool false,.ref (zH2LL h l1 l2).objs.size,.ref (zH3LL h l1 l2).objs.size]}
theorem pD(l1 l2:Addr)(xs ys:Array Value) :
  Meets (Builtin.«zip.__new__» ⟨[.type "zip",.ref l1,.ref l2],[]⟩) (λ_ R s=>s.heap.IsList l1 xs/\s.heap.IsList l2 ys /\
   R (.ok (.ret (.ref (zH4LL s.heap l1 l2).objs.size))) {s with heap:=zH5LL s.heap l1 l2}) :=
 .of_wp λprog w A R s h=>by
  obtain⟨hp,g,d,tk,os⟩:=s;obtain⟨hl1,hl2,h⟩:=h
  have hsub:=sub_zip
  have hL1:Heap.IsList (Shared.heap ⟨hp,g,d,tk,os⟩) l1 xs:=hl1
  have hL2:Heap.IsList (Shared.heap ⟨hp.push {cls:=.type "list_iterator",data:=.fields #[.ref l1,.int 0 0]},g,d,tk,os⟩) l2 ys:=by
   obtain⟨o,ho,r⟩:=hl2
   exact⟨o,aAA _ ho,r⟩
  wp_walk using aCZ hL1,aCZ hL2
  exact⟨_,rfl,h⟩
theorem sH(hl1:s.heap.IsList l1 xs)(hl2:s.heap.IsList l2 ys)
  (h:∀h',Zs h' (s.heap.objs.size+4) (s.heap.objs.size+2) (s.heap.objs.size+3) s.heap.objs.size (s.heap.objs.size+1) l1 l2 0 xs ys->h'.objs.size=s.heap.objs.size+5 ->
   (∀c o,s.heap.get? c=some o->h'.get? c=some o)->Q (.ref (s.heap.objs.size+4)) {s with heap:=h'}) :
  wpAny (model prog w) A (call (.type "zip") [.ref l1,.ref l2]) Q E s:=by
 refine aFL F.called_zip (by decide) (aFA _ _) (aFU _ _) (λobj=>aDY obj _ _) aFI
  (pD l1 l2 xs ys) ⟨hl1,hl2,?_⟩
 have z1:(zH1LL s.heap l1).objs.size=s.heap.objs.size+1:=aAV ..
 have z2:(zH2LL s.heap l1 l2).objs.size=s.heap.objs.size+2:=by rw[aAV,z1]
 have z3:(zH3LL s.heap l1 l2).objs.size=s.heap.objs.size+3:=by rw[aAV,z2]
 have z4:(zH4LL s.heap l1 l2).objs.size=s.heap.objs.size+4:=by rw[aAV,z3]
 have z5:(zH5LL s.heap l1 l2).objs.size=s.heap.objs.size+5:=by rw[aAV,z4]
 have g5:(zH5LL s.heap l1 l2).get? (zH4LL s.heap l1 l2).objs.size=some _:=aAE _ rfl
 have g4:(zH5LL s.heap l1 l2).get? (zH3LL s.heap l1 l2).objs.size=some _:=aAA _ (aAE _ rfl)
 have g3:(zH5LL s.heap l1 l2).get? (zH2LL s.heap l1 l2).objs.size=some _:=aAA _ (aAA _ (aAE _ rfl))
 have g2:(zH5LL s.heap l1 l2).get? (zH1LL s.heap l1).objs.size=some _:=aAA _ (aAA _ (aAA _ (aAE _ rfl)))
 have g1:(zH5LL s.heap l1 l2).get? s.heap.objs.size=some _:=aAA _ (aAA _ (aAA _ (aAA _ (aAE _ rfl))))
 have kp:∀c o,s.heap.get? c=some o->(zH5LL s.heap l1 l2).get? c=some o:=λc o x =>
  aAA _ (aAA _ (aAA _ (aAA _ (aAA _ x))))
 show _/\_
 rw[z2,z3,z4]at g5
 rw[z1,z2]at g3
 rw[z3]at g4
 rw[z1]at g2
 rw[z4]
 refine⟨⟨_,g5,rfl⟩,h _ ⟨⟨_,_,g5,.inl rfl⟩,g3,⟨_,_,g4⟩,.inl ⟨⟨_,g1,rfl,rfl⟩,?_⟩,.inl ⟨⟨_,g2,rfl,rfl⟩,?_⟩⟩ z5 kp⟩
 ·obtain⟨o,ho,r⟩:=hl1;exact⟨o,kp _ _ ho,r⟩
 ·obtain⟨o,ho,r⟩:=hl2;exact⟨o,kp _ _ ho,r⟩
abbrev zH1LT(h:Heap)(l1:Addr):Heap:=h.push {cls:=.type "list_iterator",data:=.fields #[.ref l1,.int 0 0]}
abbrev zH2LT(h:Heap)(l1 l2:Addr):Heap:=(zH1LT h l1).push {cls:=.type "tuple_iterator",data:=.fields #[.ref l2,.int 0 0]}
abbrev zH3LT(h:Heap)(l1 l2:Addr):Heap:=(zH2LT h l1 l2).push {cls:=.type "tuple",data:=.seq #[.ref h.objs.size,.ref (zH1LT h l1).objs.size]}
abbrev zH4LT(h:Heap)(l1 l2:Addr):Heap:=(zH3LT h l1 l2).push {cls:=.type "tuple",data:=.seq #[.none,.none]}
abbrev zH5LT(h:Heap)(l1 l2:Addr):Heap:=(zH4LT h l1 l2).push {cls:=.type "zip",data:=.fields #[.none,.bool false,.bool false,.ref (zH2LT h l1 l2).objs.size,.ref (zH3LT h l1 l2).objs.size]}
theorem pF(l1 l2:Addr)(xs ys:Array Value) :
  Meets (Builtin.«zip.__new__» ⟨[.type "zip",.ref l1,.ref l2],[]⟩) (λ_ R s=>s.heap.IsList l1 xs/\s.heap.IsTuple l2 ys /\
   R (.ok (.ret (.ref (zH4LT s.heap l1 l2).objs.size))) {s with heap:=zH5LT s.heap l1 l2}) :=
 .of_wp λprog w A R s h=>by
  obtain⟨hp,g,d,tk,os⟩:=s;obtain⟨hl1,hl2,h⟩:=h
  have hsub:=sub_zip
  have hL1:Heap.IsList (Shared.heap ⟨hp,g,d,tk,os⟩) l1 xs:=hl1
  have hL2:Heap.IsTuple (Shared.heap ⟨hp.push {cls:=.type "list_iterator",data:=.fields #[.ref l1,.int 0 0]},g,d,tk,os⟩) l2 ys:=by
   obtain⟨o,ho,r⟩:=hl2
   exact⟨o,aAA _ ho,r⟩
  wp_walk using aCZ hL1,aDL hL2
  exact⟨_,rfl,h⟩
theorem rV(hl1:s.heap.IsList l1 xs)(hl2:s.heap.IsTuple l2 ys)
  (h:∀h',Zs h' (s.heap.objs.size+4) (s.heap.objs.size+2) (s.heap.objs.size+3) s.heap.objs.size (s.heap.objs.size+1) l1 l2 0 xs ys->h'.objs.size=s.heap.objs.size+5 ->
   (∀c o,s.heap.get? c=some o->h'.get? c=some o)->Q (.ref (s.heap.objs.size+4)) {s with heap:=h'}) :
  wpAny (model prog w) A (call (.type "zip") [.ref l1,.ref l2]) Q E s:=by
 refine aFL F.called_zip (by decide) (aFA _ _) (aFU _ _) (λobj=>aDY obj _ _) aFI
  (pF l1 l2 xs ys) ⟨hl1,hl2,?_⟩
 have z1:(zH1LT s.heap l1).objs.size=s.heap.objs.size+1:=aAV ..
 have z2:(zH2LT s.heap l1 l2).objs.size=s.heap.objs.size+2:=by rw[aAV,z1]
 have z3:(zH3LT s.heap l1 l2).objs.size=s.heap.objs.size+3:=by rw[aAV,z2]
 have z4:(zH4LT s.heap l1 l2).objs.size=s.heap.objs.size+4:=by rw[aAV,z3]
 have z5:(zH5LT s.heap l1 l2).objs.size=s.heap.objs.size+5:=by rw[aAV,z4]
 have g5:(zH5LT s.heap l1 l2).get? (zH4LT s.heap l1 l2).objs.size=some _:=aAE _ rfl
 have g4:(zH5LT s.heap l1 l2).get? (zH3LT s.heap l1 l2).objs.size=some _:=aAA _ (aAE _ rfl)
 have g3:(zH5LT s.heap l1 l2).get? (zH2LT s.heap l1 l2).objs.size=some _:=aAA _ (aAA _ (aAE _ rfl))
 have g2:(zH5LT s.heap l1 l2).get? (zH1LT s.heap l1).objs.size=some _:=aAA _ (aAA _ (aAA _ (aAE _ rfl)))
 have g1:(zH5LT s.heap l1 l2).get? s.heap.objs.size=some _:=aAA _ (aAA _ (aAA _ (aAA _ (aAE _ rfl))))
 have kp:∀c o,s.heap.get? c=some o->(zH5LT s.heap l1 l2).get? c=some o:=λc o x =>
  aAA _ (aAA _ (aAA _ (aAA _ (aAA _ x))))
 show _/\_
 rw[z2,z3,z4]at g5
 rw[z1,z2]at g3
 rw[z3]at g4
 rw[z1]at g2
 rw[z4]
 refine⟨⟨_,g5,rfl⟩,h _ ⟨⟨_,_,g5,.inl rfl⟩,g3,⟨_,_,g4⟩,.inl ⟨⟨_,g1,rfl,rfl⟩,?_⟩,.inr ⟨⟨_,g2,rfl,rfl⟩,?_⟩⟩ z5 kp⟩
 ·obtain⟨o,ho,r⟩:=hl1;exact⟨o,kp _ _ ho,r⟩
 ·obtain⟨o,ho,r⟩:=hl2;exact⟨o,kp _ _ ho,r⟩
abbrev zH1TL(h:Heap)(l1:Addr):Heap:=h.push {cls:=.type "tuple_iterator",data:=.fields #[.ref l1,.int 0 0]}
abbrev zH2TL(h:Heap)(l1 l2:Addr):Heap:=(zH1TL h l1).push {cls:=.type "list_iterator",data:=.fields #[.ref l2,.int 0 0]}
abbrev zH3TL(h:Heap)(l1 l2:Addr):Heap:=(zH2TL h l1 l2).push {cls:=.type "tuple",data:=.seq #[.ref h.objs.size,.ref (zH1TL h l1).objs.size]}
abbrev zH4TL(h:Heap)(l1 l2:Addr):Heap:=(zH3TL h l1 l2).push {cls:=.type "tuple",data:=.seq #[.none,.none]}
abbrev zH5TL(h:Heap)(l1 l2:Addr):Heap:=(zH4TL h l1 l2).push {cls:=.type "zip",data:=.fields #[.none,.bool false,.bool false,.ref (zH2TL h l1 l2).objs.size,.ref (zH3TL h l1 l2).objs.size]}
theorem oY(l1 l2:Addr)(xs ys:Array Value) :
  Meets (Builtin.«zip.__new__» ⟨[.type "zip",.ref l1,.ref l2],[]⟩) (λ_ R s=>s.heap.IsTuple l1 xs/\s.heap.IsList l2 ys /\
   R (.ok (.ret (.ref (zH4TL s.heap l1 l2).objs.size))) {s with heap:=zH5TL s.heap l1 l2}) :=
 .of_wp λprog w A R s h=>by
  obtain⟨hp,g,d,tk,os⟩:=s;obtain⟨hl1,hl2,h⟩:=h
  have hsub:=sub_zip
  have hL1:Heap.IsTuple (Shared.heap ⟨hp,g,d,tk,os⟩) l1 xs:=hl1
  have hL2:Heap.IsList (Shared.heap ⟨hp.push {cls:=.type "tuple_iterator",data:=.fields #[.ref l1,.int 0 0]},g,d,tk,os⟩) l2 ys:=by
   obtain⟨o,ho,r⟩:=hl2
   exact⟨o,aAA _ ho,r⟩
  wp_walk using aDL hL1,aCZ hL2
  exact⟨_,rfl,h⟩
theorem qT(hl1:s.heap.IsTuple l1 xs)(hl2:s.heap.IsList l2 ys)
  (h:∀h',Zs h' (s.heap.objs.size+4) (s.heap.objs.size+2) (s.heap.objs.size+3) s.heap.objs.size (s.heap.objs.size+1) l1 l2 0 xs ys->h'.objs.size=s.heap.objs.size+5 ->
   (∀c o,s.heap.get? c=some o->h'.get? c=some o)->Q (.ref (s.heap.objs.size+4)) {s with heap:=h'}) :
  wpAny (model prog w) A (call (.type "zip") [.ref l1,.ref l2]) Q E s:=by
 refine aFL F.called_zip (by decide) (aFA _ _) (aFU _ _) (λobj=>aDY obj _ _) aFI
  (oY l1 l2 xs ys) ⟨hl1,hl2,?_⟩
 have z1:(zH1TL s.heap l1).objs.size=s.heap.objs.size+1:=aAV ..
 have z2:(zH2TL s.heap l1 l2).objs.size=s.heap.objs.size+2:=by rw[aAV,z1]
 have z3:(zH3TL s.heap l1 l2).objs.size=s.heap.objs.size+3:=by rw[aAV,z2]
 have z4:(zH4TL s.heap l1 l2).objs.size=s.heap.objs.size+4:=by rw[aAV,z3]
 have z5:(zH5TL s.heap l1 l2).objs.size=s.heap.objs.size+5:=by rw[aAV,z4]
 have g5:(zH5TL s.heap l1 l2).get? (zH4TL s.heap l1 l2).objs.size=some _:=aAE _ rfl
 have g4:(zH5TL s.heap l1 l2).get? (zH3TL s.heap l1 l2).objs.size=some _:=aAA _ (aAE _ rfl)
 have g3:(zH5TL s.heap l1 l2).get? (zH2TL s.heap l1 l2).objs.size=some _:=aAA _ (aAA _ (aAE _ rfl))
 have g2:(zH5TL s.heap l1 l2).get? (zH1TL s.heap l1).objs.size=some _:=aAA _ (aAA _ (aAA _ (aAE _ rfl)))
 have g1:(zH5TL s.heap l1 l2).get? s.heap.objs.size=some _:=aAA _ (aAA _ (aAA _ (aAA _ (aAE _ rfl))))
 have kp:∀c o,s.heap.get? c=some o->(zH5TL s.heap l1 l2).get? c=some o:=λc o x =>
  aAA _ (aAA _ (aAA _ (aAA _ (aAA _ x))))
 show _/\_
 rw[z2,z3,z4]at g5
 rw[z1,z2]at g3
 rw[z3]at g4
 rw[z1]at g2
 rw[z4]
 refine⟨⟨_,g5,rfl⟩,h _ ⟨⟨_,_,g5,.inl rfl⟩,g3,⟨_,_,g4⟩,.inr ⟨⟨_,g1,rfl,rfl⟩,?_⟩,.inl ⟨⟨_,g2,rfl,rfl⟩,?_⟩⟩ z5 kp⟩
 ·obtain⟨o,ho,r⟩:=hl1;exact⟨o,kp _ _ ho,r⟩
 ·obtain⟨o,ho,r⟩:=hl2;exact⟨o,kp _ _ ho,r⟩
abbrev zH1TT(h:Heap)(l1:Addr):Heap:=h.push {cls:=.type "tuple_iterator",data:=.fields #[.ref l1,.int 0 0]}
abbrev zH2TT(h:Heap)(l1 l2:Addr):Heap:=(zH1TT h l1).push {cls:=.type "tuple_iterator",data:=.fields #[.ref l2,.int 0 0]}
abbrev zH3TT(h:Heap)(l1 l2:Addr):Heap:=(zH2TT h l1 l2).push {cls:=.type "tuple",data:=.seq #[.ref h.objs.size,.ref (zH1TT h l1).objs.size]}
abbrev zH4TT(h:Heap)(l1 l2:Addr):Heap:=(zH3TT h l1 l2).push {cls:=.type "tuple",data:=.seq #[.none,.none]}
abbrev zH5TT(h:Heap)(l1 l2:Addr):Heap:=(zH4TT h l1 l2).push {cls:=.type "zip",data:=.fields #[.none,.bool false,.bool false,.ref (zH2TT h l1 l2).objs.size,.ref (zH3TT h l1 l2).objs.size]}
end
theorem pJ(l1 l2:Addr)(xs ys:Array Value) :
  Meets (Builtin.«zip.__new__» ⟨[.type "zip",.ref l1,.ref l2],[]⟩) (λ_ R s=>s.heap.IsTuple l1 xs/\s.heap.IsTuple l2 ys /\
   R (.ok (.ret (.ref (zH4TT s.heap l1 l2).objs.size))) {s with heap:=zH5TT s.heap l1 l2}) :=
 .of_wp λprog w A R s h=>by
  obtain⟨hp,g,d,tk,os⟩:=s;obtain⟨hl1,hl2,h⟩:=h
  have hsub:=sub_zip
  have hL1:Heap.IsTuple (Shared.heap ⟨hp,g,d,tk,os⟩) l1 xs:=hl1
  have hL2:Heap.IsTuple (Shared.heap ⟨hp.push {cls:=.type "tuple_iterator",data:=.fields #[.ref l1,.int 0 0]},g,d,tk,os⟩) l2 ys:=by
   obtain⟨o,ho,r⟩:=hl2
   exact⟨o,aAA _ ho,r⟩
  wp_walk using aDL hL1,aDL hL2
  exact⟨_,rfl,h⟩
theorem rL(hl1:s.heap.IsTuple l1 xs)(hl2:s.heap.IsTuple l2 ys)
  (h:∀h',Zs h' (s.heap.objs.size+4) (s.heap.objs.size+2) (s.heap.objs.size+3) s.heap.objs.size (s.heap.objs.size+1) l1 l2 0 xs ys->h'.objs.size=s.heap.objs.size+5 ->
   (∀c o,s.heap.get? c=some o->h'.get? c=some o)->Q (.ref (s.heap.objs.size+4)) {s with heap:=h'}) :
  wpAny (model prog w) A (call (.type "zip") [.ref l1,.ref l2]) Q E s:=by
 refine aFL F.called_zip (by decide) (aFA _ _) (aFU _ _) (λobj=>aDY obj _ _) aFI
  (pJ l1 l2 xs ys) ⟨hl1,hl2,?_⟩
 have z1:(zH1TT s.heap l1).objs.size=s.heap.objs.size+1:=aAV ..
 have z2:(zH2TT s.heap l1 l2).objs.size=s.heap.objs.size+2:=by rw[aAV,z1]
 have z3:(zH3TT s.heap l1 l2).objs.size=s.heap.objs.size+3:=by rw[aAV,z2]
 have z4:(zH4TT s.heap l1 l2).objs.size=s.heap.objs.size+4:=by rw[aAV,z3]
 have z5:(zH5TT s.heap l1 l2).objs.size=s.heap.objs.size+5:=by rw[aAV,z4]
 have g5:(zH5TT s.heap l1 l2).get? (zH4TT s.heap l1 l2).objs.size=some _:=aAE _ rfl
 have g4:(zH5TT s.heap l1 l2).get? (zH3TT s.heap l1 l2).objs.size=some _:=aAA _ (aAE _ rfl)
 have g3:(zH5TT s.heap l1 l2).get? (zH2TT s.heap l1 l2).objs.size=some _:=aAA _ (aAA _ (aAE _ rfl))
 have g2:(zH5TT s.heap l1 l2).get? (zH1TT s.heap l1).objs.size=some _:=aAA _ (aAA _ (aAA _ (aAE _ rfl)))
 have g1:(zH5TT s.heap l1 l2).get? s.heap.objs.size=some _:=aAA _ (aAA _ (aAA _ (aAA _ (aAE _ rfl))))
 have kp:∀c o,s.heap.get? c=some o->(zH5TT s.heap l1 l2).get? c=some o:=λc o x =>
  aAA _ (aAA _ (aAA _ (aAA _ (aAA _ x))))
 show _/\_
 rw[z2,z3,z4]at g5
 rw[z1,z2]at g3
 rw[z3]at g4
 rw[z1]at g2
 rw[z4]
 refine⟨⟨_,g5,rfl⟩,h _ ⟨⟨_,_,g5,.inl rfl⟩,g3,⟨_,_,g4⟩,.inr ⟨⟨_,g1,rfl,rfl⟩,?_⟩,.inr ⟨⟨_,g2,rfl,rfl⟩,?_⟩⟩ z5 kp⟩
 ·obtain⟨o,ho,r⟩:=hl1;exact⟨o,kp _ _ ho,r⟩
 ·obtain⟨o,ho,r⟩:=hl2;exact⟨o,kp _ _ ho,r⟩
theorem call_zipG(h1:s.heap.IsList l1 xs\/s.heap.IsTuple l1 xs)(h2:s.heap.IsList l2 ys\/s.heap.IsTuple l2 ys)
  (h:∀h',Zs h' (s.heap.objs.size+4) (s.heap.objs.size+2) (s.heap.objs.size+3) s.heap.objs.size (s.heap.objs.size+1) l1 l2 0 xs ys->h'.objs.size=s.heap.objs.size+5 ->
   (∀c o,s.heap.get? c=some o->h'.get? c=some o)->Q (.ref (s.heap.objs.size+4)) {s with heap:=h'}) :
  wpAny (model prog w) A (call (.type "zip") [.ref l1,.ref l2]) Q E s:=by
 rcases h1 with h1|h1 <;> rcases h2 with h2|h2
 ·exact sH h1 h2 h
 ·exact rV h1 h2 h
 ·exact qT h1 h2 h
 ·exact rL h1 h2 h
variable{R:Result->Shared->Prop}
theorem ap_of{n l1 l2:Nat}(h1:l1 < n)(h2:l2 < n):Ap (n+4) (n+2) (n+3) n (n+1) l1 l2:=by
 constructor <;> (show(_:Nat)≠(_:Nat);lia)
end ZP
namespace EV
open L2
variable{σ:L2.St}{K:Frag}{a b:Expr}{q:Pos}
noncomputable def zipT(xs ys:List D):List D:=(xs.zip ys).map λp=>.tup [p.1,p.2]
end EV
namespace RT
theorem dU:Slot "reversed" "__next__" "reversed.__next__" :=
 .of (owner:="reversed") (n:="__next__") (by rw[aFS,aDU];kernel_rfl) (by decide +kernel) (by decide +kernel) (by decide +kernel)
  (by first|exact .inl (by decide +kernel)|exact .inr (by decide +kernel)) (by rw[aEO];kernel_rfl)
theorem jF:Slot "reversed" "__iter__" "reversed.__iter__" :=
 .of (owner:="reversed") (n:="__iter__") (by rw[aFS,aDU];kernel_rfl) (by decide +kernel) (by decide +kernel) (by decide +kernel)
  (by first|exact .inl (by decide +kernel)|exact .inr (by decide +kernel)) (by rw[aEO];kernel_rfl)
theorem oI:Slot "reversed" "__init__" "object.__init__" :=
 .of (owner:="object") (n:="__init__") (by rw[aFS,aDU];kernel_rfl) (by decide +kernel) (by decide +kernel) (by decide +kernel)
  (by first|exact .inl (by decide +kernel)|exact .inr (by decide +kernel)) (by rw[aEO];kernel_rfl)
theorem iF:entryFor table "reversed.__next__"=some Builtin.«reversed.__next__»:=entryFor_of_tree (by kernel_rfl)
theorem mD:entryFor table "reversed.__iter__"=some Builtin.«dict_keyiterator.__iter__» :=
 entryFor_alias (id':="dict_keyiterator.__iter__") (by kernel_rfl) (by first|rfl|decide +kernel|(unfold String.splitOn;simp +decide [String.splitOnAux])) (by decide +kernel) (by kernel_rfl)
theorem pX:Manifest.owners.lookup (String.ofList ['d','e','s','r','e','v','e','r'].reverse)=some Manifest.sig_reversed:=by kernel_rfl
theorem jI(a:Value):argsOk "reversed.__next__" ⟨[a],[]⟩:=by
 unfold argsOk;rw[signature?_of (id:="reversed.__next__") (n:=['_','_','t','x','e','n','_','_']) (o:=['d','e','s','r','e','v','e','r']) (by kernel_rfl) pX];kernel_rfl
theorem nQ(a:Value):argsOk "reversed.__iter__" ⟨[a],[]⟩:=by
 unfold argsOk;rw[signature?_of (id:="reversed.__iter__") (n:=['_','_','r','e','t','i','_','_']) (o:=['d','e','s','r','e','v','e','r']) (by kernel_rfl) pX];kernel_rfl
theorem uG:TypeCalled "reversed" "reversed.__new__" "object.__init__" :=
 ⟨by decide +kernel,by decide +kernel,⟨_,_,F.mro_reversed⟩,F.made_reversed,by decide +kernel,by rw[aEO];kernel_rfl,oI⟩
theorem nO:typeLookup (.type "tuple") "__reversed__"=pure none:=by rw[aFS,aDU];kernel_rfl
theorem lQ:isSubtype (.type "tuple") (.type "dict")=pure false:=by rw[aEO];kernel_rfl
noncomputable abbrev rvObj(l:Addr)(i:Int):Obj:={cls:=.type "reversed",dict:=none,data:=.fields #[.ref l,rawInt i],slots:=#[]}
theorem wX(l:Addr)(items:Array Value):Meets (Builtin.«reversed.__new__» ⟨[.type "reversed",.ref l],[]⟩) (λ_ R s=>IsTup s.heap l items/\(items.size:Int) < 2 ^ 63 /\
   R (.ok (.ret (.ref s.heap.objs.size))) {s with heap:=s.heap.push (rvObj l ((items.size:Int) - 1)),toks:=s.toks+1+1}) :=
 .of_wp λprog w A R s h=>by
  obtain⟨hl,hz,h⟩:=h
  unfold Builtin.«reversed.__new__»
  refine aAB (aDE (newClass_reversed _) ?_)
  try dsimp only
  refine aAB (aDE (a:=()) (by first|rfl|kernel_rfl) ?_)
  refine aAB (aDE (a:=()) (by first|rfl|kernel_rfl) ?_)
  try dsimp only
  refine aAB (aFJ hl.typeIs nO ?_)
  try dsimp only
  refine aAB ?_
  refine aAB (aFD (T:="tuple") (b:=false) hl.typeIs lQ ?_)
  try dsimp only
  refine aAB (aFJ hl.typeIs F.slot_tuple_getitem.lookup ?_)
  refine aDE (a:=true) (by first|rfl|kernel_rfl) ?_
  show wpAny _ _ (call (.builtin "len") [.ref l] >>= _) _ _ _
  refine aAB (len_tuple hl hz ?_)
  refine aAB (aDE (a:=some (items.size:Int)) (by first|rfl|kernel_rfl) ?_)
  show wpAny _ _ (newObj (.type "reversed") (.fields #[.ref l,rawInt ((items.size:Int) - 1)]) >>= _) _ _ _
  exact aAB (aBM (aAD ⟨_,rfl,h⟩))
variable{prog:Program}{E:Value->Shared->Prop}
theorem call_rev_tuple(hl:IsTup s.heap l items)(hz:(items.size:Int) < 2 ^ 63)
  (h:Q (.ref s.heap.objs.size) {s with heap:=s.heap.push (rvObj l ((items.size:Int) - 1)),toks:=s.toks+1+1}):wpAny (model prog w) A (call (.type "reversed") [.ref l]) Q E s :=
 aFL uG (by decide) (F.typeCall_reversed_1 _) (F.newCall_reversed_1 _) (λobj=>F.args_object_init_2 obj _) F.entry_reversed_new (wX l items) ⟨hl,hz,⟨⟨_,aAE _ rfl,rfl⟩,h⟩⟩
noncomputable def IsRvT(h:Heap)(a l:Addr)(i:Int):Prop:=∃o,h.get? a=some o/\o.cls=.type "reversed"/\o.data=.fields #[.ref l,rawInt i]
variable{i:Int}
theorem IsRvT.typeIs(x:IsRvT s.heap a l i):s.TypeIs (.ref a) "reversed":=let⟨o,ho,hc,_⟩:=x;⟨o,ho,hc⟩
theorem IsRvT.at(x:IsRvT h a l i)(e:∀o,h.get? a=some o->h'.get? a=some o):IsRvT h' a l i:=let⟨o,ho,r⟩:=x;⟨o,e _ ho,r⟩
variable{Q:Option Value->Shared->Prop}
theorem next_item{i:Nat}{x:Value}(hit:IsRvT s.heap it l (i:Int))(hl:IsTup s.heap l items)(hz:(items.size:Int) < 2 ^ 63)(hx:items[i]?=some x)
  (hQ:∀h' tk,IsRvT h' it l ((i:Int) - 1)->Heap.SameBut it s.heap h'->Q (some x) {s with heap:=h',toks:=tk}):wpAny (model prog w) A (pyNext (.ref it)) Q E s:=by
 obtain⟨o,ho,hc,hd⟩:=id hit
 have hlt:i < items.size:=by
  rcases Nat.lt_or_ge i items.size with h|h
  ·exact h
  ·rw[Array.getElem?_eq_none h]at hx;cases hx
 unfold pyNext
 refine aAB (aED (aBO (name:=Str.ofString "__next__") hit.typeIs dU
  (aBU dU hit.typeIs iF ?_ (jI _))))
 unfold Builtin.«reversed.__next__»
 refine aAB (aDE (a:=(Value.ref it,[])) rfl ?_)
 try dsimp only
 refine aAB (aBF ho hd (x:=.ref l) rfl ?_)
 refine aAB (aBF ho hd (x:=rawInt (i:Int)) rfl ?_)
 show wpAny _ _ (if(i:Int) < 0 then _ else _) _ _ s
 rw[aAJ (by lia)]
 show wpAny _ _ (specialOf (.ref l) (Str.ofString "__getitem__") >>= _) _ _ s
 refine aAB (aFJ hl.typeIs F.slot_tuple_getitem.lookup ?_)
 show wpAny _ _ (mkInt (i:Int) >>= _) _ _ s
 refine aAB (wpAny_mkInt ?_)
 refine aAB (aED (getItem_tuple (j:=i) (x:=x) hl (by lia) (by lia) ?_ hx ?_))
 ·rw[aGB (by lia) (by lia)];simp
 try dsimp only
 refine aAB (aBF ho hd (x:=rawInt (i:Int)) rfl ?_)
 show wpAny _ _ (setField _ _ _ >>= _) _ _ _
 refine aAB (aEM ho hd (by simp) ?_)
 refine aAD ⟨x,rfl,aAD (hQ _ _ ?_ (aDJ ..))⟩
 exact⟨_,aDT _ ho (aFG (aCR hd _)),(Obj.cls_mapFields ..).trans hc,by
  rw[aCR hd];simp⟩
theorem next_end(hh:A.handled=none)(hit:IsRvT s.heap it l (-1))
  (hQ:∀h',Heap.ExtBut it s.heap h'->Q none {s with heap:=h'}):wpAny (model prog w) A (pyNext (.ref it)) Q E s:=by
 obtain⟨o,ho,hc,hd⟩:=id hit
 unfold pyNext
 refine aAB (aED (aBO (name:=Str.ofString "__next__") hit.typeIs dU
  (aBU dU hit.typeIs iF ?_ (jI _))))
 unfold Builtin.«reversed.__next__»
 refine aAB (aDE (a:=(Value.ref it,[])) rfl ?_)
 try dsimp only
 refine aAB (aBF ho hd (x:=.ref l) rfl ?_)
 refine aAB (aBF ho hd (x:=rawInt (-1)) rfl ?_)
 show wpAny _ _ (if(-1:Int) < 0 then _ else _) _ _ s
 rw[aAH (by decide)]
 refine aAB (aDB ?_)
 refine aAB ?_
 show wpAny _ _ (setField (.ref it) 1 (rawInt (-1)) >>= _) _ _ _
 refine aAB (aEM ho hd (by simp) ?_)
 refine aEM (aDT _ ho (aFG (aCR hd _))) (aCR hd _) (by simp) ?_
 refine aAB ?_
 show wpAny _ _ (newExc (.type "StopIteration") [] >>= _) _ _ _
 refine aAB ?_
 simp only[newExc,newTuple]
 refine aAB (aBM ?_ (by size_fits))
 refine aAB (m:=firstArgMember _ _) (aDE (a:=Value.none) (by first|rfl|(simp only[firstArgMember];rfl)) ?_)
 refine aBM ?_ (by size_fits)
 simp only[raiseNew]
 refine aAB (wpAny_handled ?_)
 first|rw[show A.in1.handled=none from hh]|rw[hh]
 refine aAB (aAD (wpAny_throw ?_))
 refine aAB (aFD (T:="StopIteration") (b:=true) ⟨_,aAE _ rfl,rfl⟩ isSubtype_stop ?_)
 exact aAD (hQ _ ((((aDJ ..).extBut.trans (aDJ ..).extBut).push _).push _))
theorem iter_self{Q:Value->Shared->Prop}(hit:IsRvT s.heap it l i)(h:Q (.ref it) s):wpAny (model prog w) A (pyIter (.ref it)) Q E s:=by
 refine wpAny_pyIter_slot hit.typeIs jF (aBU jF hit.typeIs mD ?_ (nQ _))
 show wpAny _ _ (ret (.ref it)) _ _ s
 exact aAD ⟨_,rfl,"reversed",_,hit.typeIs,dU.lookup,h⟩
end RT
namespace L2
noncomputable def Itw(K:Frag)(a:Addr)(xs:List V):It :=
 ⟨λi H=>SqT K H a xs/\i < xs.length,λi H x H'=>H'=H/\xs[xs.length - 1 - i]?=some x,λi _=>xs.length<=i⟩
variable{tg:Expr}
theorem uD(a it:Addr)(xs:List V):Turn P w K tg (Itw K a xs) [it] it (λi h=>i<=xs.length/\RT.IsRvT h it a ((xs.length:Int) - 1 - (i:Int)))where
 mem:=by simp
 obj:=λi h st b hb=>by
  have e:b=it:=by simpa using hb
  subst e
  obtain⟨o,e,c,d⟩:=st.2
  exact⟨o,e,λv z=>by rw[d]at z;cases z⟩
 keep:=λi h h' st k=>⟨st.1,st.2.at λo e=>k it (by simp) o e⟩
 item:=by
  intro X hP hw hK hc i pins s σ H E I hf st hg
  subst hP hw hK
  obtain⟨hq,hx⟩:=hg
  obtain⟨its,rv,p,hz⟩:=I.tuple hq
  have hlt:xs.length - 1 - i < xs.length:=by lia
  have hx':xs[xs.length - 1 - i]?=some xs[xs.length - 1 - i]:=aBK hlt
  obtain⟨u,hu,ru⟩:=rv.get hx'
  obtain⟨f0,f1,f2,f3,f4,f5⟩:=hf it (by simp)
  have st2:=st.2
  have e1:(xs.length:Int) - 1 - (i:Int)=((xs.length - 1 - i:Nat):Int):=by lia
  rw[e1]at st2
  have hlen:=rv.length
  refine RT.next_item st2 p (by rw[aAG,<- hlen];have:sizeLine < 2 ^ 63:=by decide
                                lia) (x:=u) (by simpa using hu) λh' tk st' sb=>?_
  have I1:Inv X pins σ H {s with heap:=h',toks:=tk}:=I.turned (t':=tk) (λb o hb e=>(sb.2 b hb).trans e) f0 f1 f3 f4 f5
  have e2:((xs.length - 1 - i:Nat):Int) - 1=(xs.length:Int) - 1 - ((i+1:Nat):Int):=by lia
  rw[e2]at st'
  obtain⟨o,e,c,d⟩:=id st'
  exact⟨u,rfl,pE (s:={s with heap:=h',toks:=tk}) e c d (by decide) ⟨_,H,I1,ru,⟨rfl,hx'⟩,⟨hx,st'⟩,λb hb=>(hf b hb).1⟩⟩
 done:=by
  intro X hP hw hK hc i pins s σ H E I hf st hg
  subst hP hw hK
  have hx:xs.length<=i:=hg
  obtain⟨f0,f1,f2,f3,f4,f5⟩:=hf it (by simp)
  have st2:=st.2
  have h1:=st.1
  have e1:(xs.length:Int) - 1 - (i:Int) = -1:=by lia
  rw[e1]at st2
  exact RT.next_end (I.ok.hd hc) st2 λh' eb=>⟨rfl,I.turned (t':=s.toks) (λb o hb e=>eb b o hb e) f0 f1 f3 f4 f5⟩
 self:=λ_ _ _ _ _ st h=>RT.iter_self st.2 h
noncomputable def iRvE(K:Frag)(ta:TA):TI:=λσ H R=>ta σ H λvs H1=>∃a,vs=[.ref a]/\((∃xs,SqL K H1 a xs/\R (Itv K a xs) H1)\/(∃xs,SqT K H1 a xs/\R (Itw K a xs) H1))
theorem aBt{a:Expr}{ta:TA}(hg:Gl X "reversed")(hm:X.mg "reversed"=none)(ha:PA X [a] ta)(hs:starEach [a] X.env=[(false,eval a X.env)]:=by rfl):PI X tg (.Call (.Name "reversed" p) [a] [] pos) (iRvE X.K ta):=by
 intro pins s σ H R I h
 refine Call_ (jT I hg hm wO (aCI (thn (ha pos pins s σ H _ I h) λus s1 ⟨vs,H1,I1,r1,q1⟩=>?_) hs rfl))
 obtain⟨b,e,⟨xs,hq,q⟩|⟨xs,hq,q⟩⟩:=q1
 ·subst e
  cases r1 with
  |cons r rr =>
   cases rr
   cases r
   obtain⟨its,rv,p,hz⟩:=I1.list hq
   have hlen:=rv.length
   refine call_reversed_list p.isList (wpAny_pyIter_revIter ⟨_,aAE _ rfl,rfl,rfl⟩ ?_)
   have I2:Inv X pins σ H1 {s1 with heap:=s1.heap.push (revObj b ((its.toArray.size:Int) - 1))}:=I1.kept (t':=s1.toks) λb o e=>aAA _ e
   refine⟨s1.heap.objs.size,[s1.heap.objs.size],_,_,H1,rfl,I2,wL b _ xs,⟨aEW _,_,aAE _ rfl,rfl,?_⟩,λc hb=>?_,q⟩
   ·show Data.fields #[.ref b,rawInt ((its.toArray.size:Int) - 1)]=_
    rw[aAG,<- hlen]
    simp
   ·have e:c=s1.heap.objs.size:=by simpa using hb
    subst e
    exact I1.fpOk (aAF _) (I1.hok.fresh (aAF _))
 ·subst e
  cases r1 with
  |cons r rr =>
   cases rr
   cases r
   obtain⟨its,rv,p,hz⟩:=I1.tuple hq
   have hlen:=rv.length
   refine RT.call_rev_tuple p (by rw[aAG,<- hlen];have:sizeLine < 2 ^ 63:=by decide
                                  lia) (RT.iter_self (i:=(its.toArray.size:Int) - 1) ⟨_,aAE _ rfl,rfl,rfl⟩ ?_)
   have I2:Inv X pins σ H1 {s1 with heap:=s1.heap.push (RT.rvObj b ((its.toArray.size:Int) - 1)),toks:=s1.toks+1+1}:=I1.kept (t':=s1.toks+1+1) λb o e=>aAA _ e
   refine⟨s1.heap.objs.size,[s1.heap.objs.size],_,_,H1,rfl,I2,uD b _ xs,⟨aEW _,_,aAE _ rfl,rfl,?_⟩,λc hb=>?_,q⟩
   ·show Data.fields #[.ref b,rawInt ((its.toArray.size:Int) - 1)]=_
    rw[aAG,<- hlen]
    simp
   ·have e:c=s1.heap.objs.size:=by simpa using hb
    subst e
    exact I1.fpOk (aAF _) (I1.hok.fresh (aAF _))
end L2
namespace EV
open L2
noncomputable def iRv(f:FE):FI:=λL M=>(f L M).bind λw M1=>match w with
 |.d (.tup xs)=>.ok ⟨xs.reverse,none⟩ M1
 |.d (.lst xs)=>.ok ⟨xs.reverse,none⟩ M1
 |.d (.fz xs)=>.ok ⟨xs.reverse,none⟩ M1
 |_=>.bad
variable{K:Frag}{a:Expr}{tg:Expr}
theorem tD{ds:List D}{d:D}(r:Rps K μ H ds vs)(h:ds.reverse[i]?=some d):∃v,vs[vs.length - 1 - i]?=some v/\i < vs.length/\Rp K μ H d v:=by
 obtain⟨v,q1,q2⟩:=r.reverse.get h
 have hi:i < vs.length:=by
  have:=(aAC.mp q1).1
  simpa using this
 rw[List.getElem?_reverse hi]at q1
 exact⟨v,q1,hi,q2⟩
variable{p:Addr}
theorem wQ{ds:List D}(S:List Addr->Hp->Prop)(s0:S μ H)(sx:∀μ1 H1 μ2 H2,Lsts μ1 H1->S μ1 H1->Ext μ1 H1 μ2 H2->S μ2 H2)
  (rd:∀μ1 H1,S μ1 H1->SqL K H1 p vs/\Rps K μ1 H1 ds vs):ItOk K μ H ⟨ds.reverse,none⟩ (Itv K p vs):=by
 refine⟨S,s0,sx,λμ1 H1 M1 i hr hS hc=>?_⟩
 obtain⟨h1,r1⟩:=rd μ1 H1 hS
 refine⟨λd hd=>?_,λhl=>?_⟩
 ·obtain⟨v,q1,hi,q2⟩:=tD r1 hd
  refine⟨⟨h1,hi⟩,λx H2 y=>?_⟩
  obtain⟨rfl,y⟩:=y
  rw[q1]at y
  cases y
  exact⟨.refl,hr,q2⟩
 ·show vs.length<=i
  rw[<- r1.length]
  simpa using hl
theorem aDs{ds:List D}(S:List Addr->Hp->Prop)(s0:S μ H)(sx:∀μ1 H1 μ2 H2,Lsts μ1 H1->S μ1 H1->Ext μ1 H1 μ2 H2->S μ2 H2)
  (rd:∀μ1 H1,S μ1 H1->SqT K H1 p vs/\Rps K μ1 H1 ds vs):ItOk K μ H ⟨ds.reverse,none⟩ (Itw K p vs):=by
 refine⟨S,s0,sx,λμ1 H1 M1 i hr hS hc=>?_⟩
 obtain⟨h1,r1⟩:=rd μ1 H1 hS
 refine⟨λd hd=>?_,λhl=>?_⟩
 ·obtain⟨v,q1,hi,q2⟩:=tD r1 hd
  refine⟨⟨h1,hi⟩,λx H2 y=>?_⟩
  obtain⟨rfl,y⟩:=y
  rw[q1]at y
  cases y
  exact⟨.refl,hr,q2⟩
 ·show vs.length<=i
  rw[<- r1.length]
  simpa using hl
variable{p:Pos}
theorem wS(hm:X.mg "reversed"=none)(ha:Ev X K Z a f)(hg:Gl X "reversed":=by rfl)(hs:starEach [a] X.env=[(false,eval a X.env)]:=by rfl):Ei X K Z tg (.Call (.Name "reversed" p) [a] [] pos) (iRv f):=by
 have h':=aBt (tg:=tg) (p:=p) (pos:=pos) hg hm (cY ha.h fJ hs) hs
 rw[ha.k]at h'
 refine⟨ha.k,cqI h' ?_⟩
 rintro σ H R ⟨μ,M,L,hr,lr,p⟩
 refine⟨μ,M,L,hr,lr,p.bind.imp λμ1 H1 M1 w e1 hr1 _ p1 v rw'=>?_⟩
 cases w with
 |ref i=>exact p1.elim
 |ob _ _=>exact p1.elim
 |nest _=>exact p1.elim
 |d x=>cases x with
  |tup xs =>
   simp only[Rw,Rp]at rw'
   obtain⟨p,vs,rfl,h1,r1⟩:=rw'
   refine⟨p,rfl,.inr ⟨vs,SqT.of h1,p1 μ1 H1 .refl hr1 _ ?_⟩⟩
   refine aDs (λμ2 H2=>H2 p=some (.tup vs)/\Rps K μ2 H2 xs vs) ⟨h1,r1⟩ (λμ1 H1 μ2 H2 l z e=>⟨e.keep _ _ (λq=>by obtain⟨us,q,mq⟩:=l p q;rw[z.1]at q;cases q;exact mq) z.1,Rps.ext l e _ _ z.2⟩) λμ1 H1 z=>⟨SqT.of z.1,z.2⟩
  |lst xs =>
   simp only[Rw,Rp]at rw'
   obtain⟨p,vs,rfl,h1,hn,r1⟩:=rw'
   refine⟨p,rfl,.inl ⟨vs,SqL.of h1,p1 μ1 H1 .refl hr1 _ ?_⟩⟩
   refine wQ (λμ2 H2=>H2 p=some (.lst vs)/\p∉μ2/\Rps K μ2 H2 xs vs) ⟨h1,hn,r1⟩ (λμ1 H1 μ2 H2 l z e=>⟨e.keep _ _ z.2.1 z.1,λq=>(e.new p q).elim z.2.1 (λq=>by rw[z.1]at q;cases q),Rps.ext l e _ _ z.2.2⟩) λμ1 H1 z=>⟨SqL.of z.1,z.2.2⟩
  |fz xs =>
   simp only[Rw,Rp]at rw'
   obtain⟨p,vs,rfl,h1,r1⟩:=rw'
   refine⟨p,rfl,.inl ⟨vs,h1.sq,p1 μ1 H1 .refl hr1 _ ?_⟩⟩
   refine wQ (λμ2 H2=>FzL K H2 p vs/\Rps K μ2 H2 xs vs) ⟨h1,r1⟩ (λμ1 H1 μ2 H2 l z e=>⟨z.1.ext l e,Rps.ext l e _ _ z.2⟩) λμ1 H1 z=>⟨z.1.sq,z.2⟩
  |_=>exact p1.elim
variable{K:Frag}
noncomputable def rInts(n:Nat):List Int:=(List.range n).map λk=>(0:Int)+(k:Nat)
variable{n:Nat}
theorem vF:rngD 0 n=(rInts n).map D.int:=by unfold rngD rInts;rw[aEJ];rfl
noncomputable section
def rLR:List V->Hp->VK->Prop:=λxs H Q=>∃p j,xs=[.ref p]/\H p=some (.rng 0 j)/\0<=j/\j<=16777216/\∀l,H l=none->Q (.ref l) (upd H l (.lst ((rInts j.toNat).map V.int)))
theorem gZ{acc:Array Value}(h:ItemsOf (λi v=>∃t,v=.int ((0:Int)+i*1) t) acc n):Vals ((rInts n).map V.int) acc.toList:=by
 have key:∀(l:List Value) (k:Nat),(∀j v,l[j]?=some v->∃t,v=Value.int ((0:Int)+((k+j:Nat):Int)) t)->Vals ((List.range' k l.length).map λi=>V.int ((0:Int)+(i:Nat))) l:=by
  intro l
  induction l with
  |nil=>intro k _;exact .nil
  |cons x r ih =>
   intro k hk
   rw[aBT,List.range'_succ,aAQ]
   refine .cons ?_ (ih (k+1) λj v e=>?_)
   ·obtain⟨t,e⟩:=hk 0 x rfl
    exact⟨t,by simpa using e⟩
   ·obtain⟨t,e'⟩:=hk (j+1) v (by simpa using e)
    exact⟨t,by rw[e'];congr 2;lia⟩
 have hl:acc.toList.length=n:=h.1
 have:=key acc.toList 0 λj v e=>by
  obtain⟨t,e'⟩:=h.2 j v (by simpa using e)
  exact⟨t,by rw[e'];first|rfl|(congr 1 <;> lia)⟩
 rw[hl]at this
 unfold rInts
 rw[aEJ,List.range_eq_range']
 exact this
theorem mE(hc:X.calm=true):CallR X (.type "list") rLR:=by
 intro pins s σ H xs us Q I r h
 obtain⟨p,j,rfl,hq,h0,h1,q⟩:=h
 obtain⟨u,rfl,rx⟩:=vals1 r
 cases rx
 obtain⟨t,u,v,ho⟩:=(show ObjOk X.prog X.w H s.heap p (.rng 0 j)from I.hok p _ hq)
 refine call_list_range (n:=j.toNat) (I.ok.hd hc) ho (small_one (by lia) (by lia) (by lia) (by lia)) (by rw[rangeSize_one];split <;> lia) (by lia) λh' tk acc' c' kp hS hacc=>?_
 refine⟨.ref s.heap.objs.size,_,I.laid (t':=tk) kp (aAF _) (show ObjOk X.prog X.w _ h' _ (.lst ((rInts j.toNat).map V.int))from⟨by rw[aBB];simp[rInts];lia,acc'.toList,c',gZ hacc,by simpa using hS⟩),rfl,q _ (I.hok.fresh (aAF _))⟩
def cLRR(w:W)(M:Mm):Oc W:=match w with
 |.d (.int j)=>if 0<=j/\j<=16777216 then .ok (.ref M.length) (M++[rngD 0 j.toNat])else .bad
 |_=>.bad
abbrev eListRange1R(f:FE):FE:=e1 cLRR f
end
theorem pT:bootBuiltins "range"=some (.type "range"):=by first|rfl|kernel_rfl
theorem sK:bootBuiltins "list"=some (.type "list"):=by first|rfl|kernel_rfl
theorem zC{t:TE}{p:Pos}(hc:X.calm=true)(hm:X.mg "list"=none)(hm2:X.mg "range"=none)(ha:PE X a t)(hg:Gl X "list")(hg2:Gl X "range")(hs:starEach [a] X.env=[(false,eval a X.env)])
  (hs2:starEach [.Call (.Name "range" p2) [a] [] pos2] X.env=[(false,eval (.Call (.Name "range" p2) [a] [] pos2) X.env)]) :
  PE X (.Call (.Name "list" p) [.Call (.Name "range" p2) [a] [] pos2] [] pos) (λσ H Q=>t σ H λv H1=>∃j,[v]=[V.int j]/\∀p,H1 p=none->rLR [.ref p] (upd H1 p (.rng 0 j)) Q) :=
 iA (mE hc) hg hm sK (cY (iA pZ hg2 hm2 pT (cY ha fJ hs) (by decide) (by decide) hs rfl) fJ hs2) (by decide) (by decide) hs2 rfl
theorem wA{Q:VK}{j:Int}{o:Oc W}(hr:HR K μ H M)(p:Pst K Z μ H o (Wk K Q))(h0:0<=j)(h1:j<=16777216)(ho:∀(H':Hp),HR K μ H' M->Pst K Z μ H' o (Wk K Q)->∀l,H' l=none->Q (.ref l) (upd H' l (.lst ((rInts j.toNat).map V.int)))) :
  ∃j',[V.int j]=[V.int j']/\∀p,H p=none->rLR [.ref p] (upd H p (.rng 0 j')) Q :=
 ⟨j,rfl,λq hq=>⟨q,j,rfl,bS,h0,h1,ho _ (hr.lay hq) (Pst.mono (eG hr hq) p)⟩⟩
theorem kS(hc:X.calm=true)(hm:X.mg "list"=none)(hm2:X.mg "range"=none)(ha:Ev X K Z a f)(hg:Gl X "list":=by rfl)(hg2:Gl X "range":=by rfl)(hs:starEach [a] X.env=[(false,eval a X.env)]:=by rfl)
  (hs2:starEach [.Call (.Name "range" p2) [a] [] pos2] X.env=[(false,eval (.Call (.Name "range" p2) [a] [] pos2) X.env)]:=by rfl):Ev X K Z (.Call (.Name "list" p) [.Call (.Name "range" p2) [a] [] pos2] [] pos) (eListRange1R f):=by
 refine⟨ha.k,cqE (zC hc hm hm2 ha.h hg hg2 hs hs2) ?_⟩
 rintro σ H Q ⟨μ,M,L,hr,lr,p⟩
 refine⟨μ,M,L,hr,lr,p.bind.imp λμ1 H1 M1 w e1 hr1 _ p1 v rw'=>?_⟩
 cases w with
 |ref i=>exact p1.elim
 |ob _ _=>exact p1.elim
 |nest _=>exact p1.elim
 |d x=>cases x with
  |int j =>
   simp only[cLRR]at p1
   split at p1
   ·rename_i hz
    simp only[Rw,Rp]at rw'
    subst rw'
    exact wA hr1 p1 hz.1 hz.2 λH' hr' p'=>nZ hr' Rps.ints (by rw[vF]at p';exact p')
   ·exact p1.elim
  |_=>exact p1.elim
end EV
end
variable{QI:EV.Src->EV.Mm->Prop}
namespace EV
open PySem L2
@[irreducible] noncomputable def Okx(EX:D->Mm->Prop)(o:Oc α)(Q:α->Mm->Prop):Prop:=match o with
 |.ok a M=>Q a M
 |.ex x M=>EX x M
 |.bad=>False
noncomputable abbrev NX:D->Mm->Prop:=λ_ _=>False
noncomputable abbrev Ok(o:Oc α)(Q:α->Mm->Prop):Prop:=Okx NX o Q
variable{α β:Type}{EX EX':D->Mm->Prop}{o o':Oc α}{Q Q':α->Mm->Prop}{a:α}
theorem iC:Okx EX o Q ↔ (∃a M,o=.ok a M/\Q a M)\/∃x M,o=.ex x M/\EX x M:=by
 unfold Okx
 cases o with
 |ok a M=>exact⟨λh=>.inl ⟨a,M,rfl,h⟩,λh=>by rcases h with⟨_,_,e,q⟩|⟨_,_,e,q⟩ <;> cases e;exact q⟩
 |ex x M=>exact⟨λh=>.inr ⟨x,M,rfl,h⟩,λh=>by rcases h with⟨_,_,e,q⟩|⟨_,_,e,q⟩ <;> cases e;exact q⟩
 |bad=>exact⟨λh=>h.elim,λh=>by rcases h with⟨_,_,e,q⟩|⟨_,_,e,q⟩ <;> cases e⟩
theorem lH:Ok o Q ↔ ∃a M,o=.ok a M/\Q a M:=by
 refine Iff.trans (iC (EX:=NX)) ⟨λh=>?_,.inl⟩
 rcases h with h|⟨_,_,_,q⟩
 ·exact h
 ·exact q.elim
theorem aK(q:Q a M):Okx EX (.ok a M) Q:=iC.mpr (.inl ⟨a,M,rfl,q⟩)
theorem lZ{x:D}(q:EX x M):Okx EX (.ex x M:Oc α) Q:=iC.mpr (.inr ⟨x,M,rfl,q⟩)
theorem aL{k:α->Mm->Oc β}{Q:β->Mm->Prop}(h:Okx EX o λa M=>Okx EX (k a M) Q):Okx EX (o.bind k) Q:=by
 rcases iC.mp h with⟨a,M,rfl,q⟩|⟨x,M,rfl,q⟩
 ·exact q
 ·exact lZ q
theorem Okx.mono(h:Okx EX o Q)(f:∀a M,Q a M->Q' a M):Okx EX o Q':=by
 rcases iC.mp h with⟨a,M,rfl,q⟩|⟨x,M,rfl,q⟩
 ·exact aK (f _ _ q)
 ·exact lZ q
theorem Okx.monoX(h:Okx EX o Q)(f:∀a M,Q a M->Q' a M)(g:∀x M,EX x M->EX' x M):Okx EX' o Q':=by
 rcases iC.mp h with⟨a,M,rfl,q⟩|⟨x,M,rfl,q⟩
 ·exact aK (f _ _ q)
 ·exact lZ (g _ _ q)
theorem Ok.mono(h:Ok o Q)(f:∀a M,Q a M->Q' a M):Okx EX o Q':=Okx.monoX h f λ_ _ z=>z.elim
variable{EX:D->Mm->Prop}{c:Bool}
theorem aAe{a b:Oc α}{Q:α->Mm->Prop}(h1:c=true->Okx EX a Q)(h2:c=false->Okx EX b Q):Okx EX (if c=true then a else b) Q:=by cases c <;> simp_all
variable{p:Prop}
theorem lO[Decidable p]{a b:Oc α}{Q:α->Mm->Prop}(h1:p->Okx EX a Q)(h2:¬p->Okx EX b Q):Okx EX (if decide p=true then a else b) Q:=by by_cases h:p <;> simp_all
theorem sC[Decidable p]{a b:Oc α}{Q:α->Mm->Prop}(h1:p->Okx EX b Q)(h2:¬p->Okx EX a Q):Okx EX (if(!decide p)=true then a else b) Q:=by by_cases h:p <;> simp_all
theorem wZ{a b:Oc α}{Q:α->Mm->Prop}(h:c=true)(h1:Okx EX a Q):Okx EX (if c=true then a else b) Q:=by rw[aAH h];exact h1
theorem qW{a b:Oc α}{Q:α->Mm->Prop}(h:c=false)(h1:Okx EX b Q):Okx EX (if c=true then a else b) Q:=by rw[aAJ (by simp[h])];exact h1
section
variable{i j:Nat}{w x y:W}{Q:W->Mm->Prop}{QA:List W->Mm->Prop}{QT:Bool->Mm->Prop}{g h:FE}{G:FS}{t u:FT}{fs:FA}{gg:FG}
theorem aFj(h:L[i]?=some (some w))(q:Q w M):Okx EX (eV i L M) Q:=by unfold eV;rw[h];exact aK q
theorem aFi{d:D}(q:Q (.d d) M):Okx EX (eC d L M) Q:=aK q
theorem yC(q:Q (.d (.lst (ns.map D.int))) M):Okx EX (eInts ns L M) Q:=aK q
theorem aEx{p:W->Mm->Oc W}(h:Okx EX (f L M) λx M1=>Okx EX (p x M1) Q):Okx EX (e1 p f L M) Q:=aL h
theorem aEl{p:W->W->Mm->Oc W}(h:Okx EX (f L M) λx M1=>Okx EX (g L M1) λy M2=>Okx EX (p x y M2) Q):Okx EX (e2 p f g L M) Q:=aL (h.mono λ_ _ z=>aL z)
theorem aFk{p:List W->Mm->Oc W}(h:Okx EX (fs L M) λws M1=>Okx EX (p ws M1) Q):Okx EX (eA p fs L M) Q:=aL h
theorem aEd(q:QA [] M):Okx EX (aNil L M) QA:=aK q
theorem aEh(h:Okx EX (f L M) λw M1=>Okx EX (fs L M1) λws M2=>QA (w::ws) M2):Okx EX (aCons f fs L M) QA:=aL (h.mono λ_ _ z=>aL (z.mono λ_ _ z=>aK z))
theorem aDx(h:Okx EX (f L M) λw M1=>∃b,w=.d (.bl b)/\QT b M1):Okx EX (EV.tB f L M) QT:=aL (h.mono λw M1 ⟨b,e,q⟩=>by subst e;exact aK q)
theorem aDz(h:Okx EX (f L M) λw M1=>∃b,tru M1 w=some b/\QT b M1):Okx EX (tV f L M) QT:=aL (h.mono λw M1 ⟨b,e,q⟩=>by rw[e];exact aK q)
theorem zL(h:Okx EX (t L M) λb M1=>(b=true->Okx EX (u L M1) QT)/\(b=false->QT false M1)):Okx EX (EV.tAnd t u L M) QT:=aL (h.mono λb M1 ⟨h1,h2⟩=>by cases b with|true=>exact h1 rfl|false=>exact aK (h2 rfl))
theorem aCf(h:Okx EX (t L M) λb M1=>(b=true->QT true M1)/\(b=false->Okx EX (u L M1) QT)):Okx EX (EV.tOr t u L M) QT:=aL (h.mono λb M1 ⟨h1,h2⟩=>by cases b with|true=>exact aK (h1 rfl)|false=>exact h2 rfl)
theorem xS(q:QT true M):Okx EX (EV.tYes L M) QT:=aK q
theorem aCl(q:QS (.nx L) M):Okx EX (sNil L M) QS:=aK q
theorem rY(h:Okx EX (F L M) λo M1=>match o with
 |.nx L1=>Okx EX (G L1 M1) QS
 |.bk L1=>QS (.bk L1) M1
 |.ct L1=>QS (.ct L1) M1
 |.rt w=>QS (.rt w) M1):Okx EX (sSeq F G L M) QS:=aL (h.mono λo M1 z=>by cases o with|nx L1=>exact z|bk L1=>exact aK z|ct L1=>exact aK z|rt w=>exact aK z)
theorem aEp(h:Okx EX (f L M) λ_ M1=>QS (.nx L) M1):Okx EX (sEx f L M) QS:=aL (h.mono λ_ _ z=>aK z)
theorem aEc(h:Okx EX (f L M) λw M1=>QS (.rt w) M1):Okx EX (sRt f L M) QS:=aL (h.mono λ_ _ z=>aK z)
theorem rC(h:Okx EX (t L M) λb M1=>Okx EX (if b=true then F L M1 else G L M1) QS):Okx EX (sIf t F G L M) QS:=aL h
theorem aCk(h:Okx EX (f L M) λw M1=>Okx EX (gg w L M1) λL1 M2=>QS (.nx L1) M2):Okx EX (sAs f gg L M) QS:=aL (h.mono λ_ _ z=>aL (z.mono λ_ _ z=>aK z))
theorem yO(h:Okx EX (fs L M) λws M1=>∃v w,ws=[v,w]/\QS (.nx ((L.set i (some v)).set j (some w))) M1):Okx EX (sPar i j fs L M) QS:=aL (h.mono λws M1 ⟨v,w,e,q⟩=>by subst e;exact aK q)
theorem uA(q:QG (L.set i (some w)) M):Okx EX (gN i w L M) QG:=aK q
variable{n:Nat}{gs:FGs}
theorem aEe{xs:List D}(hn:xs.length=n)(h:Okx EX (gs xs L M) QG):Okx EX (gT n gs (.d (.tup xs)) L M) QG:=by unfold gT;simp only;rw[aAH hn];exact h
theorem aAl(q:QG L M):Okx EX (gsNil [] L M) QG:=aK q
theorem aDi{d:D}{ds:List D}(h:Okx EX (gg (.d d) L M) λL1 M1=>Okx EX (gs ds L1 M1) QG):Okx EX (gsCons gg gs (d::ds) L M) QG:=aL h
theorem aEo{d:D}(h:Okx EX (f L M) λo M1=>Okx EX (g L M1) λi M2=>∃k j xs t,o=.ref k/\i=.d (.int j)/\M2[k]?=some xs/\ixN xs.length j=some t/\QG L (M2.set k (xs.set t d))):Okx EX (gS f g (.d d) L M) QG:=by
 refine aL (h.mono λo M1 z=>aL (z.mono λi M2 ⟨k,j,xs,t,e1,e2,e3,e4,q⟩=>?_))
 subst e1 e2
 simp only[e3,e4]
 exact aK q
theorem aFa{c:Int->Int->Bool}{gg:Int->Int->D}{i j:Int}(hc:c i j=true)(q:Q (.d (gg i j)) M):Okx EX (pI c gg (.d (.int i)) (.d (.int j)) M) Q:=by unfold pI;simp only;rw[aAH hc];exact aK q
theorem aBx{i j:Int}(q:Q (.d (.int (i+j))) M):Okx EX (pAdd (.d (.int i)) (.d (.int j)) M) Q:=aK q
theorem cJ{xs ys:List D}(hz:xs.length+ys.length<=16777216)(q:Q (.d (.tup (xs++ys))) M):Okx EX (pAdd (.d (.tup xs)) (.d (.tup ys)) M) Q:=by unfold pAdd;simp only;rw[aAH hz];exact aK q
theorem yI{xs ys:List D}(h1:lv M x=some xs)(h2:lv M y=some ys)(hz:xs.length+ys.length<=16777216)(q:Q (.d (.lst (xs++ys))) M):Okx EX (pAdd x y M) Q:=by
 have:pAdd x y M=.ok (.d (.lst (xs++ys))) M:=by
  cases x with
  |ref i=>simp only[pAdd,h1,h2];rw[aAH hz]
  |ob _ i=>simp only[pAdd,h1,h2];rw[aAH hz]
  |nest i=>simp only[pAdd,h1,h2];rw[aAH hz]
  |d a=>cases a <;> simp only[lv,reduceCtorEq]at h1
        cases y with
        |ref i=>cases h1;simp only[lv]at h2;simp only[pAdd,lv,h2];rw[aAH hz]
        |ob _ i=>simp[lv]at h2
        |nest i=>simp[lv]at h2
        |d b=>cases b <;> simp only[lv,reduceCtorEq]at h2
              simp only[pAdd,lv];cases h1;cases h2;rw[aAH hz]
 rw[this];exact aK q
theorem aAr{i j:Int}(hz:mulOk i j=true)(q:Q (.d (.int (i*j))) M):Okx EX (pMulA (.d (.int i)) (.d (.int j)) M) Q:=by unfold pMulA pMul;simp only;rw[aAH hz];exact aK q
variable{k:Int}
theorem zG{xs:List D}(hz:xs.length*k.toNat<=16777216/\k < 9223372036854775808 /\ -9223372036854775808<=k)(q:Q (.d (.tup (List.replicate k.toNat xs).flatten)) M):Okx EX (pMulA (.d (.tup xs)) (.d (.int k)) M) Q:=by
 unfold pMulA;simp only;rw[aAH hz];exact aK q
theorem aCc{i:Int}(q:Q (.d (.int (-i))) M):Okx EX (pNeg (.d (.int i)) M) Q:=aK q
theorem zZ{a b:D}(h1:wd M x=some a)(h2:wd M y=some b)(hd:dep a<=100/\dep b<=100)(q:Q (.d (.bl (eqD a b))) M):Okx EX (pEq x y M) Q:=by unfold pEq;rw[h1,h2];simp only;rw[aAH hd];exact aK q
theorem wP{a b:D}(h1:wd M x=some a)(h2:wd M y=some b)(hd:dep a<=100/\dep b<=100)(q:Q (.d (.bl (!eqD a b))) M):Okx EX (pNe x y M) Q:=by unfold pNe;rw[h1,h2];simp only;rw[aAH hd];exact aK q
theorem aDl{i j:Int}(q:Q (.d (.bl (decide (i=j)))) M):Okx EX (pEq (.d (.int i)) (.d (.int j)) M) Q:=zZ rfl rfl (by simp[dep]) (by simp only[eqD];exact q)
theorem aBh{i j:Int}(q:Q (.d (.bl (!decide (i=j)))) M):Okx EX (pNe (.d (.int i)) (.d (.int j)) M) Q:=wP rfl rfl (by simp[dep]) (by simp only[eqD];exact q)
theorem aCp{a b:Str}(q:Q (.d (.bl (a==b))) M):Okx EX (pEq (.d (.str a)) (.d (.str b)) M) Q:=zZ rfl rfl (by simp[dep]) (by simpa only[eqD]using q)
theorem aAp{a b:Str}(q:Q (.d (.bl (!(a==b)))) M):Okx EX (pNe (.d (.str a)) (.d (.str b)) M) Q:=wP rfl rfl (by simp[dep]) (by simpa only[eqD]using q)
theorem aEf(q:Q (.d (.bl (isN x))) M):Okx EX (pIs x (.d .non) M) Q:=aK q
theorem aEz{neg:Bool}{d:D}{xs:List D}(h:sv M y=some xs)(hf:flatD d=true)(hx:xs.all flatD=true)(q:Q (.d (.bl (if neg then !(xs.any λy=>eqD y d)else xs.any λy=>eqD y d))) M):Okx EX (pInG neg (.d d) y M) Q:=by
 unfold pInG;rw[h];simp only;rw[aAH ⟨hf,hx⟩];exact aK q
theorem nK{xs:List D}{d:D}(h:atI xs k=some d)(q:Q (.d d) M):Okx EX (pIx (.d (.tup xs)) (.d (.int k)) M) Q:=by unfold pIx;simp only[sv,h];exact aK q
theorem wB{xs:List D}{d:D}(hs:∀z,x≠.d (.str z))(h1:sv M x=some xs)(h:atI xs k=some d)(q:Q (.d d) M):Okx EX (pIx x (.d (.int k)) M) Q:=by
 have:pIx x (.d (.int k)) M=.ok (.d d) M:=by
  cases x with
  |ref i=>simp only[pIx,h1,h]
  |ob _ i=>simp only[pIx,h1,h]
  |nest i=>simp only[pIx,h1,h]
  |d a=>cases a <;> first|(exact(hs _ rfl).elim)|(simp only[pIx,h1,h])
 rw[this];exact aK q
theorem dM{xs:List D}{d:D}(h:atI xs k=some d)(q:Q (.d d) M):Okx EX (pIx (.d (.lst xs)) (.d (.int k)) M) Q:=wB (by simp) rfl h q
theorem rT{xs:List D}{d:D}(h:atI xs k=some d)(q:Q (.d d) M):Okx EX (pIx (.d (.fz xs)) (.d (.int k)) M) Q:=wB (by simp) rfl h q
variable{b:Nat}
theorem jM{xs:List D}{d:D}(h1:M[b]?=some xs)(h:atI xs k=some d)(q:Q (.d d) M):Okx EX (pIx (.ref b) (.d (.int k)) M) Q:=wB (by simp) h1 h q
theorem aBr{ws:List W}{ds:List D}(h:allD ws=some ds)(hz:ds.length<=16777216)(q:Q (.d (.tup ds)) M):Okx EX (mkT ws M) Q:=by unfold mkT;rw[h];simp only;rw[aAH hz];exact aK q
theorem aCo{ws:List W}{ds:List D}(h:allD ws=some ds)(hz:ds.length<=16777216)(q:Q (.d (.lst ds)) M):Okx EX (mkL ws M) Q:=by unfold mkL;rw[h];simp only;rw[aAH hz];exact aK q
theorem aDj{ws:List W}{ds:List D}(h:allD ws=some ds)(hz:ds.length<=16777216)(q:Q (.ref M.length) (M++[ds])):Okx EX (mkR ws M) Q:=by unfold mkR;rw[h];simp only;rw[aAH hz];exact aK q
theorem aBd{xs:List D}(hs:∀z,x≠.d (.str z))(h:sv M x=some xs)(q:Q (.d (.int xs.length)) M):Okx EX (cLen [x] M) Q:=by
 have:cLen [x] M=.ok (.d (.int xs.length)) M:=by
  cases x with
  |ref i=>simp only[cLen,h]
  |ob _ i=>simp only[cLen,h]
  |nest i=>simp only[cLen,h]
  |d a=>cases a <;> first|(exact(hs _ rfl).elim)|(simp only[cLen,h])
 rw[this];exact aK q
theorem zR{xs:List D}(q:Q (.d (.int xs.length)) M):Okx EX (cLen [.d (.lst xs)] M) Q:=aK q
theorem xX{xs:List D}(q:Q (.d (.int xs.length)) M):Okx EX (cLen [.d (.fz xs)] M) Q:=aK q
theorem tU{xs:List D}(h:M[b]?=some xs)(q:Q (.d (.int xs.length)) M):Okx EX (cLen [.ref b] M) Q:=aBd (by simp) h q
theorem yU{b:Bool}(q:Q (.d (.int (if b=true then 1 else 0))) M):Okx EX (cInt [.d (.bl b)] M) Q:=aK q
theorem aDh{l:Int}(q:Q (.d (.int (if l < k then l else k))) M):Okx EX (cMin2 [.d (.int k),.d (.int l)] M) Q:=aK q
theorem fK{xs:List D}(h:sv M x=some xs)(q:Q (.d (.tup xs)) M):Okx EX (cTup [x] M) Q:=by unfold cTup;simp only[h];exact aK q
theorem sZ{xs:List D}(h:sv M x=some xs)(q:Q (.ref M.length) (M++[xs])):Okx EX (cListR [x] M) Q:=by unfold cListR;simp only[h];exact aK q
theorem aEu{p:W->W->Mm->Oc W}(h:Okx EX (f L M) λx M1=>∃k,x=.ref k/\Okx EX (g L M1) λy M2=>Okx EX (p (.ref k) y M2) Q):Okx EX (eM1 p f g L M) Q:=aL (h.mono λx M1 ⟨k,e,z⟩=>by subst e;exact aL z)
theorem fE{k:Nat}{d:D}{xs:List D}(h:M[k]?=some xs)(hz:xs.length < 16777216)(q:Q (.d .non) (M.set k (xs++[d]))):Okx EX (pAppend (.ref k) (.d d) M) Q:=by unfold pAppend;simp only[h];rw[aAH hz];exact aK q
theorem aEr{fl fh:FO}(z:Okx EX (f L M) λx M1=>Okx EX (fl L M1) λlo M2=>Okx EX (fh L M2) λhi M3=>Okx EX (pSl x lo hi M3) Q):Okx EX (eSl f fl fh L M) Q:=aL (z.mono λ_ _ z=>aL (z.mono λ_ _ z=>aL z))
theorem aAx(q:QO none M):Okx EX (oNo L M) QO:=aK q
theorem aBw(h:Okx EX (f L M) λw M1=>∃k,w=.d (.int k)/\QO (some k) M1):Okx EX (oAt f L M) QO:=aL (h.mono λw M1 ⟨k,e,q⟩=>by subst e;exact aK q)
theorem aDg{xs:List D}(q:Q (.d (.tup (cut xs lo hi))) M):Okx EX (pSl (.d (.tup xs)) lo hi M) Q:=aK q
variable{fi:FI}{B:FS}
theorem aDe(h:Okx EX (fi L M) λs M1=>Okx EX (forD s gg B s.ds L M1) QS):Okx EX (sFor fi gg B L M) QS:=aL h
theorem aFc{s:Src}(h:Okx EX (f L M) λw M1=>∃s,srcOf M1 w=some s/\QI s M1):Okx EX (iE f L M) QI:=aL (h.mono λw M1 ⟨s,e,q⟩=>by rw[e];exact aK q)
theorem aDu(h:Okx EX (f L M) λw M1=>∃j,w=.d (.int j)/\in62 j=true/\QI ⟨rngD 0 j.toNat,none⟩ M1):Okx EX (iR1 f L M) QI:=aL (h.mono λw M1 ⟨j,e,hz,q⟩=>by subst e;simp only;rw[aAH hz];exact aK q)
theorem aDf(h:Okx EX (f L M) λw M1=>Okx EX (g L M1) λu M2=>∃i j,w=.d (.int i)/\u=.d (.int j)/\(in62 i=true/\in62 j=true)/\QI ⟨rngD i (j - i).toNat,none⟩ M2):Okx EX (iR2 f g L M) QI :=
 aL (h.mono λw M1 z=>aL (z.mono λu M2 ⟨i,j,e1,e2,hz,q⟩=>by subst e1 e2;simp only;rw[aAH hz];exact aK q))
theorem cF{s:Src}(I:Nat->Lc->Mm->Prop)(h0:I 0 L M)(hc:∀i L M,i<=s.ds.length->I i L M->Chk s M)
  (hs:∀i d L M,s.ds[i]?=some d->I i L M->Okx EX (gg (.d d) L M) λL1 M1=>Okx EX (B L1 M1) λo M2=>match o with
   |.nx L2=>I (i+1) L2 M2
   |.ct L2=>I (i+1) L2 M2
   |.bk L2=>QS (.nx L2) M2
   |.rt w=>QS (.rt w) M2)(hd:∀L M,I s.ds.length L M->QS (.nx L) M):Okx EX (forD s gg B s.ds L M) QS:=by
 have key:∀k i L M,s.ds.length - i=k->i<=s.ds.length->I i L M->Okx EX (forD s gg B (s.ds.drop i) L M) QS:=by
  intro k
  induction k with
  |zero =>
   intro i L M e hi hI
   have:i=s.ds.length:=by lia
   subst this
   rw[aDQ (aAF _)]
   unfold forD
   rw[aAH (hc _ L M (aAF _) hI)]
   exact aK (hd L M hI)
  |succ k ih =>
   intro i L M e hi hI
   have hlt:i < s.ds.length:=by lia
   rw[aDD hlt]
   unfold forD
   rw[aAH (hc _ L M hi hI)]
   refine aL ((hs i s.ds[i] L M (by simp[hlt]) hI).mono λL1 M1 z=>aL (z.mono λo M2 z=>?_))
   cases o with
   |nx L2=>exact ih (i+1) L2 M2 (by lia) (by lia) z
   |ct L2=>exact ih (i+1) L2 M2 (by lia) (by lia) z
   |bk L2=>exact aK z
   |rt w=>exact aK z
 simpa using key s.ds.length 0 L M (by lia) (by lia) h0
theorem gW(I:Nat->Lc->Mm->Prop)(hs:∀m L M,I m L M->Okx EX (t L M) λb M1=>(b=true->Okx EX (B L M1) λo M2=>match o with
   |.nx L2=>∃m',m' < m/\I m' L2 M2
   |.ct L2=>∃m',m' < m/\I m' L2 M2
   |.bk L2=>QS (.nx L2) M2
   |.rt w=>QS (.rt w) M2)/\(b=false->QS (.nx L) M1)):∀(n m:Nat) (L:Lc) (M:Mm),I m L M->m < n->Okx EX (whileD t B n L M) QS:=by
 intro n
 induction n with
 |zero=>intro m L M _ h;lia
 |succ n ih =>
  intro m L M hI hm
  unfold whileD
  refine aL ((hs m L M hI).mono λb M1 ⟨h1,h2⟩=>?_)
  cases b with
  |false=>exact aK (h2 rfl)
  |true =>
   refine aL ((h1 rfl).mono λo M2 z=>?_)
   cases o with
   |nx L2=>obtain⟨m',l,z⟩:=z;exact ih m' L2 M2 z (by lia)
   |ct L2=>obtain⟨m',l,z⟩:=z;exact ih m' L2 M2 z (by lia)
   |bk L2=>exact aK z
   |rt w=>exact aK z
theorem dY{c:FT}(I:Nat->List D->Lc->Mm->Prop)
  (h:Okx EX (fi L M) λs M1=>(I 0 [] (outL js L) M1/\(∀i acc L M,i<=s.ds.length->I i acc L M->M.length=M1.length/\Chk s (M++[acc])/\acc.length<=i)/\s.ds.length<=16777216 /\
   (∀i d acc L M,s.ds[i]?=some d->I i acc L M->Ok (gg (.d d) L (M++[acc])) λL1 M2=>Ok (c L1 M2) λb M3=>(b=true->Ok (f L1 M3) λw M4=>∃x M5,w=.d x/\M4=M5++[acc]/\I (i+1) (acc++[x]) L1 M5)/\(b=false->∃M5,M3=M5++[acc]/\I (i+1) acc L1 M5)) /\
   (∀acc L M,I s.ds.length acc L M->Q (.d (.lst acc)) M))):Okx EX (eComp js fi gg c f L M) Q:=by
 unfold eComp compT
 refine aL (aL (h.mono λs M1 ⟨h0,hc,hz,hs,hd⟩=>?_))
 have key:∀k i acc L M,s.ds.length - i=k->i<=s.ds.length->I i acc L M->∃acc' L' M',compD M1.length s gg c f (s.ds.drop i) L (M++[acc])=.ok () (M'++[acc'])/\I s.ds.length acc' L' M':=by
  intro k
  induction k with
  |zero =>
   intro i acc L M e hi hI
   have:i=s.ds.length:=by lia
   subst this
   rw[aDQ (aAF _)]
   unfold compD
   rw[aAH (hc _ acc L M (aAF _) hI).2.1]
   exact⟨acc,L,M,rfl,hI⟩
  |succ k ih =>
   intro i acc L M e hi hI
   have hlt:i < s.ds.length:=by lia
   rw[aDD hlt]
   unfold compD
   obtain⟨hl,hch,hal⟩:=hc _ acc L M hi hI
   rw[aAH hch]
   obtain⟨L1,M2,e1,hh⟩:=lH.mp (hs i s.ds[i] acc L M (by simp[hlt]) hI)
   obtain⟨L1',M3,e2,h1,h2⟩:=lH.mp hh
   rw[e1]
   simp only[fP]
   rw[e2]
   simp only[fP]
   cases L1' with
   |false =>
    obtain⟨M5,e3,hI'⟩:=h2 rfl
    subst e3
    simp only[aDM,aFC]
    exact ih (i+1) acc L1 M5 (by lia) (by lia) hI'
   |true =>
    obtain⟨w,M4,e3,x,M5,rfl,rfl,hI'⟩:=lH.mp (h1 rfl)
    simp only[aDF]
    rw[e3]
    simp only[fP]
    have hl5:=(hc _ _ _ _ (by lia) hI').1
    have g1:(M5++[acc])[M1.length]?=some acc:=by rw[<- hl5];simp
    rw[g1]
    simp only
    rw[aAH (by lia)]
    have g2:(M5++[acc]).set M1.length (acc++[x])=M5++[acc++[x]]:=by rw[<- hl5];simp
    rw[g2]
    exact ih (i+1) (acc++[x]) L1 M5 (by lia) (by lia) hI'
 obtain⟨acc,L',M',e,hI⟩:=key s.ds.length 0 [] (outL js L) M1 (by lia) (by lia) h0
 rw[List.drop_zero]at e
 rw[e]
 have hl:=(hc _ _ _ _ (aAF _) hI).1
 have g1:(M'++[acc])[M1.length]?=some acc:=by rw[<- hl];simp
 have g2:(M'++[acc]).take M1.length=M':=by rw[<- hl];simp
 simp only[g1,g2]
 exact aK (aK (hd acc L' M' hI))
theorem bT{ws:List W}(hm:ws.length=m)(h:Okx EX (F (ws.map some++List.replicate (n - ws.length) none) M) λo M'=>match o with
  |.rt w=>Okx EX (retc M.length w M') Q
  |.nx _=>Q (.d .non) (M'.take M.length)
  |_=>False):Okx EX (fnD m n F ws M) Q:=by
 unfold fnD
 rw[aAH hm]
 refine aL (h.mono λo M' z=>?_)
 cases o with
 |rt w=>exact z
 |nx L=>exact aK z
 |bk L=>exact z.elim
 |ct L=>exact z.elim
theorem zT{d:D}(q:Q (.d d) (M.take n)):Okx EX (retc n (.d d) M) Q:=aK q
theorem zE{xs:List D}(hb:¬b < n)(h:M[b]?=some xs)(q:Q (.d (.lst xs)) (M.take n)):Okx EX (retc n (.ref b) M) Q:=by unfold retc;simp only;rw[aAJ hb];simp only[h];exact aK q
theorem aBu{ws:List W}(hm:ws.length=m)(h:Okx EX (F (ws.map some++List.replicate (n - ws.length) none) M) λo M'=>∃i ds,o=.rt (.ref i)/\M.length<=i/\M'[i]?=some ds/\Q (.ref M.length) (M'.take M.length++[ds])):Okx EX (fnR m n F ws M) Q:=by
 unfold fnR
 rw[aAH hm]
 refine aL (h.mono λo M' ⟨i,ds,e,hi,e2,q⟩=>?_)
 subst e
 simp only[e2]
 rw[aAH hi]
 exact aK q
end
noncomputable def Bx(M:Mm)(b:Nat):Prop:=∃x y z,M[b]?=some [.int x,.int y,.int z]
noncomputable def Nx(b:Nat)(M M':Mm):Prop:=∃x y z,M'=M.set b [.int x,.int y,.int z]
variable{b:Nat}
theorem Bx.lt(h:Bx M b):b < M.length:=by obtain⟨x,y,z,e⟩:=h;exact(aAC.mp e).1
variable{M':Mm}
theorem Nx.len(h:Nx b M M'):M'.length=M.length:=by obtain⟨x,y,z,rfl⟩:=h;simp
theorem Nx.bx(h:Nx b M M')(l:Bx M b):Bx M' b:=by
 obtain⟨x,y,z,rfl⟩:=h
 exact⟨x,y,z,aAY l.lt⟩
theorem Nx.trans{M1 M2:Mm}(h:Nx b M M1)(h':Nx b M1 M2):Nx b M M2:=by
 obtain⟨x,y,z,rfl⟩:=h
 obtain⟨x',y',z',rfl⟩:=h'
 exact⟨x',y',z',by rw[aBQ]⟩
theorem Nx.refl(h:Bx M b):Nx b M M:=by
 obtain⟨x,y,z,e⟩:=h
 refine⟨x,y,z,?_⟩
 apply aGL
 intro i
 by_cases hi:b=i
 ·subst hi;rw[aAY (aAC.mp e).1,e]
 ·rw[aAZ hi]
theorem Nx.unapp{J:Mm}(h:Nx b (M++J) M')(l:b < M.length):∃M1,M'=M1++J/\Nx b M M1:=by
 obtain⟨x,y,z,rfl⟩:=h
 exact⟨_,List.set_append_left _ _ l,x,y,z,rfl⟩
theorem Bx.app{J:Mm}(h:Bx M b):Bx (M++J) b:=by
 obtain⟨x,y,z,e⟩:=h
 exact⟨x,y,z,by rw[aAS (aAC.mp e).1];exact e⟩
theorem Nx.take{M M':Mm}{b:Nat}(h:Nx b M M'):M'.take M.length=M':=by rw[<- h.len,aCO]
mutual
noncomputable def sz:D->Nat
 |.tup xs=>szs xs+1
 |.lst xs=>szs xs+1
 |.fz xs=>szs xs+1
 |.exn _ _ xs=>szs xs+1
 |_=>1
noncomputable def szs:List D->Nat
 |[]=>0
 |x::xs=>sz x+szs xs
end
mutual
noncomputable def noL:D->Bool
 |.tup xs=>noLs xs
 |.lst _=>false
 |.fz _=>false
 |.exn _ _ _=>false
 |_=>true
noncomputable def noLs:List D->Bool
 |[]=>true
 |x::xs=>noL x&&noLs xs
end
theorem atBox(c:Int):atI [D.int 0,D.int c] (if decide ((10:Int) ^ (Int.toNat 18)<=c)=true then 1 else 0)=some (.int (if(1000000000000000000:Int)<=c then c else 0)):=by
 by_cases hc:(1000000000000000000:Int)<=c <;> simp[hc,atI,ixN]
end EV
section
open PySem PySem.Spec PyProof.Rows
namespace EV
open L2
variable{EX:D->Mm->Prop}{K:Frag}{Q:W->Mm->Prop}
theorem aDq(h:Okx EX (f L M) λw M1=>∃xs,(w=.d (.tup xs)\/w=.d (.lst xs)\/w=.d (.fz xs))/\QI ⟨xs.reverse,none⟩ M1):Okx EX (iRv f L M) QI:=by
 refine aL (h.mono ?_)
 rintro w M1 ⟨xs,rfl|rfl|rfl,q⟩ <;> exact aK q
theorem aAk{j:Int}(h0:0<=j)(h1:j<=16777216)(q:Q (.ref M.length) (M++[rngD 0 j.toNat])):Okx EX (cLRR (.d (.int j)) M) Q:=by unfold cLRR;simp only;rw[aAH ⟨h0,h1⟩];exact aK q
end EV
namespace EV
open L2
variable{EX:D->Mm->Prop}{K:Frag}{a b c:Expr}{fs:FA}
noncomputable section
def sBad:FS:=λ_ _=>.bad
theorem aDk(hk:X.K=K:=by rfl):Es X K Z st sBad:=⟨hk,cqS xD λ_ _ _ ⟨_,_,_,_,_,p⟩=>p⟩
def srt(ns:List Int):List Int:=ns.mergeSort λa b=>decide (a<=b)
theorem jL(ns:List Int):(srt ns).Perm ns:=List.mergeSort_perm _ _
theorem lA(ns:List Int):(srt ns).Pairwise (·<=·):=by
 have:=List.pairwise_mergeSort (le:=λa b:Int=>decide (a<=b)) (λa b c h1 h2=>by simp at *;lia) (λa b=>by simp;lia) ns
 exact this.imp λh=>by simpa using h
theorem xC{ns':List Int}(p:ns'.Perm ns)(o:ns'.Pairwise (·<=·)):ns'=srt ns :=
 List.Perm.eq_of_pairwise (le:=(·<=·)) (λa b _ _ h1 h2=>Int.le_antisymm h1 h2) o (lA ns) (p.trans (jL ns).symm)
theorem sF(ns:List Int):(srt ns).length=ns.length:=(jL ns).length_eq
theorem zV{x:Int}:x∈srt ns ↔ x∈ns:=(jL ns).mem_iff
theorem sA:∀{ns:List Int},Vals (ns.map V.int) us->IntsAre us ns:=by
 induction us with
 |nil=>intro ns h;cases ns with
  |nil=>exact .nil
  |cons n r=>cases h
 |cons u us ih=>intro ns h;cases ns with
  |nil=>cases h
  |cons n r =>
   cases h with
   |cons p q =>
    obtain⟨t,rfl⟩:=p
    exact .cons n t (ih q)
theorem pN(h:IntsAre us ns):Vals (ns.map V.int) us:=by
 induction h with
 |nil=>exact .nil
 |cons n t _ ih=>exact .cons ⟨t,rfl⟩ ih
theorem oX:CallR X (.builtin "sorted") (λxs H Q=>∃p ns,xs=[.ref p]/\SqL X.K H p (ns.map V.int)/\ns.length < 64/\∀l,H l=none->Q (.ref l) (upd H l (.lst ((srt ns).map V.int)))):=by
 intro pins s σ H xs us Q I r h
 obtain⟨p,ns,rfl,hq,h64,q⟩:=h
 obtain⟨u,rfl,rx⟩:=vals1 r
 cases rx
 obtain⟨its,r',pl,hz⟩:=I.list hq
 have hI:=sA r'
 have hlen:its.length=ns.length:=by have:=r'.length;simpa using this.symm
 refine sorted_ints pl.isList hI (by lia) λout ns' a1 a2 a3=>?_
 have e:=xC a2 a3
 subst e
 obtain⟨c,hc⟩:=sortedAll_at s.heap its out
 refine⟨.ref (s.heap.objs.size+1),_,I.laid (t':=s.toks) (λb o e=>sortedAll_old e) (aGC _) (show ObjOk X.prog X.w _ _ _ (.lst ((srt ns).map V.int))from⟨by rw[aBB];simp[sF];lia,out.toList,c,pN a1,by simpa using hc⟩),rfl,q _ (I.hok.fresh (aGC _))⟩
def intsOf:List D->Option (List Int)
 |[]=>some []
 |.int i::r=>(intsOf r).map (i::·)
 |_::_=>none
theorem rB(ns:List Int):intsOf (ns.map D.int)=some ns:=by
 induction ns with
 |nil=>rfl
 |cons n r ih=>simp only[aAQ,intsOf,ih,aFK]
theorem jO:∀{ds:List D} {ns:List Int},intsOf ds=some ns->ds=ns.map D.int
 |[],ns,h=>by cases h;rfl
 |.int i::r,ns,h=>by
  simp only[intsOf,aAM]at h
  obtain⟨ms,h1,rfl⟩:=h
  rw[jO h1];rfl
 |.non::_,_,h=>by cases h
 |.bl _::_,_,h=>by cases h
 |.str _::_,_,h=>by cases h
 |.tup _::_,_,h=>by cases h
 |.lst _::_,_,h=>by cases h
 |.fz _::_,_,h=>by cases h
 |.exn _ _ _::_,_,h=>by cases h
theorem lW:∀{ns:List Int} {vs:List V},Rps K μ H (ns.map D.int) vs->vs=ns.map V.int
 |[],vs,h=>by simpa[Rps]using h
 |n::r,vs,h=>by
  simp only[aAQ,Rps,Rp]at h
  obtain⟨v,t,rfl,rfl,h3⟩:=h
  rw[lW h3];rfl
def cSorted(ws:List W)(M:Mm):Oc W:=match ws with
 |[w]=>match lr M w with
  |some xs=>match intsOf xs with
   |some ns=>if ns.length < 64 then okD (.lst ((srt ns).map .int)) M else .bad
   |none=>.bad
  |none=>.bad
 |_=>.bad
end
theorem callSorted(hc:X.calm=true):ClG X K Z (.builtin "sorted") cSorted:=λhk=>by
 refine⟨_,hk▸oX,?_⟩
 intro μ H M ws vs Q hr rx p
 match ws,rx,p with
 |[],_,p=>exact p.elim
 |[w],⟨v,r,e1,e2,e3⟩,p =>
  cases e3;subst e1
  simp only[cSorted]at p
  cases q:lr M w with
  |none=>rw[q]at p;exact p.elim
  |some xs =>
   rw[q]at p
   simp only at p
   cases q2:intsOf xs with
   |none=>rw[q2]at p;exact p.elim
   |some ns =>
    rw[q2]at p
    simp only at p
    split at p
    ·rename_i hz
     obtain⟨a,us,rfl,h1,r1⟩:=tW hr e2 q
     have e:=jO q2
     subst e
     have e:=lW r1
     subst e
     exact⟨a,ns,rfl,h1,hz,hG hr Rps.ints p⟩
    ·exact p.elim
 |_::_::_,_,p=>exact p.elim
variable{w x:W}{Q:W->Mm->Prop}
theorem mZ{ds:List D}(h:lr M x=some ds)(e:ds=ns.map D.int)(hz:ns.length < 64)(q:Q (.d (.lst ((srt ns).map D.int))) M):Okx EX (cSorted [x] M) Q:=by
 subst e
 unfold cSorted;simp only[h,rB];rw[aAH hz];exact aK q
end EV
namespace EV
open L2
variable{EX:D->Mm->Prop}{K:Frag}{a b c o i e:Expr}{fs:FA}{fe:FE}
end EV
namespace L2
variable{σ:St}
theorem Inv.turnLay{T:Addr}{o:HO}(I:Inv X pins σ H s)(hf:∀b∈fp,FpOk X pins H b)(k:∀b u,b∉fp->s.heap.get? b=some u->h'.get? b=some u)(hT:s.heap.objs.size<=T)(new:ObjOk X.prog X.w (upd H T o) h' T o) :
  Inv X pins σ (upd H T o) {s with heap:=h',toks:=t'}:=by
 have hn:H T=none:=I.hok.fresh hT
 have nfp:∀b u,H b=some u->b∉fp:=λb u e z=>by rw[(hf b z).1]at e;cases e
 have lt:∀b u,s.heap.get? b=some u->b≠T:=λb u e z=>by subst z;exact absurd (aAK e) (Nat.not_lt.mpr hT)
 have neT:∀b u,H b=some u->b≠T:=λb u e z=>by rw[z,hn]at e;cases e
 refine I.step (g':=s.gens) (d':=s.drawn) (ch:=fp) (λb hb=>?_) (λb u _ _ hc e _=>k b u hc e) (λb u _ _ hc e _=>⟨u.slots,k b u hc e⟩) (λb u _ e n=>by rw[aY (lt b u e)];exact n)
  (λb u hc e=>⟨u,k b u hc e⟩) (λb xs e=>by rw[aY (neT b _ e)];exact e) (λb u v e=>by rw[aY (neT b _ e)];exact e) (λb ps e=>⟨#[],by rw[aY (neT b _ e),e];simp⟩) (λm hm=>?_) (λb u e=>?_) I.bare
 ·obtain⟨_,f1,_,f3,f4,f5⟩:=hf b hb
  exact⟨f3,f1,f4,f5⟩
 ·obtain⟨u,es,ep,ho,r⟩:=hm
  exact⟨u,es,ep,k _ u (λz=>(hf _ z).2.1 rfl) ho,r⟩
 ·by_cases hb:b=T
  ·subst hb;rw[bS]at e;cases e;exact new
  ·rw[aY hb]at e
   refine(I.hok b u e).stay (λc v hc q=>k c v ?_ q) (λc q=>by rw[aY (neT c _ q)];exact q) λc xs q=>by rw[aY (neT c _ q)];exact q
   rcases hc with z|z
   ·rw[z];exact nfp b u e
   ·exact nfp c _ z
theorem Inv.turnedL(I:Inv X pins σ H s)(hf:∀b∈fp,FpOk X pins H b)(k:∀b u,b∉fp->s.heap.get? b=some u->h'.get? b=some u):Inv X pins σ H {s with heap:=h',toks:=t'}:=by
 have nfp:∀b u,H b=some u->b∉fp:=λb u e z=>by rw[(hf b z).1]at e;cases e
 refine I.step (g':=s.gens) (d':=s.drawn) (ch:=fp) (λb hb=>?_) (λb u _ _ hc e _=>k b u hc e) (λb u _ _ hc e _=>⟨u.slots,k b u hc e⟩) (λ_ _ _ _ n=>n)
  (λb u hc e=>⟨u,k b u hc e⟩) (λ_ _ e=>e) (λ_ _ _ e=>e) (λb ps e=>⟨#[],by rw[e];simp⟩) (λm hm=>?_) (λb u e=>?_) I.bare
 ·obtain⟨_,f1,_,f3,f4,f5⟩:=hf b hb
  exact⟨f3,f1,f4,f5⟩
 ·obtain⟨u,es,ep,ho,r⟩:=hm
  exact⟨u,es,ep,k _ u (λz=>(hf _ z).2.1 rfl) ho,r⟩
 ·refine(I.hok b u e).stay (λc v hc q=>k c v ?_ q) (λ_ q=>q) λ_ _ q=>q
  rcases hc with z|z
  ·rw[z];exact nfp b u e
  ·exact nfp c _ z
noncomputable section
def SqB(b:Bool)(K:Frag)(H:Hp)(a:Addr)(xs:List V):Prop:=if b=true then SqL K H a xs else SqT K H a xs
def It0(b:Bool)(h:Heap)(it src:Addr)(i:Nat):Prop:=if b=true then h.IsListIter it src i else h.IsTupleIter it src i
def IsB(b:Bool)(h:Heap)(a:Addr)(xs:Array Value):Prop:=if b=true then h.IsList a xs else h.IsTuple a xs
end
theorem It0.at{b:Bool}{h h':Heap}{it src:Addr}{i:Nat}(x:It0 b h it src i)(k:∀o,h.get? it=some o->h'.get? it=some o):It0 b h' it src i:=by
 cases b
 ·exact Heap.IsTupleIter.at x k
 ·exact Heap.IsListIter.at x k
variable{b:Bool}
theorem It0.obj(x:It0 b h it src i):∃o,h.get? it=some o/\∀v,o.data≠.cell v:=by
 cases b
 ·obtain⟨o,e,c,d⟩:=(show h.IsTupleIter it src i from x)
  exact⟨o,e,λv z=>by rw[d]at z;cases z⟩
 ·obtain⟨o,e,c,d⟩:=(show h.IsListIter it src i from x)
  exact⟨o,e,λv z=>by rw[d]at z;cases z⟩
theorem oG(x:It0 b h it src i)(y:IsB b h src xs):ZP.It1 h it src i xs:=by
 cases b
 ·exact .inr ⟨x,y⟩
 ·exact .inl ⟨x,y⟩
theorem oE(y:IsB b h src ys)(x:ZP.It1 h it src i xs):It0 b h it src i:=by
 cases b
 ·rcases x with⟨_,o,e,c,_⟩|⟨x,_⟩
  ·obtain⟨o',e',c',_⟩:=(show h.IsTuple src ys from y)
   rw[e]at e';cases e';rw[c]at c';simp at c'
  ·exact x
 ·rcases x with⟨x,_⟩|⟨_,o,e,c,_⟩
  ·exact x
  ·obtain⟨o',e',c',_⟩:=(show h.IsList src ys from y)
   rw[e]at e';cases e';rw[c]at c';simp at c'
theorem IsB.at(x:IsB b h a xs)(k:∀o,h.get? a=some o->h'.get? a=some o):IsB b h' a xs:=by
 cases b
 ·obtain⟨o,e,r⟩:=(show h.IsTuple a xs from x);exact⟨o,k o e,r⟩
 ·obtain⟨o,e,r⟩:=(show h.IsList a xs from x);exact⟨o,k o e,r⟩
theorem IsB.lt(x:IsB b h a xs):a < h.objs.size:=by
 cases b
 ·obtain⟨o,e,r⟩:=(show h.IsTuple a xs from x);exact aAK e
 ·obtain⟨o,e,r⟩:=(show h.IsList a xs from x);exact aAK e
theorem SqB.inv{xs:List V}(I:Inv X pins σ H s)(h:SqB b X.K H a xs):∃its:List Value,Vals xs its/\IsB b s.heap a its.toArray/\xs.length<=sizeLine:=by
 cases b
 ·obtain⟨its,r,pl,hz⟩:=I.tuple (show SqT X.K H a xs from h);exact⟨its,r,pl,hz⟩
 ·obtain⟨its,r,pl,hz⟩:=I.list (show SqL X.K H a xs from h);exact⟨its,r,pl.isList,hz⟩
variable{prog:Program}{E:Value->Shared->Prop}{elts:List Expr}
theorem vH{x1}{TI TO T:Addr}{f0 f1:Value}{Q:Unit->Shared->Prop}(hz:s.heap.get? z=some (ZP.zobj TI TO f0 f1))(hf:f0=.none\/∃T:Nat,f0=rawInt T)
  (hQ:∀h' g0,h'.get? z=some (ZP.zobj TI TO g0 f1)->(g0=.none\/∃T:Nat,g0=rawInt T)->Heap.SameBut z s.heap h'->Q () {s with heap:=h'}):wpAny (model prog w) A (letOwnedTupleGo (.Tuple elts x1 pos) (.ref z) (.ref T)) Q E s:=by
 unfold letOwnedTupleGo
 refine aAB (wpAny_load hz ?_)
 show wpAny _ A (if(["enumerate","zip","dict_itemiterator","dict_reverseitemiterator","odict_iterator","itertools.zip_longest","itertools.pairwise"].contains "zip"&&(#[f0,f1,.bool false,.ref TI,.ref TO]:Array Value)[0]?==some (rawInt T))=true then _ else _) Q E s
 by_cases hc:(["enumerate","zip","dict_itemiterator","dict_reverseitemiterator","odict_iterator","itertools.zip_longest","itertools.pairwise"].contains "zip"&&(#[f0,f1,.bool false,.ref TI,.ref TO]:Array Value)[0]?==some (rawInt T))=true
 ·rw[aAH hc]
  refine aAB (aDB ?_)
  show wpAny _ A (setField (.ref z) 0 .none) Q E s
  exact aCD hz (by simp) λh' hz' hs'=>hQ h' .none hz' (.inl rfl) hs'
 ·rw[aAJ hc]
  exact aAD (hQ s.heap f0 hz hf ⟨rfl,λ_ _=>rfl⟩)
noncomputable def tnz(b1 b2:Bool)(z TI TO i1 i2 l1 l2:Addr)(i:Nat)(h:Heap):Prop :=
 (∃f0 f1,h.get? z=some (ZP.zobj TI TO f0 f1)/\(f0=.none\/∃T:Nat,f0=rawInt T))/\IsPair h TI (.ref i1) (.ref i2)/\(∃a b,IsPair h TO a b)/\It0 b1 h i1 l1 i/\It0 b2 h i2 l2 i
noncomputable def Itz(b1 b2:Bool)(K:Frag)(l1 l2:Addr)(xs ys:List V):It :=
 ⟨λi H=>SqB b1 K H l1 xs/\SqB b2 K H l2 ys/\i < xs.length/\i < ys.length,λi H x H'=>∃T u v,H T=none/\x=.ref T/\xs[i]?=some u/\ys[i]?=some v/\H'=upd H T (.tup [u,v]),λi H=>SqB b1 K H l1 xs/\SqB b2 K H l2 ys/\(xs.length<=i\/ys.length<=i)⟩
theorem pM{x1}{b1 b2:Bool}{TI TO i1 i2:Addr}(D:ZP.Ap z TI TO i1 i2 l1 l2)(xs ys:List V):Turn P w K (.Tuple elts x1 pos) (Itz b1 b2 K l1 l2 xs ys) [z,TI,TO,i1,i2] z (tnz b1 b2 z TI TO i1 i2 l1 l2)where
 mem:=by simp
 obj:=λi h st b hb=>by
  obtain⟨⟨f0,f1,hz,_⟩,hTI,⟨a,c,hTO⟩,h1,h2⟩:=st
  simp only[aBE,aDI,or_false]at hb
  rcases hb with rfl|rfl|rfl|rfl|rfl
  ·exact⟨_,hz,λv z=>by cases z⟩
  ·exact⟨_,hTI,λv z=>by cases z⟩
  ·exact⟨_,hTO,λv z=>by cases z⟩
  ·exact h1.obj
  ·exact h2.obj
 keep:=λi h h' st k=>by
  obtain⟨⟨f0,f1,hz,hf⟩,hTI,⟨a,c,hTO⟩,h1,h2⟩:=st
  exact⟨⟨f0,f1,k z (by simp) _ hz,hf⟩,k TI (by simp) _ hTI,⟨a,c,k TO (by simp) _ hTO⟩,h1.at λo e=>k i1 (by simp) o e,h2.at λo e=>k i2 (by simp) o e⟩
 item:=by
  intro X hP hw hK hc i pins s σ H E I hf st hg
  subst hP hw hK
  obtain⟨sx,sy,hx,hy⟩:=hg
  obtain⟨its1,r1,y1,z1⟩:=sx.inv I
  obtain⟨its2,r2,y2,z2⟩:=sy.inv I
  obtain⟨⟨f0,f1,hz,hf0⟩,hTI,hTO,h1,h2⟩:=st
  have hT:s.TypeIs (.ref z) "zip":=⟨_,hz,rfl⟩
  obtain⟨u,hu,ru⟩:=r1.get (aBK hx)
  obtain⟨v,hv,rv⟩:=r2.get (aBK hy)
  have zlt:z < s.heap.objs.size:=aAK hz
  unfold pyNext
  refine aAB (aED (aBO (name:=Str.ofString "__next__") hT aEF
   (aBU aEF hT F.entry_zip_next
    (ZP.zip_next_item D ⟨⟨f0,f1,hz,hf0⟩,hTI,hTO,oG h1 y1,oG h2 y2⟩ (x:=u) (y:=v) (by simpa using hu) (by simpa using hv) λh' T z' p' n' k'=>aAD ?_) (F.args_zip_next_1 _))))
  refine⟨_,rfl,?_⟩
  obtain⟨⟨g0,g1,hz',hg0⟩,hTI',⟨c,d,hTO'⟩,a1',a2'⟩:=z'
  have y1':IsB b1 h' l1 its1.toArray:=y1.at λo e=>k' l1 o D.l1z D.l1TO D.l1i1 D.l1i2 e
  have y2':IsB b2 h' l2 its2.toArray:=y2.at λo e=>k' l2 o D.l2z D.l2TO D.l2i1 D.l2i2 e
  refine vH (s:={s with heap:=h'}) hz' hg0 λh2 g2 hz2 hg2 sb=>?_
  have sb:Heap.SameBut z h' h2:=sb
  have kk:∀b o,b∉[z,TI,TO,i1,i2]->s.heap.get? b=some o->h2.get? b=some o:=λb o hb e=>by
   simp only[aBE,aDI,or_false,not_or]at hb
   obtain⟨q1,q2,q3,q4,q5⟩:=hb
   exact sb.extBut b o q1 (k' b o q1 q3 q4 q5 e)
  have hTz:T≠z:=λe=>absurd zlt (Nat.not_lt.mpr (e▸n'))
  have hp2:h2.get? T=some {cls:=.type "tuple",data:=.seq #[u,v]}:=sb.extBut T _ hTz p'
  refine⟨.ref T,upd H T (.tup [xs[i],ys[i]]),I.turnLay (t':=s.toks) hf kk n' (show ObjOk X.prog X.w _ h2 T (.tup [xs[i],ys[i]])from⟨by show 2<=sizeLine;decide,[u,v],.cons ru (.cons rv .nil),_,hp2,rfl,_,rfl⟩),rfl,⟨T,xs[i],ys[i],I.hok.fresh n',rfl,aBK hx,aBK hy,rfl⟩,?_,λb hb=>?_⟩
  ·exact⟨⟨g2,g1,hz2,hg2⟩,sb.extBut TI _ D.TIz hTI',⟨c,d,sb.extBut TO _ D.TOz hTO'⟩,(oE y1' a1').at λo e=>sb.extBut i1 o D.i1z e,(oE y2' a2').at λo e=>sb.extBut i2 o D.i2z e⟩
  ·rw[aY]
   ·exact(hf b hb).1
   ·rintro rfl
    simp only[aBE,aDI,or_false]at hb
    have:b < s.heap.objs.size:=by
     rcases hb with rfl|rfl|rfl|rfl|rfl
     ·exact zlt
     ·exact aAK hTI
     ·obtain⟨_,_,q⟩:=hTO;exact aAK q
     ·obtain⟨o,q,_⟩:=h1.obj;exact aAK q
     ·obtain⟨o,q,_⟩:=h2.obj;exact aAK q
    exact absurd this (Nat.not_lt.mpr n')
 done:=by
  intro X hP hw hK hc i pins s σ H E I hf st hg
  subst hP hw hK
  obtain⟨sx,sy,hend⟩:=hg
  obtain⟨its1,r1,y1,z1⟩:=sx.inv I
  obtain⟨its2,r2,y2,z2⟩:=sy.inv I
  obtain⟨⟨f0,f1,hz,hf0⟩,hTI,hTO,h1,h2⟩:=st
  have hT:s.TypeIs (.ref z) "zip":=⟨_,hz,rfl⟩
  have l1':=r1.length
  have l2':=r2.length
  unfold pyNext
  refine aAB (aED (aBO (name:=Str.ofString "__next__") hT aEF
   (aBU aEF hT F.entry_zip_next (ZP.zip_next_end (I.ok.hd hc) D ⟨⟨f0,f1,hz,hf0⟩,hTI,hTO,oG h1 y1,oG h2 y2⟩ (by
    rcases hend with q|q
    ·exact .inl (by simp;lia)
    ·exact .inr (by simp;lia)) λh' e hk he=>?_) (F.args_zip_next_1 _))))
  obtain⟨o,ho,hcl⟩:=he
  refine aAB (aFD (T:="StopIteration") (b:=true) ⟨o,ho,hcl⟩ isSubtype_stop ?_)
  refine aAD ⟨rfl,I.turnedL (t':=s.toks) hf λb o hb e=>?_⟩
  simp only[aBE,aDI,or_false,not_or]at hb
  obtain⟨q1,q2,q3,q4,q5⟩:=hb
  exact hk b o q1 q3 q4 q5 e
 self:=λA i s Q E st hQ=>by
  obtain⟨⟨f0,f1,hz,_⟩,_⟩:=st
  have hT:s.TypeIs (.ref z) "zip":=⟨_,hz,rfl⟩
  refine wpAny_pyIter_slot hT F.slot_zip_iter (aBU F.slot_zip_iter hT F.entry_zip_iter ?_ (F.args_zip_iter_1 _))
  show wpAny _ _ (ret (.ref z)) _ _ s
  exact aAD ⟨_,rfl,"zip",_,hT,aEF.lookup,hQ⟩
theorem aBl{x1}{a b:Expr}(hg:Gl X "zip")(hm:X.mg "zip"=none)(ha:PE X a ta)(hb:PE X b tb)
  (hs2:starEach [a,b] X.env=(false,eval a X.env)::starEach [b] X.env:=by rfl)(hs3:starEach [b] X.env=(false,eval b X.env)::starEach [] X.env:=by rfl)(hpl2:(backTo pos (starEach [b] X.env)).any (·.1)=false:=by rfl) :
  PI X (.Tuple elts x1 tpos) (.Call (.Name "zip" p) [a,b] [] pos) (λσ H R=>ta σ H λx H1=>tb σ H1 λy H2=>∃l1 l2 b1 b2 xs ys,x=.ref l1/\y=.ref l2/\SqB b1 X.K H2 l1 xs/\SqB b2 X.K H2 l2 ys/\R (Itz b1 b2 X.K l1 l2 xs ys) H2):=by
 intro pins s σ H R I h
 refine aEG (jT I hg hm aAw ?_)
 refine aCI (thn (cY ha (cY hb fJ hs3) hs2 pos pins s σ H (λvs H2=>match vs with|[x,y]=>∃l1 l2 b1 b2 xs ys,x=.ref l1/\y=.ref l2/\SqB b1 X.K H2 l1 xs/\SqB b2 X.K H2 l2 ys/\R (Itz b1 b2 X.K l1 l2 xs ys) H2|_=>False) I h) λus s1 ⟨vs,H1,I1,r1,hr⟩=>?_) hs2 hpl2
 match vs,r1,hr with
 |[],_,hr=>exact hr.elim
 |[_],_,hr=>exact hr.elim
 |_::_::_::_,_,hr=>exact hr.elim
 |[x,y],r1,hr =>
 obtain⟨u1,u2,rfl,rx,ry⟩:=r1.two
 obtain⟨l1,l2,b1,b2,xs,ys,rfl,rfl,sx,sy,hq⟩:=hr
 cases rx
 cases ry
 obtain⟨its,q1,p1,z1⟩:=sx.inv I1
 obtain⟨its2,q2,p2,z2⟩:=sy.inv I1
 have hl1:=p1.lt
 have hl2:=p2.lt
 have e1:s1.heap.IsList l1 its.toArray\/s1.heap.IsTuple l1 its.toArray:=by cases b1;exact .inr p1;exact .inl p1
 have e2:s1.heap.IsList l2 its2.toArray\/s1.heap.IsTuple l2 its2.toArray:=by cases b2;exact .inr p2;exact .inl p2
 have D:=ZP.ap_of hl1 hl2
 refine ZP.call_zipG e1 e2 λh1 Zs1 hsz kp=>?_
 obtain⟨⟨f0,f1,hz,hf0⟩,hTI,hTO,a1,a2⟩:=Zs1
 have tz:tnz b1 b2 (s1.heap.objs.size+4) (s1.heap.objs.size+2) (s1.heap.objs.size+3) s1.heap.objs.size (s1.heap.objs.size+1) l1 l2 0 h1:=⟨⟨f0,f1,hz,hf0⟩,hTI,hTO,oE (p1.at λo e=>kp l1 o e) a1,oE (p2.at λo e=>kp l2 o e) a2⟩
 refine(pM (P:=X.prog) (w:=X.w) (K:=X.K) (elts:=elts) (x1:=x1) (pos:=tpos) (b1:=b1) (b2:=b2) D xs ys).self _ 0 _ _ _ tz ?_
 refine⟨s1.heap.objs.size+4,_,_,_,H1,rfl,I1.kept (t':=s1.toks) λb o e=>kp b o e,pM D xs ys,tz,λb hb=>?_,hq⟩
 refine I1.fpOk ?_ (I1.hok.fresh ?_) <;>
 ·simp only[aBE,aDI,or_false]at hb
  rcases hb with rfl|rfl|rfl|rfl|rfl <;> (show(_:Nat)<=(_:Nat);lia)
end L2
namespace EV
open L2
variable{EX:D->Mm->Prop}
section
variable{K:Frag}{a b:Expr}{g:FE}{tg:Expr}
noncomputable section
def dz:W->Option (List D)
 |.d (.tup xs)=>some xs
 |.d (.lst xs)=>some xs
 |.d (.fz xs)=>some xs
 |_=>none
theorem qS{w:W}{ds:List D}(r:Rw K μ H w v)(h:dz w=some ds):∃(b:Bool) (a:Addr) (vs:List V) (S:List Addr->Hp->Prop),v=.ref a/\S μ H/\(∀μ1 H1 μ2 H2,Lsts μ1 H1->S μ1 H1->Ext μ1 H1 μ2 H2->S μ2 H2)/\∀μ1 H1,S μ1 H1->SqB b K H1 a vs/\Rps K μ1 H1 ds vs:=by
 cases w with
 |ref i=>cases h
 |ob _ _=>cases h
 |nest _=>cases h
 |d x=>cases x with
  |tup xs =>
   cases h
   simp only[Rw,Rp]at r
   obtain⟨p,vs,rfl,h1,r1⟩:=r
   exact⟨false,p,vs,λμ2 H2=>H2 p=some (.tup vs)/\Rps K μ2 H2 ds vs,rfl,⟨h1,r1⟩,λμ1 H1 μ2 H2 l z e=>⟨e.keep _ _ (λq=>by obtain⟨us,q,mq⟩:=l p q;rw[z.1]at q;cases q;exact mq) z.1,Rps.ext l e _ _ z.2⟩,λμ1 H1 z=>⟨SqT.of z.1,z.2⟩⟩
  |lst xs =>
   cases h
   simp only[Rw,Rp]at r
   obtain⟨p,vs,rfl,h1,hn,r1⟩:=r
   exact⟨true,p,vs,λμ2 H2=>H2 p=some (.lst vs)/\p∉μ2/\Rps K μ2 H2 ds vs,rfl,⟨h1,hn,r1⟩,λμ1 H1 μ2 H2 l z e=>⟨e.keep _ _ z.2.1 z.1,λq=>(e.new p q).elim z.2.1 (λq=>by rw[z.1]at q;cases q),Rps.ext l e _ _ z.2.2⟩,λμ1 H1 z=>⟨SqL.of z.1,z.2.2⟩⟩
  |fz xs =>
   cases h
   simp only[Rw,Rp]at r
   obtain⟨p,vs,rfl,h1,r1⟩:=r
   exact⟨true,p,vs,λμ2 H2=>FzL K H2 p vs/\Rps K μ2 H2 ds vs,rfl,⟨h1,r1⟩,λμ1 H1 μ2 H2 l z e=>⟨z.1.ext l e,Rps.ext l e _ _ z.2⟩,λμ1 H1 z=>⟨z.1.sq,z.2⟩⟩
  |_=>cases h
theorem kX{xs ys:List D}{d:D}(h:(zipT xs ys)[i]?=some d):∃x y,xs[i]?=some x/\ys[i]?=some y/\d=.tup [x,y]:=by
 unfold zipT at h
 rw[aAO,aAM]at h
 obtain⟨p,h1,rfl⟩:=h
 rw[List.getElem?_zip_eq_some]at h1
 exact⟨_,_,h1.1,h1.2,rfl⟩
theorem fN{xs ys:List D}:(zipT xs ys).length=min xs.length ys.length:=by simp[zipT]
theorem qN{T:Addr}{x y:D}{u:V}(hr:HR K μ H M)(hT:H T=none)(r1:Rp K μ H x u)(r2:Rp K μ H y v):Ext μ H μ (upd H T (.tup [u,v]))/\HR K μ (upd H T (.tup [u,v])) M/\Rp K μ (upd H T (.tup [u,v])) (.tup [x,y]) (.ref T):=by
 have e:=eG (o:=.tup [u,v]) hr hT
 refine⟨e,hr.lay hT,?_⟩
 simp only[Rp]
 exact⟨T,[u,v],rfl,bS,.cons (Rp.ext hr.lsts e _ _ r1) (.cons (Rp.ext hr.lsts e _ _ r2) .nil)⟩
def cz(M:Mm):W->Option (Nat×List D)
 |.ref t=>match M[t]? with
  |some ys=>if(intsOf ys).isSome then some (t,ys)else none
  |none=>none
 |_=>none
theorem aFd{y:W}{t:Nat}{ys:List D}(h:cz M y=some (t,ys)):y=.ref t/\M[t]?=some ys/\∃ns:List Int,ys=ns.map D.int:=by
 cases y with
 |d x=>cases h
 |ob _ _=>cases h
 |nest _=>cases h
 |ref t' =>
  simp only[cz]at h
  cases q:M[t']? with
  |none=>simp only[q]at h;cases h
  |some ys' =>
   simp only[q]at h
   cases e:intsOf ys' with
   |none=>simp[e]at h
   |some ns =>
    simp only[e,Option.isSome_some,aDF,aAR,Prod.mk.injEq]at h
    obtain⟨rfl,rfl⟩:=h
    exact⟨rfl,q,ns,jO e⟩
def iZip(f g:FE):FI:=λL M=>(f L M).bind λx M1=>(g L M1).bind λy M2=>match dz x,dz y with
 |some xs,some ys=>.ok ⟨zipT xs ys,none⟩ M2
 |some xs,none=>match cz M2 y with
  |some (t,ys)=>.ok ⟨zipT xs ys,some (.two t ys)⟩ M2
  |none=>.bad
 |_,_=>.bad
end
theorem aCa{elts:List Expr}{x1}(hm:X.mg "zip"=none)(ha:Ev X K Z a f)(hb:Ev X K Z b g)(hg:Gl X "zip":=by rfl)
  (hs2:starEach [a,b] X.env=(false,eval a X.env)::starEach [b] X.env:=by rfl)(hs3:starEach [b] X.env=(false,eval b X.env)::starEach [] X.env:=by rfl)(hpl2:(backTo pos (starEach [b] X.env)).any (·.1)=false:=by rfl):Ei X K Z (.Tuple elts x1 tpos) (.Call (.Name "zip" p) [a,b] [] pos) (iZip f g):=by
 have h':=aBl (elts:=elts) (x1:=x1) (tpos:=tpos) (p:=p) (pos:=pos) hg hm ha.h hb.h hs2 hs3 hpl2
 rw[ha.k]at h'
 refine⟨ha.k,cqI h' ?_⟩
 rintro σ H R ⟨μ,M,L,hr,lr,p⟩
 refine⟨μ,M,L,hr,lr,p.bind.imp λμ1 H1 M1 w e1 hr1 _ p1 v rw'=>?_⟩
 refine⟨μ1,M1,L,hr1,lr.ext hr.lsts e1,p1.bind.imp λμ2 H2 M2 w2 e2 hr2 _ p2 v2 rw2=>?_⟩
 cases q1:dz w with
 |none=>simp only[q1]at p2;exact p2.elim
 |some xs =>
  cases q2:dz w2 with
  |none =>
   cases q3:cz M2 w2 with
   |none=>simp only[q1,q2,q3]at p2;exact p2.elim
   |some ty =>
   obtain⟨t,ys⟩:=ty
   simp only[q1,q2,q3]at p2
   obtain⟨rfl,hM,ns,rfl⟩:=aFd q3
   obtain⟨b1,l1,vs1,S1,rfl,s1,x1,d1⟩:=qS (rw'.ext hr1.lsts e2) q1
   obtain⟨a,qa,rfl,il⟩:=rw2
   have cell:∀{μ3:List Addr} {H3:Hp} {M3:Mm},HR K μ3 H3 M3->(μ3[t]?=some a/\IsL H3 a)->M3[t]?=some (ns.map D.int)->SqB true K H3 a (ns.map V.int):=λhr3 z c=>by
    obtain⟨a',vs,qa',h1,r1⟩:=hr3.at c z.1 z.2
    rw[z.1]at qa';cases qa'
    rw[lW r1]at h1
    exact SqL.of h1
   refine⟨l1,a,b1,true,vs1,ns.map V.int,rfl,rfl,(d1 _ _ s1).1,cell hr2 ⟨qa,il⟩ hM,p2 μ2 H2 .refl hr2 _ ?_⟩
   refine⟨λμ H=>S1 μ H/\μ[t]?=some a/\IsL H a,⟨s1,qa,il⟩,λμ1 H1 μ2 H2 l z e=>⟨x1 _ _ _ _ l z.1 e,e.pre _ _ z.2.1,z.2.2.ext e⟩,λμ3 H3 M3 i hr3 hS hc=>?_⟩
   obtain⟨c1,r1⟩:=d1 _ _ hS.1
   have c2:=cell hr3 hS.2 (hc _ rfl)
   have r2:Rps K μ3 H3 (ns.map D.int) (ns.map V.int):=Rps.ints
   refine⟨λd hd=>?_,λhl=>?_⟩
   ·obtain⟨x,y,hx,hy,rfl⟩:=kX hd
    obtain⟨u,hu,ru⟩:=r1.get hx
    obtain⟨v,hv,rv⟩:=r2.get hy
    refine⟨⟨c1,c2,(aAC.mp hu).1,(aAC.mp hv).1⟩,λx' H4 hy4=>?_⟩
    obtain⟨T,u',v',hT,rfl,hu',hv',rfl⟩:=hy4
    rw[hu]at hu';cases hu'
    rw[hv]at hv';cases hv'
    exact qN hr3 hT ru rv
   ·refine⟨c1,c2,?_⟩
    simp only[fN]at hl
    rw[<- r1.length,<- r2.length]
    lia
  |some ys =>
   simp only[q1,q2]at p2
   obtain⟨b1,l1,vs1,S1,rfl,s1,x1,d1⟩:=qS (rw'.ext hr1.lsts e2) q1
   obtain⟨b2,l2,vs2,S2,rfl,s2,x2,d2⟩:=qS rw2 q2
   refine⟨l1,l2,b1,b2,vs1,vs2,rfl,rfl,(d1 _ _ s1).1,(d2 _ _ s2).1,p2 μ2 H2 .refl hr2 _ ?_⟩
   refine⟨λμ H=>S1 μ H/\S2 μ H,⟨s1,s2⟩,λμ1 H1 μ2 H2 l z e=>⟨x1 _ _ _ _ l z.1 e,x2 _ _ _ _ l z.2 e⟩,λμ3 H3 M3 i hr3 hS hc=>?_⟩
   obtain⟨c1,r1⟩:=d1 _ _ hS.1
   obtain⟨c2,r2⟩:=d2 _ _ hS.2
   refine⟨λd hd=>?_,λhl=>?_⟩
   ·obtain⟨x,y,hx,hy,rfl⟩:=kX hd
    obtain⟨u,hu,ru⟩:=r1.get hx
    obtain⟨v,hv,rv⟩:=r2.get hy
    refine⟨⟨c1,c2,(aAC.mp hu).1,(aAC.mp hv).1⟩,λx' H4 hy4=>?_⟩
    obtain⟨T,u',v',hT,rfl,hu',hv',rfl⟩:=hy4
    rw[hu]at hu';cases hu'
    rw[hv]at hv';cases hv'
    exact qN hr3 hT ru rv
   ·refine⟨c1,c2,?_⟩
    simp only[fN]at hl
    rw[<- r1.length,<- r2.length]
    lia
end
section
variable{g:FE}
theorem tZ(h:Okx EX (f L M) λx M1=>Okx EX (g L M1) λy M2=>∃xs ys,dz x=some xs/\dz y=some ys/\QI ⟨zipT xs ys,none⟩ M2):Okx EX (iZip f g L M) QI :=
 aL (h.mono λx M1 z=>aL (z.mono λy M2 ⟨xs,ys,e1,e2,q⟩=>by simp only[e1,e2];exact aK q))
end
end EV
namespace L2
variable{prog:Program}{E:Value->Shared->Prop}
end L2
namespace L2
open AutoSeq1 (wpAny_loadPart')
variable{prog:Program}{E:Value->Shared->Prop}
end L2
namespace EV
open L2
variable{EX:D->Mm->Prop}
section
variable{K:Frag}{a b:Expr}{g:FE}{tg:Expr}
end
section
variable{g:FE}
end
end EV
namespace L2
open AutoSeq1 (wpAny_loadPart')
end L2
namespace EV
open L2
variable{EX:D->Mm->Prop}{K:Frag}{a b c o e i:Expr}{es:List Expr}{fs:FA}{fe:FE}{tg:Expr}{x y:W}{Q:W->Mm->Prop}
end EV
namespace L2
variable{prog:Program}{E:Value->Shared->Prop}
end L2
namespace EV
open L2
variable{EX:D->Mm->Prop}{K:Frag}{es:List Expr}
end EV
namespace L2
end L2
namespace EV
open L2
variable{EX:D->Mm->Prop}{K:Frag}{x:W}{Q:W->Mm->Prop}
end EV
namespace EV
open L2
variable{EX:D->Mm->Prop}{K:Frag}{a tg:Expr}
end EV
namespace EV
open L2
variable{EX:D->Mm->Prop}{K:Frag}{Q:W->Mm->Prop}
end EV
namespace EV
open L2
noncomputable def ZR(K:Frag)(R:Addr->Hp->Prop):Zt:=⟨λx M μ H=>∀μ' H',Ext μ H μ' H'->HR K μ' H' M->∀a,Rp K μ' H' x (.ref a)->R a H',λe h μ' H' e' hr a ra=>h μ' H' (e.trans e') hr a ra⟩
section
variable{K:Frag}{e a b:Expr}{es:List Expr}{fs:FA}{rest:List Stmt}{G:FS}
structure FunG(K:Frag)(x qual:Str)(st:Stmt)(f:Addr)(fd:FuncData):Prop where
 ex:∃(oc:Value) (od:Option Addr) (dV kV doc pm:Value) (an:Option Addr) (cdv ct:Value) (osl:Array (Option Value)),
  fd=fnOf x qual (defArgs st) (defBody st) (defScope st) dV kV doc pm an cdv ct/\K.lookup f=some ⟨oc,od,.func fd,osl⟩/\codeIn K cdv qual=true
theorem _root_.L2.Fun.g{f:Addr}(F:Fun K x qual st f fd):FunG K x qual st f fd:=by
 obtain⟨oc,od,kV,doc,pm,an,cdv,ct,osl,h⟩:=F.ex
 exact⟨oc,od,_,kV,doc,pm,an,cdv,ct,osl,h⟩
structure FunD(K:Frag)(x qual:Str)(st:Stmt)(f:Addr)(fd:FuncData)(d:Value):Prop where
 ex:∃(T:Addr) (oc:Value) (od:Option Addr) (kV doc pm:Value) (an:Option Addr) (cdv ct:Value) (osl:Array (Option Value)),
  fd=fnOf x qual (defArgs st) (defBody st) (defScope st) (.ref T) kV doc pm an cdv ct/\K.lookup f=some ⟨oc,od,.func fd,osl⟩/\codeIn K cdv qual=true/\∃c dd n sl,K.lookup T=some ⟨c,dd,.seq #[d] n,sl⟩
theorem FunD.g{f:Addr}{d:Value}(F:FunD K x qual st f fd d):FunG K x qual st f fd:=by
 obtain⟨T,oc,od,kV,doc,pm,an,cdv,ct,osl,h1,h2,h3,_⟩:=F.ex
 exact⟨oc,od,_,kV,doc,pm,an,cdv,ct,osl,h1,h2,h3⟩
noncomputable def nx(Fm:Fn):Fn:=λws M=>match Fm ws M with
 |.ok w M'=>.ok w M'
 |_=>.bad
end
noncomputable def liftX(K:Frag)(f:FE)(σ:L2.St)(H:Hp)(Q:VK)(R:Addr->Hp->Prop):Prop:=∃μ M L,HR K μ H M/\LR K μ H L σ/\Pst K (ZR K R) μ H (f L M) (Wk K Q)
noncomputable def liftB(K:Frag)(F:FS)(D:Ends)(R:Addr->Hp->Prop)(σ:L2.St)(H:Hp):Prop:=∃μ M L,HR K μ H M/\LR K μ H L σ/\Pst K (ZR K R) μ H (F L M) (Sk K D)
structure Exx(X:Cx)(K:Frag)(e:Expr)(f:FE):Prop where
 k:X.K=K
 h:PEx X e (liftX K f)
structure Tb(X:Cx)(K:Frag)(b:List Stmt)(F:FS):Prop where
 k:X.K=K
 h:PBx X b (liftB K F)
section
variable{K:Frag}{e a b:Expr}{es:List Expr}{fs:FA}{rest:List Stmt}{G:FS}
end
noncomputable def mt(cn c:Str):Bool:=c==cn || cn=="LentError" || cn=="ValueError"
variable{K:Frag}
structure Ecs(X:Cx)(K:Frag)(es:List Expr)(cns:List Str):Prop where
 k:X.K=K
 h:∃ys cvs,PA X es (λ_ H Q=>Q ys H)/\ys.map clV=cvs.map some/\ys.length<=es.length/\∀c C LE,Xc K c C LE->PySem.W.kitAny K (.ref C) cvs=some (cns.any λn=>mt n c)
section
variable{K:Frag}{e a b:Expr}{es:List Expr}{fs:FA}{rest:List Stmt}{G:FS}
end
end EV
end
namespace EV
open PySem L2
section
variable{EX:D->Mm->Prop}{i j:Nat}{w x y:W}{Q:W->Mm->Prop}{QA:List W->Mm->Prop}{g h:FE}{G FB FH:FS}{fs:FA}{Fm:Fn}{ws:List W}
end
end EV
section
open PySem PySem.Spec PyProof.Rows
namespace EV
open PySem.W L2
variable{K:Frag}
end EV
end
namespace LS
open PySem L2 EV
noncomputable def Cg(n a b:Int):Prop:=∃k,a=b+n*k
variable{a:Int}
theorem Cg.rfl:Cg n a a:=⟨0,by simp⟩
variable{b:Int}
theorem Cg.symm(h:Cg n a b):Cg n b a:=by obtain⟨k,rfl⟩:=h;exact⟨-k,by grind⟩
variable{c:Int}
theorem Cg.trans(h:Cg n a b)(g:Cg n b c):Cg n a c:=by obtain⟨k,rfl⟩:=h;obtain⟨l,rfl⟩:=g;exact⟨k+l,by grind⟩
theorem Cg.add{d:Int}(h:Cg n a b)(g:Cg n c d):Cg n (a+c) (b+d):=by obtain⟨k,rfl⟩:=h;obtain⟨l,rfl⟩:=g;exact⟨k+l,by grind⟩
theorem Cg.sub{d:Int}(h:Cg n a b)(g:Cg n c d):Cg n (a - c) (b - d):=by obtain⟨k,rfl⟩:=h;obtain⟨l,rfl⟩:=g;exact⟨k - l,by grind⟩
theorem Cg.neg(h:Cg n a b):Cg n (-a) (-b):=by obtain⟨k,rfl⟩:=h;exact⟨-k,by grind⟩
theorem Cg.mul{d:Int}(h:Cg n a b)(g:Cg n c d):Cg n (a*c) (b*d):=by obtain⟨k,rfl⟩:=h;obtain⟨l,rfl⟩:=g;exact⟨b*l+d*k+n*k*l,by grind⟩
theorem Cg.mod:Cg n (a % n) a:=⟨-(a / n),by have:=Int.emod_def a n;grind⟩
theorem Cg.modT(h:Cg n a b):Cg n (a % n) b:=Cg.mod.trans h
theorem Cg.emod(h:Cg n a b):a % n=b % n:=by obtain⟨k,rfl⟩:=h;simp[Int.add_mul_emod_self_left]
theorem Cg.of(h:a % n=b % n):Cg n a b:=Cg.mod.symm.trans (h▸Cg.mod)
theorem Cg.of_eq(h:a=b):Cg n a b:=h▸Cg.rfl
theorem dS{a' b':Int}(h:Cg n a a')(g:Cg n b b')(e:a'=b'):a % n=b % n:=(h.trans (e▸g.symm)).emod
theorem jE{a':Int}(l:0<=b)(u:b < n)(h:Cg n a a')(e:a'=b):a % n=b:=by rw[dS h Cg.rfl e,aBZ l u]
local macro_rules | `(tactic| rfl') => `(tactic| repeat decreasing_trivial_pre_omega)
local macro_rules | `(tactic| decreasing_trivial_pre_omega) => `(tactic| with_reducible first
 | apply Cg.modT | apply Cg.add | apply Cg.sub | apply Cg.mul | apply Cg.neg | exact Cg.rfl)
inductive Dd
 |add (s:Nat) (c:Int) (gs ts:List Nat)
 |scale (s:Nat) (u:Int)
noncomputable section
def natsD(xs:List Nat):D:=.tup (xs.map λk=>.int (k:Nat))
def intsD(xs:List Int):D:=.tup (xs.map .int)
def encD:Dd->D
 |.add s c gs ts=>.tup [.str "add",.int s,.int c,natsD gs,natsD ts]
 |.scale s u=>.tup [.str "scale",.int s,.int u]
def pr(xs:List Int)(is:List Nat):Int:=is.foldl (λa i=>a*xs.getD i 0) 1
end
theorem wW(xs:List Int)(is:List Nat)(c:Int):is.foldl (λa i=>a*xs.getD i 0) c=c*pr xs is:=by
 induction is generalizing c with
 |nil=>simp[pr]
 |cons i r ih=>rw[aCB,ih];show _=c*(List.foldl _ (1*_) r);rw[ih (1*_)];grind
theorem kJ(xs:List Int)(i:Nat)(r:List Nat):pr xs (i::r)=xs.getD i 0*pr xs r:=by
 simp only[pr,aCB,Int.one_mul];exact wW xs r _
theorem iJ(xs:List Int):pr xs []=1:=rfl
theorem oC(xs:List Int)(i:Nat):pr xs [i]=xs.getD i 0:=by simp[pr]
variable{s:Nat}{v:Int}
theorem aCm{xs:List Int}{is:List Nat}(h:s∉is):pr (xs.set s v) is=pr xs is:=by
 induction is with
 |nil=>rfl
 |cons i r ih =>
  rw[kJ,kJ,ih (λz=>h (by simp[z]))]
  have:s≠i:=λz=>h (by simp[z])
  simp[aAZ this]
noncomputable def dn(n:Int)(gs cs:List Int):Dd->List Int
 |.add s c g t=>cs.set s ((cs.getD s 0+c*pr gs g*pr cs t) % n)
 |.scale s u=>cs.set s (cs.getD s 0*u % n)
noncomputable def rn(n:Int)(gs:List Int)(ds:List Dd)(cs:List Int):List Int:=ds.foldl (λcs d=>dn n gs cs d) cs
theorem kQ :rn n gs [] cs=cs:=rfl
variable{d:Dd}{ds:List Dd}
theorem dW :rn n gs (d::ds) cs=rn n gs ds (dn n gs cs d):=rfl
theorem aR{es:List Dd}:rn n gs (ds++es) cs=rn n gs es (rn n gs ds cs):=by simp[rn]
theorem hZ :(dn n gs cs d).length=cs.length:=by cases d <;> simp[dn]
theorem cP :∀{cs:List Int},(rn n gs ds cs).length=cs.length:=by
 induction ds with
 |nil=>intro cs;rfl
 |cons d ds ih=>intro cs;rw[dW,ih,hZ]
noncomputable def Rs(n:Int)(cs:List Int):Prop:=∀c∈cs,0<=c/\c < n
theorem Rs.getD{n:Int}{cs:List Int}(h:Rs n cs){i:Nat}(hi:i < cs.length):0<=cs.getD i 0/\cs.getD i 0 < n:=h _ (by simp[hi])
theorem Rs.getD0(h:Rs n cs)(hn:0 < n):0<=cs.getD i 0/\cs.getD i 0 < n:=by
 by_cases hi:i < cs.length
 ·exact h.getD hi
 ·simp[aCL (Nat.le_of_not_lt hi)];exact hn
theorem Rs.set{n:Int}{cs:List Int}(h:Rs n cs){i:Nat}{v:Int}(l:0<=v)(u:v < n):Rs n (cs.set i v):=by
 intro c hc
 rcases List.mem_or_eq_of_mem_set hc with hc|rfl
 ·exact h c hc
 ·exact⟨l,u⟩
theorem Rs.setM(hn:0 < n)(h:Rs n cs) :Rs n (cs.set i (v % n)):=h.set (aAN _ (by lia)) (aAI _ hn)
theorem Rs.dn{n:Int}{gs cs:List Int}(hn:0 < n)(h:Rs n cs){d:Dd}:Rs n (dn n gs cs d):=by cases d <;> exact h.setM hn
theorem Rs.rn{n:Int}{gs:List Int}(hn:0 < n){ds:List Dd}:∀{cs:List Int},Rs n cs->Rs n (rn n gs ds cs):=by
 induction ds with
 |nil=>intro cs h;exact h
 |cons d ds ih=>intro cs h;rw[dW];exact ih (h.dn hn)
noncomputable def IsIv(n u v:Int):Prop:=0<=v/\v < n/\(u*v) % n=1 % n
variable{u:Int}
theorem IsIv.uniq{w:Int}(h:IsIv n u v)(g:IsIv n u w):v=w:=by
 obtain⟨l,k,e⟩:=h
 obtain⟨l',k',e'⟩:=g
 have e1:Cg n (u*v) 1:=Cg.of e
 have e2:Cg n (u*w) 1:=Cg.of e'
 have:Cg n v w:=by
  have h1:Cg n v (v*(u*w)):=by simpa using Cg.mul (Cg.rfl (a:=v)) e2.symm
  have h2:Cg n ((u*v)*w) (1*w):=Cg.mul e1 Cg.rfl
  exact h1.trans ((Cg.of_eq (by grind)).trans (h2.trans (Cg.of_eq (by grind))))
 have:=this.emod
 rwa[aBZ l k,aBZ l' k']at this
open Classical in
noncomputable def iv(n u:Int):Int:=if h:∃v,IsIv n u v then Classical.choose h else 0
theorem vV(h:IsIv n u v):iv n u=v:=by
 have hx:∃v,IsIv n u v:=⟨v,h⟩
 unfold iv
 rw[dif_pos hx]
 exact(Classical.choose_spec hx).uniq h
theorem tM(h:∃v,IsIv n u v):IsIv n u (iv n u):=by obtain⟨v,h⟩:=h;rw[vV h];exact h
noncomputable section
def Un(n u:Int):Prop:=0<=u/\u < n/\∃v,IsIv n u v
theorem Un.iv{n u:Int}(h:Un n u):Un n (iv n u):=by
 have h':=tM h.2.2
 exact⟨h'.1,h'.2.1,u,h.1,h.2.1,by rw[aCS];exact h'.2.2⟩
def OkD(n:Int)(G S:Nat):Dd->Prop
 |.add s c g t=>s < S/\0<=c/\c < n/\(∀i∈g,i < G)/\(∀i∈t,i < S)/\s∉t/\g.length<=4/\t.length<=4
 |.scale s u=>s < S/\Un n u
def bD(n:Int):Dd->Dd
 |.add s c g t=>.add s (-c % n) g t
 |.scale s u=>.scale s (iv n u)
def bDs(n:Int)(ds:List Dd):List Dd:=ds.reverse.map (bD n)
end
theorem OkD.back(hn:0 < n)(h:OkD n G S d):OkD n G S (bD n d):=by
 cases d with
 |add s c g t=>obtain⟨a,b,c,r⟩:=h;exact⟨a,aAN _ (by lia),aAI _ hn,r⟩
 |scale s u=>exact⟨h.1,h.2.iv⟩
theorem OkD.backs{n:Int}(hn:0 < n){ds:List Dd}(h:∀d∈ds,OkD n G S d):∀d∈bDs n ds,OkD n G S d:=by
 intro d hd
 obtain⟨x,hx,rfl⟩:=aBX.mp hd
 exact(h x (List.mem_reverse.mp hx)).back hn
theorem bP :(bDs n ds).length=ds.length:=by simp[bDs]
theorem hU(cs:List Int)(s:Nat):cs.set s (cs.getD s 0)=cs:=by
 apply aGL
 intro i
 by_cases hi:s=i
 ·subst hi
  by_cases h:s < cs.length
  ·rw[aAY h];simp[h]
  ·rw[aCL (by simpa using h),aCL (by simpa using h)]
 ·rw[aAZ hi]
theorem aT(h:s < cs.length):(cs.set s v).getD s 0=v:=by simp[h]
theorem aZ(h:s≠i):(cs.set s v).getD i 0=cs.getD i 0:=by simp[aAZ h]
theorem yN(hn:0 < n)(hc:Rs n cs)(h:OkD n G cs.length d):dn n gs (dn n gs cs d) (bD n d)=cs:=by
 cases d with
 |add s c g t =>
  obtain⟨hs,_,_,_,_,hst,_⟩:=h
  simp only[dn,bD]
  rw[aT hs,aCm hst,aBQ]
  have:((cs.getD s 0+c*pr gs g*pr cs t) % n + -c % n*pr gs g*pr cs t) % n=cs.getD s 0:=by
   apply jE ((hc.getD hs).1) ((hc.getD hs).2)
   ·rfl'
   ·grind
  rw[this,hU]
 |scale s u =>
  obtain⟨hs,hu⟩:=h
  simp only[dn,bD]
  rw[aT hs,aBQ]
  have:cs.getD s 0*u % n*iv n u % n=cs.getD s 0:=by
   have e:Cg n (u*iv n u) 1:=Cg.of (tM hu.2.2).2.2
   have h1:Cg n (cs.getD s 0*u % n*iv n u) (cs.getD s 0*(u*iv n u)):=(Cg.mul Cg.mod Cg.rfl).trans (Cg.of_eq (by grind))
   have h2:=(h1.trans (Cg.mul Cg.rfl e)).emod
   rw[h2,aGD,aBZ (hc.getD hs).1 (hc.getD hs).2]
  rw[this,hU]
theorem oQ(hn:0 < n){ds:List Dd}:∀{cs:List Int},Rs n cs->(∀d∈ds,OkD n G cs.length d)->rn n gs (bDs n ds) (rn n gs ds cs)=cs:=by
 induction ds with
 |nil=>intro cs _ _;rfl
 |cons d ds ih =>
  intro cs hc h
  have e:bDs n (d::ds)=bDs n ds++[bD n d]:=by simp[bDs]
  rw[e,aR,dW (ds:=ds),ih (hc.dn hn) (λx hx=>by rw[hZ];exact h x (by simp[hx]))]
  exact yN hn hc (h d (by simp))
inductive Wd|sum|less|times
noncomputable def Wd.str:Wd->Str
 |.sum=>"sum"
 |.less=>"less"
 |.times=>"times"
noncomputable def Wd.ev(n:Int):Wd->Int->Int->Int
 |.sum,x,y=>(x+y) % n
 |.less,x,y=>(x - y) % n
 |.times,x,y=>x*y % n
inductive E
 |num (c:Int)
 |giv (i:Nat)
 |op (w:Wd) (a b:E)
noncomputable section
def enc:E->D
 |.num c=>.tup [.str "num",.int c]
 |.giv i=>.tup [.str "given",.int i]
 |.op w a b=>.tup [.str w.str,enc a,enc b]
def val(n:Int)(gs:List Int):E->Int
 |.num c=>c % n
 |.giv i=>gs.getD i 0
 |.op w a b=>w.ev n (val n gs a) (val n gs b)
def dp:E->Nat
 |.num _=>0
 |.giv _=>0
 |.op _ a b=>max (dp a) (dp b)+1
def wf(m:Nat):E->Prop
 |.num c=>0<=c/\c < 1000000
 |.giv i=>i < m
 |.op _ a b=>wf m a/\wf m b
theorem jU(hn:0 < n)(hg:Rs n gs):∀{e:E},0<=val n gs e/\val n gs e < n:=by
 intro e
 cases e with
 |num c=>exact⟨aAN _ (by lia),aAI _ hn⟩
 |giv i=>exact hg.getD0 hn
 |op w a b=>cases w <;> exact⟨aAN _ (by lia),aAI _ hn⟩
def rowBy(n:Int):E->Nat->Nat->Nat->List Dd
 |.num c,s,b,_=>[.add s (c % n) [] [b]]
 |.giv i,s,b,_=>[.add s 1 [i] [b]]
 |.op .sum x y,s,b,c=>rowBy n x s b c++rowBy n y s b c
 |.op .less x y,s,b,c=>rowBy n x s b c++bDs n (rowBy n y s b c)
 |.op .times x y,s,b,c=>rowBy n y c b s++rowBy n x s c b++bDs n (rowBy n y c b s)++bDs n (rowBy n x s c b)
def rowAl(n:Int):E->Nat->Nat->Nat->List Dd
 |.num c,s,_,_=>[.add s (c % n) [] []]
 |.giv i,s,_,_=>[.add s 1 [i] []]
 |.op .sum x y,s,b,c=>rowAl n x s b c++rowAl n y s b c
 |.op .less x y,s,b,c=>rowAl n x s b c++bDs n (rowAl n y s b c)
 |.op .times x y,s,b,c=>rowAl n y c b s++rowBy n x s c b++bDs n (rowAl n y c b s)++bDs n (rowBy n x s c b)
def many:E->Nat
 |.num _=>1
 |.giv _=>1
 |.op .times a b=>2*(many a+many b)
 |.op _ a b=>many a+many b
end
theorem aO{n:Int}:∀{e:E} {s b c:Nat},(rowBy n e s b c).length=many e
 |.num _,_,_,_=>rfl
 |.giv _,_,_,_=>rfl
 |.op .sum x y,s,b,c=>by simp[rowBy,many,aO (e:=x),aO (e:=y)]
 |.op .less x y,s,b,c=>by simp[rowBy,many,bP,aO (e:=x),aO (e:=y)]
 |.op .times x y,s,b,c=>by simp[rowBy,many,bP,aO (e:=x),aO (e:=y)];lia
theorem aX{n:Int}:∀{e:E} {s b c:Nat},(rowAl n e s b c).length=many e
 |.num _,_,_,_=>rfl
 |.giv _,_,_,_=>rfl
 |.op .sum x y,s,b,c=>by simp[rowAl,many,aX (e:=x),aX (e:=y)]
 |.op .less x y,s,b,c=>by simp[rowAl,many,bP,aX (e:=x),aX (e:=y)]
 |.op .times x y,s,b,c=>by simp[rowAl,many,bP,aO (e:=x),aX (e:=y)];lia
theorem nL:∀{e:E},many e<=4 ^ dp e
 |.num _=>by simp[many,dp]
 |.giv _=>by simp[many,dp]
 |.op w a b=>by
  have h1:=nL (e:=a)
  have h2:=nL (e:=b)
  have h3:4 ^ dp a<=4 ^ max (dp a) (dp b):=aDW (by lia) (by lia)
  have h4:4 ^ dp b<=4 ^ max (dp a) (dp b):=aDW (by lia) (by lia)
  have h5:4 ^ dp (.op w a b)=4 ^ max (dp a) (dp b)*4:=by simp only[dp,Nat.pow_succ]
  rw[h5]
  cases w <;> simp only[many] <;> lia
theorem vP{e:E}(h:dp e<=8):many e<=65536:=aBL nL (aBL (aDW (by lia) h) (by decide))
theorem bY{P:Dd->Prop}{a b:List Dd}(h:∀d∈a,P d)(g:∀d∈b,P d):∀d∈a++b,P d:=λd hd=>(aCA.mp hd).elim (h d) (g d)
theorem bN{n:Int}{G S:Nat}(hn:1 < n):∀{e:E} {s b c:Nat},wf G e->s < S->b < S->c < S->s≠b->s≠c->b≠c->∀d∈rowBy n e s b c,OkD n G S d
 |.num k,s,b,c,_,hs,hb,_,h1,_,_=>by
  intro d hd
  simp only[rowBy,aBC]at hd
  subst hd
  exact⟨hs,aAN _ (by lia),aAI _ (by lia),by simp,by simpa using hb,by simpa using h1,by simp,by simp⟩
 |.giv i,s,b,c,hw,hs,hb,_,h1,_,_=>by
  intro d hd
  simp only[rowBy,aBC]at hd
  subst hd
  exact⟨hs,by lia,hn,by simpa[wf]using hw,by simpa using hb,by simpa using h1,by simp,by simp⟩
 |.op .sum x y,s,b,c,hw,hs,hb,hc,h1,h2,h3=>bY (bN hn hw.1 hs hb hc h1 h2 h3) (bN hn hw.2 hs hb hc h1 h2 h3)
 |.op .less x y,s,b,c,hw,hs,hb,hc,h1,h2,h3=>bY (bN hn hw.1 hs hb hc h1 h2 h3) (OkD.backs (by lia) (bN hn hw.2 hs hb hc h1 h2 h3))
 |.op .times x y,s,b,c,hw,hs,hb,hc,h1,h2,h3 =>
  bY (bY (bY (bN hn hw.2 hc hb hs h3.symm h2.symm h1.symm) (bN hn hw.1 hs hc hb h2 h1 h3.symm)) (OkD.backs (by lia) (bN hn hw.2 hc hb hs h3.symm h2.symm h1.symm))) (OkD.backs (by lia) (bN hn hw.1 hs hc hb h2 h1 h3.symm))
theorem cM{n:Int}{G S:Nat}(hn:1 < n):∀{e:E} {s b c:Nat},wf G e->s < S->b < S->c < S->s≠b->s≠c->b≠c->∀d∈rowAl n e s b c,OkD n G S d
 |.num k,s,b,c,_,hs,hb,_,h1,_,_=>by
  intro d hd
  simp only[rowAl,aBC]at hd
  subst hd
  exact⟨hs,aAN _ (by lia),aAI _ (by lia),by simp,by simp,by simp,by simp,by simp⟩
 |.giv i,s,b,c,hw,hs,hb,_,h1,_,_=>by
  intro d hd
  simp only[rowAl,aBC]at hd
  subst hd
  exact⟨hs,by lia,hn,by simpa[wf]using hw,by simp,by simp,by simp,by simp⟩
 |.op .sum x y,s,b,c,hw,hs,hb,hc,h1,h2,h3=>bY (cM hn hw.1 hs hb hc h1 h2 h3) (cM hn hw.2 hs hb hc h1 h2 h3)
 |.op .less x y,s,b,c,hw,hs,hb,hc,h1,h2,h3=>bY (cM hn hw.1 hs hb hc h1 h2 h3) (OkD.backs (by lia) (cM hn hw.2 hs hb hc h1 h2 h3))
 |.op .times x y,s,b,c,hw,hs,hb,hc,h1,h2,h3 =>
  bY (bY (bY (cM hn hw.2 hc hb hs h3.symm h2.symm h1.symm) (bN hn hw.1 hs hc hb h2 h1 h3.symm)) (OkD.backs (by lia) (cM hn hw.2 hc hb hs h3.symm h2.symm h1.symm))) (OkD.backs (by lia) (bN hn hw.1 hs hc hb h2 h1 h3.symm))
theorem kK(hn:0 < n){ds:List Dd}{b:Nat}(hs:s < S)(hsb:s≠b)(h:∀d∈ds,OkD n G S d)
  (r:∀cs,Rs n cs->cs.length=S->rn n gs ds cs=cs.set s ((cs.getD s 0+v*cs.getD b 0) % n)):∀cs,Rs n cs->cs.length=S->rn n gs (bDs n ds) cs=cs.set s ((cs.getD s 0 - v*cs.getD b 0) % n):=by
 intro cs hc hl
 have h1:Rs n (cs.set s ((cs.getD s 0 - v*cs.getD b 0) % n)):=hc.setM hn
 have h2:=r _ h1 (by simpa using hl)
 rw[aT (by lia),aZ hsb,aBQ]at h2
 have e:((cs.getD s 0 - v*cs.getD b 0) % n+v*cs.getD b 0) % n=cs.getD s 0:=by
  apply jE ((hc.getD (by lia)).1) ((hc.getD (by lia)).2)
  ·rfl'
  ·grind
 rw[e,hU]at h2
 have:=oQ (gs:=gs) (ds:=ds) hn h1 (by simpa[hl]using h)
 rwa[h2]at this
theorem qP(h:i≠j)(a b:Int):(cs.set i a).set j b=(cs.set j b).set i a:=List.set_comm _ _ h
theorem eE{n:Int}{gs:List Int}{S:Nat}(hn:1 < n):∀{e:E} {s b c:Nat},wf gs.length e->s < S->b < S->c < S->s≠b->s≠c->b≠c ->
  ∀cs,Rs n cs->cs.length=S->rn n gs (rowBy n e s b c) cs=cs.set s ((cs.getD s 0+val n gs e*cs.getD b 0) % n)
 |.num k,s,b,c,_,hs,hb,_,h1,_,_=>by
  intro cs hc hl
  simp only[rowBy,dW,kQ,dn,iJ,oC,val]
  congr 1
  apply dS
  ·rfl'
  ·rfl'
  ·grind
 |.giv i,s,b,c,_,hs,hb,_,h1,_,_=>by
  intro cs hc hl
  simp only[rowBy,dW,kQ,dn,iJ,oC,val]
  congr 1
  apply dS
  ·rfl'
  ·rfl'
  ·grind
 |.op .sum x y,s,b,c,hw,hs,hb,hc,h1,h2,h3=>by
  intro cs hcs hl
  have r1:=eE hn hw.1 hs hb hc h1 h2 h3
  have r2:=eE hn hw.2 hs hb hc h1 h2 h3
  simp only[rowBy,val,Wd.ev]
  rw[aR,r1 cs hcs hl,r2 _ (hcs.setM (by lia)) (by simpa using hl),aT (by lia),aZ h1,aBQ]
  congr 1
  apply dS
  ·rfl'
  ·rfl'
  ·grind
 |.op .less x y,s,b,c,hw,hs,hb,hc,h1,h2,h3=>by
  intro cs hcs hl
  have r1:=eE hn hw.1 hs hb hc h1 h2 h3
  have r2:=kK (G:=gs.length) (by lia) hs h1 (bN hn hw.2 hs hb hc h1 h2 h3) (eE hn hw.2 hs hb hc h1 h2 h3)
  simp only[rowBy,val,Wd.ev]
  rw[aR,r1 cs hcs hl,r2 _ (hcs.setM (by lia)) (by simpa using hl),aT (by lia),aZ h1,aBQ]
  congr 1
  apply dS
  ·rfl'
  ·rfl'
  ·grind
 |.op .times x y,s,b,c,hw,hs,hb,hc,h1,h2,h3=>by
  intro cs hcs hl
  have r1:=eE hn hw.2 hc hb hs h3.symm h2.symm h1.symm
  have r2:=eE hn hw.1 hs hc hb h2 h1 h3.symm
  have r3:=kK (G:=gs.length) (by lia) hc h3.symm (bN hn hw.2 hc hb hs h3.symm h2.symm h1.symm) r1
  have r4:=kK (G:=gs.length) (by lia) hs h2 (bN hn hw.1 hs hc hb h2 h1 h3.symm) r2
  simp only[rowBy,val,Wd.ev]
  have n0:0 < n:=by lia
  have q1:=hcs.setM n0 (i:=c) (v:=cs.getD c 0+val n gs y*cs.getD b 0)
  rw[aR,aR,aR,r1 cs hcs hl,r2 _ q1 (by simpa using hl),r3 _ (q1.setM n0) (by simpa using hl),r4 _ ((q1.setM n0).setM n0) (by simpa using hl)]
  have hl1:s < cs.length:=by lia
  have hl2:c < cs.length:=by lia
  simp only[aZ h2,aZ h2.symm,aZ h3.symm,aZ h3,aZ h1,aZ h1.symm,aT hl2,aT (cs:=cs.set c _) (s:=s) (by simpa using hl1),aT (cs:=(cs.set c _).set s _) (s:=c) (by simpa using hl2)]
  rw[qP h2,aBQ,aBQ]
  have e1:((cs.getD c 0+val n gs y*cs.getD b 0) % n - val n gs y*cs.getD b 0) % n=cs.getD c 0:=by
   apply jE ((hcs.getD hl2).1) ((hcs.getD hl2).2)
   ·rfl'
   ·grind
  rw[e1,hU]
  congr 1
  apply dS
  ·rfl'
  ·rfl'
  ·grind
theorem tR(hn:0 < n){ds:List Dd}(hs:s < S)(h:∀d∈ds,OkD n G S d)
  (r:∀cs,Rs n cs->cs.length=S->rn n gs ds cs=cs.set s ((cs.getD s 0+v) % n)):∀cs,Rs n cs->cs.length=S->rn n gs (bDs n ds) cs=cs.set s ((cs.getD s 0 - v) % n):=by
 intro cs hc hl
 have h1:Rs n (cs.set s ((cs.getD s 0 - v) % n)):=hc.setM hn
 have h2:=r _ h1 (by simpa using hl)
 rw[aT (by lia),aBQ]at h2
 have e:((cs.getD s 0 - v) % n+v) % n=cs.getD s 0:=by
  apply jE ((hc.getD (by lia)).1) ((hc.getD (by lia)).2)
  ·rfl'
  ·grind
 rw[e,hU]at h2
 have:=oQ (gs:=gs) (ds:=ds) hn h1 (by simpa[hl]using h)
 rwa[h2]at this
theorem fC{n:Int}{gs:List Int}{S:Nat}(hn:1 < n):∀{e:E} {s b c:Nat},wf gs.length e->s < S->b < S->c < S->s≠b->s≠c->b≠c ->
  ∀cs,Rs n cs->cs.length=S->rn n gs (rowAl n e s b c) cs=cs.set s ((cs.getD s 0+val n gs e) % n)
 |.num k,s,b,c,_,hs,hb,_,h1,_,_=>by
  intro cs hc hl
  simp only[rowAl,dW,kQ,dn,iJ,oC,val]
  congr 1
  apply dS
  ·rfl'
  ·rfl'
  ·grind
 |.giv i,s,b,c,_,hs,hb,_,h1,_,_=>by
  intro cs hc hl
  simp only[rowAl,dW,kQ,dn,iJ,oC,val]
  congr 1
  apply dS
  ·rfl'
  ·rfl'
  ·grind
 |.op .sum x y,s,b,c,hw,hs,hb,hc,h1,h2,h3=>by
  intro cs hcs hl
  have r1:=fC hn hw.1 hs hb hc h1 h2 h3
  have r2:=fC hn hw.2 hs hb hc h1 h2 h3
  simp only[rowAl,val,Wd.ev]
  rw[aR,r1 cs hcs hl,r2 _ (hcs.setM (by lia)) (by simpa using hl),aT (by lia),aBQ]
  congr 1
  apply dS
  ·rfl'
  ·rfl'
  ·grind
 |.op .less x y,s,b,c,hw,hs,hb,hc,h1,h2,h3=>by
  intro cs hcs hl
  have r1:=fC hn hw.1 hs hb hc h1 h2 h3
  have r2:=tR (G:=gs.length) (by lia) hs (cM hn hw.2 hs hb hc h1 h2 h3) (fC hn hw.2 hs hb hc h1 h2 h3)
  simp only[rowAl,val,Wd.ev]
  rw[aR,r1 cs hcs hl,r2 _ (hcs.setM (by lia)) (by simpa using hl),aT (by lia),aBQ]
  congr 1
  apply dS
  ·rfl'
  ·rfl'
  ·grind
 |.op .times x y,s,b,c,hw,hs,hb,hc,h1,h2,h3=>by
  intro cs hcs hl
  have r1:=fC hn hw.2 hc hb hs h3.symm h2.symm h1.symm
  have r2:=eE hn hw.1 hs hc hb h2 h1 h3.symm
  have r3:=tR (G:=gs.length) (by lia) hc (cM hn hw.2 hc hb hs h3.symm h2.symm h1.symm) r1
  have r4:=kK (G:=gs.length) (by lia) hs h2 (bN hn hw.1 hs hc hb h2 h1 h3.symm) r2
  simp only[rowAl,val,Wd.ev]
  have n0:0 < n:=by lia
  have q1:=hcs.setM n0 (i:=c) (v:=cs.getD c 0+val n gs y)
  rw[aR,aR,aR,r1 cs hcs hl,r2 _ q1 (by simpa using hl),r3 _ (q1.setM n0) (by simpa using hl),r4 _ ((q1.setM n0).setM n0) (by simpa using hl)]
  have hl1:s < cs.length:=by lia
  have hl2:c < cs.length:=by lia
  simp only[aZ h2,aZ h2.symm,aZ h3.symm,aZ h3,aZ h1,aZ h1.symm,aT hl2,aT (cs:=cs.set c _) (s:=s) (by simpa using hl1),aT (cs:=(cs.set c _).set s _) (s:=c) (by simpa using hl2)]
  rw[qP h2,aBQ,aBQ]
  have e1:((cs.getD c 0+val n gs y) % n - val n gs y) % n=cs.getD c 0:=by
   apply jE ((hcs.getD hl2).1) ((hcs.getD hl2).2)
   ·rfl'
   ·grind
  rw[e1,hU]
  congr 1
  apply dS
  ·rfl'
  ·rfl'
  ·grind
end LS
variable{ds:List LS.Dd}
namespace LS
open PySem L2 EV
variable{EX:D->Mm->Prop}
theorem at2I(x y:Int)(c:Bool):atI [D.int x,D.int y] (if c=true then 1 else 0)=some (D.int (if c=true then y else x)):=by cases c <;> rfl
theorem at4{d:Int}(l:0<=d)(u:d < 4)(x y z t:D):∃w,atI [x,y,z,t] d=some w/\(w=x\/w=y\/w=z\/w=t):=by
 have:d=0\/d=1\/d=2\/d=3:=by lia
 rcases this with rfl|rfl|rfl|rfl
 ·exact⟨x,rfl,by simp⟩
 ·exact⟨y,rfl,by simp⟩
 ·exact⟨z,rfl,by simp⟩
 ·exact⟨t,rfl,by simp⟩
theorem dP(h:i < cs.length):atI (cs.map D.int) (i:Int)=some (.int (cs.getD i 0)):=by
 simp only[atI,ixN,aAL]
 rw[aAH (by lia),aAH (by lia)]
 simp[h]
noncomputable def encP(n G S:Int)(ds:List Dd):D:=.tup [.int n,.int G,.int S,.tup (ds.map encD)]
variable{xs:List Int}
theorem foldm(is:List Nat)(c:Int):Cg n (is.foldl (λa i=>a*xs.getD i 0 % n) c) (c*pr xs is):=by
 induction is generalizing c with
 |nil=>rw[iJ,aGD];exact Cg.rfl
 |cons i r ih =>
  rw[aCB,kJ]
  exact(ih _).trans ((Cg.mul Cg.mod Cg.rfl).trans (Cg.of_eq (by grind)))
theorem fQ(hn:0 < n)(is:List Nat){c:Int}(l:0<=c)(u:c < n):0<=is.foldl (λa i=>a*xs.getD i 0 % n) c/\is.foldl (λa i=>a*xs.getD i 0 % n) c < n:=by
 induction is generalizing c with
 |nil=>exact⟨l,u⟩
 |cons i r ih=>rw[aCB];exact ih (aAN _ (by lia)) (aAI _ hn)
theorem oN{s:Nat}{v:Int}:(cs.map D.int).set s (.int v)=(cs.set s v).map D.int:=by rw[List.map_set]
variable{k:Nat}
theorem oT(h:i < k):ixN k (i:Int)=some i:=by
 simp only[ixN]
 rw[aAH (by lia),aAH (by lia)]
 simp
theorem uW(l:List Int):∀i:Nat,(l.map D.int).eraseIdx i=(l.eraseIdx i).map D.int:=by
 induction l with
 |nil=>intro i;rfl
 |cons x r ih=>intro i;cases i with
  |zero=>rfl
  |succ i=>simp[List.eraseIdx,ih]
theorem sN(l:List Int):∀(i:Nat) (h:i < l.length),List.Perm (l[i]::l.eraseIdx i) l:=by
 induction l with
 |nil=>intro i h;simp at h
 |cons x r ih=>intro i h;cases i with
  |zero=>exact .refl _
  |succ i=>exact(List.Perm.swap x (r[i]'(by simpa using h)) (r.eraseIdx i)).trans ((ih i (by simpa using h)).cons x)
theorem vS{Q:W->Mm->Prop}{i:Int}{xs:List D}{d:D}(h:M[k]?=some xs)(h0:0<=i)(hi:i < xs.length)(hz:xs.length<=16777216)(hd:xs[i.toNat]?=some d)(q:Q (.d d) (M.set k (xs.eraseIdx i.toNat))):Okx EX (pPopAt (.ref k) (.d (.int i)) M) Q:=by
 unfold pPopAt
 simp only[h]
 rw[aGB h0 hi]
 simp only[hd]
 rw[aAH (by lia)]
 exact aK q
theorem tT{w:Wd}{x y:E}:many x+many y<=many (.op w x y):=by cases w <;> simp only[many] <;> lia
mutual
theorem oW:∀d:D,eqD d d=true
 |.non=>by simp[eqD]
 |.bl b=>by simp[eqD]
 |.int i=>by simp[eqD]
 |.str x=>by simp[eqD]
 |.tup xs=>by simp only[eqD];exact fY xs
 |.lst xs=>by simp only[eqD];exact fY xs
 |.fz xs=>by simp only[eqD];exact fY xs
 |.exn c f xs=>by simp only[eqD];rw[fY xs];simp
theorem fY:∀ds:List D,eqDs ds ds=true
 |[]=>by simp[eqDs]
 |d::ds=>by simp only[eqDs,oW d,fY ds,Bool.and_true]
end
theorem xK(xs:List Int):dep (intsD xs)<=3:=by
 have:deps (xs.map D.int)<=1:=by
  induction xs with
  |nil=>simp[deps]
  |cons x r ih=>simp[deps,dep];lia
 simp only[intsD,dep]
 lia
theorem qJ(xs:List Int):dep (intsD xs)<=100:=aBL (xK xs) (by lia)
variable{x y:W}{Q:W->Mm->Prop}
theorem aBz{a b:D}(h1:wd M x=some a)(h2:wd M y=some b)(e:a=b)(hd:dep a<=100)(q:Q (.d (.bl false)) M):Okx EX (pNe x y M) Q:=by
 subst e
 exact wP h1 h2 ⟨hd,hd⟩ (by rw[oW];exact q)
end LS
namespace LS
open PySem L2 EV
variable{EX:D->Mm->Prop}
theorem natsOf{xs:List Int}(h:∀x∈xs,0<=x):∃ks:List Nat,xs=ks.map (λk:Nat=>(k:Int)):=by
 refine⟨xs.map Int.toNat,?_⟩
 rw[aEJ]
 conv=>lhs;rw[<- List.map_id xs]
 exact List.map_congr_left λx hx=>by simp;have:=h x hx;lia
theorem oZ(ns:List Nat):∃ks:List Nat,srt (ns.map λk:Nat=>(k:Int))=ks.map (λk:Nat=>(k:Int))/\ks.Perm ns/\ks.Pairwise (·<=·):=by
 obtain⟨ks,e⟩:=natsOf (xs:=srt (ns.map λk:Nat=>(k:Int))) (λx hx=>by
  rw[zV]at hx;obtain⟨k,_,rfl⟩:=aBX.mp hx;lia)
 refine⟨ks,e,?_,?_⟩
 ·have p:=jL (ns.map λk:Nat=>(k:Int))
  rw[e]at p
  have:=p.map Int.toNat
  simpa[aEJ,aDA]using this
 ·have o:=lA (ns.map λk:Nat=>(k:Int))
  rw[e,aEU]at o
  exact o.imp λh=>by lia
theorem qL(ns:List Nat):(ns.map λx=>D.int (x:Nat))=(ns.map λk:Nat=>(k:Int)).map D.int:=by rw[aEJ];rfl
end LS
namespace LS
open PySem L2 EV
variable{EX:D->Mm->Prop}
end LS
namespace LS
open PySem L2 EV
variable{EX:D->Mm->Prop}
noncomputable def pl(ps:List Nat)(i:Nat):Nat:=ps.getD i 0
end LS
namespace LS
open PySem L2 EV
variable{EX:D->Mm->Prop}
noncomputable def ho:Dd->Dd->Bool
 |.scale _ _,_=>false
 |.add s _ _ t,.scale s' _=>decide (s'=s) || decide (s'∈t)
 |.add _ _ _ t,.add s' _ _ _=>decide (s'∈t)
noncomputable def gp(a b:Dd):Bool:=!ho a b&&!ho b a
end LS
namespace LS
open PySem L2 EV
variable{EX:D->Mm->Prop}
end LS
namespace LS
open PySem L2 EV
end LS
namespace LS
open PySem
noncomputable def sgm(m:Nat)(g:Nat->Int):Int:=((List.range m).map g).sum
variable{g:Nat->Int}
theorem dG :sgm (m+1) g=sgm m g+g m:=by simp[sgm,List.range_succ]
theorem nW{g h:Nat->Int}:∀{m:Nat},sgm m (λi=>g i+h i)=sgm m g+sgm m h
 |0=>rfl
 |m+1=>by rw[dG,dG,dG,nW];lia
theorem kH{c:Int}{g:Nat->Int}:∀{m:Nat},sgm m (λi=>c*g i)=c*sgm m g
 |0=>by simp[sgm]
 |m+1=>by rw[dG,dG,kH,Int.mul_add]
theorem tY:∀{m:Nat},sgm m (λ_=>1)=m
 |0=>rfl
 |m+1=>by rw[dG,tY];simp
theorem geo(x:Int):∀m:Nat,(x - 1)*sgm m (λi=>x ^ i)=x ^ m - 1
 |0=>by simp[sgm]
 |m+1=>by rw[dG,Int.mul_add,geo x m,aBV];grind
noncomputable def Rt(n w:Int)(m:Nat):Prop:=w ^ m % n=1/\∀i:Nat,1<=i->i < m->∃v,IsIv n (w ^ i % n - 1) v
theorem Cg.pow{n a b:Int}(h:Cg n a b):∀k:Nat,Cg n (a ^ k) (b ^ k)
 |0=>Cg.of_eq (by simp)
 |k+1=>by rw[aBV,aBV];exact Cg.mul (Cg.pow h k) h
variable{w:Int}
theorem Rt.one(h:Rt n w m):Cg n (w ^ m) 1:=by
 have:Cg n (w ^ m % n) 1:=Cg.of_eq h.1
 exact Cg.mod.symm.trans this
theorem Rt.geo{n w:Int}{m k:Nat}(h:Rt n w m)(h1:1<=k)(h2:k < m):Cg n (sgm m λi=>w ^ (i*k)) 0:=by
 obtain⟨v,_,_,hv⟩:=h.2 k h1 h2
 have e0:Cg n ((w ^ k - 1)*v) 1:=(Cg.mul (Cg.sub Cg.mod.symm Cg.rfl) Cg.rfl).trans (Cg.of hv)
 have e1:sgm m (λi=>w ^ (i*k))=sgm m (λi=>(w ^ k) ^ i):=by
  congr 1
  funext i
  rw[<- Int.pow_mul,aEI]
 have e2:=LS.geo (w ^ k) m
 have e3:Cg n ((w ^ k) ^ m - 1) 0:=by
  rw[<- Int.pow_mul,aEI,Int.pow_mul]
  exact(Cg.sub ((h.one).pow k) Cg.rfl).trans (Cg.of_eq (show(1:Int) ^ k - 1=0 by rw[Int.one_pow];rfl))
 rw[e1]
 generalize sgm m (λi=>(w ^ k) ^ i)=T at e2
 have e4:Cg n (v*((w ^ k - 1)*T)) (v*0):=Cg.mul Cg.rfl (by rw[e2];exact e3)
 refine Cg.trans ?_ (e4.trans (Cg.of_eq (by simp)))
 refine Cg.trans ?_ (Cg.of_eq (show(w ^ k - 1)*v*T=v*((w ^ k - 1)*T) by grind))
 exact(Cg.of_eq (by simp)).trans (Cg.mul e0.symm Cg.rfl)
noncomputable def pf(g:Nat->Int):List Nat->Int
 |[]=>1
 |t::r=>g t*pf g r
theorem aAg{n:Int}{g h:Nat->Int}:∀{t:List Nat},(∀i∈t,Cg n (g i) (h i))->Cg n (pf g t) (pf h t)
 |[],_=>Cg.rfl
 |t::r,e=>Cg.mul (e t (by simp)) (aAg λi hi=>e i (by simp[hi]))
theorem aAh{xs:List Int}:∀t:List Nat,pr xs t=pf (λi=>xs.getD i 0) t
 |[]=>rfl
 |t::r=>by rw[kJ,aAh r];rfl
theorem polysum{n w:Int}{m:Nat}(h:Rt n w m){x v:Nat->Int}:∀(t:List Nat) (j:Nat),j+t.length < m->Cg n (sgm m λi=>w ^ (i*j)*pf (λs=>x s*w ^ i+v s) t) (if j=0 then m*pf v t else 0)
 |[],j,hj=>by
  have e:sgm m (λi=>w ^ (i*j)*pf (λs=>x s*w ^ i+v s) [])=sgm m λi=>w ^ (i*j):=by congr 1;funext i;simp[pf]
  rw[e]
  by_cases h0:j=0
  ·subst h0
   rw[aAH rfl]
   have:sgm m (λi=>w ^ (i*0))=sgm m λ_=>1:=by congr 1;funext i;simp
   rw[this,tY]
   exact Cg.of_eq (by simp[pf])
  ·rw[aAJ h0]
   exact h.geo (by lia) (by simpa using hj)
 |s::t,j,hj=>by
  simp only[aBT]at hj
  have i1:=polysum h (x:=x) (v:=v) t (j+1) (by lia)
  have i2:=polysum h (x:=x) (v:=v) t j (by lia)
  have e:sgm m (λi=>w ^ (i*j)*pf (λs=>x s*w ^ i+v s) (s::t))=x s*sgm m (λi=>w ^ (i*(j+1))*pf (λs=>x s*w ^ i+v s) t)+v s*sgm m (λi=>w ^ (i*j)*pf (λs=>x s*w ^ i+v s) t):=by
   rw[<- kH,<- kH,<- nW]
   congr 1
   funext i
   rw[Nat.mul_add,Nat.mul_one,Int.pow_add]
   simp only[pf]
   grind
  rw[e]
  refine(Cg.add (Cg.mul Cg.rfl i1) (Cg.mul Cg.rfl i2)).trans (Cg.of_eq ?_)
  rw[aAJ (by lia)]
  by_cases h0:j=0
  ·rw[aAH h0,aAH h0];simp only[pf];grind
  ·rw[aAJ h0,aAJ h0];simp
theorem wR{a b:List Int}(ha:Rs n a)(hb:Rs n b)(hl:a.length=b.length)(h:∀s,s < a.length->Cg n (a.getD s 0) (b.getD s 0)):a=b:=by
 refine List.ext_getElem hl λi h1 h2=>?_
 have e:=(h i h1).emod
 have a1:=ha.getD h1
 have b1:=hb.getD h2
 rw[aBZ a1.1 a1.2,aBZ b1.1 b1.2]at e
 simpa[List.getD,h1,h2]using e
noncomputable def Brg(n:Int)(gs:List Int)(S:Nat)(ds:List Dd)(f:Nat->Int):Prop:=∀cs,Rs n cs->cs.length=S->∀s,s < S->Cg n ((rn n gs ds cs).getD s 0) (cs.getD s 0+f s)
variable{f:Nat->Int}
theorem Brg.app{es:List Dd}(hn:0 < n)(h:Brg n gs S ds f)(h':Brg n gs S es g):Brg n gs S (ds++es) λs=>f s+g s:=λcs h1 h2 s hs=>by
 rw[aR]
 refine(h' _ (Rs.rn hn h1) (by rw[cP];exact h2) s hs).trans ?_
 exact(Cg.add (h cs h1 h2 s hs) Cg.rfl).trans (Cg.of_eq (by show _=_+(f s+g s);lia))
theorem Brg.nil :Brg n gs S [] λ_=>0:=λcs _ _ s _=>Cg.of_eq (by show _=_+0;simp[rn])
noncomputable section
def mkA(d:Nat×Int×List Nat):Dd:=.add d.1 d.2.1 [] d.2.2
def isum(ad:List (Nat×Int×List Nat))(g:Nat->Int)(s:Nat):Int:=(ad.map λd=>if d.1=s then d.2.1*pf g d.2.2 else 0).sum
theorem kF{n:Int}{g h:Nat->Int}{s:Nat}:∀{ad:List (Nat×Int×List Nat)},(∀d∈ad,∀t∈d.2.2,Cg n (g t) (h t))->Cg n (isum ad g s) (isum ad h s)
 |[],_=>Cg.rfl
 |d::ad,e=>by
  simp only[isum,aAQ,aCG]
  refine Cg.add ?_ (kF (ad:=ad) λx hx=>e x (by simp[hx]))
  split
  ·exact Cg.mul Cg.rfl (aAg (e d (by simp)))
  ·exact Cg.rfl
theorem pQ{g:Nat->Int}{s:Nat}:∀{ad:List (Nat×Int×List Nat)},(∀d∈ad,d.1≠s)->isum ad g s=0
 |[],_=>rfl
 |d::ad,e=>by
  have:=pQ (g:=g) (s:=s) (ad:=ad) λx hx=>e x (by simp[hx])
  simp only[isum,aAQ,aCG]at this ⊢
  rw[this,aAJ (e d (by simp))]
  rfl
theorem mQ{n:Int}{gs:List Int}{P:List Nat}:∀{ad:List (Nat×Int×List Nat)} {cs:List Int},(∀d∈ad,d.1∉P/\d.1 < cs.length/\∀t∈d.2.2,t∈P)->∀s,s < cs.length->Cg n ((rn n gs (ad.map mkA) cs).getD s 0) (cs.getD s 0+isum ad (λt=>cs.getD t 0) s)
 |[],cs,_,s,_=>Cg.of_eq (by simp[rn,isum])
 |d::ad,cs,h,s,hs=>by
  obtain⟨h1,h2,h3⟩:=h d (by simp)
  obtain⟨cs',hc'⟩:∃cs',cs'=dn n gs cs (mkA d):=⟨_,rfl⟩
  have hl:cs'.length=cs.length:=by rw[hc'];exact hZ
  have at':∀t,cs'.getD t 0=if t=d.1 then(cs.getD d.1 0+d.2.1*pf (λt=>cs.getD t 0) d.2.2) % n else cs.getD t 0:=by
   intro t
   rw[hc']
   simp only[mkA,dn,iJ,aGD,<- aAh]
   by_cases e:t=d.1
   ·subst e;rw[aAH rfl];simp[List.getD,h2]
   ·rw[aAJ e];simp[List.getD,aAZ (Ne.symm e)]
  have ih:=mQ (n:=n) (gs:=gs) (P:=P) (ad:=ad) (cs:=cs') (λx hx=>by rw[hl];exact h x (by simp[hx])) s (by lia)
  rw[aAQ,dW,<- hc']
  refine ih.trans ?_
  have e1:Cg n (isum ad (λt=>cs'.getD t 0) s) (isum ad (λt=>cs.getD t 0) s):=kF λx hx t ht=>by
   have:t≠d.1:=λe=>h1 (e▸(h x (by simp[hx])).2.2 t ht)
   rw[at',aAJ this]
   exact Cg.rfl
  refine(Cg.add Cg.rfl e1).trans ?_
  rw[at']
  simp only[isum,aAQ,aCG]
  by_cases e:s=d.1
  ·rw[aAH e,aAH e.symm,e]
   exact(Cg.add Cg.mod Cg.rfl).trans (Cg.of_eq (by lia))
  ·rw[aAJ e,aAJ (Ne.symm e)]
   exact Cg.of_eq (by lia)
theorem lU{n w:Int}{gs:List Int}:∀{P:List Nat} {cs:List Int},P.Nodup->(∀s∈P,s < cs.length)->∀s,s < cs.length->Cg n ((rn n gs (P.map λs=>Dd.scale s w) cs).getD s 0) (if s∈P then cs.getD s 0*w else cs.getD s 0)
 |[],cs,_,_,s,_=>Cg.of_eq (by simp[rn])
 |p::P,cs,nd,h,s,hs=>by
  have hp:=h p (by simp)
  rw[aAQ,dW]
  have at':∀t,(dn n gs cs (.scale p w)).getD t 0=if t=p then cs.getD p 0*w % n else cs.getD t 0:=by
   intro t
   simp only[dn]
   by_cases e:t=p
   ·subst e;rw[aAH rfl];simp[List.getD,hp]
   ·rw[aAJ e];simp[List.getD,aAZ (Ne.symm e)]
  have hl:(dn n gs cs (.scale p w)).length=cs.length:=hZ
  obtain⟨hnp,nd'⟩:=aCU.mp nd
  refine(lU nd' (λx hx=>by rw[hl];exact h x (by simp[hx])) s (by lia)).trans ?_
  rw[at']
  by_cases e:s=p
  ·subst e
   rw[aAJ hnp,aAH rfl,aAH (by simp)]
   exact Cg.mod
  ·rw[aAJ e]
   have:(s∈p::P)=(s∈P):=by simp[e]
   simp only[this]
   exact Cg.rfl
def rnd(n w:Int)(row:List Dd)(ad:List (Nat×Int×List Nat))(P:List Nat):List Dd:=row++ad.map mkA++bDs n row++P.map λs=>.scale s w
end
theorem uY{row:List Dd}{ad:List (Nat×Int×List Nat)}{P:List Nat}(hn:2<=n)(ok:∀d∈row,OkD n G S d)(hb:Brg n gs S row f)(nd:P.Nodup)(hP:∀s∈P,s < S)(ha:∀d∈ad,d.1∉P/\d.1 < S/\∀t∈d.2.2,t∈P)
  (hc:Rs n cs)(hl:cs.length=S):∀s,s < S->Cg n ((rn n gs (rnd n w row ad P) cs).getD s 0) (if s∈P then cs.getD s 0*w else cs.getD s 0+isum ad (λt=>cs.getD t 0+f t) s):=by
 have h0:0 < n:=by lia
 intro s hs
 obtain⟨c1,e1⟩:∃c1,c1=rn n gs row cs:=⟨_,rfl⟩
 have r1:Rs n c1:=by rw[e1];exact Rs.rn h0 hc
 have l1:c1.length=S:=by rw[e1,cP];exact hl
 have k1:∀s,s < S->Cg n (c1.getD s 0) (cs.getD s 0+f s):=by rw[e1];exact hb cs hc hl
 obtain⟨c2,e2⟩:∃c2,c2=rn n gs (ad.map mkA) c1:=⟨_,rfl⟩
 have r2:Rs n c2:=by rw[e2];exact Rs.rn h0 r1
 have l2:c2.length=S:=by rw[e2,cP];exact l1
 have k2:∀s,s < S->Cg n (c2.getD s 0) (c1.getD s 0+isum ad (λt=>c1.getD t 0) s):=by rw[e2];exact λs hs=>mQ (P:=P) (by rw[l1];exact ha) s (by lia)
 have ks:∀s,Cg n (isum ad (λt=>c1.getD t 0) s) (isum ad (λt=>cs.getD t 0+f t) s):=λs=>kF λd hd t ht=>k1 t (hP t ((ha d hd).2.2 t ht))
 obtain⟨y,ey⟩:∃y:List Int,y=(List.range S).map λs=>(cs.getD s 0+isum ad (λt=>cs.getD t 0+f t) s) % n:=⟨_,rfl⟩
 have ry:Rs n y:=by
  intro c hc
  rw[ey]at hc
  obtain⟨s,_,rfl⟩:=aBX.mp hc
  exact⟨aAN _ (by lia),aAI _ h0⟩
 have ly:y.length=S:=by rw[ey];simp
 have ky:∀s,s < S->y.getD s 0=(cs.getD s 0+isum ad (λt=>cs.getD t 0+f t) s) % n:=by intro s hs;rw[ey];simp[hs]
 have ec:rn n gs row y=c2:=by
  refine wR (Rs.rn h0 ry) r2 (by rw[cP,ly,l2]) λs hs=>?_
  rw[cP,ly]at hs
  refine(hb y ry ly s hs).trans ?_
  refine Cg.trans ?_ (k2 s hs).symm
  rw[ky s hs]
  refine(Cg.add Cg.mod Cg.rfl).trans ?_
  refine Cg.trans (Cg.of_eq ?_) (Cg.add (k1 s hs).symm (ks s).symm)
  lia
 have e3:rn n gs (bDs n row) c2=y:=by rw[<- ec];exact oQ h0 ry (by rw[ly];exact ok)
 unfold rnd
 rw[aR,aR,aR,<- e1,<- e2,e3]
 refine(lU nd (by rw[ly];exact hP) s (by lia)).trans ?_
 rw[ky s hs]
 by_cases hp:s∈P
 ·rw[aAH hp,aAH hp]
  refine(Cg.mul Cg.mod Cg.rfl).trans (Cg.of_eq ?_)
  rw[pQ (λd hd e=>(ha d hd).1 (e▸hp)),Int.add_zero]
 ·rw[aAJ hp,aAJ hp]
  exact Cg.mod
theorem pG{w:Int}{x v:Nat->Int}{s m:Nat}:∀{ad:List (Nat×Int×List Nat)},sgm m (λj=>isum ad (λt=>x t*w ^ j+v t) s)=(ad.map λd=>if d.1=s then d.2.1*sgm m (λj=>pf (λt=>x t*w ^ j+v t) d.2.2)else 0).sum
 |[]=>by
  simp only[isum,List.map_nil,List.sum_nil]
  induction m with
  |zero=>rfl
  |succ m ih=>rw[dG,ih];rfl
 |d::ad=>by
  have ih:=pG (w:=w) (x:=x) (v:=v) (s:=s) (m:=m) (ad:=ad)
  rw[aAQ,aCG,<- ih]
  have:sgm m (λj=>isum (d::ad) (λt=>x t*w ^ j+v t) s)=sgm m (λj=>(if d.1=s then d.2.1*pf (λt=>x t*w ^ j+v t) d.2.2 else 0)+isum ad (λt=>x t*w ^ j+v t) s):=by
   congr 1
  rw[this,nW]
  congr 1
  by_cases e:d.1=s
  ·simp only[aAH e];exact kH
  ·simp only[aAJ e]
   clear this ih
   induction m with
   |zero=>rfl
   |succ m ih=>rw[dG,ih];rfl
theorem rO{u:Int}{row:List Dd}{ad:List (Nat×Int×List Nat)}{P:List Nat}(hn:2<=n)(hw:Rt n w m)(ok:∀d∈row,OkD n G S d)(hb:Brg n gs S row f)(nd:P.Nodup)(hP:∀s∈P,s < S)(ha:∀d∈ad,d.1∉P/\d.1 < S/\(∀t∈d.2.2,t∈P)/\d.2.2.length < m) :
  Brg n gs S (List.replicate m (rnd n w row ad P)).flatten λs=>if s∈P then 0 else(ad.map λd=>if d.1=s then d.2.1*(m*pf f d.2.2)else 0).sum:=by
 have h0:0 < n:=by lia
 intro cs hc hl
 have key:∀i,Rs n (rn n gs (List.replicate i (rnd n w row ad P)).flatten cs)/\(rn n gs (List.replicate i (rnd n w row ad P)).flatten cs).length=S/\∀s,s < S->Cg n ((rn n gs (List.replicate i (rnd n w row ad P)).flatten cs).getD s 0) (if s∈P then cs.getD s 0*w ^ i else cs.getD s 0+sgm i λj=>isum ad (λt=>cs.getD t 0*w ^ j+f t) s):=by
  intro i
  refine⟨Rs.rn h0 hc,by rw[cP];exact hl,?_⟩
  induction i with
  |zero =>
   intro s hs
   refine Cg.of_eq ?_
   simp[rn,sgm]
  |succ i ih =>
   intro s hs
   rw[List.replicate_succ',List.flatten_append,List.flatten_singleton,aR]
   obtain⟨X,eX⟩:∃X,X=rn n gs (List.replicate i (rnd n w row ad P)).flatten cs:=⟨_,rfl⟩
   rw[<- eX]at ih ⊢
   have rX:Rs n X:=by rw[eX];exact Rs.rn h0 hc
   have lX:X.length=S:=by rw[eX,cP];exact hl
   refine(uY hn ok hb nd hP (λd hd=>⟨(ha d hd).1,(ha d hd).2.1,(ha d hd).2.2.1⟩) rX lX s hs).trans ?_
   by_cases hp:s∈P
   ·have:=ih s hs
    rw[aAH hp]at this ⊢
    rw[aAH hp]
    exact(Cg.mul this Cg.rfl).trans (Cg.of_eq (by rw[aBV];grind))
   ·have:=ih s hs
    rw[aAJ hp]at this ⊢
    rw[aAJ hp,dG]
    refine(Cg.add this (kF (h:=λt=>cs.getD t 0*w ^ i+f t) λd hd t ht=>?_)).trans (Cg.of_eq (show _=cs.getD s 0+(sgm i (λj=>isum ad (λt=>cs.getD t 0*w ^ j+f t) s)+isum ad (λt=>cs.getD t 0*w ^ i+f t) s) by lia))
    have tp:=(ha d hd).2.2.1 t ht
    have:=ih t (hP t tp)
    rw[aAH tp]at this
    exact Cg.add this Cg.rfl
 intro s hs
 refine((key m).2.2 s hs).trans ?_
 dsimp only
 by_cases hp:s∈P
 ·rw[aAH hp,aAH hp]
  exact(Cg.mul Cg.rfl hw.one).trans (Cg.of_eq (by lia))
 ·rw[aAJ hp,aAJ hp]
  refine Cg.add Cg.rfl ?_
  rw[pG]
  have all:∀ad':List (Nat×Int×List Nat),(∀d∈ad',d.2.2.length < m)->Cg n ((ad'.map λd=>if d.1=s then d.2.1*sgm m (λj=>pf (λt=>cs.getD t 0*w ^ j+f t) d.2.2)else 0).sum) ((ad'.map λd=>if d.1=s then d.2.1*(m*pf f d.2.2)else 0).sum):=by
   intro ad'
   induction ad' with
   |nil=>intro _;exact Cg.rfl
   |cons d ad' ih =>
    intro h
    rw[aAQ,aAQ,aCG,aCG]
    refine Cg.add ?_ (ih λx hx=>h x (by simp[hx]))
    by_cases e:d.1=s
    ·rw[aAH e,aAH e]
     refine Cg.mul Cg.rfl ?_
     have:=polysum hw (x:=λt=>cs.getD t 0) (v:=f) d.2.2 0 (by have:=h d (by simp);lia)
     rw[aAH rfl]at this
     refine Cg.trans (Cg.of_eq ?_) this
     congr 1
     funext i
     simp
    ·rw[aAJ e,aAJ e]
     exact Cg.rfl
  exact all ad λd hd=>(ha d hd).2.2.2
end LS
section
open PySem PySem.Spec PyProof.Rows
namespace L2
open AutoSeq1 (wpAny_loadPart')
variable{prog:Program}{E:Value->Shared->Prop}
end L2
namespace EV
open L2
section
variable{K:Frag}{a b:Expr}{g:FE}
end
variable{EX:D->Mm->Prop}
end EV
end
namespace EV
open PySem
variable{P:List Value->Prop}
theorem exS{k:Nat}(h:∀a us,us.length=k->P (a::us)):∀us:List Value,us.length=k+1->P us
 |a::us,e=>h a us (Nat.succ.inj e)
theorem ex0(h:P [])(us:List Value)(e:us.length=0):P us:=by rw[List.eq_nil_of_length_eq_zero e];exact h
theorem ex1(h:∀a,P [a]):∀us:List Value,us.length=1->P us:=exS λa=>ex0 (P:=λus=>P (a::us)) (h a)
theorem ex2(h:∀a b,P [a,b]):∀us:List Value,us.length=2->P us:=exS λa=>ex1 (P:=λus=>P (a::us)) (h a)
theorem ex3(h:∀a b c,P [a,b,c]):∀us:List Value,us.length=3->P us:=exS λa=>ex2 (P:=λus=>P (a::us)) (h a)
theorem ex4(h:∀a b c d,P [a,b,c,d]):∀us:List Value,us.length=4->P us:=exS λa=>ex3 (P:=λus=>P (a::us)) (h a)
theorem ex5(h:∀a b c d e,P [a,b,c,d,e]):∀us:List Value,us.length=5->P us:=exS λa=>ex4 (P:=λus=>P (a::us)) (h a)
end EV
set_option maxHeartbeats 4000000
section
open PySem PySem.Spec PyProof.Rows
namespace ZP
variable{prog:Program}{E:Value->Shared->Prop}
noncomputable abbrev IsTrip(h:Heap)(T:Addr)(a b c:Value):Prop:=h.get? T=some {cls:=.type "tuple",data:=.seq #[a,b,c]}
set_option genSizeOf false in
set_option genInjectivity false in
structure Ap3(z TI TO i1 i2 i3 l1 l2 l3:Addr):Prop where
 z_TI:z≠TI
 z_TO:z≠TO
 z_i1:z≠i1
 z_i2:z≠i2
 z_i3:z≠i3
 TI_z:TI≠z
 TI_TO:TI≠TO
 TI_i1:TI≠i1
 TI_i2:TI≠i2
 TI_i3:TI≠i3
 TO_z:TO≠z
 TO_TI:TO≠TI
 TO_i1:TO≠i1
 TO_i2:TO≠i2
 TO_i3:TO≠i3
 i1_z:i1≠z
 i1_TI:i1≠TI
 i1_TO:i1≠TO
 i1_i2:i1≠i2
 i1_i3:i1≠i3
 i2_z:i2≠z
 i2_TI:i2≠TI
 i2_TO:i2≠TO
 i2_i1:i2≠i1
 i2_i3:i2≠i3
 i3_z:i3≠z
 i3_TI:i3≠TI
 i3_TO:i3≠TO
 i3_i1:i3≠i1
 i3_i2:i3≠i2
 l1_z:l1≠z
 l1_TI:l1≠TI
 l1_TO:l1≠TO
 l1_i1:l1≠i1
 l1_i2:l1≠i2
 l1_i3:l1≠i3
 l2_z:l2≠z
 l2_TI:l2≠TI
 l2_TO:l2≠TO
 l2_i1:l2≠i1
 l2_i2:l2≠i2
 l2_i3:l2≠i3
 l3_z:l3≠z
 l3_TI:l3≠TI
 l3_TO:l3≠TO
 l3_i1:l3≠i1
 l3_i2:l3≠i2
 l3_i3:l3≠i3
structure Zs3(h:Heap)(z TI TO i1 i2 i3 l1 l2 l3:Addr)(i:Nat)(xs ys us:Array Value):Prop where
 z:∃f0 f1,h.get? z=some (zobj TI TO f0 f1)/\(f0=.none\/∃T:Nat,f0=rawInt T)
 ti:IsTrip h TI (.ref i1) (.ref i2) (.ref i3)
 to:∃a b c,IsTrip h TO a b c
 a:It1 h i1 l1 i xs
 b:It1 h i2 l2 i ys
 c:It1 h i3 l3 i us
end ZP
namespace L2
end L2
namespace EV
open L2
variable{EX:D->Mm->Prop}
section
variable{K:Frag}{a b c:Expr}{g k:FE}{tg:Expr}
end
section
variable{g k:FE}
end
end EV
namespace RT
variable{prog:Program}{E:Value->Shared->Prop}
end RT
namespace L2
end L2
namespace EV
open L2
variable{K:Frag}{a:Expr}{EX:D->Mm->Prop}
end EV
end
namespace EV
open PySem
end EV
section
open PySem PySem.Spec PyProof.Rows
namespace L2
structure CompOkC(p:Str)(N0:List Str)(sc0:Scope)(scope:Scope)(Nc:List Str)(js:List (Option Nat)):Prop where
 kind:scope.kind=.function
 one:scope.names.filter (λy=>y.2==.cell)=[(p,.cell)]
 pc:scope.names.lookup p=some .cell
 names:∀y∈scope.names,y.2=.local->scope.names.lookup y.1=some .local
 free:∀y∈scope.names,y.2=.free->sc0.names.lookup y.1=some .cell
 len:js.length=Nc.length
 slots:∀p∈Nc.zip js,∀j∈p.2,N0[j]?=some p.1/\scope.names.lookup p.1=some .free/\sc0.names.lookup p.1=some .cell
noncomputable def compOkCB(p:Str)(N0:List Str)(sc0 scope:Scope)(Nc:List Str)(js:List (Option Nat)):Bool :=
 decide (scope.kind=.function)&&(scope.names.filter (λy=>y.2==.cell)==[(p,.cell)])&&(scope.names.lookup p==some .cell)&&scope.names.all (λy=>y.2 != .local || scope.names.lookup y.1==some .local)&&scope.names.all (λy=>y.2 != .free || sc0.names.lookup y.1==some .cell) &&
  (js.length==Nc.length)&&(Nc.zip js).all (λp=>match p.2 with|none=>true|some j=>N0[j]?==some p.1&&scope.names.lookup p.1==some .free&&sc0.names.lookup p.1==some .cell)
variable{p:Str}{scope:Scope}
theorem CompOkC.of{N0:List Str}{sc0:Scope}(h:compOkCB p N0 sc0 scope Nc js=true):CompOkC p N0 sc0 scope Nc js:=by
 unfold compOkCB at h
 simp only[aCE,aDZ,beq_iff_eq,aAW]at h
 obtain⟨⟨⟨⟨⟨⟨h1,h2⟩,h7⟩,h3⟩,h4⟩,h5⟩,h6⟩:=h
 refine⟨h1,h2,h7,λy hy e=>?_,λy hy e=>?_,h5,λp hp j hj=>?_⟩
 ·have:=h3 y hy
  simpa[e]using this
 ·have:=h4 y hy
  simpa[e]using this
 ·have:=h6 p hp
  have hj:p.2=some j:=hj
  rw[hj]at this
  simpa[and_assoc]using this
variable{σ:St}{H₂:Hp}{js:List (Option Nat)}{Cc:Addr}{tg iter elt:Expr}{ifs:List Expr}{js:List (Option Nat)}{g:TG}{ti:TT}{wi:TI}{pn:Str}
end L2
namespace EV
open L2
variable{K:Frag}{pn:Str}
end EV
namespace L2
end L2
namespace EV
open L2
variable{K:Frag}{EX:D->Mm->Prop}
end EV
namespace L2
open PySem.W PySem.Calls Builtin Builtin.ObjectAttr
variable{e:Expr}
end L2
namespace L2
end L2
namespace EV
open L2
variable{K:Frag}{a:Expr}{EX:D->Mm->Prop}
end EV
end
namespace EV
open PySem
variable{EX:D->Mm->Prop}{gg:FG}{Q:W->Mm->Prop}
end EV
section
open PySem PySem.Spec PyProof.Rows
namespace L2
variable{M:Model}{E:Value->Shared->Prop}{env':Env}{L e:Addr}{P:Addr->Prop}{Q:Unit->Shared->Prop}{σ:List (Option V)}{scope:Scope}{H₂:Hp}{tg iter elt:Expr}{ifs:List Expr}{js:List (Option Nat)}{g:TG}{ti:TT}{wi:TI}
end L2
namespace EV
open L2
variable{K:Frag}
end EV
namespace L2
structure RoomH(k:Nat)(A:Around):Prop where
 dp:A.depth+3*k+5 < recursionLimit
 un:A.units+16*k+200 < cLine
theorem Room.mark{k:Nat}{A:Around}{v:Option Value}(r:Room k A):RoomH k (A.mark v):=⟨r.dp,r.un⟩
structure FnOkH(P:Program)(w:World)(K:Frag)(mg:Str->Option Value)(base:Heap)(k:Nat)(f:Addr)(fd:FuncData)(ps:List Str)(sp:Sp):Prop where
 len:∀vs H Q E,sp vs H Q E->vs.length=ps.length
 run:∀(A:Around) (outer:List Env) (s:Shared) (H:Hp) (args:Args) (us:List Value) (vs:List V) (Q:VK) (E:XK),RoomH k A->Env0 P w K mg base A outer s H->BindsTo s fd args (ps.zip us)->Vals vs us->sp vs H Q E ->
  codeAny (model P w) A (.call (.ref f) args) (CR CX0 outer P w H s Q E) s
section
variable{k:Nat}{f:Addr}{e:Expr}{es:List Expr}{t:TA}
end
end L2
namespace EV
open L2
variable{K:Frag}{e:Expr}{es:List Expr}{fs:FA}{EX:D->Mm->Prop}{Q:W->Mm->Prop}{gg:FG}
end EV
namespace L2
variable{prog:Program}{E:Value->Shared->Prop}
end L2
namespace EV
open L2
variable{K:Frag}{EX:D->Mm->Prop}{Q:W->Mm->Prop}
end EV
set_option maxHeartbeats 4000000
namespace L2
variable{prog:Program}{E:Value->Shared->Prop}{tg:Expr}
end L2
namespace EV
open L2
variable{EX:D->Mm->Prop}
section
variable{K:Frag}{a b tg:Expr}{g:FE}
end
section
variable{g:FE}
end
end EV
end
namespace EV
open PySem
variable{EX:D->Mm->Prop}{gg:FG}{Q:W->Mm->Prop}
theorem Okx.self{o:Oc α}{Q:α->Mm->Prop}(h:Okx EX o Q):Okx EX o λa M=>o=.ok a M/\Q a M:=by
 unfold Okx at h ⊢
 cases o with
 |ok a M=>exact⟨rfl,h⟩
 |ex x M=>exact h
 |bad=>exact h
theorem Chk.app{s:Src}{J:Mm}(h:Chk s M):Chk s (M++J):=λt e=>by
 have:=h t e
 cases t with
 |one t =>
  show(M++J)[t]?=_
  rw[aAS (aAC.mp this).1]
  exact this
 |two t ys =>
  show(M++J)[t]?=_
  rw[aAS (aAC.mp this).1]
  exact this
end EV
section
open PySem PySem.Spec PyProof.Rows
namespace EV
open L2
variable{K:Frag}{EX:D->Mm->Prop}{Q:W->Mm->Prop}
end EV
namespace L2
variable{e st:Expr}{ts:TO}
end L2
namespace EV
open L2
variable{K:Frag}{e st:Expr}{fs:FO}{EX:D->Mm->Prop}{Q:W->Mm->Prop}
end EV
end
namespace EV
open PySem
end EV
section
open PySem PySem.Spec PyProof.Rows
namespace L2
variable{o i:Expr}{to ti:TE}
end L2
namespace EV
open L2
variable{K:Frag}{o i:Expr}{EX:D->Mm->Prop}{Q:Out->Mm->Prop}
end EV
namespace L2
variable{prog:Program}{E:Value->Shared->Prop}{o:Expr}{lo hi:Option Expr}{to:TE}{tl th:TO}
end L2
namespace EV
open L2
variable{K:Frag}{o:Expr}{lo hi:Option Expr}{fl fh:FO}{EX:D->Mm->Prop}
end EV
namespace L2
variable{tg:Expr}
end L2
namespace EV
open L2
variable{EX:D->Mm->Prop}{K:Frag}{a b c tg:Expr}
end EV
end
namespace HT
open PySem PyProof.Rows
noncomputable def RcLt(A:Around)(s:Shared)(v w:Value)(r:Bool):Prop:=∀(prog:Program) (wo:World) (E:Value->Shared->Prop) (Q:Value->Shared->Prop),Q (.bool r) s->wpAny (model prog wo) A (richCompare .Lt v w) Q E s
inductive LtOk(A:Around)(s:Shared):List Value->List Value->Bool->Prop where
 |nn:LtOk A s [] [] false
 |nc {w ws:_}:LtOk A s [] (w::ws) true
 |cn {v vs:_}:LtOk A s (v::vs) [] false
 |eq {v w vs ws r:_}:SeqAt.EqAt A s v w true->LtOk A s vs ws r->LtOk A s (v::vs) (w::ws) r
 |ne {v w vs ws r:_}:SeqAt.EqAt A s v w false->RcLt A s v w r->LtOk A s (v::vs) (w::ws) r
section
open PySem.SeqAt
open PySem.AutoSeq1 (wpAny_loadPart')
open PySem.MeetsSeq PySem.MeetsSeq2 PySem.MeetsSeq3
end
variable{prog:Program}{E:Value->Shared->Prop}
end HT
section
open PySem PySem.Spec PyProof.Rows
namespace EV
open L2
variable{K:Frag}
noncomputable def ltE(x y:D):Option Bool:=match x,y with
 |.int a,.int b=>some (decide (a < b))
 |.bl a,.bl b=>some (decide (b2i a < b2i b))
 |.tup xs,.tup ys=>match intsOf xs,intsOf ys with
  |some ns,some ms=>some (HT.lexLt ns ms)
  |_,_=>none
 |_,_=>none
noncomputable def ltT:List D->List D->Option Bool
 |[],[]=>some false
 |[],_::_=>some true
 |_::_,[]=>some false
 |x::xs,y::ys=>if eqD x y=true then ltT xs ys else ltE x y
variable{EX:D->Mm->Prop}{Q:W->Mm->Prop}
end EV
set_option maxHeartbeats 4000000
end
namespace L2
open PySem PySem.W PyProof.Rows
structure Lin(lt:Nat->Nat->Bool)(n:Nat):Prop where
 tot:∀i j,i < n->j < n->i≠j->lt i j=!lt j i
 tr:∀i j k,i < n->j < n->k < n->lt i j=true->lt j k=true->lt i k=true
structure PPm(n:Nat)(p:Array Nat):Prop where
 sz:p.size=n
 pm:p.toList.Perm (List.range n)
section
variable{lt:Nat->Nat->Bool}{n:Nat}{p:Array Nat}
theorem PPm.of(h:PPm n p){q:Array Nat}(hq:q.Perm p)(hz:q.size=p.size):PPm n q:=⟨hz.trans h.sz,(Array.perm_iff_toList_perm.mp hq).trans h.pm⟩
end
end L2
section
open PySem PySem.Spec PyProof.Rows
namespace L2
open PySem.W
section
variable{prog:Program}{E:Value->Shared->Prop}{lt:Nat->Nat->Bool}
end
end L2
namespace EV
open L2 PySem.W
variable{prog:Program}
noncomputable def tl:D->List D
 |.tup xs=>xs
 |_=>[]
noncomputable def tLt(xs:List D)(i j:Nat):Bool:=ltT (tl (xs.getD i .non)) (tl (xs.getD j .non))==some true
structure TS(xs:List D):Prop where
 l2:2<=xs.length
 l64:xs.length < 64
 it:∀x∈xs,∃ys zs,x=.tup (.tup ys::zs)/\deps (.tup ys::zs)<=50
 so:∀i j,i < xs.length->j < xs.length->ltT (tl (xs.getD i .non)) (tl (xs.getD j .non))≠none
 lin:Lin (tLt xs) xs.length
variable{K:Frag}{EX:D->Mm->Prop}{Q:W->Mm->Prop}{x:W}
end EV
namespace EV
open L2
variable{K:Frag}{o:Expr}{EX:D->Mm->Prop}{Q:W->Mm->Prop}
end EV
set_option maxHeartbeats 1000000
namespace L2
open AutoSeq1 (wpAny_loadPart')
variable{prog:Program}{E:Value->Shared->Prop}
end L2
namespace L2
variable{prog:Program}{E:Value->Shared->Prop}
end L2
set_option maxHeartbeats 4000000
namespace L2
end L2
namespace EV
open L2
section
variable{K:Frag}{a b:Expr}{g:FE}{EX:D->Mm->Prop}
end
variable{K:Frag}
end EV
namespace L2
variable{prog:Program}{E:Value->Shared->Prop}
end L2
namespace EV
open L2
variable{K:Frag}{e:Expr}{EX:D->Mm->Prop}
end EV
set_option maxHeartbeats 4000000
namespace L2
noncomputable def nR3(a b c:Int):Nat:=(if a < b then(b - a - 1) / c+1 else 0).toNat
noncomputable def r3(a b c:Int):List Int:=(List.range (nR3 a b c)).map λi=>a+(i:Nat)*c
variable{a b c:Expr}{ta:TA}
end L2
namespace EV
open L2
variable{EX:D->Mm->Prop}{K:Frag}{a b c:Expr}{Q:W->Mm->Prop}
end EV
namespace EV
open L2
variable{K:Frag}{e:Expr}{es:List Expr}{fs:FA}
end EV
set_option maxHeartbeats 4000000
namespace EV
open L2
variable{K:Frag}{e a b o:Expr}{es:List Expr}{fs:FA}
section
variable{Q:W->Mm->Prop}{g:FE}{x y:W}
theorem qB{fi:FI}{c:FT}(h:Okx EX (fi L M) λs M1=>∃(p:D->Bool) (g:D->D),s.ds.length<=16777216/\Chk s M1/\(∀d∈s.ds,∀acc,Ok (c (some (.d d)::outL js L) (M1++[acc])) λb M'=>b=p d/\M'=M1++[acc])/\(∀d∈s.ds,p d=true->∀acc,Ok (f (some (.d d)::outL js L) (M1++[acc])) λw M'=>w=.d (g d)/\M'=M1++[acc])/\Q (.d (.lst ((s.ds.filter p).map g))) M1):Okx EX (eComp (none::js) fi (gN 0) c f L M) Q:=by
 refine dY (λi acc L' M'=>∃s M1 p g,fi L M=.ok s M1/\((∀d∈s.ds,∀acc,Ok (c (some (.d d)::outL js L) (M1++[acc])) λb M'=>b=p d/\M'=M1++[acc])/\(∀d∈s.ds,p d=true->∀acc,Ok (f (some (.d d)::outL js L) (M1++[acc])) λw M'=>w=.d (g d)/\M'=M1++[acc])/\Q (.d (.lst ((s.ds.filter p).map g))) M1)/\acc=((s.ds.take i).filter p).map g/\M'=M1/\∃a,L'=a::outL js L) (h.self.mono ?_)
 rintro s M1 ⟨e,p,g,hz,hc,hp,hf,q⟩
 refine⟨⟨s,M1,p,g,e,⟨hp,hf,q⟩,rfl,rfl,none,rfl⟩,?_,hz,?_,?_⟩
 ·rintro i acc L' M' hi ⟨s',M1',p',g',e',_,rfl,rfl,_⟩
  rw[e]at e'
  cases e'
  have:=List.length_filter_le p' (s.ds.take i)
  exact⟨rfl,hc.app,by simp at this ⊢;lia⟩
 ·rintro i d acc L' M' hd ⟨s',M1',p',g',e',⟨hp',hf',q'⟩,rfl,rfl,a,rfl⟩
  rw[e]at e'
  cases e'
  have hm:=aAU hd
  refine uA ((hp' d hm _).mono ?_)
  rintro _ _ ⟨rfl,rfl⟩
  refine⟨λh=>(hf' d hm h _).mono ?_,λh=>⟨_,rfl,s,_,p',g',e,⟨hp',hf',q'⟩,?_,rfl,_,rfl⟩⟩
  ·rintro _ _ ⟨rfl,rfl⟩
   refine⟨_,_,rfl,rfl,s,_,p',g',e,⟨hp',hf',q'⟩,?_,rfl,_,rfl⟩
   rw[aAX,hd];simp[List.filter_append,h]
  ·rw[aAX,hd];simp[List.filter_append,h]
 ·rintro acc L' M' ⟨s',M1',p',g',e',⟨_,_,q'⟩,rfl,rfl,_⟩
  rw[e]at e'
  cases e'
  rw[aCO]
  exact q'
end
variable{K:Frag}{tg:Expr}{K:Frag}{f:Str}
structure OCl(K:Frag)(c:Str)(C:Addr):Prop where
 nm:nsIn K mainGlobals c=some (some (.ref C))
 cl:Cls K C
 nd:c≠"dict"/\c≠"dictK"
variable{K:Frag}{f:FE}
section
variable{Q:W->Mm->Prop}{g fv:FE}{F:Fn}{c ff m:Str}{i:Nat}{ds:List D}{x:D}
end
end EV
set_option maxHeartbeats 4000000
namespace L2
section
variable(P:Program)(w:World)
end
variable{o:HO}{x e:Addr}{o':HO}
section
variable{fs fs' ex ex':List Addr}{h1 h2:Heap}
end
variable{σ:List (Option V)}
section
variable{a b:Expr}{tA tB':TT}{rest:List Expr}
end
variable{σ:St}{xs ys:List V}{E:Value->Shared->Prop}
section
variable{rest:List Stmt}{t u:TS}{e:Expr}
end
variable{tg:Expr}{a b c:Expr}{tc:TE}{prog:Program}{K:Frag}{f:Addr}{v:Value}
section
variable{a:Addr}{fs fs':List (Str×V)}
end
section
variable{a:Addr}{fs:List (Str×V)}{f:Str}{v:V}
end
variable{o e value:Expr}{f:Str}{tv:TE}{c:Value}{b:Bool}
section
variable{es:List Expr}{t:TA}
end
section
variable{k:Nat}{f:Addr}{dvs:List V}{ds:List Value}{E:XK}{x m:Str}{es:List Expr}{t:TA}
end
section
variable{k:Nat}{f:Addr}{ks:List Str}{E:XK}{x m:Str}{kpos:Pos}{es:List Expr}{kws:List Keyword}{t tk:TA}{nm:Option Str}{g:List Value->List Value->List Value}{gV:List V->List V->List V}
end
section
variable{x:Str}{es:List Expr}{t:TA}{id T:String}
end
section
variable{κ:Type}[DecidableEq κ]
noncomputable section
def valV(kvs:List (κ×V))(k:κ):Option V:=(kvs.find? λkv=>decide (kv.1=k)).map (·.2)
def putK(kvs:List (κ×V))(k:κ)(v:V):List (κ×V) :=
 if(kvs.any λkv=>decide (kv.1=k))=true then kvs.map (λkv=>if kv.1=k then(kv.1,v)else kv)else kvs++[(k,v)]
def dropK(kvs:List (κ×V))(k:κ):List (κ×V):=kvs.filter λkv=>decide (kv.1≠k)
end
theorem lD{p:κ×V}{r:List (κ×V)}{k:κ}(e:p.1=k):valV (p::r) k=some p.2:=by simp[valV,aCW,e]
theorem lJ{p:κ×V}{r:List (κ×V)}{k:κ}(e:¬p.1=k):valV (p::r) k=valV r k:=by simp[valV,aCW,e]
theorem kZ(k:κ):∀kvs:List (κ×V),(kvs.any λkv=>decide (kv.1=k))=(valV kvs k).isSome
 |[]=>rfl
 |p::r=>by
  rw[aEC]
  by_cases e:p.1=k
  ·simp only[lD e,decide_eq_true e,Bool.true_or,Option.isSome_some]
  ·rw[lJ e,aBG e,Bool.false_or];exact kZ k r
theorem oU(kvs:List (κ×V))(k:κ)(v:V):(putK kvs k v).length<=kvs.length+1:=by
 unfold putK
 split
 ·rw[aAL];lia
 ·rw[aBR,aBT,aFW];lia
theorem wN{kvs:List (κ×V)}{k:κ}(v:V)(h:valV kvs k=none):putK kvs k v=kvs++[(k,v)]:=by
 unfold putK
 rw[kZ,h]
 exact aAJ (by decide)
theorem RelO.getD{o:Option V}{u:Option Value}{d:V}{d':Value}(r:RelO o u)(rd:RelV d d'):RelV (o.getD d) (u.getD d'):=by
 cases o with
 |none=>cases u with
  |none=>exact rd
  |some _=>exact(show False from r).elim
 |some _=>cases u with
  |none=>exact(show False from r).elim
  |some _=>exact r
theorem KV.val{kvs:List (κ×V)}{vs:List (κ×Value)}(r:KV kvs vs)(k:κ):RelO (valV kvs k) (valueAt vs k):=by
 unfold KV at r
 induction r with
 |nil=>exact True.intro
 |@cons p q ps qs h t ih =>
  obtain⟨h1,h2⟩:=h
  by_cases e:p.1=k
  ·have e':q.1=k:=h1.symm.trans e
   have b:valueAt (q::qs) k=some q.2:=by simp[valueAt,aCW,e']
   rw[lD e,b];exact h2
  ·have e':¬q.1=k:=λz=>e (h1.trans z)
   have b:valueAt (q::qs) k=valueAt qs k:=by simp[valueAt,aCW,e']
   rw[lJ e,b];exact ih
theorem KV.any{kvs:List (κ×V)}{vs:List (κ×Value)}(r:KV kvs vs)(k:κ):(kvs.any λkv=>decide (kv.1=k))=vs.any λkv=>decide (kv.1=k):=by
 unfold KV at r
 induction r with
 |nil=>rfl
 |cons h t ih=>rw[aEC,aEC,ih,h.1]
theorem KV.repl{kvs:List (κ×V)}{vs:List (κ×Value)}(r:KV kvs vs)(k:κ)(ry:RelV y u) :
  KV (kvs.map λkv=>if kv.1=k then(kv.1,y)else kv) (vs.map λkv=>if kv.1=k then(kv.1,u)else kv):=by
 unfold KV at r ⊢
 induction r with
 |nil=>exact .nil
 |@cons p q ps qs h t ih =>
  rw[aAQ,aAQ]
  refine .cons ?_ ih
  obtain⟨h1,h2⟩:=h
  by_cases e:p.1=k
  ·rw[aAH e,aAH (h1.symm.trans e)];exact⟨h1,ry⟩
  ·rw[aAJ e,aAJ (λz=>e (h1.trans z))];exact⟨h1,h2⟩
theorem KV.put{kvs:List (κ×V)}{vs:List (κ×Value)}(r:KV kvs vs)(k:κ)(ry:RelV y u):KV (putK kvs k y) (stored vs k u):=by
 unfold putK stored
 rw[r.any k]
 by_cases e:(vs.any λkv=>decide (kv.1=k))=true
 ·rw[aAH e,aAH e];exact r.repl k ry
 ·rw[aAJ e,aAJ e];exact Paired.snoc r ⟨rfl,ry⟩
theorem KV.drop{kvs:List (κ×V)}{vs:List (κ×Value)}(r:KV kvs vs)(k:κ):KV (dropK kvs k) (without vs k):=by
 unfold KV at r ⊢
 unfold dropK without
 induction r with
 |nil=>exact .nil
 |@cons p q ps qs h t ih =>
  obtain⟨h1,h2⟩:=h
  rw[aDX,aDX]
  by_cases e:p.1=k
  ·have a:¬decide (p.1≠k)=true:=by simp[e]
   have b:¬decide (q.1≠k)=true:=by simp[h1.symm.trans e]
   rw[aAJ a,aAJ b];exact ih
  ·have e':¬q.1=k:=λz=>e (h1.trans z)
   have a:decide (p.1≠k)=true:=by simp[e]
   have b:decide (q.1≠k)=true:=by simp[e']
   rw[aAH a,aAH b];exact .cons ⟨h1,h2⟩ ih
theorem KV.length{kvs:List (κ×V)}{vs:List (κ×Value)}(r:KV kvs vs):kvs.length=vs.length:=Paired.length r
end
theorem xB{k:Key}(r:RelV (kV k) u):(mixKind P w).is k u=true:=by
 cases k with
 |inl i=>obtain⟨t,e⟩:=(show ∃t,u=Value.int i t from r);subst e;exact pP P w i t
 |inr x=>obtain⟨t,e⟩:=(show ∃t,u=Value.str x t from r);subst e;exact pO P w x t
theorem mU{P:Program}{w:World}:∀{ks:List Key} {us:List Value},Vals (ks.map kV) us->ItemsAre (mixKind P w) ks us
 |[],_,r=>by rw[List.map_nil]at r;cases r;exact .nil
 |k::ks,_,r=>by
  rw[aAQ]at r
  cases r with
  |cons h t=>exact .cons (xB h) (mU t)
noncomputable abbrev KT(H:Hp):List (List Key×V)->List (List Key×Addr×Value)->Prop:=Paired λp q=>p.1=q.1/\H q.2.1=some (.tup (p.1.map kV))/\RelV p.2 q.2.2
theorem KT.val{kvs:List (List Key×V)}{xs:List (List Key×Addr×Value)}(r:KT H kvs xs)(k:List Key):RelO (valV kvs k) ((atKey xs k).map (·.2)):=by
 induction r with
 |nil=>exact True.intro
 |@cons p q ps qs h t ih =>
  obtain⟨h1,_,h2⟩:=h
  by_cases e:p.1=k
  ·have e':q.1=k:=h1.symm.trans e
   have b:atKey (q::qs) k=some q.2:=by simp[atKey,aCW,e']
   rw[lD e,b];exact h2
  ·have e':¬q.1=k:=λz=>e (h1.trans z)
   have b:atKey (q::qs) k=atKey qs k:=by simp[atKey,aCW,e']
   rw[lJ e,b];exact ih
variable{a:Addr}
theorem zY{u:HO}(ok:HOk P w H h)(e:Rd H a u):ObjOk P w H h a u:=e.ok ok
theorem aAc(ok:HOk P w H h)(e:Rd H a (.dK kvs)):kvs.length<=sizeLine/\(a==sysModules)=false/\∃vs,KV kvs vs/\h.DictOf (mixKind P w) a vs :=
 show ObjOk P w H h a (.dK kvs)from zY ok e
theorem vL{ks:List Key}(ok:HOk P w H h)(e:H a=some (.tup (ks.map kV))):(tupleKind (mixKind P w)).is h ks a:=by
 obtain⟨_,its,r,o,h1,h2,n,h3⟩:=(show ObjOk P w H h a (.tup (ks.map kV))from ok a _ e)
 exact⟨o,its.toArray,n,h1,h2,h3,by simpa using mU r⟩
variable{kvs:List (List Key×V)}
theorem aAi(ok:HOk P w H h)(e:Rd H a (.dT kvs)):kvs.length<=sizeLine/\(a==sysModules)=false /\
  ∃xs,KT H kvs xs/\h.DictOfH (tupleKind (mixKind P w)) a xs:=by
 obtain⟨z,y,xs,r,o,es,ep,h1,h2,h3,h4,h5⟩:=(show ObjOk P w H h a (.dT kvs)from zY ok e)
 refine⟨z,y,xs,r,o,es,ep,h1,h2,h3,h4,λx hx=>?_,h5⟩
 have all:∀{l:List (List Key×V)} {m:List (List Key×Addr×Value)},KT H l m->∀x∈m,(tupleKind (mixKind P w)).is h x.1 x.2.1:=by
  intro l m q
  induction q with
  |nil=>intro x hx;exact nomatch hx
  |@cons p q ps qs hq t ih =>
   intro x hx
   rcases aBE.mp hx with e|hx
   ·subst e
    exact vL ok (by rw[<- hq.1];exact hq.2.1)
   ·exact ih x hx
 exact all r x hx
noncomputable def DGet(H:Hp)(a:Addr)(y:V)(r:Option V):Prop :=
 (∃kvs k,Rd H a (.dK kvs)/\y=kV k/\r=valV kvs k)\/∃kvs k b,Rd H a (.dT kvs)/\y=.ref b/\H b=some (.tup (k.map kV))/\r=valV kvs k
noncomputable def DPut(H:Hp)(a:Addr)(y v:V)(H':Hp):Prop :=
 (∃kvs k,H a=some (.dK kvs)/\y=kV k/\kvs.length < sizeLine/\H'=upd H a (.dK (putK kvs k v))) \/
 ∃kvs k b,H a=some (.dT kvs)/\y=.ref b/\H b=some (.tup (k.map kV))/\kvs.length < sizeLine/\H'=upd H a (.dT (putK kvs k v))
theorem DGet.k{H:Hp}{a:Addr}{kvs:List (Key×V)}{k:Key}(e:H a=some (.dK kvs)):DGet H a (kV k) (valV kvs k):=.inl ⟨kvs,k,.inl e,rfl,rfl⟩
theorem DGet.t{b:Addr}{k:List Key}(e:H a=some (.dT kvs))(eb:H b=some (.tup (k.map kV))):DGet H a (.ref b) (valV kvs k):=.inr ⟨kvs,k,b,.inl e,rfl,eb,rfl⟩
theorem DPut.k{H:Hp}{a:Addr}{kvs:List (Key×V)}{k:Key}{v:V}(e:H a=some (.dK kvs))(hl:kvs.length < sizeLine):DPut H a (kV k) v (upd H a (.dK (putK kvs k v))):=.inl ⟨kvs,k,e,rfl,hl,rfl⟩
variable{v:V}
theorem DPut.t{b:Addr}{k:List Key}(e:H a=some (.dT kvs))(eb:H b=some (.tup (k.map kV)))(hl:kvs.length < sizeLine) :
  DPut H a (.ref b) v (upd H a (.dT (putK kvs k v))):=.inr ⟨kvs,k,b,e,rfl,eb,hl,rfl⟩
variable{r:Value}{o:Option V}
theorem Inv.big(I:Inv X pins σ H s):sysModules < s.heap.objs.size:=by
 have h:mainGlobals < s.heap.objs.size:=(I.mod.glob.keeps I.bk).lt
 exact Nat.lt_trans (by decide) h
theorem uJ(hu:A.units+1 < cLine)(I:Inv X pins σ H s)(g:DGet H a y (some v))(ry:RelV y u)(h:∀w' s',Inv X pins σ H s'->RelV v w'->Q w' s') :
  wpAny (model X.prog X.w) A (getItem (.ref a) u) Q E s:=by
 rcases g with⟨kvs,k,e,ey,l⟩|⟨kvs,k,b,e,ey,eb,l⟩
 ·subst ey
  obtain⟨z,hd,vs,rel,dd⟩:=aAc I.hok e
  obtain⟨w',hw,rw'⟩:=RelO.some_of (v:=v) (o:=valueAt vs k) (by rw[l];exact rel.val k)
  exact wpAny_getItem_of (xB ry) dd.mapOf hw (h w' _ (I.tok _) rw')
 ·subst ey
  cases(show u=Value.ref b from ry)
  obtain⟨z,hd,xs,rel,dd⟩:=aAi I.hok e
  obtain⟨w',hw,rw'⟩:=RelO.some_of (v:=v) (o:=(atKey xs k).map (·.2)) (by rw[l];exact rel.val k)
  obtain⟨p,hp,hp2⟩:=aAM.mp hw
  refine wpAny_getItem_heap (tupleKind_room_in1 hu) (vL I.hok eb) dd hp ?_
  rw[hp2]
  exact h w' _ (I.tok _) rw'
variable{kvs:List (Key×V)}
theorem aDm{vs:List (Key×Value)}(z:kvs.length<=sizeLine)(hd:(a==sysModules)=false)(rel:KV kvs vs)(dd:h'.DictOf (mixKind P w) a vs) :
  ObjOk P w H' h' a (.dK kvs):=⟨z,hd,vs,rel,dd⟩
section
variable{k:Key}
end
noncomputable def NoSl(i:Expr):Prop:=∀ov iv,subscripted i false ov iv=operate [ov,iv] (getItem ov iv)
theorem zI{slice:Expr}{T id:String}
  (hl:typeLookup (.type T) "__getitem__"=pure (some (.builtin id)))(hs:NoSl slice)
  (h:wpAny (model prog w) A (eval value env) (λo s₁=>wpAny (model prog w) A (eval slice env) (λi s₂=>s₂.TypeIs o T/\wpAny (model prog w) A (getItem o i) Q E s₂) E s₁) E s) :
  wpAny (model prog w) A (eval (.Subscript value slice pos) env) Q E s:=by
 refine Subscript_ (aCQ h (λo s₁ h₁=>aCQ h₁ (λi s₂ h₂=>?_) λ_ _ x=>x) λ_ _ x=>x)
 obtain⟨hT,h₂⟩:=h₂
 unfold subscriptTail
 refine aAB ?_
 rw[getitemInPython_of_ne hT.not_modules]
 refine aAB (aFJ hT hl ?_)
 have fin:wpAny (model prog w) A (subscripted slice false o i) (λr s₃=>wpAny (model prog w) A (letTemporaryGo value o r >>= λ_=>pure r) Q E s₃) E s₂:=by
  rw[hs o i]
  exact wpAny_operating (aCQ h₂ (λr s₃ h₃=>aAB (wpAny_letTemporaryGo (aAD h₃))) λ_ _ x=>x)
 first
  |exact aAD (aAB fin)
  |exact aAB (aAD (aAB fin))
  |exact aAB fin
theorem pL(I:Inv X pins σ H s)(g:DGet H a y o):s.TypeIs (.ref a) "dict":=by
 rcases g with⟨kvs,k,e,_,_⟩|⟨kvs,k,b,e,_,_,_⟩
 ·obtain⟨_,_,vs,_,dd⟩:=aAc I.hok e
  exact dd.typeIs
 ·obtain⟨_,_,xs,_,dd⟩:=aAi I.hok e
  exact dd.typeIs
noncomputable def tDGet(td ty:TE):TE:=λσ H Q=>td σ H λx H1=>ty σ H1 λy H2=>∃a v,x=.ref a/\DGet H2 a y (some v)/\Q v H2
variable{o i:Expr}{td ty:TE}
theorem zO(hu:X.A.units+1 < cLine)(ho:PE X o td)(hi:PE X i ty)(hs:NoSl i):PE X (.Subscript o i pos) (tDGet td ty):=by
 intro pins s σ H Q I h
 refine zI PySem.F.slot_dict_getitem.lookup hs (thn (ho pins s σ H _ I h) λu s1 ⟨x,H1,I1,rx,q1⟩=>thn (hi pins s1 σ H1 _ I1 q1) λiv s2 ⟨y,H2,I2,ry,a,v,ex,g,q2⟩=>?_)
 subst ex
 obtain rfl:u=Value.ref a:=rx
 exact⟨pL I2 g,uJ hu I2 g ry λw' s3 I3 rw'=>⟨v,H2,I3,rw',q2⟩⟩
noncomputable def mergeK(kvs more:List (Key×V)):List (Key×V):=more.foldl (λacc kv=>putK acc kv.1 kv.2) kvs
theorem KV.merge:∀{more:List (Key×V)} {rs:List (Key×Value)} {kvs:List (Key×V)} {vs:List (Key×Value)},KV more rs->KV kvs vs->KV (mergeK kvs more) (merged vs rs):=by
 intro more rs kvs vs r
 unfold KV at r
 induction r generalizing kvs vs with
 |nil=>intro q;exact q
 |@cons p q ps qs h t ih =>
  intro r0
  have e:KV (putK kvs p.1 p.2) (stored vs q.1 q.2):=by
   have:=r0.put p.1 h.2
   rw[<- h.1];exact this
  exact ih e
theorem iG:∀(more kvs:List (Key×V)),(mergeK kvs more).length<=kvs.length+more.length
 |[],kvs=>by show kvs.length<=kvs.length+0;lia
 |p::r,kvs=>by
  have h1:=iG r (putK kvs p.1 p.2)
  have h2:=oU kvs p.1 p.2
  show(mergeK (putK kvs p.1 p.2) r).length<=_
  rw[aBT];lia
structure M1(X:Cx)(o:Expr)(m:Str)(apos:Pos)(e:Expr)(cpos:Pos):Prop where
 base:attributeBase o m X.env (eval o X.env)=eval o X.env
 few:((backTo cpos (starEach [e] X.env)).all (λx=>!x.1)&&(backToKw cpos (keywordEach [] X.env)).all (λx=>x.1.isSome)
  && decide (([e]:List Expr).length+([]:List Keyword).length+(if([]:List Keyword).isEmpty then 0 else 1) < 30))=true
 line:(apos.endLine==cpos.line)=true
 trees:backTo cpos (starEach [e] X.env)=[(false,eval e X.env)]
structure M2(X:Cx)(o:Expr)(m:Str)(apos:Pos)(e f:Expr)(cpos:Pos):Prop where
 base:attributeBase o m X.env (eval o X.env)=eval o X.env
 few:((backTo cpos (starEach [e,f] X.env)).all (λx=>!x.1)&&(backToKw cpos (keywordEach [] X.env)).all (λx=>x.1.isSome)
  && decide (([e,f]:List Expr).length+([]:List Keyword).length+(if([]:List Keyword).isEmpty then 0 else 1) < 30))=true
 line:(apos.endLine==cpos.line)=true
 trees:backTo cpos (starEach [e,f] X.env)=[(false,eval e X.env),(false,eval f X.env)]
variable{d:V}{o:Option V}{o f:Expr}{tx:TE}
end L2
end
namespace Att
open PySem PySem.W PySem.Calls PyProof.Rows
variable{prog:Program}{E:Value->Shared->Prop}{K:Frag}
end Att
section
open PySem PySem.Spec PyProof.Rows
namespace L2
variable{K:Frag}
section
variable{κ:Type}[DecidableEq κ]
end
end L2
set_option maxHeartbeats 4000000
namespace EV
open L2
noncomputable def keyOf:D->Option Key
 |.int i=>some (.inl i)
 |.str x=>some (.inr x)
 |_=>none
variable{K:Frag}{k:List Key}
theorem SameK.dT{xs ys:List (List Key×V)}:SameK (.dT xs) (.dT ys):=⟨λ_ h=>(nomatch h),λ_ _ _ h=>(nomatch h),λ_ _=>⟨ys,rfl⟩,λ_ h=>(nomatch h)⟩
section
variable{K:Frag}{e a b o i:Expr}{fv:FE}
end
variable{K:Frag}{K:Frag}{o i:Expr}
section
variable{Q:W->Mm->Prop}{fv:FE}
end
end EV
namespace L2
noncomputable abbrev TJ:=Str->St->Hp->(Str->Hp->Prop)->Prop
noncomputable def PJ(X:Cx)(es:List Expr)(t:TJ):Prop :=
 ∀(pins:List (Addr×Obj)) (s:Shared) (σ:St) (H:Hp) (acc:Str) (Q:Str->Hp->Prop),Inv X pins σ H s->t acc σ H Q ->
  wpAny (model X.prog X.w) X.A (joinParts acc (evalEach es X.env)) (EP X pins σ λv H'=>∃out,v=.str out/\Q out H') X.xe s
section
variable{e:Expr}{es:List Expr}{t:TJ}
end
end L2
namespace EV
open L2
section
variable{K:Frag}{e o:Expr}{es:List Expr}
noncomputable abbrev FJ:=Str->Lc->Mm->Oc Str
noncomputable def liftJ(K:Frag)(Z:Zt)(f:FJ):TJ:=λacc σ H Q=>∃μ M L,HR K μ H M/\LR K μ H L σ/\Pst K Z μ H (f acc L M) λμ' H' _ out=>Q out H'
structure Ej(X:Cx)(K:Frag)(Z:Zt)(es:List Expr)(f:FJ):Prop where
 k:X.K=K
 h:PJ X es (liftJ K Z f)
noncomputable def eJ(g:FJ):FE:=λL M=>(g Str.empty L M).bind λout M1=>.ok (.d (.str out)) M1
variable{g:FJ}
end
end EV
namespace L2
noncomputable abbrev Tbl:=List (Str×Str)
variable{σ:St}{d:Addr}{tb:Tbl}{i:Expr}{ti:TE}
end L2
namespace EV
open L2
variable{K:Frag}{i:Expr}{d:Addr}{tb:Tbl}
end EV
namespace L2
variable{prog:Program}{E:Value->Shared->Prop}{e st:Expr}{ts:TO}
end L2
namespace EV
open L2
variable{K:Frag}{e st:Expr}{fs:FO}
noncomputable abbrev T(l:List Nat):Str:=⟨l.toArray⟩
variable{K:Frag}
section
variable{Q:W->Mm->Prop}{QJ:Str->Mm->Prop}{g:FE}{fl fh:FO}{j:FJ}
end
end EV
namespace LS
open L2 EV
open PySem.NumText
noncomputable section
def isF(c:Nat):Bool:=decide (48<=c/\c<=57)
def dig(n:Nat):List Nat:=(Nat.toDigits 10 n).map Char.toNat
def num?(most:Nat)(ds:List Nat):Option Nat:=if ds=[]\/most < ds.length\/¬ds.all isF\/(ds.head?=some 48/\1 < ds.length)then none else some (digitsVal ds)
def wd?(s:List Nat):Option Wd:=if s=[32,43,32]then some .sum else if s=[32,45,32]then some .less else if s=[32,42,32]then some .times else none
def rdG(s:List Nat):Option (E×List Nat):=match num? 1 (s.takeWhile isF)with
 |some n=>if n<=7 then some (.giv n,s.dropWhile isF)else none
 |none=>none
def rdN(s:List Nat):Option (E×List Nat):=match num? 6 (s.takeWhile isF)with
 |some n=>some (.num n,s.dropWhile isF)
 |none=>none
def rdP(r:List Nat->Option (E×List Nat))(s:List Nat):Option (E×List Nat):=match r s with
 |some (a,s1)=>match wd? (s1.take 3)with
  |some w=>match r (s1.drop 3)with
   |some (b,s2)=>if s2.take 1=[41]then some (.op w a b,s2.drop 1)else none
   |none=>none
  |none=>none
 |none=>none
def rd:Nat->List Nat->Option (E×List Nat)
 |k,s=>if s.take 1=[40]then(match k with
   |0=>none
   |k+1=>rdP (rd k) (s.drop 1))
  else if s.take 1=[120]then rdG (s.drop 1)else rdN s
def calm(s:List Nat):Prop:=∀c,s.head?=some c->isF c=false
end
end LS
end
namespace LS
open PySem L2 EV
end LS
section
open PySem PySem.Spec PyProof.Rows
namespace L2
variable{tg l:Expr}{tl:TE}
end L2
namespace EV
open L2
variable{K:Frag}{e tg:Expr}{K:Frag}
end EV
namespace LS
open L2 EV
open PySem.NumText
end LS
namespace L2
end L2
namespace EV
open L2
variable{K:Frag}
end EV
namespace LS
open L2 EV
noncomputable def bal(s:List Nat):Int:=(s.count 40:Int) - (s.count 41:Int)
noncomputable def Bd(k:Int)(s:List Nat):Prop:=∀n,bal (s.take n)<=k
theorem Bd.none{s:List Nat}(h:Bd 0 s):¬s.take 1=[40]:=λe=>by have:=h 1;rw[e]at this;exact absurd this (by decide)
end LS
namespace L2
noncomputable def two(a:Nat)(xs:List α):List α:=(List.range ((xs.length+1 - a) / 2)).filterMap λk=>xs[a+2*k]?
variable{e lo st:Expr}{tl ts:TO}
end L2
namespace EV
open L2
variable{K:Frag}{e o lo st:Expr}{fl fs:FO}{Q:W->Mm->Prop}
end EV
set_option maxHeartbeats 1000000
namespace L2
open AutoSeq1 (wpAny_loadPart')
variable{prog:Program}{E:Value->Shared->Prop}
end L2
namespace EV
open L2
section
variable{K:Frag}{a b:Expr}{g:FE}{EX:D->Mm->Prop}
end
end EV
set_option maxHeartbeats 4000000
namespace LS
open L2 EV
open PySem.NumText
noncomputable section
def joinL(c:Nat):List (List Nat)->List Nat
 |[]=>[]
 |[w]=>w
 |w::r=>w++c::joinL c r
def nb(c:Nat)(w:List Nat):Option Nat:=if w.head?=some c then num? 7 (w.drop 1)else none
def hx(w:List Nat):Bool:=decide (w.head?=some 120)
def wRest:List Nat:=[114,101,115,116]
def wGivens:List Nat:=[103,105,118,101,110,115]
def wShelves:List Nat:=[115,104,101,108,118,101,115]
def xw(g:Nat):List Nat:=120::dig g
def sw(s:Nat):List Nat:=115::dig s
def dw:Dd->List (List Nat)
 |.add s c gs ts=>sw s::[43]::dig c.toNat::(gs.map xw++ts.map sw)
 |.scale s u=>[sw s,[42],dig u.toNat]
def hw(n g s:Nat):List (List Nat):=[wRest,dig n,wGivens,dig g,wShelves,dig s]
def row(d:Dd):List Nat:=joinL 32 (dw d)
def headR(n g s:Nat):List Nat:=joinL 32 (hw n g s)
def prog(n g s:Nat)(ds:List Dd):List Nat:=joinL 10 (headR n g s::ds.map row)
end
end LS
namespace L2
end L2
namespace EV
open L2
variable{K:Frag}{o e:Expr}{Q:W->Mm->Prop}
end EV
namespace L2
end L2
namespace EV
open L2
variable{K:Frag}{o e:Expr}{Q:W->Mm->Prop}
end EV
namespace L2
theorem uI:typeLookup (.type "list") "keys"=pure none:=am_miss_of_fast (by decide +kernel)
variable{prog:Program}{E:Value->Shared->Prop}{o:Obj}
theorem kL{k:Nat}{u:Tok}
  (hx:s.heap.get? a=some o)(hc:o.cls=.type "list")(hdat:o.data=.seq xs k)(hd:o.dict=none)(hA:A.handled=none)
  (h:∀h' tk e,Heap.NewExcOf s.heap h' e "AttributeError"->E (.ref e) {s with heap:=h',toks:=tk}) :
  wpAny (model prog w) A (getAttrBy (.ref a) (.str "keys" u) false) Q E s:=by
 obtain⟨c,dct,dat,sl⟩:=o
 simp only at hc hdat hd
 subst hc hdat hd
 obtain⟨hp,g,d,tk,os⟩:=s
 have hT:∀tk',(⟨hp,g,d,tk',os⟩:Shared).TypeIs (.ref a) "list":=λ_=>⟨_,hx,rfl⟩
 have f1:=sub_AttributeError
 have f3:=aEH.lookup
 have f4:=aEH.bind (.ref a)
 have f5:=am_list_getattr_none
 unfold getAttrBy
 repeat(any_goals (first|assumption|exact hT _|((with_reducible show wpAny _ _ (call (Value.builtin "list.__getattribute__") _ _) _ _ _);refine aDO aEH (hT _) am_entry_list_getattribute (F.args_list_getattribute_2 _ _) (meets_getattribute_miss_list a xs k sl "keys" _ uI (by decide +kernel)) ⟨hx,hA,λh' tk' e hx'=>?_⟩)|wp_step))
 obtain⟨t',u',he⟩:=hx'.there
 show wpAny _ _ (getattributeRaised _ _ _ _ _ _ _) _ _ _
 unfold getattributeRaised
 repeat(any_goals (first|assumption|wp_step))
 exact h _ _ _ hx'.of
theorem nJ{k:Nat}{Q:Option Value->Shared->Prop}
  (hx:s.heap.get? a=some o)(hc:o.cls=.type "list")(hdat:o.data=.seq xs k)(hd:o.dict=none)(hA:A.handled=none)
  (h:∀h' tk,(∀b ob,s.heap.get? b=some ob->h'.get? b=some ob)->Q none {s with heap:=h',toks:=tk}) :
  wpAny (model prog w) A (getAttr? (.ref a) "keys") Q E s:=by
 obtain⟨hp,g,d,tk,os⟩:=s
 unfold getAttr? getAttrBy?
 refine aAB (wpAny_mkText ?_)
 refine aAB (aED ?_)
 refine kL hx hc hdat hd hA λh' tk' e ne=>?_
 obtain⟨k1,k2,oe,vs,he,hce,_⟩:=ne
 dsimp only
 refine aAB (aFD (T:="AttributeError") ⟨oe,he,hce⟩ sub_AttributeError ?_)
 rw[aAH rfl]
 exact aAD (h h' tk' k1)
theorem qE:entryFor table "dict.update.loop"=some Builtin.«dict.update.loop»:=entryFor_of_fast (by kernel_rfl)
theorem jH:plainId "dict.update.loop"=true:=by decide +kernel
section
variable{κ:Type}[DecidableEq κ]{knd:KeyKind prog w κ}{R:Result->Shared->Prop}
inductive PairsAt(knd:KeyKind prog w κ)(h:Heap):List Value->List (κ×Value)->Prop
 |nil:PairsAt knd h [] []
 |cons {b:Addr} {key v:Value} {k:κ} {xs:List Value} {kvs:List (κ×Value)} (hb:h.IsTuple b #[key,v]) (hk:knd.is k key=true) (r:PairsAt knd h xs kvs):PairsAt knd h (.ref b::xs) ((k,v)::kvs)
theorem rQ(h₀:Heap){d:Addr}(hl:h₀.IsList l its.toArray)(hi:h₀.get? it=none)(hd:h₀.get? d=none)(hid:it≠d)(hA:A.handled=none) :
  ∀(rest:List Value) (more:List (κ×Value)) (i:Nat) (s:Shared) (kvs:List (κ×Value)),its.drop i=rest->PairsAt knd h₀ rest more->(∀b o,h₀.get? b=some o->s.heap.get? b=some o)->s.heap.IsListIter it l i->s.heap.DictOf knd d kvs->kvs.length+more.length<=sizeLine ->
  (∀h' tk,(∀b o,h₀.get? b=some o->h'.get? b=some o)->h'.DictOf knd d (merged kvs more)->R (.ok (.ret .none)) {s with heap:=h',toks:=tk}) ->
  codeAny (model prog w) A (.builtin "dict.update.loop" ⟨[.ref d,.ref it,rawInt i,.none],[]⟩) R s:=by
 intro rest
 induction rest with
 |nil =>
  intro more i s kvs hr hp hk hit hD hz q
  cases hp
  refine codeAny_builtin qE ?_
  rw[Around.under_plainId jH _]
  show wpAny _ A.in1 (pyNext (.ref it) >>= _) _ _ s
  have hl':s.heap.IsList l its.toArray:=by obtain⟨o,ho,r⟩:=hl;exact⟨o,hk _ _ ho,r⟩
  have hn:its.toArray[i]?=none:=by simp;exact List.drop_eq_nil_iff.mp hr
  refine aAB (wpAny_pyNext_list_end hA hit hl' hn λh' hx=>?_)
  have hK:∀b o,h₀.get? b=some o->h'.get? b=some o:=λb o e=>hx b o (λz=>by rw[z,hi]at e;cases e) (hk b o e)
  have hD':h'.DictOf knd d kvs:=hD.extBut hx (Ne.symm hid)
  show wpAny _ _ (Builtin.Dict.addKeywords d [] >>= λ_=>ret Value.none) _ _ _
  exact aAB (aAD (aAD (q h' s.toks hK hD')))
 |cons x rest ih =>
  intro more i s kvs hr hp hk hit hD hz q
  cases hp with
  |@cons b key v k _ kvs' hb hkey hp =>
  refine codeAny_builtin qE ?_
  rw[Around.under_plainId jH _]
  show wpAny _ A.in1 (pyNext (.ref it) >>= _) _ _ s
  have hl':s.heap.IsList l its.toArray:=by obtain⟨o,ho,r⟩:=hl;exact⟨o,hk _ _ ho,r⟩
  have hn:its[i]?=some (.ref b):=by have:=congrArg (·[0]?) hr;simpa using this
  refine aAB (wpAny_pyNext_list_item hit hl' (by simpa using hn) λh' hx hs=>?_)
  have hK:∀b o,h₀.get? b=some o->h'.get? b=some o:=λb o e=>(hs.2 b (λz=>by rw[z,hi]at e;cases e)).trans (hk b o e)
  have hD':h'.DictOf knd d kvs:=hD.sameBut hs (Ne.symm hid)
  obtain⟨o,ho,hc,n,hdat⟩:=hb
  have ho':=hK _ _ ho
  dsimp only
  refine aAB (aCF (aAB (wpAny_tryCatch ?_)))
  unfold Builtin.Dict.pairItems
  refine aAB (aFV (T:="tuple") ⟨o,ho',hc⟩ ?_)
  rw[aAH (by decide)]
  refine aAB (aCM ho' hdat (aAD ?_))
  show wpAny _ _ (holding [key,v] (dictSet d key v)) _ _ _
  refine aCF (wpAny_dictSet_pairs hkey hD' (λh2 hD2 hs2=>?_) (by simp at hz;lia))
  refine aAD ⟨plainId_quiet jH _,?_⟩
  refine ih kvs' (i+1) _ (stored kvs k v) ?_ hp (λb o e=>(hs2.2 b (λz=>by rw[z,hd]at e;cases e)).trans (hK b o e)) ?_ hD2 ?_ λh3 tk3 k3 d3=>?_
  ·rw[<- List.drop_drop,hr];rfl
  ·obtain⟨oi,e1,e2⟩:=hx
   exact⟨oi,(hs2.2 it hid).trans e1,e2⟩
  ·have:=merged_length_le kvs [(k,v)]
   simp only[merged,aCB,aEN,aBT,aFW]at this
   simp only[aBT]at hz
   lia
  ·exact q h3 tk3 k3 d3
end
noncomputable def PairsH(H:Hp):List V->List (Key×V)->Prop
 |[],kvs=>kvs=[]
 |v::vs,kvs=>∃b k x r,v=.ref b/\H b=some (.tup [kV k,x])/\kvs=(k,x)::r/\PairsH H vs r
theorem kM{pins:List (Addr×Obj)}{σ:St}{H:Hp}{s:Shared}(I:Inv X pins σ H s):∀{vs:List V} {kvs:List (Key×V)} {its:List Value},Vals vs its->PairsH H vs kvs->∃rs,PairsAt (mixKind X.prog X.w) s.heap its rs/\KV kvs rs
 |[],_,_,.nil,h=>by cases h;exact⟨[],.nil,.nil⟩
 |_::vs,_,_,.cons r rs,⟨b,k,x,m,e1,e2,e3,e4⟩=>by
  subst e1 e3
  cases r
  obtain⟨qs,p1,p2⟩:=kM I rs e4
  obtain⟨_,its2,v2,t2⟩:=(show ObjOk X.prog X.w H s.heap b (.tup [kV k,x])from I.hok b _ e2)
  cases v2 with
  |cons a1 a2 =>
   cases a2 with
   |cons b1 b2 =>
    cases b2
    exact⟨_::qs,.cons t2 (xB a1) p1,.cons ⟨rfl,b1⟩ p2⟩
theorem rG(hc:X.calm=true):CallR X (.type "dict") (λxs H Q=>∃p vs kvs,xs=[.ref p]/\H p=some (.lst vs)/\PairsH H vs kvs/\kvs.length<=16777216/\∀q,H q=none->Q (.ref q) (upd H q (.dK (mergeK [] kvs)))):=by
 intro pins s σ H xs us Q I r h
 obtain⟨p,vs,kvs,rfl,hp,hk,hz,q⟩:=h
 obtain⟨u,rfl,rx⟩:=vals1 r
 cases rx
 obtain⟨_,its,c,hv,ho⟩:=(show ObjOk X.prog X.w H s.heap p (.lst vs)from I.hok p _ hp)
 obtain⟨rs,hP,hKV⟩:=kM I hv hk
 refine callType_codes (Q₁:=λobj s₁=>obj=.ref s.heap.objs.size/\s₁={s with heap:=s.heap.push {cls:=.type "dict",data:=.dict #[]}}) F.kt_called_dict (F.kt_typeCall_dict_1 _) F.entry_dict_init (kt_code_dict_new _ ⟨rfl,rfl⟩) ?_
 rintro obj s₁ ⟨rfl,rfl⟩
 have hnew:(s.heap.push {cls:=.type "dict",data:=.dict #[]}).DictOf (mixKind X.prog X.w) s.heap.objs.size []:=Heap.DictOf.new s.heap
 refine⟨hnew.typeIs,F.args_dict_init_2 _ _,?_⟩
 unfold Builtin.«dict.__init__»
 refine aAB ?_
 unfold Builtin.Dict.selfAndRest
 refine aAB (wpAny_notOrdered_dict hnew.typeIs ?_)
 show wpAny _ _ (pure (s.heap.objs.size,[Value.ref p])) _ _ _
 refine aAD ?_
 show wpAny _ _ (Builtin.Dict.updateFrom "dict.__init__" s.heap.objs.size (.ref p) [] .none) _ _ _
 have ho':=aAA (h:=s.heap) {cls:=.type "dict",data:=.dict #[]} ho
 unfold Builtin.Dict.updateFrom
 refine aAB (aFV (T:="list") ⟨_,ho',rfl⟩ ?_)
 rw[aAH (by decide)]
 refine aAB (nJ ho' rfl rfl rfl (I.ok.hd hc) λh' tk hK=>?_)
 rw[aAH (show(none:Option Value).isNone=true from rfl)]
 refine aAB (aDB ?_)
 have ho2:=hK _ _ ho'
 have hd2:h'.get? s.heap.objs.size=some {cls:=.type "dict",data:=.dict #[]}:=hK _ _ (aAE _ rfl)
 refine aAB (aCZ (items:=its.toArray) ⟨_,ho2,rfl,_,rfl⟩ (aAD ⟨plainId_quiet jH _,?_⟩))
 have kk:∀b o,s.heap.get? b=some o->h'.get? b=some o:=λb o e=>hK b o (aAA _ e)
 have hit:h'.get? h'.objs.size=none:=aFQ (aAF _)
 have hlen:rs.length<=16777216:=by rw[<- hKV.length];exact hz
 have hI:(h'.push {cls:=.type "list_iterator",data:=.fields #[.ref p,.int 0 0]}).IsListIter h'.objs.size p 0:=⟨_,aAE _ rfl,rfl,rfl⟩
 refine rQ (A:=X.A.in1) (knd:=mixKind X.prog X.w) s.heap (l:=p) (it:=h'.objs.size) (d:=s.heap.objs.size) (its:=its) ⟨_,ho,rfl,_,rfl⟩ ?_ (aFQ (aAF _)) ?_ (I.ok.hd hc) its rs 0 _ [] rfl hP ?_ ?_ ?_ ?_ ?_
 ·cases e:s.heap.get? h'.objs.size with
  |none=>rfl
  |some o=>rw[kk _ _ e]at hit;cases hit
 ·intro e;rw[e,hd2]at hit;cases hit
 ·exact λb o e=>aAA _ (kk b o e)
 ·exact hI
 ·obtain⟨o,es,ep,e1,e2⟩:=hnew
  exact⟨o,es,ep,aAA _ (hK _ _ e1),e2⟩
 ·rw[aBB];simp;lia
 ·intro h3 tk3 k3 d3
  refine⟨rfl,.ref s.heap.objs.size,_,I.laid (t':=tk3) k3 (aAF _) (aDm (kvs:=mergeK [] kvs) ?_ ?_ (hKV.merge .nil) d3),rfl,q _ (I.hok.fresh (aAF _))⟩
  ·have:=iG kvs []
   rw[aBB];simp at this;lia
  ·exact beq_false_of_ne (aEK I.big)
end L2
namespace EV
open L2
variable{EX:D->Mm->Prop}
noncomputable section
def pkOf:D->Option (Key×D)
 |.tup [k,x]=>(keyOf k).map λk=>(k,x)
 |_=>none
def pksOf:List D->Option (List (Key×D))
 |[]=>some []
 |d::r=>match pkOf d,pksOf r with
  |some k,some ks=>some (k::ks)
  |_,_=>none
def kgetK(k:Key):List D->Option D
 |[]=>none
 |d::r=>match pkOf d with
  |some (g,x)=>if g=k then some x else kgetK k r
  |none=>kgetK k r
end
theorem iV:∀{more kvs:List (Key×V)},((kvs++more).map (·.1)).Nodup->mergeK kvs more=kvs++more
 |[],kvs,_=>by simp[mergeK]
 |(k,v)::r,kvs,h=>by
  have hn:valV kvs k=none:=by
   rw[<- Option.not_isSome_iff_eq_none,<- kZ]
   intro hq
   obtain⟨kv,h1,h2⟩:=List.any_eq_true.mp hq
   rw[List.map_append,aAQ]at h
   have h2:kv.1=k:=by simpa using h2
   exact(aES.mp h).2.2 kv.1 (List.mem_map_of_mem h1) k (by simp) h2
  show mergeK (putK kvs k v) r=_
  rw[wN v hn,iV (by simpa using h)]
  simp
theorem vA(k:Key):keyOf (kyD k)=some k:=by cases k <;> rfl
variable{K:Frag}{k:Key}
theorem wM{d:D}(r:Rp K μ H d v)(h:keyOf d=some k):v=kV k/\d=kyD k:=by
 cases d <;> simp only[keyOf,reduceCtorEq,aAR]at h
 ·subst h;simp only[Rp]at r;subst r;exact⟨rfl,rfl⟩
 ·subst h;simp only[Rp]at r;subst r;exact⟨rfl,rfl⟩
theorem qI:∀{ds:List D} {vs:List V} {kds:List (Key×D)},Rps K μ H ds vs->pksOf ds=some kds->∃kvs,PairsH H vs kvs/\Kns K μ H ds kvs/\kvs.map (·.1)=kds.map (·.1)
 |[],vs,kds,r,h=>by simp only[Rps]at r;simp only[pksOf,aAR]at h;subst r h;exact⟨[],rfl,rfl,rfl⟩
 |d::ds,vs,kds,r,h=>by
  simp only[Rps]at r
  obtain⟨v,r',rfl,e2,e3⟩:=r
  simp only[pksOf]at h
  cases q1:pkOf d with
  |none=>rw[q1]at h;cases h
  |some kx =>
   cases q2:pksOf ds with
   |none=>rw[q1,q2]at h;cases h
   |some ks =>
    rw[q1,q2]at h;cases h
    obtain⟨kvs,p1,p2,p3⟩:=qI e3 q2
    unfold pkOf at q1
    split at q1
    ·rename_i kd x
     obtain⟨g,q0,rfl⟩:=aAM.mp q1
     simp only[Rp,Rps]at e2
     obtain⟨b,us,rfl,hb,u1,r1,rfl,a1,u2,r2,rfl,a2,rfl⟩:=e2
     obtain⟨rfl,rfl⟩:=wM a1 q0
     exact⟨(g,u2)::kvs,⟨b,g,u2,kvs,rfl,hb,rfl,p1⟩,⟨g,x,u2,kvs,rfl,rfl,a2,p2⟩,by simp[p3]⟩
    ·cases q1
theorem tL:∀{ds:List D} {kvs:List (Key×V)},Kns K μ H ds kvs->∀x,kgetK k ds=some x->∃v,valV kvs k=some v/\Rp K μ H x v
 |[],kvs,h=>λx q=>(nomatch q)
 |_::ds,_,⟨g,x,v,r,e1,e2,e3,e4⟩=>by
  subst e1 e2
  have h1:=tL e4
  simp only[kgetK,pkOf,vA,aFK]
  unfold valV at h1 ⊢
  rw[aCW]
  by_cases q:g=k
  ·subst q
   simp only[aDF,decide_true]
   exact λy hy=>by cases hy;exact⟨v,rfl,e3⟩
  ·simp only[aAJ q,aBG q]
   exact h1
theorem xN{ds:List D}(hnd:nsIn K mainGlobals "dictK"=some none)(hr:HR K μ H M)(r:Rw K μ H (.ob "dictK" i) v)(h:M[i]?=some ds):∃a kvs,μ[i]?=some a/\v=.ref a/\H a=some (.dK kvs)/\Kns K μ H ds kvs:=by
 obtain⟨a,qa,rfl,io⟩:=r
 rcases io with⟨C',dx,fs,h1,h2⟩|⟨h1,_⟩|⟨_,kvs,h1⟩
 ·rw[hnd]at h2;cases h2
 ·cases h1
 ·obtain⟨a',o,q1,q2,q3⟩:=hr.atO h
  rw[qa]at q1;cases q1
  rw[h1]at q2;cases q2
  exact⟨a,kvs,qa,rfl,h1,q3⟩
variable{K:Frag}{e a o i:Expr}
noncomputable section
def cDictL(w:W)(M:Mm):Oc W:=match w with
 |.d (.lst ds)=>match pksOf ds with
  |some kds=>if(kds.map (·.1)).Nodup/\kds.length<=16777216 then .ok (.ob "dictK" M.length) (M++[ds])else .bad
  |none=>.bad
 |_=>.bad
abbrev eDictL(f:FE):FE:=e1 cDictL f
theorem uN:bootBuiltins "dict"=some (.type "dict"):=by first|rfl|kernel_rfl
theorem vJ(hc:X.calm=true)(hm:X.mg "dict"=none)(ha:Ev X K Z a f)(hg:Gl X "dict":=by rfl)(hs:starEach [a] X.env=[(false,eval a X.env)]:=by rfl):Ev X K Z (.Call (.Name "dict" p) [a] [] pos) (eDictL f):=by
 refine⟨ha.k,cqE (iA (rG hc) hg hm uN (cY ha.h fJ hs) (by decide) (by decide) hs rfl) ?_⟩
 rintro σ H Q ⟨μ,M,L,hr,lr,p⟩
 refine⟨μ,M,L,hr,lr,p.bind.imp λμ1 H1 M1 w e1 hr1 _ p1 v rw'=>?_⟩
 unfold cDictL at p1
 split at p1
 ·rename_i ds _
  split at p1
  ·rename_i kds hk
   split at p1
   ·rename_i hz
    simp only[Rw,Rp]at rw'
    obtain⟨b,vs,rfl,hb,hm',rs⟩:=rw'
    obtain⟨kvs,h1,h2,h3⟩:=qI rs hk
    refine⟨b,vs,kvs,rfl,hb,h1,?_,λq hq=>?_⟩
    ·have:=congrArg List.length h3
     simp at this;lia
    ·rw[iV (kvs:=[]) (by rw[aFR,h3];exact hz.1),aFR]
     exact p1 _ _ (lL (o:=.dK kvs) hr1 hq) (hr1.newO (o:=.dK kvs) (ds:=ds) hq h2) (.ref q) ⟨q,by rw[<- hr1.len];simp,rfl,.inr (.inr ⟨rfl,kvs,bS⟩)⟩
   ·exact p1.elim
  ·exact p1.elim
 ·exact p1.elim
def pKGet(x y:W)(M:Mm):Oc W:=match x,y with
 |.ob c j,.d z=>if c="dictK"then(match M[j]?,keyOf z with
  |some ds,some k=>match kgetK k ds with
   |some z=>.ok (.d z) M
   |none=>.bad
  |_,_=>.bad)else .bad
 |_,_=>.bad
end
theorem zU(hnd:nsIn K mainGlobals "dictK"=some none)(hu:X.A.units+101 < cLine)(ho:Ev X K Z o fo)(hi:Ev X K Z i fi)(hs:NoSl i:=by intro _ _;rfl):Ev X K Z (.Subscript o i pos) (e2 pKGet fo fi):=by
 refine⟨ho.k,cqE (zO (by lia) ho.h hi.h hs) ?_⟩
 rintro σ H Q ⟨μ,M,L,hr,lr,p⟩
 refine⟨μ,M,L,hr,lr,p.bind.imp λμ1 H1 M1 x e1 hr1 _ p1 v rx=>?_⟩
 refine⟨μ1,M1,L,hr1,lr.ext hr.lsts e1,p1.bind.imp λμ2 H2 M2 y e2 hr2 _ p2 u ry=>?_⟩
 unfold pKGet at p2
 split at p2
 ·rename_i c j z
  split at p2
  ·rename_i hc;subst hc
   split at p2
   ·rename_i ds k q2 q1
    split at p2
    ·rename_i z' q3
     obtain⟨a0,kvs,qa,rfl,h1,r1⟩:=xN hnd hr2 (rx.ext hr1.lsts e2) q2
     obtain⟨rfl,rfl⟩:=wM ry q1
     obtain⟨v0,e3,rv⟩:=tL r1 z' q3
     exact⟨a0,v0,rfl,by rw[<- e3];exact DGet.k h1,p2 μ2 H2 .refl hr2 _ rv⟩
    ·exact p2.elim
   ·exact p2.elim
  ·exact p2.elim
 ·exact p2.elim
variable{Q:W->Mm->Prop}
theorem xO{ds:List D}{kds:List (Key×D)}(h:pksOf ds=some kds)(hn:(kds.map (·.1)).Nodup)(hl:kds.length<=16777216)(q:Q (.ob "dictK" M.length) (M++[ds])):Okx EX (cDictL (.d (.lst ds)) M) Q:=by
 unfold cDictL
 simp only[h]
 rw[aAH ⟨hn,hl⟩]
 exact aK q
theorem yS{z x:D}{ds:List D}(h:M[j]?=some ds)(hk:keyOf z=some k)(hg:kgetK k ds=some x)(q:Q (.d x) M):Okx EX (pKGet (.ob "dictK" j) (.d z) M) Q:=by
 unfold pKGet
 simp only[h,hk,hg,aDF]
 exact aK q
end EV
namespace EV
open L2
noncomputable def mkTP(ws:List W)(M:Mm):Oc W:=match ws with
 |[.d x,.ref i]=>.ok (.nest (.pr x i)) M
 |_=>.bad
variable{K:Frag}{es:List Expr}{fs:FA}
theorem yA{x1}(h:Ea X K Z es fs):Ev X K Z (.Tuple es x1 pos) (eA mkTP fs):=by
 refine⟨h.k,cqE (vK h.h) ?_⟩
 rintro σ H Q ⟨μ,M,L,hr,lr,p⟩
 refine⟨μ,M,L,hr,lr,p.bind.imp λμ1 H1 M1 ws e1 hr1 _ p1 vs rx=>?_⟩
 unfold mkTP at p1
 split at p1
 ·rename_i x i
  obtain⟨v,r,rfl,rv,r1⟩:=rx
  obtain⟨u,r,rfl,ru,r2⟩:=r1
  cases r2
  obtain⟨b,mb,rfl,il⟩:=ru
  refine⟨by rw[aBB];simp,λq hq=>?_⟩
  refine p1 μ1 _ (eG hr1 hq) (hr1.lay hq) (.ref q) ⟨q,_,rfl,bS,v,b,rfl,Rp.ext hr1.lsts (eG hr1 hq) _ _ rv,mb,il.ext (eG hr1 hq)⟩
 ·exact p1.elim
variable{Q:W->Mm->Prop}
theorem yT{x:D}(q:Q (.nest (.pr x i)) M):Okx EX (mkTP [.d x,.ref i] M) Q:=aK q
theorem yE{n:Nat}{x:D}{ds:List D}(hi:¬i < n)(h:M[i]?=some ds)(q:Q (.d (.tup [x,.lst ds])) (M.take n)):Okx EX (retc n (.nest (.pr x i)) M) Q:=by
 unfold retc;simp only;rw[aAJ hi];simp only[h];exact aK q
end EV
set_option maxHeartbeats 4000000
end
namespace K42
open PySem L2 EV
noncomputable section
def top(i:Nat):Stmt:=PySem.Challenge.pw_lentshelf_k42_whole_what_rounds_bring.main.body.getD i (.Pass ⟨0,0,0,0⟩)
abbrev cQ:Stmt:=top 4
abbrev eL:Stmt:=top 5
abbrev bM:Stmt:=top 7
abbrev bW:Stmt:=top 8
abbrev cU:Stmt:=top 10
abbrev fR:Stmt:=top 11
abbrev dE:Stmt:=top 13
abbrev cS:Stmt:=top 14
abbrev bO:Stmt:=top 15
abbrev eN:Stmt:=top 17
abbrev dD:Stmt:=top 18
abbrev dC:Stmt:=top 19
abbrev cK:Stmt:=top 20
abbrev cZ:Stmt:=top 21
abbrev cR:Stmt:=top 22
abbrev bV:Stmt:=top 24
abbrev eK:Stmt:=top 25
abbrev bF:Stmt:=top 26
abbrev cG:Stmt:=top 27
abbrev bJ:Stmt:=top 28
abbrev cI:Stmt:=top 29
abbrev cH:Stmt:=top 30
abbrev bL:Stmt:=top 31
abbrev bX:Stmt:=top 32
abbrev eI:Stmt:=top 33
abbrev gF:Stmt:=top 34
def b_0:FS :=
 (sSeq (sPar 2 3 (aCons (eV 0) (aCons (e2 pMod (eV 1) (eV 0)) aNil)))
  (sSeq (sAs (eA mkT (aCons (eC (.int 0)) (aCons (eC (.int 1)) aNil))) (gT 2 (gsCons (gN 4) (gsCons (gN 5) gsNil))))
  (sSeq (whileD (EV.tB (e2 pGt (eV 3) (eC (.int 0))))
  (sSeq (sAs (e2 pDiv (eV 2) (eV 3)) (gN 6))
  (sSeq (sPar 2 3 (aCons (eV 3) (aCons (e2 pSub (eV 2) (e2 pMulA (eV 6) (eV 3))) aNil)))
  (sPar 4 5 (aCons (eV 5) (aCons (e2 pSub (eV 4) (e2 pMulA (eV 6) (eV 5))) aNil))))) NW)
  (sSeq (sIf (EV.tB (e2 pNe (eV 2) (eC (.int 1))))
  (sRt (eC .non))
  sNil)
  (sRt (e2 pMod (eV 4) (eV 0)))))))
def cO:Fn:=fnD 2 7 b_0
theorem gI{ws:List W}(h:ws.length≠2):cO ws M=.bad:=aAJ h
def b_1:FS :=
 (sSeq (sAs (e2 pMod (eC (.int 1)) (eV 0)) (gN 3))
  (sSeq (sAs (e2 pMod (eV 1) (eV 0)) (gN 4))
  (sSeq (sAs (eV 2) (gN 5))
  (sSeq (whileD (EV.tB (e2 pGt (eV 5) (eC (.int 0))))
  (sSeq (sIf (EV.tB (e2 pEq (e2 pMod (eV 5) (eC (.int 2))) (eC (.int 1))))
  (sAs (e2 pMod (e2 pMulA (eV 3) (eV 4)) (eV 0)) (gN 3))
  sNil)
  (sSeq (sAs (e2 pMod (e2 pMulA (eV 4) (eV 4)) (eV 0)) (gN 4))
  (sAs (e2 pDiv (eV 5) (eC (.int 2))) (gN 5)))) NW)
  (sRt (eV 3))))))
def hX:Fn:=fnD 3 6 b_1
theorem mW{ws:List W}(h:ws.length≠3):hX ws M=.bad:=aAJ h
def b_3:FS :=
 (sSeq (sIf (EV.tB (e2 pEq (e2 pIx (eV 1) (eC (.int 0))) (eC (.str "scale"))))
  (sRt (eA mkT (aCons (eC (.str "scale")) (aCons (e2 pIx (eV 1) (eC (.int 1))) (aCons (eA cO (aCons (eV 0) (aCons (e2 pIx (eV 1) (eC (.int 2))) aNil))) aNil)))))
  sNil)
  (sRt (eA mkT (aCons (eC (.str "add")) (aCons (e2 pIx (eV 1) (eC (.int 1))) (aCons (e2 pMod (e1 pNeg (e2 pIx (eV 1) (eC (.int 2)))) (eV 0)) (aCons (e2 pIx (eV 1) (eC (.int 3))) (aCons (e2 pIx (eV 1) (eC (.int 4))) aNil))))))))
def dL:Fn:=fnD 2 2 b_3
theorem mM{ws:List W}(h:ws.length≠2):dL ws M=.bad:=aAJ h
def b_2:FS :=
 (sRt (eA cTup (aCons (eComp [none,some 0] (iRv (eV 1)) (gN 0) EV.tYes (eA dL (aCons (eV 1) (aCons (eV 0) aNil)))) aNil)))
def dN:Fn:=fnD 2 2 b_2
theorem kR{ws:List W}(h:ws.length≠2):dN ws M=.bad:=aAJ h
def b_4:FS :=
 (sSeq (sIf (EV.tB (e2 pNe (eA hX (aCons (eV 0) (aCons (eV 1) (aCons (eV 2) aNil)))) (eC (.int 1))))
  (sRt (eC (.bl false)))
  sNil)
  (sSeq (sFor (iR2 (eC (.int 1)) (eV 2)) (gN 3)
  (sIf (EV.tB (e2 pIs (eA cO (aCons (eV 0) (aCons (e2 pSub (eA hX (aCons (eV 0) (aCons (eV 1) (aCons (eV 3) aNil)))) (eC (.int 1))) aNil))) (eC .non)))
  (sRt (eC (.bl false)))
  sNil))
  (sRt (eC (.bl true)))))
def fU:Fn:=fnD 3 4 b_4
theorem pS{ws:List W}(h:ws.length≠3):fU ws M=.bad:=aAJ h
def b_5:FS :=
 (sSeq (sFor (iR1 (eV 0)) (gN 2)
  (sIf (tV (eA fU (aCons (eV 0) (aCons (eV 2) (aCons (eV 1) aNil)))))
  (sRt (eV 2))
  sNil))
  (sRt (eC .non)))
def lS:Fn:=fnD 2 3 b_5
theorem vW{ws:List W}(h:ws.length≠2):lS ws M=.bad:=aAJ h
def b_8:FS :=
 (sSeq (sAs (eA cO (aCons (eV 0) (aCons (eV 1) aNil))) (gN 5))
  (sSeq (sAs (eA mkT aNil) (gN 6))
  (sSeq (sFor (iE (eV 3)) (gT 2 (gsCons (gN 7) (gsCons (gN 8) gsNil)))
  (sAs (e2 pAdd (eV 6) (eV 8)) (gN 6)))
  (sSeq (sAs (eA dN (aCons (eV 0) (aCons (eV 6) aNil))) (gN 9))
  (sSeq (sAs (e2 pAdd (eV 6) (eA cTup (aCons (eComp [none,none,none,none,none,some 0,some 5] (iE (eV 4)) (gT 5 (gsCons (gN 0) (gsCons (gN 1) (gsCons (gN 2) (gsCons (gN 3) (gsCons (gN 4) gsNil)))))) EV.tYes (eA mkT (aCons (eC (.str "add")) (aCons (eV 1) (aCons (e2 pMod (e2 pMulA (eV 6) (eV 2)) (eV 5)) (aCons (eV 3) (aCons (eV 4) aNil))))))) aNil))) (gN 6))
  (sSeq (sAs (e2 pAdd (e2 pAdd (eV 6) (eV 9)) (eA cTup (aCons (eComp [none,none,some 2] (iE (eV 3)) (gT 2 (gsCons (gN 0) (gsCons (gN 1) gsNil))) EV.tYes (eA mkT (aCons (eC (.str "scale")) (aCons (eV 0) (aCons (eV 2) aNil))))) aNil))) (gN 6))
  (sRt (e2 pMulA (eV 6) (eV 1)))))))))
def eS:Fn:=fnD 5 10 b_8
theorem mL{ws:List W}(h:ws.length≠5):eS ws M=.bad:=aAJ h
def b_7:FS :=
 (sSeq (sAs (eA lS (aCons (eV 0) (aCons (eV 1) aNil))) (gN 2))
  (sSeq (sIf (EV.tB (e2 pIs (eV 2) (eC .non)))
  sBad
  sNil)
  (sRt (eV 2))))
def fX:Fn:=fnD 2 3 b_7
theorem qO{ws:List W}(h:ws.length≠2):fX ws M=.bad:=aAJ h
def b_6:FS :=
 (sRt (eA eS (aCons (eV 0) (aCons (eV 1) (aCons (eA fX (aCons (eV 0) (aCons (eV 1) aNil))) (aCons (eV 2) (aCons (eV 3) aNil)))))))
def gH:Fn:=fnD 4 4 b_6
theorem rR{ws:List W}(h:ws.length≠4):gH ws M=.bad:=aAJ h
def b_9:FS :=
 (sSeq (sAs (e2 pAdd (e2 pMulA (eC (.int 7919)) (eV 1)) (eC (.int 11))) (gN 2))
  (sSeq (sIf (EV.tB (e2 pLt (eV 1) (eA cLen (aCons (eV 0) aNil))))
  (sAs (e2 pIx (eV 0) (eV 1)) (gN 2))
  (sIf (EV.tB (e2 pGt (eA cLen (aCons (eV 0) aNil)) (eC (.int 0))))
  (sAs (e2 pAdd (eV 2) (e2 pMulA (e2 pMod (e2 pIx (eV 0) (e2 pMod (eV 1) (eA cLen (aCons (eV 0) aNil)))) (eC (.int 2147483629))) (eC (.int 69623)))) (gN 2))
  sNil))
  (sSeq (sAs (e2 pAdd (e2 pMod (e2 pAdd (e2 pMulA (e2 pMod (eV 2) (eC (.int 2147483629))) (eC (.int 48271))) (e2 pMulA (eC (.int 40692)) (eV 1))) (eC (.int 2147483629))) (eC (.int 1))) (gN 3))
  (sRt (eA mkR (aCons (e2 pIx (eA mkL (aCons (eC (.int 0)) (aCons (eV 2) aNil))) (eA cInt (aCons (e2 pGe (eV 2) (e2 pPow (eC (.int 10)) (eC (.int 18)))) aNil))) (aCons (eV 3) (aCons (eC (.int 0)) aNil))))))))
def gE:Fn:=fnR 2 4 b_9
theorem gX{ws:List W}(h:ws.length≠2):gE ws M=.bad:=aAJ h
def b_a:FS :=
 (sSeq (sIf (EV.tB (e2 pGt (e2 pIx (eV 0) (eC (.int 0))) (eC (.int 0))))
  (sSeq (sAs (e2 pMod (e2 pIx (eV 0) (eC (.int 0))) (eV 1)) (gN 2))
  (sSeq (sAs (e2 pDiv (e2 pIx (eV 0) (eC (.int 0))) (eV 1)) (gS (eV 0) (eC (.int 0))))
  (sRt (eV 2))))
  sNil)
  (sSeq (sAs (e2 pAdd (e2 pIx (eV 0) (eC (.int 2))) (eC (.int 1))) (gS (eV 0) (eC (.int 2))))
  (sSeq (sAs (e2 pMod (e2 pMulA (e2 pAdd (e2 pIx (eV 0) (eC (.int 1))) (e2 pMulA (eC (.int 104729)) (e2 pIx (eV 0) (eC (.int 2))))) (eC (.int 69623))) (eC (.int 2147483647))) (gN 3))
  (sSeq (sAs (e2 pAdd (e2 pMod (e2 pAdd (e2 pMulA (eV 3) (eC (.int 48271))) (eC (.int 30103))) (eC (.int 2147483629))) (eC (.int 1))) (gS (eV 0) (eC (.int 1))))
  (sRt (e2 pMod (e2 pDiv (e2 pAdd (e2 pMulA (eV 3) (eC (.int 2147483647))) (e2 pIx (eV 0) (eC (.int 1)))) (eC (.int 8191))) (eV 1)))))))
def aW:Fn:=fnD 2 4 b_a
theorem aQ{ws:List W}(h:ws.length≠2):aW ws M=.bad:=aAJ h
def b_b:FS :=
 (sSeq (sAs (eA aW (aCons (eV 0) (aCons (eC (.int 4)) aNil))) (gN 2))
  (sSeq (sIf (EV.tB (e2 pEq (eV 2) (eC (.int 0))))
  (sRt (e2 pIx (eA mkL (aCons (eC (.int 0)) (aCons (e2 pMod (eC (.int 1)) (eV 1)) (aCons (e2 pSub (eV 1) (eC (.int 1))) (aCons (e2 pMod (e2 pSub (eV 1) (eC (.int 2))) (eV 1)) aNil))))) (eA aW (aCons (eV 0) (aCons (eC (.int 4)) aNil)))))
  sNil)
  (sRt (eA aW (aCons (eV 0) (aCons (eV 1) aNil))))))
def fZ:Fn:=fnD 2 3 b_b
theorem lB{ws:List W}(h:ws.length≠2):fZ ws M=.bad:=aAJ h
def b_c:FS :=
 (sRt (eA cTup (aCons (eComp [none,some 0,some 1] (iR1 (eV 2)) (gN 0) EV.tYes (eA fZ (aCons (eV 1) (aCons (eV 2) aNil)))) aNil)))
def eZ:Fn:=fnD 3 3 b_c
theorem jX{ws:List W}(h:ws.length≠3):eZ ws M=.bad:=aAJ h
def b_d(r_l_expr:Fn):FS :=
 (sSeq (sAs (eA aW (aCons (eV 0) (aCons (eC (.int 7)) aNil))) (gN 4))
  (sSeq (sIf (EV.tOr (EV.tB (e2 pLt (eV 2) (eC (.int 3)))) (EV.tOr (EV.tB (e2 pEq (eV 3) (eC (.int 0)))) (EV.tB (e2 pEq (eV 4) (eC (.int 0))))))
  (sSeq (sAs (e2 pIx (eA mkL (aCons (eA aW (aCons (eV 0) (aCons (eC (.int 10)) aNil))) (aCons (eA aW (aCons (eV 0) (aCons (eC (.int 1000000)) aNil))) aNil))) (eA cInt (aCons (e2 pEq (eA aW (aCons (eV 0) (aCons (eC (.int 4)) aNil))) (eC (.int 0))) aNil))) (gN 5))
  (sSeq (sIf (EV.tAnd (EV.tB (e2 pGt (eV 1) (eC (.int 0)))) (EV.tB (e2 pGt (eA aW (aCons (eV 0) (aCons (eC (.int 3)) aNil))) (eC (.int 0)))))
  (sRt (eA mkT (aCons (eC (.str "given")) (aCons (eA aW (aCons (eV 0) (aCons (eV 1) aNil))) aNil))))
  sNil)
  (sRt (eA mkT (aCons (eC (.str "num")) (aCons (eV 5) aNil))))))
  sNil)
  (sSeq (sAs (e2 pAdd (eC (.int 1)) (eA aW (aCons (eV 0) (aCons (e2 pSub (eV 2) (eC (.int 2))) aNil)))) (gN 6))
  (sSeq (sAs (e2 pIx (eA mkL (aCons (eC (.str "sum")) (aCons (eC (.str "less")) (aCons (eC (.str "times")) (aCons (eC (.str "times")) aNil))))) (eA aW (aCons (eV 0) (aCons (eC (.int 4)) aNil)))) (gN 7))
  (sSeq (sAs (eA r_l_expr (aCons (eV 0) (aCons (eV 1) (aCons (eV 6) (aCons (e2 pSub (eV 3) (eC (.int 1))) aNil))))) (gN 8))
  (sRt (eA mkT (aCons (eV 7) (aCons (eV 8) (aCons (eA r_l_expr (aCons (eV 0) (aCons (eV 1) (aCons (e2 pSub (e2 pSub (eV 2) (eC (.int 1))) (eV 6)) (aCons (e2 pSub (eV 3) (eC (.int 1))) aNil))))) aNil))))))))))
def dB:Nat->Fn
 |0=>λ_ _=>.bad
 |d+1=>fnD 4 9 (b_d (dB d))
theorem iK:∀{d:Nat} {ws:List W} {M:Mm},ws.length≠4->dB d ws M=.bad
 |0,_,_,_=>by simp only[dB]
 |d+1,_,_,h=>by simp only[dB];exact aAJ h
def b_e(r_l_worth:Fn):FS :=
 (sSeq (sIf (EV.tB (e2 pEq (e2 pIx (eV 1) (eC (.int 0))) (eC (.str "num"))))
  (sRt (e2 pMod (e2 pIx (eV 1) (eC (.int 1))) (eV 0)))
  sNil)
  (sSeq (sIf (EV.tB (e2 pEq (e2 pIx (eV 1) (eC (.int 0))) (eC (.str "given"))))
  (sRt (e2 pIx (eV 2) (e2 pIx (eV 1) (eC (.int 1)))))
  sNil)
  (sSeq (sPar 3 4 (aCons (eA r_l_worth (aCons (eV 0) (aCons (e2 pIx (eV 1) (eC (.int 1))) (aCons (eV 2) aNil)))) (aCons (eA r_l_worth (aCons (eV 0) (aCons (e2 pIx (eV 1) (eC (.int 2))) (aCons (eV 2) aNil)))) aNil)))
  (sSeq (sIf (EV.tB (e2 pEq (e2 pIx (eV 1) (eC (.int 0))) (eC (.str "sum"))))
  (sRt (e2 pMod (e2 pAdd (eV 3) (eV 4)) (eV 0)))
  sNil)
  (sSeq (sIf (EV.tB (e2 pEq (e2 pIx (eV 1) (eC (.int 0))) (eC (.str "less"))))
  (sRt (e2 pMod (e2 pSub (eV 3) (eV 4)) (eV 0)))
  sNil)
  (sRt (e2 pMod (e2 pMulA (eV 3) (eV 4)) (eV 0))))))))
def cB:Nat->Fn
 |0=>λ_ _=>.bad
 |d+1=>fnD 3 5 (b_e (cB d))
theorem gR:∀{d:Nat} {ws:List W} {M:Mm},ws.length≠3->cB d ws M=.bad
 |0,_,_,_=>by simp only[cB]
 |d+1,_,_,h=>by simp only[cB];exact aAJ h
def b_f:FS :=
 (sSeq (sAs (eA mkT (aCons (eV 0) (aCons (e2 pMod (eV 1) (eV 0)) (aCons (eC (.int 0)) (aCons (eC (.int 1)) aNil))))) (gT 4 (gsCons (gN 2) (gsCons (gN 3) (gsCons (gN 4) (gsCons (gN 5) gsNil))))))
  (sSeq (whileD (EV.tB (e2 pGt (eV 3) (eC (.int 0))))
  (sSeq (sAs (e2 pDiv (eV 2) (eV 3)) (gN 6))
  (sSeq (sPar 2 3 (aCons (eV 3) (aCons (e2 pSub (eV 2) (e2 pMulA (eV 6) (eV 3))) aNil)))
  (sPar 4 5 (aCons (eV 5) (aCons (e2 pSub (eV 4) (e2 pMulA (eV 6) (eV 5))) aNil))))) NW)
  (sRt (e2 pMod (eV 4) (eV 0)))))
def eP:Fn:=fnD 2 7 b_f
theorem mB{ws:List W}(h:ws.length≠2):eP ws M=.bad:=aAJ h
def b_10:FS :=
 (sSeq (sAs (eA cListR (aCons (eV 2) aNil)) (gN 3))
  (sSeq (sFor (iE (e2 pIx (eV 0) (eC (.int 3)))) (gN 4)
  (sIf (EV.tB (e2 pEq (e2 pIx (eV 4) (eC (.int 0))) (eC (.str "scale"))))
  (sAs (e2 pMod (e2 pMulA (e2 pIx (eV 3) (e2 pIx (eV 4) (eC (.int 1)))) (e2 pIx (eV 4) (eC (.int 2)))) (e2 pIx (eV 0) (eC (.int 0)))) (gS (eV 3) (e2 pIx (eV 4) (eC (.int 1)))))
  (sSeq (sAs (e2 pIx (eV 4) (eC (.int 2))) (gN 5))
  (sSeq (sFor (iE (e2 pIx (eV 4) (eC (.int 3)))) (gN 6)
  (sAs (e2 pMod (e2 pMulA (eV 5) (e2 pIx (eV 1) (eV 6))) (e2 pIx (eV 0) (eC (.int 0)))) (gN 5)))
  (sSeq (sFor (iE (e2 pIx (eV 4) (eC (.int 4)))) (gN 7)
  (sAs (e2 pMod (e2 pMulA (eV 5) (e2 pIx (eV 3) (eV 7))) (e2 pIx (eV 0) (eC (.int 0)))) (gN 5)))
  (sAs (e2 pMod (e2 pAdd (e2 pIx (eV 3) (e2 pIx (eV 4) (eC (.int 1)))) (eV 5)) (e2 pIx (eV 0) (eC (.int 0)))) (gS (eV 3) (e2 pIx (eV 4) (eC (.int 1))))))))))
  (sRt (eA cTup (aCons (eV 3) aNil)))))
def iT:Fn:=fnD 3 8 b_10
theorem uT{ws:List W}(h:ws.length≠3):iT ws M=.bad:=aAJ h
def b_11:FS :=
 (sSeq (sAs (eA mkR aNil) (gN 2))
  (sSeq (sFor (iRv (eV 1)) (gN 3)
  (sIf (EV.tB (e2 pEq (e2 pIx (eV 3) (eC (.int 0))) (eC (.str "scale"))))
  (sEx (eM1 pAppend (eV 2) (eA mkT (aCons (eC (.str "scale")) (aCons (e2 pIx (eV 3) (eC (.int 1))) (aCons (eA eP (aCons (eV 0) (aCons (e2 pIx (eV 3) (eC (.int 2))) aNil))) aNil))))))
  (sEx (eM1 pAppend (eV 2) (e2 pAdd (e2 pAdd (eSl (eV 3) oNo (oAt (eC (.int 2)))) (eA mkT (aCons (e2 pMod (e2 pSub (eC (.int 0)) (e2 pIx (eV 3) (eC (.int 2)))) (eV 0)) aNil))) (eSl (eV 3) (oAt (eC (.int 3))) oNo))))))
  (sRt (eA cTup (aCons (eV 2) aNil)))))
def bG:Fn:=fnD 2 4 b_11
theorem bZ{ws:List W}(h:ws.length≠2):bG ws M=.bad:=aAJ h
def b_12(r_l_row_by:Fn):FS :=
 (sSeq (sAs (e2 pIx (eV 1) (eC (.int 0))) (gN 5))
  (sSeq (sIf (EV.tB (e2 pEq (eV 5) (eC (.str "num"))))
  (sRt (eA mkT (aCons (eA mkT (aCons (eC (.str "add")) (aCons (eV 2) (aCons (e2 pMod (e2 pIx (eV 1) (eC (.int 1))) (eV 0)) (aCons (eA mkT aNil) (aCons (eA mkT (aCons (eV 3) aNil)) aNil)))))) aNil)))
  sNil)
  (sSeq (sIf (EV.tB (e2 pEq (eV 5) (eC (.str "given"))))
  (sRt (eA mkT (aCons (eA mkT (aCons (eC (.str "add")) (aCons (eV 2) (aCons (eC (.int 1)) (aCons (eA mkT (aCons (e2 pIx (eV 1) (eC (.int 1))) aNil)) (aCons (eA mkT (aCons (eV 3) aNil)) aNil)))))) aNil)))
  sNil)
  (sSeq (sIf (EV.tB (e2 pNe (eV 5) (eC (.str "times"))))
  (sSeq (sPar 6 7 (aCons (eA r_l_row_by (aCons (eV 0) (aCons (e2 pIx (eV 1) (eC (.int 1))) (aCons (eV 2) (aCons (eV 3) (aCons (eV 4) aNil)))))) (aCons (eA r_l_row_by (aCons (eV 0) (aCons (e2 pIx (eV 1) (eC (.int 2))) (aCons (eV 2) (aCons (eV 3) (aCons (eV 4) aNil)))))) aNil)))
  (sRt (e2 pAdd (eV 6) (e2 pIx (eA mkL (aCons (eA bG (aCons (eV 0) (aCons (eV 7) aNil))) (aCons (eV 7) aNil))) (eA cInt (aCons (e2 pEq (eV 5) (eC (.str "sum"))) aNil))))))
  sNil)
  (sSeq (sPar 6 7 (aCons (eA r_l_row_by (aCons (eV 0) (aCons (e2 pIx (eV 1) (eC (.int 2))) (aCons (eV 4) (aCons (eV 3) (aCons (eV 2) aNil)))))) (aCons (eA r_l_row_by (aCons (eV 0) (aCons (e2 pIx (eV 1) (eC (.int 1))) (aCons (eV 2) (aCons (eV 4) (aCons (eV 3) aNil)))))) aNil)))
  (sRt (e2 pAdd (e2 pAdd (e2 pAdd (eV 6) (eV 7)) (eA bG (aCons (eV 0) (aCons (eV 6) aNil)))) (eA bG (aCons (eV 0) (aCons (eV 7) aNil))))))))))
def bR:Nat->Fn
 |0=>λ_ _=>.bad
 |d+1=>fnD 5 8 (b_12 (bR d))
theorem dO:∀{d:Nat} {ws:List W} {M:Mm},ws.length≠5->bR d ws M=.bad
 |0,_,_,_=>by simp only[bR]
 |d+1,_,_,h=>by simp only[bR];exact aAJ h
def b_13(r_l_row_alone:Fn):FS :=
 (sSeq (sAs (e2 pIx (eV 1) (eC (.int 0))) (gN 5))
  (sSeq (sIf (EV.tB (e2 pEq (eV 5) (eC (.str "num"))))
  (sRt (eA mkT (aCons (eA mkT (aCons (eC (.str "add")) (aCons (eV 2) (aCons (e2 pMod (e2 pIx (eV 1) (eC (.int 1))) (eV 0)) (aCons (eA mkT aNil) (aCons (eA mkT aNil) aNil)))))) aNil)))
  sNil)
  (sSeq (sIf (EV.tB (e2 pEq (eV 5) (eC (.str "given"))))
  (sRt (eA mkT (aCons (eA mkT (aCons (eC (.str "add")) (aCons (eV 2) (aCons (eC (.int 1)) (aCons (eA mkT (aCons (e2 pIx (eV 1) (eC (.int 1))) aNil)) (aCons (eA mkT aNil) aNil)))))) aNil)))
  sNil)
  (sSeq (sIf (EV.tB (e2 pNe (eV 5) (eC (.str "times"))))
  (sSeq (sPar 6 7 (aCons (eA r_l_row_alone (aCons (eV 0) (aCons (e2 pIx (eV 1) (eC (.int 1))) (aCons (eV 2) (aCons (eV 3) (aCons (eV 4) aNil)))))) (aCons (eA r_l_row_alone (aCons (eV 0) (aCons (e2 pIx (eV 1) (eC (.int 2))) (aCons (eV 2) (aCons (eV 3) (aCons (eV 4) aNil)))))) aNil)))
  (sRt (e2 pAdd (eV 6) (e2 pIx (eA mkL (aCons (eA bG (aCons (eV 0) (aCons (eV 7) aNil))) (aCons (eV 7) aNil))) (eA cInt (aCons (e2 pEq (eV 5) (eC (.str "sum"))) aNil))))))
  sNil)
  (sSeq (sPar 6 7 (aCons (eA r_l_row_alone (aCons (eV 0) (aCons (e2 pIx (eV 1) (eC (.int 2))) (aCons (eV 4) (aCons (eV 3) (aCons (eV 2) aNil)))))) (aCons (eA (bR 50) (aCons (eV 0) (aCons (e2 pIx (eV 1) (eC (.int 1))) (aCons (eV 2) (aCons (eV 4) (aCons (eV 3) aNil)))))) aNil)))
  (sRt (e2 pAdd (e2 pAdd (e2 pAdd (eV 6) (eV 7)) (eA bG (aCons (eV 0) (aCons (eV 6) aNil)))) (eA bG (aCons (eV 0) (aCons (eV 7) aNil))))))))))
def bA:Nat->Fn
 |0=>λ_ _=>.bad
 |d+1=>fnD 5 8 (b_13 (bA d))
theorem dH:∀{d:Nat} {ws:List W} {M:Mm},ws.length≠5->bA d ws M=.bad
 |0,_,_,_=>by simp only[bA]
 |d+1,_,_,h=>by simp only[bA];exact aAJ h
def b_14:FS :=
 (sSeq (sAs (eA mkL (aCons (eInts [2,6,10,97,64]) (aCons (eInts [3,5,9,15,49,105,999]) (aCons (eInts [7,13,19,31,49,91,133]) (aCons (eInts [5,13,17,25,65,85]) aNil))))) (gN 2))
  (sSeq (sAs (e2 pAdd (eV 2) (eA mkL (aCons (eInts [11,31,41,121,341]) (aCons (eInts [7,13,19,43,49,91]) aNil)))) (gN 2))
  (sRt (e2 pIx (e2 pIx (eV 2) (e2 pSub (eV 1) (eC (.int 1)))) (eA aW (aCons (eV 0) (aCons (eA cLen (aCons (e2 pIx (eV 2) (e2 pSub (eV 1) (eC (.int 1)))) aNil)) aNil)))))))
def fF:Fn:=fnD 2 3 b_14
theorem nR{ws:List W}(h:ws.length≠2):fF ws M=.bad:=aAJ h
def b_15:FS :=
 (sSeq (sPar 3 4 (aCons (eListRange1R (eV 2)) (aCons (eA mkR aNil) aNil)))
  (sSeq (sFor (iR1 (eV 1)) (gN 5)
  (sEx (eM1 pAppend (eV 4) (eM1 pPopAt (eV 3) (eA aW (aCons (eV 0) (aCons (eA cLen (aCons (eV 3) aNil)) aNil)))))))
  (sRt (eV 4))))
def eD:Fn:=fnD 3 6 b_15
theorem iP{ws:List W}(h:ws.length≠3):eD ws M=.bad:=aAJ h
def b_16:FS :=
 (sSeq (sPar 3 4 (aCons (eA mkR aNil) (aCons (eA mkR aNil) aNil)))
  (sSeq (sFor (iE (eA eD (aCons (eV 0) (aCons (eV 2) (aCons (eC (.int 9)) aNil))))) (gN 5)
  (sSeq (sAs (eComp [none,some 5] (iE (eA eD (aCons (eV 0) (aCons (eC (.int 3)) (aCons (eC (.int 9)) aNil))))) (gN 0) (EV.tB (e2 pNe (eV 0) (eV 1))) (eV 0)) (gN 6))
  (sSeq (sAs (eA (dB 50) (aCons (eV 0) (aCons (eC (.int 8)) (aCons (e2 pAdd (eC (.int 1)) (eA aW (aCons (eV 0) (aCons (eC (.int 7)) aNil)))) (aCons (eC (.int 3)) aNil))))) (gN 7))
  (sSeq (sEx (eM1 pAppend (eV 4) (eV 7)))
  (sEx (eM1 pAppend (eV 3) (eA mkT (aCons (eV 5) (aCons (eA (bA 50) (aCons (eV 1) (aCons (eV 7) (aCons (eV 5) (aCons (e2 pIx (eV 6) (eC (.int 0))) (aCons (e2 pIx (eV 6) (eC (.int 1))) aNil)))))) aNil)))))))))
  (sRt (eA mkTP (aCons (eA cTup (aCons (eV 3) aNil)) (aCons (eV 4) aNil))))))
def dR:Fn:=fnD 3 8 b_16
theorem lV{ws:List W}(h:ws.length≠3):dR ws M=.bad:=aAJ h
def b_17:FS :=
 (sSeq (sAs (eA mkR aNil) (gN 4))
  (sSeq (sAs (eComp [none,some 3] (iR1 (eC (.int 9))) (gN 0) (EV.tB (e2 pNotIn (eV 0) (eV 1))) (eV 0)) (gN 5))
  (sSeq (sFor (iR1 (e2 pAdd (eC (.int 1)) (eA aW (aCons (eV 0) (aCons (eC (.int 4)) aNil))))) (gN 6)
  (sSeq (sAs (eA cTup (aCons (eA cSorted (aCons (eComp [none,some 0] (iR1 (eA aW (aCons (eV 0) (aCons (eC (.int 5)) aNil)))) (gN 0) EV.tYes (eA aW (aCons (eV 1) (aCons (eC (.int 8)) aNil)))) aNil)) aNil)) (gN 7))
  (sSeq (sAs (eA cMin2 (aCons (eC (.int 4)) (aCons (e2 pSub (e2 pSub (eV 2) (eC (.int 1))) (e2 pDiv (eA aW (aCons (eV 0) (aCons (eV 2) aNil))) (eC (.int 2)))) aNil))) (gN 8))
  (sSeq (sAs (eA cSorted (aCons (eComp [none,some 3,some 0] (iR1 (eV 8)) (gN 0) EV.tYes (e2 pIx (eV 1) (eA aW (aCons (eV 2) (aCons (eA cLen (aCons (eV 1) aNil)) aNil))))) aNil)) (gN 9))
  (sSeq (sAs (e2 pIx (eV 5) (eA aW (aCons (eV 0) (aCons (eA cLen (aCons (eV 5) aNil)) aNil)))) (gN 10))
  (sEx (eM1 pAppend (eV 4) (eA mkT (aCons (eC (.str "add")) (aCons (eV 10) (aCons (eA fZ (aCons (eV 0) (aCons (eV 1) aNil))) (aCons (eV 7) (aCons (eA cTup (aCons (eV 9) aNil)) aNil)))))))))))))
  (sRt (eA cTup (aCons (eV 4) aNil))))))
def fW:Fn:=fnD 4 11 b_17
theorem pV{ws:List W}(h:ws.length≠4):fW ws M=.bad:=aAJ h
def b_18:FS :=
 (sSeq (sAs (eA cListR (aCons (eV 4) aNil)) (gN 5))
  (sSeq (sFor (iE (eV 1)) (gT 5 (gsCons (gN 6) (gsCons (gN 7) (gsCons (gN 8) (gsCons (gN 9) (gsCons (gN 10) gsNil))))))
  (sSeq (sFor (iE (eV 9)) (gN 11)
  (sAs (e2 pMod (e2 pMulA (eV 8) (e2 pIx (eV 3) (eV 11))) (eV 0)) (gN 8)))
  (sSeq (sFor (iE (eV 10)) (gN 12)
  (sAs (e2 pMod (e2 pMulA (eV 8) (e2 pKGet (eV 2) (eV 12))) (eV 0)) (gN 8)))
  (sAs (e2 pMod (e2 pAdd (e2 pIx (eV 5) (eV 7)) (eV 8)) (eV 0)) (gS (eV 5) (eV 7))))))
  (sRt (eA cTup (aCons (eV 5) aNil)))))
def jB:Fn:=fnD 5 13 b_18
theorem uK{ws:List W}(h:ws.length≠5):jB ws M=.bad:=aAJ h
def b_19:FS :=
 (sSeq (sAs (eA gE (aCons (eV 0) (aCons (eC (.int 0)) aNil))) (gN 1))
  (sSeq (sAs (e2 pAdd (eC (.int 2)) (eA aW (aCons (eV 1) (aCons (eC (.int 5)) aNil)))) (gN 2))
  (sSeq (sAs (eA fF (aCons (eV 1) (aCons (eV 2) aNil))) (gN 3))
  (sSeq (sAs (eA dR (aCons (eA gE (aCons (eV 0) (aCons (eC (.int 1)) aNil))) (aCons (eV 3) (aCons (e2 pAdd (eC (.int 1)) (eA aW (aCons (eV 1) (aCons (eC (.int 3)) aNil)))) aNil)))) (gT 2 (gsCons (gN 4) (gsCons (gN 5) gsNil))))
  (sSeq (sAs (eA fW (aCons (eA gE (aCons (eV 0) (aCons (eC (.int 2)) aNil))) (aCons (eV 3) (aCons (eV 2) (aCons (eComp [none,none] (iE (eV 4)) (gT 2 (gsCons (gN 0) (gsCons (gN 1) gsNil))) EV.tYes (eV 0)) aNil))))) (gN 6))
  (sSeq (sAs (eA gH (aCons (eV 3) (aCons (eV 2) (aCons (eV 4) (aCons (eV 6) aNil))))) (gN 7))
  (sSeq (sFor (iR1 (eC (.int 2))) (gN 8)
  (sSeq (sAs (eA gE (aCons (eV 0) (aCons (e2 pAdd (eC (.int 3)) (eV 8)) aNil))) (gN 1))
  (sSeq (sAs (eA mkT (aCons (eA eZ (aCons (eV 1) (aCons (eV 3) (aCons (eC (.int 8)) aNil)))) (aCons (eA eZ (aCons (eV 1) (aCons (eV 3) (aCons (eC (.int 9)) aNil)))) aNil))) (gT 2 (gsCons (gN 9) (gsCons (gN 10) gsNil))))
  (sSeq (sAs (eDictL (eComp [none,none,some 3,some 9] (iZip (eV 4) (eV 5)) (gT 2 (gsCons (gN 0) (gsCons (gN 1) gsNil))) EV.tYes (eA mkT (aCons (e2 pIx (eV 0) (eC (.int 0))) (aCons (eA (cB 50) (aCons (eV 2) (aCons (eV 1) (aCons (eV 3) aNil)))) aNil))))) (gN 11))
  (sIf (EV.tB (e2 pNe (eA iT (aCons (eA mkT (aCons (eV 3) (aCons (eC (.int 8)) (aCons (eC (.int 9)) (aCons (eV 7) aNil))))) (aCons (eV 9) (aCons (eV 10) aNil)))) (eA jB (aCons (eV 3) (aCons (eV 6) (aCons (eV 11) (aCons (eV 9) (aCons (eV 10) aNil))))))))
  (sRt (eC (.bl false)))
  sNil)))))
  (sRt (eC (.bl true))))))))))
def lG:Fn:=fnD 1 12 b_19
end
set_option genInjectivity false in
set_option genSizeOf false in
structure Adr where
 a_0:Addr
 d_0:FuncData
 a_1:Addr
 d_1:FuncData
 a_2:Addr
 d_2:FuncData
 a_3:Addr
 d_3:FuncData
 a_4:Addr
 d_4:FuncData
 a_5:Addr
 d_5:FuncData
 a_6:Addr
 d_6:FuncData
 a_7:Addr
 d_7:FuncData
 a_8:Addr
 d_8:FuncData
 a_9:Addr
 d_9:FuncData
 a_a:Addr
 d_a:FuncData
 a_b:Addr
 d_b:FuncData
 a_c:Addr
 d_c:FuncData
 a_d:Addr
 d_d:FuncData
 a_e:Addr
 d_e:FuncData
 a_f:Addr
 d_f:FuncData
 a_10:Addr
 d_10:FuncData
 a_11:Addr
 d_11:FuncData
 a_12:Addr
 d_12:FuncData
 a_13:Addr
 d_13:FuncData
 a_14:Addr
 d_14:FuncData
 a_15:Addr
 d_15:FuncData
 a_16:Addr
 d_16:FuncData
 a_17:Addr
 d_17:FuncData
 a_18:Addr
 d_18:FuncData
 a_19:Addr
 d_19:FuncData
structure Tx(K:Frag)(mg:Str->Option Value)(a:Adr):Prop where
 f_0:Fun K "inverse" "inverse" cQ a.a_0 a.d_0
 b_0:Binds K a.d_0 ["n","k"] []
 k_0:keepIn K (.ref a.a_0)=true
 m_0:mg "inverse"=some (.ref a.a_0)
 f_1:Fun K "power" "power" eL a.a_1 a.d_1
 b_1:Binds K a.d_1 aGO []
 k_1:keepIn K (.ref a.a_1)=true
 m_1:mg "power"=some (.ref a.a_1)
 f_2:Fun K "deeds_back" "deeds_back" bM a.a_2 a.d_2
 b_2:Binds K a.d_2 aGP []
 k_2:keepIn K (.ref a.a_2)=true
 m_2:mg "deeds_back"=some (.ref a.a_2)
 f_3:Fun K "deed_back" "deed_back" bW a.a_3 a.d_3
 b_3:Binds K a.d_3 aGQ []
 k_3:keepIn K (.ref a.a_3)=true
 m_3:mg "deed_back"=some (.ref a.a_3)
 f_4:Fun K "is_root" "is_root" cU a.a_4 a.d_4
 b_4:Binds K a.d_4 aGR []
 k_4:keepIn K (.ref a.a_4)=true
 m_4:mg "is_root"=some (.ref a.a_4)
 f_5:Fun K "root" "root" fR a.a_5 a.d_5
 b_5:Binds K a.d_5 aGS []
 k_5:keepIn K (.ref a.a_5)=true
 m_5:mg "root"=some (.ref a.a_5)
 f_6:Fun K "rounds" "rounds" dE a.a_6 a.d_6
 b_6:Binds K a.d_6 aGT []
 k_6:keepIn K (.ref a.a_6)=true
 m_6:mg "rounds"=some (.ref a.a_6)
 f_7:Fun K "root_of" "root_of" cS a.a_7 a.d_7
 b_7:Binds K a.d_7 aGS []
 k_7:keepIn K (.ref a.a_7)=true
 m_7:mg "root_of"=some (.ref a.a_7)
 f_8:Fun K "rounds_by" "rounds_by" bO a.a_8 a.d_8
 b_8:Binds K a.d_8 aGU []
 k_8:keepIn K (.ref a.a_8)=true
 m_8:mg "rounds_by"=some (.ref a.a_8)
 f_9:Fun K "_law_box" "_law_box" eN a.a_9 a.d_9
 b_9:Binds K a.d_9 aGV []
 k_9:keepIn K (.ref a.a_9)=true
 m_9:mg "_law_box"=some (.ref a.a_9)
 f_a:Fun K "_law_take" "_law_take" dD a.a_a a.d_a
 b_a:Binds K a.d_a aGW []
 k_a:keepIn K (.ref a.a_a)=true
 m_a:mg "_law_take"=some (.ref a.a_a)
 f_b:Fun K "_law_rest" "_law_rest" dC a.a_b a.d_b
 b_b:Binds K a.d_b aGX []
 k_b:keepIn K (.ref a.a_b)=true
 m_b:mg "_law_rest"=some (.ref a.a_b)
 f_c:Fun K "_law_rests" "_law_rests" cK a.a_c a.d_c
 b_c:Binds K a.d_c aGY []
 k_c:keepIn K (.ref a.a_c)=true
 m_c:mg "_law_rests"=some (.ref a.a_c)
 f_d:Fun K "_law_expr" "_law_expr" cZ a.a_d a.d_d
 b_d:Binds K a.d_d aGZ []
 k_d:keepIn K (.ref a.a_d)=true
 m_d:mg "_law_expr"=some (.ref a.a_d)
 f_e:Fun K "_law_worth" "_law_worth" cR a.a_e a.d_e
 b_e:Binds K a.d_e aHA []
 k_e:keepIn K (.ref a.a_e)=true
 m_e:mg "_law_worth"=some (.ref a.a_e)
 f_f:Fun K "_law_inverse" "_law_inverse" bV a.a_f a.d_f
 b_f:Binds K a.d_f aHB []
 k_f:keepIn K (.ref a.a_f)=true
 m_f:mg "_law_inverse"=some (.ref a.a_f)
 f_10:Fun K "_law_run" "_law_run" eK a.a_10 a.d_10
 b_10:Binds K a.d_10 aHC []
 k_10:keepIn K (.ref a.a_10)=true
 m_10:mg "_law_run"=some (.ref a.a_10)
 f_11:Fun K "_law_deeds_back" "_law_deeds_back" bF a.a_11 a.d_11
 b_11:Binds K a.d_11 aHD []
 k_11:keepIn K (.ref a.a_11)=true
 m_11:mg "_law_deeds_back"=some (.ref a.a_11)
 f_12:Fun K "_law_row_by" "_law_row_by" cG a.a_12 a.d_12
 b_12:Binds K a.d_12 aHE []
 k_12:keepIn K (.ref a.a_12)=true
 m_12:mg "_law_row_by"=some (.ref a.a_12)
 f_13:Fun K "_law_row_alone" "_law_row_alone" bJ a.a_13 a.d_13
 b_13:Binds K a.d_13 aHE []
 k_13:keepIn K (.ref a.a_13)=true
 m_13:mg "_law_row_alone"=some (.ref a.a_13)
 f_14:Fun K "_law_rooted" "_law_rooted" cI a.a_14 a.d_14
 b_14:Binds K a.d_14 aHF []
 k_14:keepIn K (.ref a.a_14)=true
 m_14:mg "_law_rooted"=some (.ref a.a_14)
 f_15:Fun K "_law_places" "_law_places" cH a.a_15 a.d_15
 b_15:Binds K a.d_15 aHG []
 k_15:keepIn K (.ref a.a_15)=true
 m_15:mg "_law_places"=some (.ref a.a_15)
 f_16:Fun K "_law_bringers" "_law_bringers" bL a.a_16 a.d_16
 b_16:Binds K a.d_16 aGY []
 k_16:keepIn K (.ref a.a_16)=true
 m_16:mg "_law_bringers"=some (.ref a.a_16)
 f_17:Fun K "_law_inner" "_law_inner" bX a.a_17 a.d_17
 b_17:Binds K a.d_17 aHH []
 k_17:keepIn K (.ref a.a_17)=true
 m_17:mg "_law_inner"=some (.ref a.a_17)
 f_18:Fun K "_law_due" "_law_due" eI a.a_18 a.d_18
 b_18:Binds K a.d_18 aHI []
 k_18:keepIn K (.ref a.a_18)=true
 m_18:mg "_law_due"=some (.ref a.a_18)
 f_19:Fun K "law" "law" gF a.a_19 a.d_19
 b_19:Binds K a.d_19 aHJ []
 k_19:keepIn K (.ref a.a_19)=true
 m_19:mg "law"=some (.ref a.a_19)
 nd_dictK:nsIn K mainGlobals "dictK"=some none
 z_dict:mg "dict"=none
 z_int:mg "int"=none
 z_len:mg "len"=none
 z_list:mg "list"=none
 z_min:mg "min"=none
 z_range:mg "range"=none
 z_reversed:mg "reversed"=none
 z_sorted:mg "sorted"=none
 z_tuple:mg "tuple"=none
 z_zip:mg "zip"=none
theorem dI:FnScope ["n","k","high","low","past","now","times"] ["n","k"] (defScope cQ):=by constructor<;>first|rfl|decide +kernel
theorem fH:FnScope ["n","k","e","told","square","left"] aGO (defScope eL):=by constructor<;>first|rfl|decide +kernel
theorem mF:FnScope aGP aGP (defScope bM):=by constructor<;>first|rfl|decide +kernel
theorem oD:FnScope aGQ aGQ (defScope bW):=by constructor<;>first|rfl|decide +kernel
theorem lN:FnScope ["n","w","m","i"] aGR (defScope cU):=by constructor<;>first|rfl|decide +kernel
theorem tN:FnScope ["n","m","w"] aGS (defScope fR):=by constructor<;>first|rfl|decide +kernel
theorem uX:FnScope aGT aGT (defScope dE):=by constructor<;>first|rfl|decide +kernel
theorem lC:FnScope ["n","m","w"] aGS (defScope cS):=by constructor<;>first|rfl|decide +kernel
theorem bU:FnScope aHK aGU (defScope bO):=by constructor<;>first|rfl|decide +kernel
theorem gK:FnScope ["_law_script","_law_k","_law_cell","_law_seed"] aGV (defScope eN):=by constructor<;>first|rfl|decide +kernel
theorem jN:FnScope ["_law_box_here","_law_many","_law_digit","_law_one"] aGW (defScope dD):=by constructor<;>first|rfl|decide +kernel
theorem nH:FnScope ["_law_box_here","_law_n","_law_shape"] aGX (defScope dC):=by constructor<;>first|rfl|decide +kernel
theorem qU:FnScope aGY aGY (defScope cK):=by constructor<;>first|rfl|decide +kernel
theorem fA:FnScope ["_law_box_here","_law_givens","_law_room","_law_deep","_law_shape","_law_number","_law_one","_law_word","_law_first"] aGZ (defScope cZ):=by constructor<;>first|rfl|decide +kernel
theorem kY:FnScope ["_law_n","_law_expr_here","_law_given","_law_one","_law_other"] aHA (defScope cR):=by constructor<;>first|rfl|decide +kernel
theorem cE:FnScope ["_law_n","_law_u","_law_one","_law_other","_law_before","_law_here","_law_many"] aHB (defScope bV):=by constructor<;>first|rfl|decide +kernel
theorem eR:FnScope ["_law_program","_law_given","_law_contents","_law_lying","_law_deed","_law_more","_law_i","_law_kt"] aHC (defScope eK):=by constructor<;>first|rfl|decide +kernel
theorem eU:FnScope ["_law_n","_law_deeds","_law_found","_law_deed"] aHD (defScope bF):=by constructor<;>first|rfl|decide +kernel
theorem fM:FnScope aHL aHE (defScope cG):=by constructor<;>first|rfl|decide +kernel
theorem dQ:FnScope aHL aHE (defScope bJ):=by constructor<;>first|rfl|decide +kernel
theorem gL:FnScope ["_law_box_here","_law_m","_law_some"] aHF (defScope cI):=by constructor<;>first|rfl|decide +kernel
theorem gU:FnScope ["_law_box_here","_law_many","_law_of","_law_left","_law_found","_law_k"] aHG (defScope cH):=by constructor<;>first|rfl|decide +kernel
theorem dA:FnScope aHM aGY (defScope bL):=by constructor<;>first|rfl|decide +kernel
theorem cW:FnScope aHN aHH (defScope bX):=by constructor<;>first|rfl|decide +kernel
theorem cV:FnScope ["_law_n","_law_inner_here","_law_worths","_law_given","_law_lying","_law_found","_law_word","_law_ks","_law_number","_law_gs","_law_ts","_law_i","_law_kt"] aHI (defScope eI):=by constructor<;>first|rfl|decide +kernel
theorem eB:FnScope aHO aHJ (defScope gF):=by constructor<;>first|rfl|decide +kernel
variable{K:Frag}{a:Adr}
theorem iL(T:Tx K mg a):FnOk P w K mg base CX0 1 a.a_0 a.d_0 ["n","k"] (spF K Z0 2 cO) :=
 cN (k:=0) T.f_0 dI λcdv A outer s H E hr=>show Ess _ K Z0 (defBody cQ) b_0 from
  (aE (eW (i:=2) (j:=3) rfl dI.nd (aA (aB 0) (aA (aH opMod (aB 1) (aB 0)) aD)))
  (aE (fS (bC (aA aC (aA aC aD))) (fT rfl (aS (aI (i:=4) dI.nd) (aS (aI (i:=5) dI.nd) eH))))
  (aE (kU NW aBA (bB opGt (aB 3) aC (nomark _))
  (aE (aN (i:=6) dI.nd (aH opDiv (aB 2) (aB 3)))
  (aE (eW (i:=2) (j:=3) rfl dI.nd (aA (aB 3) (aA (aH opSub (aB 2) (aH opMulA (aB 6) (aB 3))) aD)))
  (aF (eW (i:=4) (j:=5) rfl dI.nd (aA (aB 5) (aA (aH opSub (aB 4) (aH opMulA (aB 6) (aB 5))) aD)))))))
  (aE (cL (bB (opNe (bH hr)) (aB 2) aC (nomark _))
  (aF (aP oH))
  bK)
  (aF (aP (aH opMod (aB 4) (aB 0))))))))
theorem qF(T:Tx K mg a):FnOk P w K mg base CX0 1 a.a_1 a.d_1 aGO (spF K Z0 3 hX) :=
 cN (k:=0) T.f_1 fH λcdv A outer s H E hr=>show Ess _ K Z0 (defBody eL) b_1 from
  (aE (aN (i:=3) fH.nd (aH opMod aC (aB 0)))
  (aE (aN (i:=4) fH.nd (aH opMod (aB 1) (aB 0)))
  (aE (aN (i:=5) fH.nd (aB 2))
  (aE (kU NW aBA (bB opGt (aB 5) aC (nomark _))
  (aE (cL (bB (opEq (bH hr)) (aH opMod (aB 5) aC) aC (nomark _))
  (aF (aN (i:=3) fH.nd (aH opMod (aH opMulA (aB 3) (aB 4)) (aB 0))))
  bK)
  (aE (aN (i:=4) fH.nd (aH opMod (aH opMulA (aB 4) (aB 4)) (aB 0)))
  (aF (aN (i:=5) fH.nd (aH opDiv (aB 5) aC))))))
  (aF (aP (aB 3)))))))
theorem oM(T:Tx K mg a):FnOk P w K mg base CX0 2 a.a_3 a.d_3 aGQ (spF K Z0 2 dL) :=
 cN (k:=1) T.f_3 oD λcdv A outer s H E hr=>show Ess _ K Z0 (defBody bW) b_3 from
  (aE (cL (bB (opEq (bH hr)) (aJ (aB 1) aC) bI (nomark _))
  (aF (aP (bC (aA bI (aA (aJ (aB 1) aC) (aA (aG ((iL T).mono (by lia)) hr T.m_0 T.k_0 T.b_0 (aA (aB 0) (aA (aJ (aB 1) aC) aD)) (hlen:=λ_ _ h=>gI h)) aD))))))
  bK)
  (aF (aP (bC (aA bI (aA (aJ (aB 1) aC) (aA (aH opMod (aDv (aJ (aB 1) aC)) (aB 0)) (aA (aJ (aB 1) aC) (aA (aJ (aB 1) aC) aD)))))))))
theorem mG(T:Tx K mg a):FnOk P w K mg base CX0 3 a.a_2 a.d_2 aGP (spF K Z0 2 dN) :=
 cN (k:=2) T.f_2 mF λcdv A outer s H E hr=>show Ess _ K Z0 (defBody bM) b_2 from
  (aF (aP (bQ callTup rfl T.z_tuple cX (aA (fL rfl (CompOk.of (N0:=aGP) (sc0:=defScope bM) (Nc:=["deed","n"]) (js:=[none,some 0]) (by decide +kernel)) (wS T.z_reversed (aB 1)) (λ_ _ _ _ _ _=>(aI (i:=0) (show(["deed","n"]:List Str).Nodup by decide +kernel))) (λ_ _ _ _ _ _=>fO) (λ_ _ _ _ _ _=>(aG ((oM T).mono (by lia)) hr T.m_3 T.k_3 T.b_3 (aA (aB 1) (aA (aB 0) aD)) (hlen:=λ_ _ h=>mM h)))) aD))))
theorem sL(T:Tx K mg a):FnOk P w K mg base CX0 2 a.a_4 a.d_4 aGR (spF K Z0 3 fU) :=
 cN (k:=1) T.f_4 lN λcdv A outer s H E hr=>show Ess _ K Z0 (defBody cU) b_4 from
  (aE (cL (bB (opNe (bH hr)) (aG ((qF T).mono (by lia)) hr T.m_1 T.k_1 T.b_1 (aA (aB 0) (aA (aB 1) (aA (aB 2) aD))) (hlen:=λ_ _ h=>mW h)) aC (nomark _))
  (aF (aP qG))
  bK)
  (aE (dX aBA rfl (vC T.z_range aC (aB 2)) (aI (i:=3) lN.nd)
  (aF (cL (bB opIs (aG ((iL T).mono (by lia)) hr T.m_0 T.k_0 T.b_0 (aA (aB 0) (aA (aH opSub (aG ((qF T).mono (by lia)) hr T.m_1 T.k_1 T.b_1 (aA (aB 0) (aA (aB 1) (aA (aB 3) aD))) (hlen:=λ_ _ h=>mW h)) aC) aD)) (hlen:=λ_ _ h=>gI h)) oH (nomark _))
  (aF (aP qG))
  bK)))
  (aF (aP qG))))
theorem xU(T:Tx K mg a):FnOk P w K mg base CX0 3 a.a_5 a.d_5 aGS (spF K Z0 2 lS) :=
 cN (k:=2) T.f_5 tN λcdv A outer s H E hr=>show Ess _ K Z0 (defBody fR) b_5 from
  (aE (dX aBA rfl (dJ T.z_range (aB 0)) (aI (i:=2) tN.nd)
  (aF (cL (aAq (aG ((sL T).mono (by lia)) hr T.m_4 T.k_4 T.b_4 (aA (aB 0) (aA (aB 2) (aA (aB 1) aD))) (hlen:=λ_ _ h=>pS h)))
  (aF (aP (aB 2)))
  bK)))
  (aF (aP oH)))
theorem nY(T:Tx K mg a):FnOk P w K mg base CX0 4 a.a_8 a.d_8 aGU (spF K Z0 5 eS) :=
 cN (k:=3) T.f_8 bU λcdv A outer s H E hr=>show Ess _ K Z0 (defBody bO) b_8 from
  (aE (aN (i:=5) bU.nd (aG ((iL T).mono (by lia)) hr T.m_0 T.k_0 T.b_0 (aA (aB 0) (aA (aB 1) aD)) (hlen:=λ_ _ h=>gI h)))
  (aE (aN (i:=6) bU.nd (bC aD))
  (aE (dX aBA rfl (kC (aB 3)) (fT rfl (aS (aI (i:=7) bU.nd) (aS (aI (i:=8) bU.nd) eH)))
  (aF (aN (i:=6) bU.nd (aH opAdd (aB 6) (aB 8)))))
  (aE (aN (i:=9) bU.nd (aG ((mG T).mono (by lia)) hr T.m_2 T.k_2 T.b_2 (aA (aB 0) (aA (aB 6) aD)) (hlen:=λ_ _ h=>kR h)))
  (aE (aN (i:=6) bU.nd (aH opAdd (aB 6) (bQ callTup rfl T.z_tuple cX (aA (fL rfl (CompOk.of (N0:=aHK) (sc0:=defScope bO) (Nc:=aHP) (js:=[none,none,none,none,none,some 0,some 5]) (by decide +kernel)) (kC (aB 4)) (λ_ _ _ _ _ _=>(fT rfl (aS (aI (i:=0) (show(aHP:List Str).Nodup by decide +kernel)) (aS (aI (i:=1) (show(aHP:List Str).Nodup by decide +kernel)) (aS (aI (i:=2) (show(aHP:List Str).Nodup by decide +kernel)) (aS (aI (i:=3) (show(aHP:List Str).Nodup by decide +kernel)) (aS (aI (i:=4) (show(aHP:List Str).Nodup by decide +kernel)) eH))))))) (λ_ _ _ _ _ _=>fO) (λ_ _ _ _ _ _=>(bC (aA bI (aA (aB 1) (aA (aH opMod (aH opMulA (aB 6) (aB 2)) (aB 5)) (aA (aB 3) (aA (aB 4) aD)))))))) aD))))
  (aE (aN (i:=6) bU.nd (aH opAdd (aH opAdd (aB 6) (aB 9)) (bQ callTup rfl T.z_tuple cX (aA (fL rfl (CompOk.of (N0:=aHK) (sc0:=defScope bO) (Nc:=aHQ) (js:=[none,none,some 2]) (by decide +kernel)) (kC (aB 3)) (λ_ _ _ _ _ _=>(fT rfl (aS (aI (i:=0) (show(aHQ:List Str).Nodup by decide +kernel)) (aS (aI (i:=1) (show(aHQ:List Str).Nodup by decide +kernel)) eH)))) (λ_ _ _ _ _ _=>fO) (λ_ _ _ _ _ _=>(bC (aA bI (aA (aB 0) (aA (aB 2) aD)))))) aD))))
  (aF (aP (aH opMulA (aB 6) (aB 1))))))))))
theorem rZ(T:Tx K mg a):FnOk P w K mg base CX0 4 a.a_7 a.d_7 aGS (spF K Z0 2 fX) :=
 cN (k:=3) T.f_7 lC λcdv A outer s H E hr=>show Ess _ K Z0 (defBody cS) b_7 from
  (aE (aN (i:=2) lC.nd (aG ((xU T).mono (by lia)) hr T.m_5 T.k_5 T.b_5 (aA (aB 0) (aA (aB 1) aD)) (hlen:=λ_ _ h=>vW h)))
  (aE (cL (bB opIs (aB 2) oH (nomark _))
  (aF aDk)
  bK)
  (aF (aP (aB 2)))))
theorem vE(T:Tx K mg a):FnOk P w K mg base CX0 5 a.a_6 a.d_6 aGT (spF K Z0 4 gH) :=
 cN (k:=4) T.f_6 uX λcdv A outer s H E hr=>show Ess _ K Z0 (defBody dE) b_6 from
  (aF (aP (aG ((nY T).mono (by lia)) hr T.m_8 T.k_8 T.b_8 (aA (aB 0) (aA (aB 1) (aA (aG ((rZ T).mono (by lia)) hr T.m_7 T.k_7 T.b_7 (aA (aB 0) (aA (aB 1) aD)) (hlen:=λ_ _ h=>qO h)) (aA (aB 2) (aA (aB 3) aD))))) (hlen:=λ_ _ h=>mL h))))
theorem jG(T:Tx K mg a):FnOk P w K mg base CX0 1 a.a_9 a.d_9 aGV (spF K Z0 2 gE) :=
 aBb (k:=0) T.f_9 gK λcdv A outer s H E hr=>show Ess _ K Z0 (defBody eN) b_9 from
  (aE (aN (i:=2) gK.nd (aH opAdd (aH opMulA aC (aB 1)) aC))
  (aE (cL (bB opLt (aB 1) (dF callLen rfl T.z_len aDG (aA (aB 0) aD)) (nomark _))
  (aF (aN (i:=2) gK.nd (aJ (aB 0) (aB 1))))
  (aF (cL (bB opGt (dF callLen rfl T.z_len aDG (aA (aB 0) aD)) aC (nomark _))
  (aF (aN (i:=2) gK.nd (aH opAdd (aB 2) (aH opMulA (aH opMod (aJ (aB 0) (aH opMod (aB 1) (dF callLen rfl T.z_len aDG (aA (aB 0) aD)))) aC) aC))))
  bK)))
  (aE (aN (i:=3) gK.nd (aH opAdd (aH opMod (aH opAdd (aH opMulA (aH opMod (aB 2) aC) aC) (aH opMulA aC (aB 1))) aC) aC))
  (aF (aP (gY (aA (aJ (gP (aA aC (aA (aB 2) aD))) (bQ callInt rfl T.z_int nN (aA (nP opGe (aB 2) (aH opPow aC aC) (nomark _)) aD))) (aA (aB 3) (aA aC aD)))))))))
theorem aU(T:Tx K mg a):FnOk P w K mg base CX0 1 a.a_a a.d_a aGW (spF K Z0 2 aW) :=
 cN (k:=0) T.f_a jN λcdv A outer s H E hr=>show Ess _ K Z0 (defBody dD) b_a from
  (aE (cL (bB opGt (aJ (aB 0) aC) aC (nomark _))
  (aE (aN (i:=2) jN.nd (aH opMod (aJ (aB 0) aC) (aB 1)))
  (aE (fS (aH opDiv (aJ (aB 0) aC) (aB 1)) (jQ (aB 0) aC))
  (aF (aP (aB 2)))))
  bK)
  (aE (fS (aH opAdd (aJ (aB 0) aC) aC) (jQ (aB 0) aC))
  (aE (aN (i:=3) jN.nd (aH opMod (aH opMulA (aH opAdd (aJ (aB 0) aC) (aH opMulA aC (aJ (aB 0) aC))) aC) aC))
  (aE (fS (aH opAdd (aH opMod (aH opAdd (aH opMulA (aB 3) aC) aC) aC) aC) (jQ (aB 0) aC))
  (aF (aP (aH opMod (aH opDiv (aH opAdd (aH opMulA (aB 3) aC) (aJ (aB 0) aC)) aC) (aB 1))))))))
theorem mT(T:Tx K mg a):FnOk P w K mg base CX0 2 a.a_b a.d_b aGX (spF K Z0 2 fZ) :=
 cN (k:=1) T.f_b nH λcdv A outer s H E hr=>show Ess _ K Z0 (defBody dC) b_b from
  (aE (aN (i:=2) nH.nd (aG ((aU T).mono (by lia)) hr T.m_a T.k_a T.b_a (aA (aB 0) (aA aC aD)) (hlen:=λ_ _ h=>aQ h)))
  (aE (cL (bB (opEq (bH hr)) (aB 2) aC (nomark _))
  (aF (aP (aJ (gP (aA aC (aA (aH opMod aC (aB 1)) (aA (aH opSub (aB 1) aC) (aA (aH opMod (aH opSub (aB 1) aC) (aB 1)) aD))))) (aG ((aU T).mono (by lia)) hr T.m_a T.k_a T.b_a (aA (aB 0) (aA aC aD)) (hlen:=λ_ _ h=>aQ h)))))
  bK)
  (aF (aP (aG ((aU T).mono (by lia)) hr T.m_a T.k_a T.b_a (aA (aB 0) (aA (aB 1) aD)) (hlen:=λ_ _ h=>aQ h))))))
theorem lP(T:Tx K mg a):FnOk P w K mg base CX0 3 a.a_c a.d_c aGY (spF K Z0 3 eZ) :=
 cN (k:=2) T.f_c qU λcdv A outer s H E hr=>show Ess _ K Z0 (defBody cK) b_c from
  (aF (aP (bQ callTup rfl T.z_tuple cX (aA (fL rfl (CompOk.of (N0:=aGY) (sc0:=defScope cK) (Nc:=aHR) (js:=[none,some 0,some 1]) (by decide +kernel)) (dJ T.z_range (aB 2)) (λ_ _ _ _ _ _=>(aI (i:=0) (show(aHR:List Str).Nodup by decide +kernel))) (λ_ _ _ _ _ _=>fO) (λ_ _ _ _ _ _=>(aG ((mT T).mono (by lia)) hr T.m_b T.k_b T.b_b (aA (aB 1) (aA (aB 2) aD)) (hlen:=λ_ _ h=>lB h)))) aD))))
theorem iD(T:Tx K mg a):∀d:Nat,FnOk P w K mg base CX0 (d+1) a.a_d a.d_d aGZ (spF K Z0 4 (dB (d)))
 |0=>oS rfl
 |d+1=>by
  have ih:=iD T d
  have ih_l_expr:=ih
  rw[show d+1+1=(d+1)+1 by lia]
  exact cN (k:=d+1) T.f_d fA λcdv A outer s H E hr=>show Ess _ K Z0 (defBody cZ) (b_d (dB d))from
  (aE (aN (i:=4) fA.nd (aG ((aU T).mono (by lia)) hr T.m_a T.k_a T.b_a (aA (aB 0) (aA aC aD)) (hlen:=λ_ _ h=>aQ h)))
  (aE (cL (aFf (zW (bB opLt (aB 2) aC (nomark _)) (zW (bB (opEq (bH hr)) (aB 3) aC (nomark _)) (aAu (bB (opEq (bH hr)) (aB 4) aC (nomark _))))))
  (aE (aN (i:=5) fA.nd (aJ (gP (aA (aG ((aU T).mono (by lia)) hr T.m_a T.k_a T.b_a (aA (aB 0) (aA aC aD)) (hlen:=λ_ _ h=>aQ h)) (aA (aG ((aU T).mono (by lia)) hr T.m_a T.k_a T.b_a (aA (aB 0) (aA aC aD)) (hlen:=λ_ _ h=>aQ h)) aD))) (bQ callInt rfl T.z_int nN (aA (nP (opEq (bH hr)) (aG ((aU T).mono (by lia)) hr T.m_a T.k_a T.b_a (aA (aB 0) (aA aC aD)) (hlen:=λ_ _ h=>aQ h)) aC (nomark _)) aD))))
  (aE (cL (aFf (aBi (bB opGt (aB 1) aC (nomark _)) (yQ (bB opGt (aG ((aU T).mono (by lia)) hr T.m_a T.k_a T.b_a (aA (aB 0) (aA aC aD)) (hlen:=λ_ _ h=>aQ h)) aC (nomark _)))))
  (aF (aP (bC (aA bI (aA (aG ((aU T).mono (by lia)) hr T.m_a T.k_a T.b_a (aA (aB 0) (aA (aB 1) aD)) (hlen:=λ_ _ h=>aQ h)) aD)))))
  bK)
  (aF (aP (bC (aA bI (aA (aB 5) aD)))))))
  bK)
  (aE (aN (i:=6) fA.nd (aH opAdd aC (aG ((aU T).mono (by lia)) hr T.m_a T.k_a T.b_a (aA (aB 0) (aA (aH opSub (aB 2) aC) aD)) (hlen:=λ_ _ h=>aQ h))))
  (aE (aN (i:=7) fA.nd (aJ (gP (aA bI (aA bI (aA bI (aA bI aD))))) (aG ((aU T).mono (by lia)) hr T.m_a T.k_a T.b_a (aA (aB 0) (aA aC aD)) (hlen:=λ_ _ h=>aQ h))))
  (aE (aN (i:=8) fA.nd (aG ih_l_expr hr T.m_d T.k_d T.b_d (aA (aB 0) (aA (aB 1) (aA (aB 6) (aA (aH opSub (aB 3) aC) aD)))) (hlen:=λ_ _ h=>iK h)))
  (aF (aP (bC (aA (aB 7) (aA (aB 8) (aA (aG ih_l_expr hr T.m_d T.k_d T.b_d (aA (aB 0) (aA (aB 1) (aA (aH opSub (aH opSub (aB 2) aC) (aB 6)) (aA (aH opSub (aB 3) aC) aD)))) (hlen:=λ_ _ h=>iK h)) aD)))))))))))
theorem vD(d:Nat)(T:Tx K mg a):FnOk P w K mg base CX0 (d+1) a.a_d a.d_d aGZ (spF K Z0 4 (dB d)):=(iD T d)
theorem gO(T:Tx K mg a):∀d:Nat,FnOk P w K mg base CX0 (d+0) a.a_e a.d_e aHA (spF K Z0 3 (cB (d)))
 |0=>oS rfl
 |d+1=>by
  have ih:=gO T d
  have ih_l_worth:=ih
  rw[show d+1+0=(d+0)+1 by lia]
  exact cN (k:=d+0) T.f_e kY λcdv A outer s H E hr=>show Ess _ K Z0 (defBody cR) (b_e (cB d))from
  (aE (cL (bB (opEq (bH hr)) (aJ (aB 1) aC) bI (nomark _))
  (aF (aP (aH opMod (aJ (aB 1) aC) (aB 0))))
  bK)
  (aE (cL (bB (opEq (bH hr)) (aJ (aB 1) aC) bI (nomark _))
  (aF (aP (aJ (aB 2) (aJ (aB 1) aC))))
  bK)
  (aE (eW (i:=3) (j:=4) rfl kY.nd (aA (aG ih_l_worth hr T.m_e T.k_e T.b_e (aA (aB 0) (aA (aJ (aB 1) aC) (aA (aB 2) aD))) (hlen:=λ_ _ h=>gR h)) (aA (aG ih_l_worth hr T.m_e T.k_e T.b_e (aA (aB 0) (aA (aJ (aB 1) aC) (aA (aB 2) aD))) (hlen:=λ_ _ h=>gR h)) aD)))
  (aE (cL (bB (opEq (bH hr)) (aJ (aB 1) aC) bI (nomark _))
  (aF (aP (aH opMod (aH opAdd (aB 3) (aB 4)) (aB 0))))
  bK)
  (aE (cL (bB (opEq (bH hr)) (aJ (aB 1) aC) bI (nomark _))
  (aF (aP (aH opMod (aH opSub (aB 3) (aB 4)) (aB 0))))
  bK)
  (aF (aP (aH opMod (aH opMulA (aB 3) (aB 4)) (aB 0)))))))))
theorem sG(d:Nat)(T:Tx K mg a):FnOk P w K mg base CX0 (d+0) a.a_e a.d_e aHA (spF K Z0 3 (cB d)):=(gO T d)
theorem oF(T:Tx K mg a):FnOk P w K mg base CX0 1 a.a_f a.d_f aHB (spF K Z0 2 eP) :=
 cN (k:=0) T.f_f cE λcdv A outer s H E hr=>show Ess _ K Z0 (defBody bV) b_f from
  (aE (fS (bC (aA (aB 0) (aA (aH opMod (aB 1) (aB 0)) (aA aC (aA aC aD))))) (fT rfl (aS (aI (i:=2) cE.nd) (aS (aI (i:=3) cE.nd) (aS (aI (i:=4) cE.nd) (aS (aI (i:=5) cE.nd) eH))))))
  (aE (kU NW aBA (bB opGt (aB 3) aC (nomark _))
  (aE (aN (i:=6) cE.nd (aH opDiv (aB 2) (aB 3)))
  (aE (eW (i:=2) (j:=3) rfl cE.nd (aA (aB 3) (aA (aH opSub (aB 2) (aH opMulA (aB 6) (aB 3))) aD)))
  (aF (eW (i:=4) (j:=5) rfl cE.nd (aA (aB 5) (aA (aH opSub (aB 4) (aH opMulA (aB 6) (aB 5))) aD)))))))
  (aF (aP (aH opMod (aB 4) (aB 0))))))
theorem wG(T:Tx K mg a):FnOk P w K mg base CX0 1 a.a_10 a.d_10 aHC (spF K Z0 3 iT) :=
 cN (k:=0) T.f_10 eR λcdv A outer s H E hr=>show Ess _ K Z0 (defBody eK) b_10 from
  (aE (aN (i:=3) eR.nd (bQ callListR rfl T.z_list sY (aA (aB 2) aD)))
  (aE (dX aBA rfl (kC (aJ (aB 0) aC)) (aI (i:=4) eR.nd)
  (aF (cL (bB (opEq (bH hr)) (aJ (aB 4) aC) bI (nomark _))
  (aF (fS (aH opMod (aH opMulA (aJ (aB 3) (aJ (aB 4) aC)) (aJ (aB 4) aC)) (aJ (aB 0) aC)) (jQ (aB 3) (aJ (aB 4) aC))))
  (aE (aN (i:=5) eR.nd (aJ (aB 4) aC))
  (aE (dX aBA rfl (kC (aJ (aB 4) aC)) (aI (i:=6) eR.nd)
  (aF (aN (i:=5) eR.nd (aH opMod (aH opMulA (aB 5) (aJ (aB 1) (aB 6))) (aJ (aB 0) aC)))))
  (aE (dX aBA rfl (kC (aJ (aB 4) aC)) (aI (i:=7) eR.nd)
  (aF (aN (i:=5) eR.nd (aH opMod (aH opMulA (aB 5) (aJ (aB 3) (aB 7))) (aJ (aB 0) aC)))))
  (aF (fS (aH opMod (aH opAdd (aJ (aB 3) (aJ (aB 4) aC)) (aB 5)) (aJ (aB 0) aC)) (jQ (aB 3) (aJ (aB 4) aC))))))))))
  (aF (aP (bQ callTup rfl T.z_tuple cX (aA (aB 3) aD))))))
theorem cC(T:Tx K mg a):FnOk P w K mg base CX0 2 a.a_11 a.d_11 aHD (spF K Z0 2 bG) :=
 cN (k:=1) T.f_11 eU λcdv A outer s H E hr=>show Ess _ K Z0 (defBody bF) b_11 from
  (aE (aN (i:=2) eU.nd (gY aD))
  (aE (dX aBA rfl (wS T.z_reversed (aB 1)) (aI (i:=3) eU.nd)
  (aF (cL (bB (opEq (bH hr)) (aJ (aB 3) aC) bI (nomark _))
  (aF (hV (fD (aB 2) (bC (aA bI (aA (aJ (aB 3) aC) (aA (aG ((oF T).mono (by lia)) hr T.m_f T.k_f T.b_f (aA (aB 0) (aA (aJ (aB 3) aC) aD)) (hlen:=λ_ _ h=>mB h)) aD)))))))
  (aF (hV (fD (aB 2) (aH opAdd (aH opAdd (oV (aB 3) aAb (aAa aC)) (bC (aA (aH opMod (aH opSub aC (aJ (aB 3) aC)) (aB 0)) aD))) (oV (aB 3) (aAa aC) aAb))))))))
  (aF (aP (bQ callTup rfl T.z_tuple cX (aA (aB 2) aD))))))
theorem gG(T:Tx K mg a):∀d:Nat,FnOk P w K mg base CX0 (d+2) a.a_12 a.d_12 aHE (spF K Z0 5 (bR (d)))
 |0=>oS rfl
 |d+1=>by
  have ih:=gG T d
  have ih_l_row_by:=ih
  rw[show d+1+2=(d+2)+1 by lia]
  exact cN (k:=d+2) T.f_12 fM λcdv A outer s H E hr=>show Ess _ K Z0 (defBody cG) (b_12 (bR d))from
  (aE (aN (i:=5) fM.nd (aJ (aB 1) aC))
  (aE (cL (bB (opEq (bH hr)) (aB 5) bI (nomark _))
  (aF (aP (bC (aA (bC (aA bI (aA (aB 2) (aA (aH opMod (aJ (aB 1) aC) (aB 0)) (aA (bC aD) (aA (bC (aA (aB 3) aD)) aD)))))) aD))))
  bK)
  (aE (cL (bB (opEq (bH hr)) (aB 5) bI (nomark _))
  (aF (aP (bC (aA (bC (aA bI (aA (aB 2) (aA aC (aA (bC (aA (aJ (aB 1) aC) aD)) (aA (bC (aA (aB 3) aD)) aD)))))) aD))))
  bK)
  (aE (cL (bB (opNe (bH hr)) (aB 5) bI (nomark _))
  (aE (eW (i:=6) (j:=7) rfl fM.nd (aA (aG ih_l_row_by hr T.m_12 T.k_12 T.b_12 (aA (aB 0) (aA (aJ (aB 1) aC) (aA (aB 2) (aA (aB 3) (aA (aB 4) aD))))) (hlen:=λ_ _ h=>dO h)) (aA (aG ih_l_row_by hr T.m_12 T.k_12 T.b_12 (aA (aB 0) (aA (aJ (aB 1) aC) (aA (aB 2) (aA (aB 3) (aA (aB 4) aD))))) (hlen:=λ_ _ h=>dO h)) aD)))
  (aF (aP (aH opAdd (aB 6) (aJ (gP (aA (aG ((cC T).mono (by lia)) hr T.m_11 T.k_11 T.b_11 (aA (aB 0) (aA (aB 7) aD)) (hlen:=λ_ _ h=>bZ h)) (aA (aB 7) aD))) (bQ callInt rfl T.z_int nN (aA (nP (opEq (bH hr)) (aB 5) bI (nomark _)) aD)))))))
  bK)
  (aE (eW (i:=6) (j:=7) rfl fM.nd (aA (aG ih_l_row_by hr T.m_12 T.k_12 T.b_12 (aA (aB 0) (aA (aJ (aB 1) aC) (aA (aB 4) (aA (aB 3) (aA (aB 2) aD))))) (hlen:=λ_ _ h=>dO h)) (aA (aG ih_l_row_by hr T.m_12 T.k_12 T.b_12 (aA (aB 0) (aA (aJ (aB 1) aC) (aA (aB 2) (aA (aB 4) (aA (aB 3) aD))))) (hlen:=λ_ _ h=>dO h)) aD)))
  (aF (aP (aH opAdd (aH opAdd (aH opAdd (aB 6) (aB 7)) (aG ((cC T).mono (by lia)) hr T.m_11 T.k_11 T.b_11 (aA (aB 0) (aA (aB 6) aD)) (hlen:=λ_ _ h=>bZ h))) (aG ((cC T).mono (by lia)) hr T.m_11 T.k_11 T.b_11 (aA (aB 0) (aA (aB 7) aD)) (hlen:=λ_ _ h=>bZ h))))))))))
theorem qA(d:Nat)(T:Tx K mg a):FnOk P w K mg base CX0 (d+2) a.a_12 a.d_12 aHE (spF K Z0 5 (bR d)):=(gG T d)
theorem fG(T:Tx K mg a):∀d:Nat,FnOk P w K mg base CX0 (d+52) a.a_13 a.d_13 aHE (spF K Z0 5 (bA (d)))
 |0=>oS rfl
 |d+1=>by
  have ih:=fG T d
  have ih_l_row_alone:=ih
  rw[show d+1+52=(d+52)+1 by lia]
  exact cN (k:=d+52) T.f_13 dQ λcdv A outer s H E hr=>show Ess _ K Z0 (defBody bJ) (b_13 (bA d))from
  (aE (aN (i:=5) dQ.nd (aJ (aB 1) aC))
  (aE (cL (bB (opEq (bH hr)) (aB 5) bI (nomark _))
  (aF (aP (bC (aA (bC (aA bI (aA (aB 2) (aA (aH opMod (aJ (aB 1) aC) (aB 0)) (aA (bC aD) (aA (bC aD) aD)))))) aD))))
  bK)
  (aE (cL (bB (opEq (bH hr)) (aB 5) bI (nomark _))
  (aF (aP (bC (aA (bC (aA bI (aA (aB 2) (aA aC (aA (bC (aA (aJ (aB 1) aC) aD)) (aA (bC aD) aD)))))) aD))))
  bK)
  (aE (cL (bB (opNe (bH hr)) (aB 5) bI (nomark _))
  (aE (eW (i:=6) (j:=7) rfl dQ.nd (aA (aG ih_l_row_alone hr T.m_13 T.k_13 T.b_13 (aA (aB 0) (aA (aJ (aB 1) aC) (aA (aB 2) (aA (aB 3) (aA (aB 4) aD))))) (hlen:=λ_ _ h=>dH h)) (aA (aG ih_l_row_alone hr T.m_13 T.k_13 T.b_13 (aA (aB 0) (aA (aJ (aB 1) aC) (aA (aB 2) (aA (aB 3) (aA (aB 4) aD))))) (hlen:=λ_ _ h=>dH h)) aD)))
  (aF (aP (aH opAdd (aB 6) (aJ (gP (aA (aG ((cC T).mono (by lia)) hr T.m_11 T.k_11 T.b_11 (aA (aB 0) (aA (aB 7) aD)) (hlen:=λ_ _ h=>bZ h)) (aA (aB 7) aD))) (bQ callInt rfl T.z_int nN (aA (nP (opEq (bH hr)) (aB 5) bI (nomark _)) aD)))))))
  bK)
  (aE (eW (i:=6) (j:=7) rfl dQ.nd (aA (aG ih_l_row_alone hr T.m_13 T.k_13 T.b_13 (aA (aB 0) (aA (aJ (aB 1) aC) (aA (aB 4) (aA (aB 3) (aA (aB 2) aD))))) (hlen:=λ_ _ h=>dH h)) (aA (aG ((qA 50 T).mono (by lia)) hr T.m_12 T.k_12 T.b_12 (aA (aB 0) (aA (aJ (aB 1) aC) (aA (aB 2) (aA (aB 4) (aA (aB 3) aD))))) (hlen:=λ_ _ h=>dO h)) aD)))
  (aF (aP (aH opAdd (aH opAdd (aH opAdd (aB 6) (aB 7)) (aG ((cC T).mono (by lia)) hr T.m_11 T.k_11 T.b_11 (aA (aB 0) (aA (aB 6) aD)) (hlen:=λ_ _ h=>bZ h))) (aG ((cC T).mono (by lia)) hr T.m_11 T.k_11 T.b_11 (aA (aB 0) (aA (aB 7) aD)) (hlen:=λ_ _ h=>bZ h))))))))))
theorem lE(d:Nat)(T:Tx K mg a):FnOk P w K mg base CX0 (d+52) a.a_13 a.d_13 aHE (spF K Z0 5 (bA d)):=(fG T d)
theorem pW(T:Tx K mg a):FnOk P w K mg base CX0 2 a.a_14 a.d_14 aHF (spF K Z0 2 fF) :=
 cN (k:=1) T.f_14 gL λcdv A outer s H E hr=>show Ess _ K Z0 (defBody cI) b_14 from
  (aE (aN (i:=2) gL.nd (gP (aA (iB (ns:=[2,6,10,97,64]) (by repeat constructor)) (aA (iB (ns:=[3,5,9,15,49,105,999]) (by repeat constructor)) (aA (iB (ns:=[7,13,19,31,49,91,133]) (by repeat constructor)) (aA (iB (ns:=[5,13,17,25,65,85]) (by repeat constructor)) aD))))))
  (aE (aN (i:=2) gL.nd (aH opAdd (aB 2) (gP (aA (iB (ns:=[11,31,41,121,341]) (by repeat constructor)) (aA (iB (ns:=[7,13,19,43,49,91]) (by repeat constructor)) aD)))))
  (aF (aP (aJ (aJ (aB 2) (aH opSub (aB 1) aC)) (aG ((aU T).mono (by lia)) hr T.m_a T.k_a T.b_a (aA (aB 0) (aA (dF callLen rfl T.z_len aDG (aA (aJ (aB 2) (aH opSub (aB 1) aC)) aD)) aD)) (hlen:=λ_ _ h=>aQ h)))))))
theorem jY(T:Tx K mg a):FnOk P w K mg base CX0 2 a.a_15 a.d_15 aHG (spF K Z0 3 eD) :=
 cN (k:=1) T.f_15 gU λcdv A outer s H E hr=>show Ess _ K Z0 (defBody cH) b_15 from
  (aE (eW (i:=3) (j:=4) rfl gU.nd (aA (kS rfl T.z_list T.z_range (aB 2)) (aA (gY aD) aD)))
  (aE (dX aBA rfl (dJ T.z_range (aB 1)) (aI (i:=5) gU.nd)
  (aF (hV (fD (aB 4) (xG (aB 3) (aG ((aU T).mono (by lia)) hr T.m_a T.k_a T.b_a (aA (aB 0) (aA (dF callLen rfl T.z_len aDG (aA (aB 3) aD)) aD)) (hlen:=λ_ _ h=>aQ h)))))))
  (aF (aP (aB 4)))))
theorem mO(T:Tx K mg a):FnOk P w K mg base CX0 103 a.a_16 a.d_16 aGY (spF K Z0 3 dR) :=
 cN (k:=102) T.f_16 dA λcdv A outer s H E hr=>show Ess _ K Z0 (defBody bL) b_16 from
  (aE (eW (i:=3) (j:=4) rfl dA.nd (aA (gY aD) (aA (gY aD) aD)))
  (aE (dX aBA rfl (kC (aG ((jY T).mono (by lia)) hr T.m_15 T.k_15 T.b_15 (aA (aB 0) (aA (aB 2) (aA aC aD))) (hlen:=λ_ _ h=>iP h))) (aI (i:=5) dA.nd)
  (aE (sX (i:=6) dA.nd rfl (CompOk.of (N0:=aHM) (sc0:=defScope bL) (Nc:=["_law_ks","_law_shelf"]) (js:=[none,some 5]) (by decide +kernel)) (kC (aG ((jY T).mono (by lia)) hr T.m_15 T.k_15 T.b_15 (aA (aB 0) (aA aC (aA aC aD))) (hlen:=λ_ _ h=>iP h))) (λ_ _ _ _ _ _=>(aI (i:=0) (show(["_law_ks","_law_shelf"]:List Str).Nodup by decide +kernel))) (λ_ _ _ _ _ _=>(sW (bB (opNe (bH hr)) (aB 0) (aB 1) (nomark _)))) (λ_ _ _ _ _ _=>(aB 0)))
  (aE (aN (i:=7) dA.nd (aG ((vD 50 T).mono (by lia)) hr T.m_d T.k_d T.b_d (aA (aB 0) (aA aC (aA (aH opAdd aC (aG ((aU T).mono (by lia)) hr T.m_a T.k_a T.b_a (aA (aB 0) (aA aC aD)) (hlen:=λ_ _ h=>aQ h))) (aA aC aD)))) (hlen:=λ_ _ h=>iK h)))
  (aE (hV (fD (aB 4) (aB 7)))
  (aF (hV (fD (aB 3) (bC (aA (aB 5) (aA (aG ((lE 50 T).mono (by lia)) hr T.m_13 T.k_13 T.b_13 (aA (aB 1) (aA (aB 7) (aA (aB 5) (aA (aJ (aB 6) aC) (aA (aJ (aB 6) aC) aD))))) (hlen:=λ_ _ h=>dH h)) aD))))))))))
  (aF (aP (yA (aA (bQ callTup rfl T.z_tuple cX (aA (aB 3) aD)) (aA (aB 4) aD)))))))
theorem rP(T:Tx K mg a):FnOk P w K mg base CX0 3 a.a_17 a.d_17 aHH (spF K Z0 4 fW) :=
 cN (k:=2) T.f_17 cW λcdv A outer s H E hr=>show Ess _ K Z0 (defBody bX) b_17 from
  (aE (aN (i:=4) cW.nd (gY aD))
  (aE (sX (i:=5) cW.nd rfl (CompOk.of (N0:=aHN) (sc0:=defScope bX) (Nc:=["_law_ks","_law_shelves"]) (js:=[none,some 3]) (by decide +kernel)) (dJ T.z_range aC) (λ_ _ _ _ _ _=>(aI (i:=0) (show(["_law_ks","_law_shelves"]:List Str).Nodup by decide +kernel))) (λ_ _ _ _ _ _=>(sW (bB opNotIn (aB 0) (aB 1) (by with_unfolding_all rfl)))) (λ_ _ _ _ _ _=>(aB 0)))
  (aE (dX aBA rfl (dJ T.z_range (aH opAdd aC (aG ((aU T).mono (by lia)) hr T.m_a T.k_a T.b_a (aA (aB 0) (aA aC aD)) (hlen:=λ_ _ h=>aQ h)))) (aI (i:=6) cW.nd)
  (aE (aN (i:=7) cW.nd (bQ callTup rfl T.z_tuple cX (aA (dF (callSorted rfl) rfl T.z_sorted nI (aA (fL rfl (CompOk.of (N0:=aHN) (sc0:=defScope bX) (Nc:=["_law_j","_law_box_here"]) (js:=[none,some 0]) (by decide +kernel)) (dJ T.z_range (aG ((aU T).mono (by lia)) hr T.m_a T.k_a T.b_a (aA (aB 0) (aA aC aD)) (hlen:=λ_ _ h=>aQ h))) (λ_ _ _ _ _ _=>(aI (i:=0) (show(["_law_j","_law_box_here"]:List Str).Nodup by decide +kernel))) (λ_ _ _ _ _ _=>fO) (λ_ _ _ _ _ _=>(aG ((aU T).mono (by lia)) hr T.m_a T.k_a T.b_a (aA (aB 1) (aA aC aD)) (hlen:=λ_ _ h=>aQ h)))) aD)) aD)))
  (aE (aN (i:=8) cW.nd (dF (callMin2 rfl) rfl T.z_min aAo (aA aC (aA (aH opSub (aH opSub (aB 2) aC) (aH opDiv (aG ((aU T).mono (by lia)) hr T.m_a T.k_a T.b_a (aA (aB 0) (aA (aB 2) aD)) (hlen:=λ_ _ h=>aQ h)) aC)) aD))))
  (aE (aN (i:=9) cW.nd (dF (callSorted rfl) rfl T.z_sorted nI (aA (fL rfl (CompOk.of (N0:=aHN) (sc0:=defScope bX) (Nc:=aHS) (js:=[none,some 3,some 0]) (by decide +kernel)) (dJ T.z_range (aB 8)) (λ_ _ _ _ _ _=>(aI (i:=0) (show(aHS:List Str).Nodup by decide +kernel))) (λ_ _ _ _ _ _=>fO) (λ_ _ _ _ _ _=>(aJ (aB 1) (aG ((aU T).mono (by lia)) hr T.m_a T.k_a T.b_a (aA (aB 2) (aA (dF callLen rfl T.z_len aDG (aA (aB 1) aD)) aD)) (hlen:=λ_ _ h=>aQ h))))) aD)))
  (aE (aN (i:=10) cW.nd (aJ (aB 5) (aG ((aU T).mono (by lia)) hr T.m_a T.k_a T.b_a (aA (aB 0) (aA (dF callLen rfl T.z_len aDG (aA (aB 5) aD)) aD)) (hlen:=λ_ _ h=>aQ h))))
  (aF (hV (fD (aB 4) (bC (aA bI (aA (aB 10) (aA (aG ((mT T).mono (by lia)) hr T.m_b T.k_b T.b_b (aA (aB 0) (aA (aB 1) aD)) (hlen:=λ_ _ h=>lB h)) (aA (aB 7) (aA (bQ callTup rfl T.z_tuple cX (aA (aB 9) aD)) aD))))))))))))))
  (aF (aP (bQ callTup rfl T.z_tuple cX (aA (aB 4) aD)))))))
theorem vX(T:Tx K mg a):FnOk P w K mg base CX0 1 a.a_18 a.d_18 aHI (spF K Z0 5 jB) :=
 cN (k:=0) T.f_18 cV λcdv A outer s H E hr=>show Ess _ K Z0 (defBody eI) b_18 from
  (aE (aN (i:=5) cV.nd (bQ callListR rfl T.z_list sY (aA (aB 4) aD)))
  (aE (dX aBA rfl (kC (aB 1)) (fT rfl (aS (aI (i:=6) cV.nd) (aS (aI (i:=7) cV.nd) (aS (aI (i:=8) cV.nd) (aS (aI (i:=9) cV.nd) (aS (aI (i:=10) cV.nd) eH))))))
  (aE (dX aBA rfl (kC (aB 9)) (aI (i:=11) cV.nd)
  (aF (aN (i:=8) cV.nd (aH opMod (aH opMulA (aB 8) (aJ (aB 3) (aB 11))) (aB 0)))))
  (aE (dX aBA rfl (kC (aB 10)) (aI (i:=12) cV.nd)
  (aF (aN (i:=8) cV.nd (aH opMod (aH opMulA (aB 8) (zU T.nd_dictK (bH hr) (aB 2) (aB 12))) (aB 0)))))
  (aF (fS (aH opMod (aH opAdd (aJ (aB 5) (aB 7)) (aB 8)) (aB 0)) (jQ (aB 5) (aB 7)))))))
  (aF (aP (bQ callTup rfl T.z_tuple cX (aA (aB 5) aD))))))
theorem aBn(T:Tx K mg a):FnOk P w K mg base CX0 104 a.a_19 a.d_19 aHJ (spF K Z0 1 lG) :=
 cN (k:=103) T.f_19 eB λcdv A outer s H E hr=>show Ess _ K Z0 (defBody gF) b_19 from
  (aE (aN (i:=1) eB.nd (aG ((jG T).mono (by lia)) hr T.m_9 T.k_9 T.b_9 (aA (aB 0) (aA aC aD)) (hlen:=λ_ _ h=>gX h)))
  (aE (aN (i:=2) eB.nd (aH opAdd aC (aG ((aU T).mono (by lia)) hr T.m_a T.k_a T.b_a (aA (aB 1) (aA aC aD)) (hlen:=λ_ _ h=>aQ h))))
  (aE (aN (i:=3) eB.nd (aG ((pW T).mono (by lia)) hr T.m_14 T.k_14 T.b_14 (aA (aB 1) (aA (aB 2) aD)) (hlen:=λ_ _ h=>nR h)))
  (aE (fS (aG ((mO T).mono (by lia)) hr T.m_16 T.k_16 T.b_16 (aA (aG ((jG T).mono (by lia)) hr T.m_9 T.k_9 T.b_9 (aA (aB 0) (aA aC aD)) (hlen:=λ_ _ h=>gX h)) (aA (aB 3) (aA (aH opAdd aC (aG ((aU T).mono (by lia)) hr T.m_a T.k_a T.b_a (aA (aB 1) (aA aC aD)) (hlen:=λ_ _ h=>aQ h))) aD))) (hlen:=λ_ _ h=>lV h)) (fT rfl (aS (aI (i:=4) eB.nd) (aS (aI (i:=5) eB.nd) eH))))
  (aE (aN (i:=6) eB.nd (aG ((rP T).mono (by lia)) hr T.m_17 T.k_17 T.b_17 (aA (aG ((jG T).mono (by lia)) hr T.m_9 T.k_9 T.b_9 (aA (aB 0) (aA aC aD)) (hlen:=λ_ _ h=>gX h)) (aA (aB 3) (aA (aB 2) (aA (fL rfl (CompOk.of (N0:=aHO) (sc0:=defScope gF) (Nc:=aHT) (js:=[none,none]) (by decide +kernel)) (kC (aB 4)) (λ_ _ _ _ _ _=>(fT rfl (aS (aI (i:=0) (show(aHT:List Str).Nodup by decide +kernel)) (aS (aI (i:=1) (show(aHT:List Str).Nodup by decide +kernel)) eH)))) (λ_ _ _ _ _ _=>fO) (λ_ _ _ _ _ _=>(aB 0))) aD)))) (hlen:=λ_ _ h=>pV h)))
  (aE (aN (i:=7) eB.nd (aG ((vE T).mono (by lia)) hr T.m_6 T.k_6 T.b_6 (aA (aB 3) (aA (aB 2) (aA (aB 4) (aA (aB 6) aD)))) (hlen:=λ_ _ h=>rR h)))
  (aE (dX aBA rfl (dJ T.z_range aC) (aI (i:=8) eB.nd)
  (aE (aN (i:=1) eB.nd (aG ((jG T).mono (by lia)) hr T.m_9 T.k_9 T.b_9 (aA (aB 0) (aA (aH opAdd aC (aB 8)) aD)) (hlen:=λ_ _ h=>gX h)))
  (aE (fS (bC (aA (aG ((lP T).mono (by lia)) hr T.m_c T.k_c T.b_c (aA (aB 1) (aA (aB 3) (aA aC aD))) (hlen:=λ_ _ h=>jX h)) (aA (aG ((lP T).mono (by lia)) hr T.m_c T.k_c T.b_c (aA (aB 1) (aA (aB 3) (aA aC aD))) (hlen:=λ_ _ h=>jX h)) aD))) (fT rfl (aS (aI (i:=9) eB.nd) (aS (aI (i:=10) eB.nd) eH))))
  (aE (aN (i:=11) eB.nd (vJ rfl T.z_dict (fL rfl (CompOk.of (N0:=aHO) (sc0:=defScope gF) (Nc:=aHU) (js:=[none,none,some 3,some 9]) (by decide +kernel)) (aCa T.z_zip (aB 4) (aB 5)) (λ_ _ _ _ _ _=>(fT rfl (aS (aI (i:=0) (show(aHU:List Str).Nodup by decide +kernel)) (aS (aI (i:=1) (show(aHU:List Str).Nodup by decide +kernel)) eH)))) (λ_ _ _ _ _ _=>fO) (λ_ _ _ _ _ _=>(bC (aA (aJ (aB 0) aC) (aA (aG ((sG 50 T).mono (by lia)) hr T.m_e T.k_e T.b_e (aA (aB 2) (aA (aB 1) (aA (aB 3) aD))) (hlen:=λ_ _ h=>gR h)) aD)))))))
  (aF (cL (bB (opNe (bH hr)) (aG ((wG T).mono (by lia)) hr T.m_10 T.k_10 T.b_10 (aA (bC (aA (aB 3) (aA aC (aA aC (aA (aB 7) aD))))) (aA (aB 9) (aA (aB 10) aD))) (hlen:=λ_ _ h=>uT h)) (aG ((vX T).mono (by lia)) hr T.m_18 T.k_18 T.b_18 (aA (aB 3) (aA (aB 6) (aA (aB 11) (aA (aB 9) (aA (aB 10) aD))))) (hlen:=λ_ _ h=>uK h)) (nomark _))
  (aF (aP qG))
  bK))))))
  (aF (aP qG)))))))))
open PySem L2 EV LS
local macro_rules | `(tactic| rfl') => `(tactic| repeat decreasing_trivial_pre_omega)
local macro_rules | `(tactic| decreasing_trivial_pre_omega) => `(tactic| with_reducible first
 | apply rY
 | apply aCk
 | apply uA
 | apply aEl
 | refine aFj (by with_unfolding_all exact rfl) ?_
 | apply aFi
 | apply aFk
 | apply aEh
 | apply aEd
 | apply aDx
 | apply rC
 | apply aEc
 | apply aCl
 | apply aEp
 | apply aEx
 | apply aBx
 | apply aDl
 | apply aBh
 | (refine aFa ?hz ?_; case hz=>(with_unfolding_all first | exact rfl | decide | ((try simp only [aAW,true_and,and_true,aAL,aBT,aFW,aBR,aFE]) <;> lia)))
 | (refine aAr ?hz ?_; case hz=>(with_unfolding_all first | decide | ((try simp only [mulOk,aAW,aAL,aBT,aFW,aBR,aFE]) <;> lia)))
 | apply aCp
 | apply aAp
 | apply aEf
 | apply aCc
 | refine nK (by with_unfolding_all exact rfl) ?_
 | refine dM (by with_unfolding_all exact rfl) ?_
 | refine rT (by with_unfolding_all exact rfl) ?_
 | refine jM (by assumption) (by with_unfolding_all exact rfl) ?_
 | refine jM (aAY (by simpa only [List.length_set])) (by with_unfolding_all exact rfl) ?_
 | apply zL
 | apply aCf
 | apply aDz
 | apply xS
 | refine aBr (by with_unfolding_all exact rfl) (by with_unfolding_all simp) ?_
 | refine aCo (by with_unfolding_all exact rfl) (by with_unfolding_all simp) ?_
 | refine aDj (by with_unfolding_all exact rfl) (by with_unfolding_all simp) ?_
 | apply yC
 | apply zR
 | apply xX
 | refine tU (by assumption) ?_
 | apply yU
 | apply aDh
 | apply aEu
 | apply aEr
 | apply aAx
 | apply aBw
 | apply aDg
 | apply aDe
 | apply aDu
 | apply aDf
 | refine aFc (s:=⟨[],none⟩) ?_
 | apply aDq
 | apply tZ
 | apply yO
 | apply aEo
 | apply aDi
 | apply aAl
 | apply zT
 | refine aEe (by with_unfolding_all exact rfl) ?_
 | refine ⟨_,rfl,?_⟩
 | refine ⟨_,_,_,_,rfl,rfl,by assumption,by with_unfolding_all exact rfl,?_⟩
 | refine ⟨_,_,_,_,rfl,rfl,aAY (by simpa only [List.length_set]),by with_unfolding_all exact rfl,?_⟩
 | refine wZ (by with_unfolding_all decide) ?_
 | refine qW (by with_unfolding_all decide) ?_
 | refine ⟨fun h=>absurd h (by with_unfolding_all decide),fun _=>?_⟩
 | refine ⟨fun _=>?_,fun h=>absurd h (by with_unfolding_all decide)⟩
 | refine ⟨_,_,rfl,?_⟩
 | refine ⟨_,_,_,rfl,?_⟩)
variable{b:Nat}{m:Int}
theorem aV(h:Bx M b)(h0:0 < m)(h1:m < 18446744073709551616):Ok (aW [.ref b,.d (.int m)] M) λw M'=>∃d:Int,w=.d (.int d)/\0<=d/\d < m/\Nx b M M':=by
 have hb:=h.lt
 obtain⟨x,y,z,e⟩:=h
 refine bT rfl ?_
 unfold b_a
 rfl'
 refine lO (λhx=>?_) (λhx=>?_)
 ·rfl'
  refine⟨aAN _ (by lia),aAI _ h0,x / m,y,z,?_⟩
  rw[aCP (by simp)];rfl
 ·rfl'
  refine⟨aAN _ (by lia),aAI _ h0,?_⟩
  rw[aCP (by simp)]
  exact⟨_,_,_,by rw[aBQ];rfl⟩
variable{k:Int}
theorem iN(h0:0<=k)(hl:ns.length<=63):Ok (gE [.d (.fz (ns.map D.int)),.d (.int k)] M) λw M'=>∃x y z,w=.ref M.length/\M'=M++[[.int x,.int y,.int z]]:=by
 refine aBu rfl ?_
 have at_:∀i:Int,0<=i->i < (ns.length:Int)->∃n,atI (ns.map D.int) i=some (.int n):=λi a b=>by
  have hi:i.toNat < ns.length:=by lia
  refine⟨ns[i.toNat],?_⟩
  simp only[atI,ixN,aAL]
  rw[aAH a,aAH b]
  simp[hi]
 unfold b_9
 rfl'
 refine lO (λhx=>?_) (λhx=>?_)
 ·rw[aAL]at hx
  obtain⟨n,e⟩:=at_ k h0 hx
  rfl'
  refine rT e ?_
  rfl'
  refine dM (atBox _) ?_
  rfl'
  exact⟨M.length,[.int _,.int _,.int _],rfl,aAF _,aDV,_,_,_,rfl,by rw[List.take_left]⟩
 ·rfl'
  refine lO (λhy=>?_) (λhy=>?_)
  ·rw[aAL]at hy
   obtain⟨n,e⟩:=at_ (k % ns.length) (aAN _ (by lia)) (aAI _ hy)
   rfl'
   rw[aAL]
   refine rT e ?_
   rfl'
   refine dM (atBox _) ?_
   rfl'
   exact⟨M.length,[.int _,.int _,.int _],rfl,aAF _,aDV,_,_,_,rfl,by rw[List.take_left]⟩
  ·rfl'
   refine dM (atBox _) ?_
   rfl'
   exact⟨M.length,[.int _,.int _,.int _],rfl,aAF _,aDV,_,_,_,rfl,by rw[List.take_left]⟩
noncomputable def ops:E->Nat
 |.num _=>0
 |.giv _=>0
 |.op _ a b=>ops a+ops b+1
theorem uV(g1:G < 1000):∀(k:Nat) (fuel:Nat) (M:Mm) (b:Nat) (r e:Int),Bx M b->r < 1000->e=k->k < fuel->Ok (dB fuel [.ref b,.d (.int G),.d (.int r),.d (.int e)] M) λw M'=>∃e:E,w=.d (enc e)/\(dp e<=k/\(2*ops e+1:Int)<=max r 1)/\wf G e/\Nx b M M':=by
 intro k
 induction k using Nat.strongRecOn with
 |ind k ih =>
 intro fuel M b r e hb r1 he hf
 obtain⟨f,rfl⟩:∃f,fuel=f+1:=⟨fuel - 1,by lia⟩
 subst he
 have n:=Nx.refl hb
 unfold dB
 refine bT rfl ?_
 unfold b_d
 rfl'
 (refine(aV hb (by lia) (by lia)).mono ?_;rintro _ _ ⟨d1,rfl,l_d1,u_d1,n'⟩;replace n:=n.trans n';replace hb:=n'.bx hb;clear n')
 rename_i M1
 refine uA (rY (rC (Ok.mono (Q:=λc M2=>M2=M1/\(c=false->3<=r/\k≠0)) ?_ ?_)))
 ·rfl'
  refine⟨λh=>⟨rfl,λh=>by simp at h⟩,λh=>?_⟩
  rfl'
  refine⟨λh=>⟨rfl,λh=>by simp at h⟩,λh'=>?_⟩
  rfl'
  exact⟨rfl,λ_=>⟨by simpa using h,by simpa using h'⟩⟩
 rintro c _ ⟨rfl,hc⟩
 refine aAe (λh=>?_) (λh=>?_)
 ·rfl'
  (refine(aV hb (by lia) (by lia)).mono ?_;rintro _ _ ⟨d2,rfl,l_d2,u_d2,n'⟩;replace n:=n.trans n';replace hb:=n'.bx hb;clear n')
  rfl'
  (refine(aV hb (by lia) (by lia)).mono ?_;rintro _ _ ⟨d3,rfl,l_d3,u_d3,n'⟩;replace n:=n.trans n';replace hb:=n'.bx hb;clear n')
  rfl'
  (refine(aV hb (by lia) (by lia)).mono ?_;rintro _ _ ⟨d4,rfl,l_d4,u_d4,n'⟩;replace n:=n.trans n';replace hb:=n'.bx hb;clear n')
  rfl'
  refine dM (at2I _ _ _) ?_
  refine uA (rY (rC (Ok.mono (Q:=λc M2=>Nx b M M2/\Bx M2 b/\(c=true->0 < G)) ?_ ?_)))
  ·rfl'
   refine⟨λh=>?_,λ_=>⟨n,hb,by simp⟩⟩
   rfl'
   (refine(aV hb (by lia) (by lia)).mono ?_;rintro _ _ ⟨d5,rfl,l_d5,u_d5,n'⟩;replace n:=n.trans n';replace hb:=n'.bx hb;clear n')
   rfl'
   exact⟨n,hb,λ_=>by simpa using h⟩
  clear n hb
  rintro c M2 ⟨n,hb,hg⟩
  refine aAe (λh=>?_) (λ_=>?_)
  ·have hg:=hg h
   rfl'
   (refine(aV hb (by lia) (by lia)).mono ?_;rintro _ _ ⟨d6,rfl,l_d6,u_d6,n'⟩;replace n:=n.trans n';replace hb:=n'.bx hb;clear n')
   obtain⟨i,rfl⟩:∃i:Nat,d6=i:=⟨d6.toNat,by lia⟩
   rfl'
   rw[n.take]
   exact⟨.giv i,rfl,⟨by simp[dp],by simp only[ops];lia⟩,by simp only[wf];lia,n⟩
  ·rfl'
   rw[n.take]
   exact⟨.num _,rfl,⟨by simp[dp],by simp only[ops];lia⟩,by simp only[wf];split <;> lia,n⟩
 ·obtain⟨hr,hk⟩:=hc h
  obtain⟨k',rfl⟩:∃k',k=k'+1:=⟨k - 1,by lia⟩
  rfl'
  (refine(aV hb (by lia) (by lia)).mono ?_;rintro _ _ ⟨d2,rfl,l_d2,u_d2,n'⟩;replace n:=n.trans n';replace hb:=n'.bx hb;clear n')
  rfl'
  (refine(aV hb (by lia) (by lia)).mono ?_;rintro _ _ ⟨d3,rfl,l_d3,u_d3,n'⟩;replace n:=n.trans n';replace hb:=n'.bx hb;clear n')
  obtain⟨w,ew,hw⟩:=at4 l_d3 u_d3 (.str "sum") (.str "less") (.str "times") (.str "times")
  refine dM ew ?_
  rfl'
  refine(ih k' (by lia) f _ b _ _ hb (by lia) (by lia) (by lia)).mono ?_
  rintro _ _ ⟨a1,rfl,i1,w1,n'⟩
  replace n:=n.trans n'
  replace hb:=n'.bx hb
  clear n'
  rfl'
  refine(ih k' (by lia) f _ b _ _ hb (by lia) (by lia) (by lia)).mono ?_
  rintro _ _ ⟨a2,rfl,i2,w2,n'⟩
  replace n:=n.trans n'
  rfl'
  rw[n.take]
  have hw':∃s:Wd,w=.str s.str:=by
   rcases hw with rfl|rfl|rfl|rfl
   ·exact⟨.sum,rfl⟩
   ·exact⟨.less,rfl⟩
   ·exact⟨.times,rfl⟩
   ·exact⟨.times,rfl⟩
  obtain⟨s,rfl⟩:=hw'
  exact⟨.op s a1 a2,rfl,⟨by simp only[dp];lia,by simp only[ops];lia⟩,⟨w1,w2⟩,n⟩
theorem mR(hb:Bx M b)(h2:2<=m)(hn:m<=1000000):Ok (fZ [.ref b,.d (.int m)] M) λw M'=>∃r:Int,w=.d (.int r)/\0<=r/\r < m/\Nx b M M':=by
 have n:=Nx.refl hb
 unfold fZ
 refine bT rfl ?_
 unfold b_b
 rfl'
 (refine(aV hb (by lia) (by lia)).mono ?_;rintro _ _ ⟨d1,rfl,l_d1,u_d1,n'⟩;replace n:=n.trans n';replace hb:=n'.bx hb;clear n')
 rfl'
 refine lO (λ_=>?_) (λ_=>?_)
 ·rfl'
  (refine(aV hb (by lia) (by lia)).mono ?_;rintro _ _ ⟨d2,rfl,l_d2,u_d2,n'⟩;replace n:=n.trans n';replace hb:=n'.bx hb;clear n')
  have e1:(1:Int) % m=1:=aBZ (by lia) (by lia)
  obtain⟨w,ew,hw⟩:=at4 l_d2 u_d2 (.int 0) (.int (1 % m)) (.int (m - 1)) (.int ((m - 2) % m))
  refine dM ew ?_
  rcases hw with rfl|rfl|rfl|rfl
  ·rfl'
   rw[n.take]
   exact⟨by lia,by lia,n⟩
  ·rfl'
   rw[n.take]
   exact⟨by lia,by lia,n⟩
  ·rfl'
   rw[n.take]
   exact⟨by lia,by lia,n⟩
  ·rfl'
   rw[n.take]
   exact⟨aAN _ (by lia),aAI _ (by lia),n⟩
 ·rfl'
  (refine(aV hb (by lia) (by lia)).mono ?_;rintro _ _ ⟨d2,rfl,l_d2,u_d2,n'⟩;replace n:=n.trans n';replace hb:=n'.bx hb;clear n')
  rfl'
  rw[n.take]
  exact⟨l_d2,u_d2,n⟩
theorem kT(hb:Bx M b)(h2:2<=n)(hn:n<=1000000)(m0:0<=m)(m1:m < 1000):Ok (eZ [.ref b,.d (.int n),.d (.int m)] M) λw M'=>∃cs:List Int,w=.d (intsD cs)/\(cs.length:Int)=m/\Rs n cs/\Nx b M M':=by
 unfold eZ
 refine bT rfl ?_
 unfold b_c
 rfl'
 refine dY (λi acc L' M'=>∃cs:List Int,acc=cs.map D.int/\cs.length=i/\Rs n cs/\Nx b M M'/\Bx M' b/\∃a,L'=[a,some (.ref b),some (.d (.int n))]) ?_
 rfl'
 refine⟨by simp only[in62,aAW];lia,⟨[],rfl,rfl,(λc h=>by cases h),Nx.refl hb,hb,none,rfl⟩,?_,by simp only[rngD,aAL,aBY];lia,?_,?_⟩
 ·rintro i acc L' M' hi ⟨cs,rfl,hl,_,n',_⟩
  exact⟨n'.len,(λt e=>by cases e),by simp[hl]⟩
 ·rintro i d acc _ M1 hx ⟨cs,rfl,hl,hr,n',hb',a,rfl⟩
  obtain⟨hi,rfl⟩:=eQ hx
  rfl'
  refine(mR (hb'.app (J:=[cs.map D.int])) h2 hn).mono ?_
  rintro _ _ ⟨r,rfl,l,u,n2⟩
  obtain⟨M2,rfl,n3⟩:=n2.unapp hb'.lt
  refine⟨_,M2,rfl,rfl,cs++[r],by simp,by simp[hl],?_,n'.trans n3,n3.bx hb',_,rfl⟩
  intro c hc
  rcases aCA.mp hc with hc|hc
  ·exact hr c hc
  ·rw[aBC.mp hc];exact⟨l,u⟩
 ·rintro acc _ M1 ⟨cs,rfl,hl,hr,n',hb',a,rfl⟩
  rfl'
  refine fK (xs:=cs.map D.int) rfl ?_
  rfl'
  rw[n'.take]
  simp only[rngD,aAL,aBY]at hl
  exact⟨by lia,hr,n'⟩
theorem gB(hn:2<=n)(hn2:n<=1000000):Ok (cO [.d (.int n),.d (.int k)] M) λw M'=>M'=M/\((∃v,IsIv n k v/\w=.d (.int v))\/((¬∃v,IsIv n k v)/\w=.d .non)):=by
 unfold cO
 refine bT rfl ?_
 unfold b_0
 rfl'
 refine(gW (QS:=λo M'=>M'=M/\∃h p q t,o=.nx [some (.d (.int n)),some (.d (.int k)),some (.d (.int h)),some (.d (.int 0)),some (.d (.int p)),some (.d (.int q)),t]/\0 < h/\h<=n/\Cg n (p*k) h/\h ∣ n/\h ∣ k)
  (I:=λm L M'=>M'=M/\∃(h l p q:Int) (t:Option W),L=[some (.d (.int n)),some (.d (.int k)),some (.d (.int h)),some (.d (.int l)),some (.d (.int p)),some (.d (.int q)),t]/\m=l.toNat/\0 < h/\h<=n/\0<=l/\l<=n/\Cg n (p*k) h/\Cg n (q*k) l/\∀c:Int,c ∣ h->c ∣ l->c ∣ n/\c ∣ k) ?_ NW (k % n).toNat _ _
  ⟨rfl,n,k % n,0,1,none,rfl,rfl,by lia,by lia,aAN _ (by lia),Int.le_of_lt (aAI _ (by lia)),⟨-1,by grind⟩,?_,?_⟩ ?_).mono ?_
 ·rintro m L _ ⟨rfl,h,l,p,q,t,rfl,rfl,h0,h1,l0,l1,c1,c2,hd⟩
  rfl'
  refine⟨λhl=>?_,λhl=>?_⟩
  ·have hl:0 < l:=by simpa using hl
   have e:h - h / l*l=h % l:=by rw[Int.emod_def,aCS]
   have ht0:0<=h / l:=Int.ediv_nonneg (by lia) (by lia)
   have ht1:h / l<=h:=Int.ediv_le_self _ (by lia)
   rfl'
   rw[e]
   have em1:=aAN h (by lia:l≠0)
   have em2:=aAI h hl
   refine⟨(h % l).toNat,by lia,rfl,l,h % l,q,p - h / l*q,_,rfl,rfl,hl,by lia,em1,by lia,c2,?_,?_⟩
   ·rw[<- e]
    exact(Cg.of_eq (by grind)).trans (Cg.sub c1 (Cg.mul (Cg.rfl (a:=h / l)) c2))
   ·intro c g1 g2
    refine hd c ?_ g1
    have:=aEY g2 (aCX g1 (Int.dvd_mul_left (h / l) l))
    rwa[<- e,show h - h / l*l+h / l*l=h by lia]at this
  ·have hl:l=0:=by simp at hl;lia
   subst hl
   have:=hd h (Int.dvd_refl h) (Int.dvd_zero h)
   exact⟨rfl,h,p,q,t,rfl,h0,h1,c1,this.1,this.2⟩
 ·exact(Cg.of_eq (by grind)).trans (Cg.mod (a:=k)).symm
 ·intro c g1 g2
  refine⟨g1,?_⟩
  have:=aEY g2 (aCX g1 (aGK n (k / n)))
  rwa[aFF]at this
 ·rw[tI];have:=aAI k (by lia:0 < n);lia
 ·rintro _ _ ⟨rfl,h,p,q,t,rfl,h0,h1,c1,d1,d2⟩
  have pn:=aAN p (by lia:n≠0)
  have pl:=aAI p (by lia:0 < n)
  rfl'
  refine sC (λhh=>?_) (λhh=>?_)
  ·subst hh
   rfl'
   refine⟨by simp,.inl ⟨p % n,⟨pn,pl,?_⟩,rfl⟩⟩
   exact Cg.emod ((Cg.mul Cg.rfl Cg.mod).trans ((Cg.of_eq (aCS _ _)).trans c1))
  ·rfl'
   refine⟨by simp,.inr ⟨?_,rfl⟩⟩
   rintro⟨v,v0,v1,e⟩
   obtain⟨z,hz⟩:=Cg.of e
   have:h ∣ 1:=by
    have g1:h ∣ k*v:=aCH d2
    rw[hz]at g1
    exact(Int.dvd_add_left (aCH d1)).mp g1
   have:=aGI (by lia) this
   lia
variable{u:Int}
theorem sM(hn:2<=n)(hn2:n<=1000000)(hu:Un n u):Ok (cO [.d (.int n),.d (.int u)] M) λw M'=>w=.d (.int (iv n u))/\M'=M:=by
 refine(gB hn hn2).mono ?_
 rintro w M' ⟨rfl,⟨v,h,rfl⟩|⟨h,_⟩⟩
 ·rw[vV h];exact⟨rfl,rfl⟩
 ·exact(h hu.2.2).elim
theorem lT{d:Dd}(hn:2<=n)(hn2:n<=1000000)(h:OkD n G S d):Ok (dL [.d (.int n),.d (encD d)] M) λw M'=>w=.d (encD (bD n d))/\M'=M:=by
 cases d with
 |add s c g t =>
  unfold dL
  refine bT rfl ?_
  unfold b_3
  simp only[encD,bD]
  rfl'
  exact⟨rfl,by simp⟩
 |scale s u =>
  unfold dL
  refine bT rfl ?_
  unfold b_3
  simp only[encD,bD]
  rfl'
  refine(sM hn hn2 h.2).mono ?_
  rintro _ _ ⟨rfl,rfl⟩
  rfl'
  exact⟨rfl,by simp⟩
theorem kD{ds:List Dd}(hn:2<=n)(hn2:n<=1000000)(hd:∀d∈ds,OkD n G S d)(hl:ds.length<=16777216):Ok (dN [.d (.int n),.d (.tup (ds.map encD))] M) λw M'=>w=.d (.tup ((bDs n ds).map encD))/\M'=M:=by
 unfold dN
 refine bT rfl ?_
 unfold b_2
 rfl'
 refine dY (λi acc L' M'=>acc=((ds.reverse.take i).map (bD n)).map encD/\M'=M/\∃a,L'=[a,some (.d (.int n))]) ?_
 rfl'
 refine⟨ds.map encD,.inl rfl,⟨rfl,rfl,none,rfl⟩,?_,by simpa using hl,?_,?_⟩
 ·rintro i acc L' M' hi ⟨rfl,rfl,_⟩
  exact⟨rfl,(λt e=>by cases e),by simp;lia⟩
 ·rintro i d acc _ _ hx ⟨rfl,rfl,a,rfl⟩
  rw[<- List.map_reverse]at hx
  simp only[aAO,aAM]at hx
  obtain⟨k,hk,rfl⟩:=hx
  have hm:k∈ds:=List.mem_reverse.mp (aAU hk)
  rfl'
  refine(lT hn hn2 (hd k hm)).mono ?_
  rintro _ _ ⟨rfl,rfl⟩
  exact⟨_,_,rfl,rfl,by rw[aAX,hk];simp,rfl,_,rfl⟩
 ·rintro acc L' M' ⟨rfl,rfl,_⟩
  rfl'
  refine fK rfl ?_
  rfl'
  exact⟨by rw[aCP (by simp)];rfl,by simp⟩
theorem lY(hn:2<=n)(hn2:n<=1000000)(hu:∃v,IsIv n k v):Ok (eP [.d (.int n),.d (.int k)] M) λw M'=>w=.d (.int (iv n k))/\M'=M:=by
 unfold eP
 refine bT rfl ?_
 unfold b_f
 rfl'
 refine(gW (QS:=λo M'=>M'=M/\∃h p q t,o=.nx [some (.d (.int n)),some (.d (.int k)),some (.d (.int h)),some (.d (.int 0)),some (.d (.int p)),some (.d (.int q)),t]/\0 < h/\h<=n/\Cg n (p*k) h/\h ∣ n/\h ∣ k)
  (I:=λm L M'=>M'=M/\∃(h l p q:Int) (t:Option W),L=[some (.d (.int n)),some (.d (.int k)),some (.d (.int h)),some (.d (.int l)),some (.d (.int p)),some (.d (.int q)),t]/\m=l.toNat/\0 < h/\h<=n/\0<=l/\l<=n/\Cg n (p*k) h/\Cg n (q*k) l/\∀c:Int,c ∣ h->c ∣ l->c ∣ n/\c ∣ k) ?_ NW (k % n).toNat _ _
  ⟨rfl,n,k % n,0,1,none,rfl,rfl,by lia,by lia,aAN _ (by lia),Int.le_of_lt (aAI _ (by lia)),⟨-1,by grind⟩,?_,?_⟩ ?_).mono ?_
 ·rintro m L _ ⟨rfl,h,l,p,q,t,rfl,rfl,h0,h1,l0,l1,c1,c2,hd⟩
  rfl'
  refine⟨λhl=>?_,λhl=>?_⟩
  ·have hl:0 < l:=by simpa using hl
   have e:h - h / l*l=h % l:=by rw[Int.emod_def,aCS]
   have ht0:0<=h / l:=Int.ediv_nonneg (by lia) (by lia)
   have ht1:h / l<=h:=Int.ediv_le_self _ (by lia)
   rfl'
   rw[e]
   have em1:=aAN h (by lia:l≠0)
   have em2:=aAI h hl
   refine⟨(h % l).toNat,by lia,rfl,l,h % l,q,p - h / l*q,_,rfl,rfl,hl,by lia,em1,by lia,c2,?_,?_⟩
   ·rw[<- e]
    exact(Cg.of_eq (by grind)).trans (Cg.sub c1 (Cg.mul (Cg.rfl (a:=h / l)) c2))
   ·intro c g1 g2
    refine hd c ?_ g1
    have:=aEY g2 (aCX g1 (Int.dvd_mul_left (h / l) l))
    rwa[<- e,show h - h / l*l+h / l*l=h by lia]at this
  ·have hl:l=0:=by simp at hl;lia
   subst hl
   have:=hd h (Int.dvd_refl h) (Int.dvd_zero h)
   exact⟨rfl,h,p,q,t,rfl,h0,h1,c1,this.1,this.2⟩
 ·exact(Cg.of_eq (by grind)).trans (Cg.mod (a:=k)).symm
 ·intro c g1 g2
  refine⟨g1,?_⟩
  have:=aEY g2 (aCX g1 (aGK n (k / n)))
  rwa[aFF]at this
 ·rw[tI];have:=aAI k (by lia:0 < n);lia
 ·rintro _ _ ⟨rfl,h,p,q,t,rfl,h0,h1,c1,d1,d2⟩
  have pn:=aAN p (by lia:n≠0)
  have pl:=aAI p (by lia:0 < n)
  have h1:h=1:=by
   obtain⟨v,v0,v1,e⟩:=hu
   obtain⟨z,hz⟩:=Cg.of e
   have:h ∣ 1:=by
    have g1:h ∣ k*v:=aCH d2
    rw[hz]at g1
    exact(Int.dvd_add_left (aCH d1)).mp g1
   have:=aGI (by lia) this
   lia
  subst h1
  rfl'
  rw[vV (n:=n) (u:=k) (v:=p % n) ⟨pn,pl,Cg.emod ((Cg.mul Cg.rfl Cg.mod).trans ((Cg.of_eq (aCS _ _)).trans c1))⟩]
  exact⟨rfl,by simp⟩
theorem bE{ds:List Dd}(hn:2<=n)(hn2:n<=1000000)(hd:∀d∈ds,OkD n G S d)(hl:ds.length<=16777216):Ok (bG [.d (.int n),.d (.tup (ds.map encD))] M) λw M'=>w=.d (.tup ((bDs n ds).map encD))/\M'=M:=by
 unfold bG
 refine bT rfl ?_
 unfold b_11
 rfl'
 refine⟨ds.map encD,.inl rfl,?_⟩
 refine cF (λi L M'=>M'=M++[((ds.reverse.take i).map (bD n)).map encD]/\∃a,L=[some (.d (.int n)),some (.d (.tup (ds.map encD))),some (.ref M.length),a]) ⟨rfl,none,rfl⟩ (λi L M _ _ t e=>by cases e) ?_ ?_
 ·rintro i d _ _ hx ⟨rfl,a,rfl⟩
  simp only at hx
  rw[<- List.map_reverse]at hx
  simp only[aAO,aAM]at hx
  obtain⟨k,hk,rfl⟩:=hx
  have hm:k∈ds:=List.mem_reverse.mp (aAU hk)
  have hok:=hd k hm
  have hi:i < ds.length:=by have:=(aAC.mp hk).1;simpa using this
  have e1:ds.reverse.take (i+1)=ds.reverse.take i++[k]:=by rw[aAX,hk];rfl
  rw[e1]
  cases k with
  |scale s u =>
   simp only[encD]
   rfl'
   refine(lY hn hn2 hok.2.2.2).mono ?_
   rintro _ _ ⟨rfl,rfl⟩
   rfl'
   refine fE (xs:=((ds.reverse.take i).map (bD n)).map encD) (by simp) (by simp;lia) ?_
   rfl'
   exact⟨by simp[bD,encD],_,rfl⟩
  |add s c g t =>
   simp only[encD]
   rfl'
   refine cJ (by simp[cut,HT.sIx]) ?_
   rfl'
   refine cJ (by simp[cut,HT.sIx]) ?_
   refine fE (xs:=((ds.reverse.take i).map (bD n)).map encD) (by simp) (by simp;lia) ?_
   rfl'
   exact⟨by simp[bD,encD,cut,HT.sIx],_,rfl⟩
 ·rintro _ _ ⟨rfl,a,rfl⟩
  rw[aCP (by simp)]
  rfl'
  refine fK (xs:=(bDs n ds).map encD) ?_ ?_
  ·simp[sv,lr,lv,bDs]
  rfl'
  exact⟨rfl,by simp⟩
theorem mK(hn:2<=n)(hn2:n<=1000000):∀{e:E} {s b c:Nat},wf G e->s < S->b < S->c < S->s≠b->s≠c->b≠c->many e<=4194304->∀fuel,dp e < fuel->∀M:Mm,
  Ok (bR fuel [.d (.int n),.d (enc e),.d (.int s),.d (.int b),.d (.int c)] M) (λw M'=>w=.d (.tup ((rowBy n e s b c).map encD))/\M'=M):=by
 intro e
 induction e with
 |num k =>
  intro s b c _ _ _ _ _ _ _ _ fuel hf M
  obtain⟨f,rfl⟩:∃f,fuel=f+1:=⟨fuel - 1,by lia⟩
  unfold bR
  refine bT rfl ?_
  unfold b_12
  simp only[enc]
  rfl'
  exact⟨rfl,by simp⟩
 |giv k =>
  intro s b c _ _ _ _ _ _ _ _ fuel hf M
  obtain⟨f,rfl⟩:∃f,fuel=f+1:=⟨fuel - 1,by lia⟩
  unfold bR
  refine bT rfl ?_
  unfold b_12
  simp only[enc]
  rfl'
  exact⟨rfl,by simp⟩
 |op w x y ihx ihy =>
  intro s b c hw hs hb hc h1 h2 h3 hm fuel hf M
  obtain⟨f,rfl⟩:∃f,fuel=f+1:=⟨fuel - 1,by lia⟩
  have hm':=tT (w:=w) (x:=x) (y:=y)
  have d1:dp x < f:=by simp only[dp]at hf;lia
  have d2:dp y < f:=by simp only[dp]at hf;lia
  unfold bR
  refine bT rfl ?_
  unfold b_12
  cases w with
  |sum =>
   simp only[enc,Wd.str]
   rfl'
   refine(ihx hw.1 hs hb hc h1 h2 h3 (by lia) f d1 _).mono ?_
   rintro _ _ ⟨rfl,rfl⟩
   rfl'
   refine(ihy hw.2 hs hb hc h1 h2 h3 (by lia) f d2 _).mono ?_
   rintro _ _ ⟨rfl,rfl⟩
   rfl'
   refine(bE hn hn2 (bN (by lia) hw.2 hs hb hc h1 h2 h3) (by rw[aO];lia)).mono ?_
   rintro _ _ ⟨rfl,rfl⟩
   rfl'
   refine cJ (by simp[aO];lia) ?_
   rfl'
   exact⟨by simp[rowBy],by simp⟩
  |less =>
   simp only[enc,Wd.str]
   rfl'
   refine(ihx hw.1 hs hb hc h1 h2 h3 (by lia) f d1 _).mono ?_
   rintro _ _ ⟨rfl,rfl⟩
   rfl'
   refine(ihy hw.2 hs hb hc h1 h2 h3 (by lia) f d2 _).mono ?_
   rintro _ _ ⟨rfl,rfl⟩
   rfl'
   refine(bE hn hn2 (bN (by lia) hw.2 hs hb hc h1 h2 h3) (by rw[aO];lia)).mono ?_
   rintro _ _ ⟨rfl,rfl⟩
   rfl'
   refine cJ (by simp[aO,bP];lia) ?_
   rfl'
   exact⟨by simp[rowBy],by simp⟩
  |times =>
   have hm2:2*(many x+many y)<=4194304:=by simp only[many]at hm;lia
   simp only[enc,Wd.str]
   rfl'
   refine(ihy hw.2 hc hb hs h3.symm h2.symm h1.symm (by lia) f d2 _).mono ?_
   rintro _ _ ⟨rfl,rfl⟩
   rfl'
   refine(ihx hw.1 hs hc hb h2 h1 h3.symm (by lia) f d1 _).mono ?_
   rintro _ _ ⟨rfl,rfl⟩
   rfl'
   refine cJ (by simp[aO];lia) ?_
   rfl'
   refine(bE hn hn2 (bN (by lia) hw.2 hc hb hs h3.symm h2.symm h1.symm) (by rw[aO];lia)).mono ?_
   rintro _ _ ⟨rfl,rfl⟩
   refine cJ (by simp[aO,bP];lia) ?_
   rfl'
   refine(bE hn hn2 (bN (by lia) hw.1 hs hc hb h2 h1 h3.symm) (by rw[aO];lia)).mono ?_
   rintro _ _ ⟨rfl,rfl⟩
   refine cJ (by simp[aO,bP];lia) ?_
   rfl'
   exact⟨by simp[rowBy],by simp⟩
theorem jR(hn:2<=n)(hn2:n<=1000000):∀{e:E} {s b c:Nat},wf G e->s < S->b < S->c < S->s≠b->s≠c->b≠c->many e<=4194304->∀fuel,dp e < fuel->fuel<=50->∀M:Mm,
  Ok (bA fuel [.d (.int n),.d (enc e),.d (.int s),.d (.int b),.d (.int c)] M) (λw M'=>w=.d (.tup ((rowAl n e s b c).map encD))/\M'=M):=by
 intro e
 induction e with
 |num k =>
  intro s b c _ _ _ _ _ _ _ _ fuel hf hf2 M
  obtain⟨f,rfl⟩:∃f,fuel=f+1:=⟨fuel - 1,by lia⟩
  unfold bA
  refine bT rfl ?_
  unfold b_13
  simp only[enc]
  rfl'
  exact⟨rfl,by simp⟩
 |giv k =>
  intro s b c _ _ _ _ _ _ _ _ fuel hf hf2 M
  obtain⟨f,rfl⟩:∃f,fuel=f+1:=⟨fuel - 1,by lia⟩
  unfold bA
  refine bT rfl ?_
  unfold b_13
  simp only[enc]
  rfl'
  exact⟨rfl,by simp⟩
 |op w x y ihx ihy =>
  intro s b c hw hs hb hc h1 h2 h3 hm fuel hf hf2 M
  obtain⟨f,rfl⟩:∃f,fuel=f+1:=⟨fuel - 1,by lia⟩
  have hm':=tT (w:=w) (x:=x) (y:=y)
  have d1:dp x < f:=by simp only[dp]at hf;lia
  have d2:dp y < f:=by simp only[dp]at hf;lia
  unfold bA
  refine bT rfl ?_
  unfold b_13
  cases w with
  |sum =>
   simp only[enc,Wd.str]
   rfl'
   refine(ihx hw.1 hs hb hc h1 h2 h3 (by lia) f d1 (by lia) _).mono ?_
   rintro _ _ ⟨rfl,rfl⟩
   rfl'
   refine(ihy hw.2 hs hb hc h1 h2 h3 (by lia) f d2 (by lia) _).mono ?_
   rintro _ _ ⟨rfl,rfl⟩
   rfl'
   refine(bE hn hn2 (cM (by lia) hw.2 hs hb hc h1 h2 h3) (by rw[aX];lia)).mono ?_
   rintro _ _ ⟨rfl,rfl⟩
   rfl'
   refine cJ (by simp[aX];lia) ?_
   rfl'
   exact⟨by simp[rowAl],by simp⟩
  |less =>
   simp only[enc,Wd.str]
   rfl'
   refine(ihx hw.1 hs hb hc h1 h2 h3 (by lia) f d1 (by lia) _).mono ?_
   rintro _ _ ⟨rfl,rfl⟩
   rfl'
   refine(ihy hw.2 hs hb hc h1 h2 h3 (by lia) f d2 (by lia) _).mono ?_
   rintro _ _ ⟨rfl,rfl⟩
   rfl'
   refine(bE hn hn2 (cM (by lia) hw.2 hs hb hc h1 h2 h3) (by rw[aX];lia)).mono ?_
   rintro _ _ ⟨rfl,rfl⟩
   rfl'
   refine cJ (by simp[aX,bP];lia) ?_
   rfl'
   exact⟨by simp[rowAl],by simp⟩
  |times =>
   have hm2:2*(many x+many y)<=4194304:=by simp only[many]at hm;lia
   simp only[enc,Wd.str]
   rfl'
   refine(ihy hw.2 hc hb hs h3.symm h2.symm h1.symm (by lia) f d2 (by lia) _).mono ?_
   rintro _ _ ⟨rfl,rfl⟩
   rfl'
   refine(mK hn hn2 hw.1 hs hc hb h2 h1 h3.symm (by lia) 50 (by lia) _).mono ?_
   rintro _ _ ⟨rfl,rfl⟩
   rfl'
   refine cJ (by simp[aX,aO];lia) ?_
   rfl'
   refine(bE hn hn2 (cM (by lia) hw.2 hc hb hs h3.symm h2.symm h1.symm) (by rw[aX];lia)).mono ?_
   rintro _ _ ⟨rfl,rfl⟩
   refine cJ (by simp[aX,aO,bP];lia) ?_
   rfl'
   refine(bE hn hn2 (bN (by lia) hw.1 hs hc hb h2 h1 h3.symm) (by rw[aO];lia)).mono ?_
   rintro _ _ ⟨rfl,rfl⟩
   refine cJ (by simp[aX,aO,bP];lia) ?_
   rfl'
   exact⟨by simp[rowAl],by simp⟩
theorem qX{G S:Int}{ds:List Dd}(hn:2<=n)(hn2:n<=1000000)(hg:Rs n gs)(hc:Rs n cs)(h:∀d∈ds,OkD n gs.length cs.length d)(hz:cs.length<=1000):Ok (iT [.d (encP n G S ds),.d (intsD gs),.d (intsD cs)] M) λw M'=>w=.d (intsD (rn n gs ds cs))/\M'=M:=by
 unfold iT
 refine bT rfl ?_
 unfold b_10
 rfl'
 refine sZ (xs:=cs.map D.int) rfl ?_
 rfl'
 unfold encP
 rfl'
 refine cF (λi L M'=>M'=M++[(rn n gs (ds.take i) cs).map D.int]/\∃a b c d,L=[some (.d (encP n G S ds)),some (.d (intsD gs)),some (.d (intsD cs)),some (.ref M.length),a,b,c,d]) ⟨rfl,none,none,none,none,rfl⟩ (λi L M _ _ t e=>by cases e) ?_ ?_
 ·rintro i d _ _ hd ⟨rfl,a,b,c,d',rfl⟩
  simp only[aAO,aAM]at hd
  obtain⟨k,hk,rfl⟩:=hd
  have hm:=h k (aAU hk)
  have hc':Rs n (rn n gs (ds.take i) cs):=hc.rn (by lia)
  have hl':(rn n gs (ds.take i) cs).length=cs.length:=cP
  have fin:rn n gs (ds.take (i+1)) cs=dn n gs (rn n gs (ds.take i) cs) k:=by
   rw[aAX,hk]
   simp only[aDN,aR,dW,kQ]
  rw[fin]
  generalize rn n gs (ds.take i) cs=xs at hc' hl'
  rw[<- hl']at hm
  have gM:(M++[xs.map D.int])[M.length]?=some (xs.map D.int):=by simp
  unfold encP
  cases k with
  |scale s u =>
   obtain⟨hs,hu⟩:=hm
   have hr:=hc'.getD hs
   simp only[encD]
   rfl'
   refine jM gM (dP hs) ?_
   rfl'
   refine⟨_,_,_,s,rfl,rfl,gM,by rw[aAL];exact oT hs,?_⟩
   refine⟨?_,_,_,_,_,rfl⟩
   rw[oN]
   simp[dn]
  |add s c g t =>
   obtain⟨hs,c0,c1,hgi,hti,_,hgl,htl⟩:=hm
   simp only[encD]
   rfl'
   unfold natsD
   refine cF (λi L M'=>M'=M++[xs.map D.int]/\∃b,L=[some (.d (encP n G S ds)),some (.d (intsD gs)),some (.d (intsD cs)),some (.ref M.length),some (.d (encD (.add s c g t))),some (.d (.int ((g.take i).foldl (λa i=>a*gs.getD i 0 % n) c))),b,d']) ⟨rfl,_,rfl⟩ (λi L M _ _ t e=>by cases e) ?_ ?_
   ·rintro i d _ _ hd ⟨rfl,b,rfl⟩
    simp only[aAO,aAM]at hd
    obtain⟨k,hk,rfl⟩:=hd
    have hm:=hgi k (aAU hk)
    have hr:=hg.getD hm
    unfold encP intsD
    rfl'
    refine nK (dP hm) ?_
    rfl'
    refine⟨rfl,some (.d (.int k)),?_⟩
    rw[aAX,hk]
    simp only[aDN,aEV,aCB,aEN]
    rfl
   ·rintro _ _ ⟨rfl,b,rfl⟩
    simp only[aAL,aCO]
    have r1:=fQ (by lia:0 < n) (xs:=gs) g c0 c1
    have q1:=foldm (n:=n) (xs:=gs) g c
    generalize g.foldl (λa i=>a*gs.getD i 0 % n) c=v at r1 q1
    simp only[encD]
    rfl'
    unfold natsD
    refine cF (λi L M'=>M'=M++[xs.map D.int]/\∃b d,L=[some (.d (encP n G S ds)),some (.d (intsD gs)),some (.d (intsD cs)),some (.ref M.length),some (.d (encD (.add s c g t))),some (.d (.int ((t.take i).foldl (λa i=>a*xs.getD i 0 % n) v))),b,d]) ⟨rfl,_,_,rfl⟩ (λi L M _ _ t e=>by cases e) ?_ ?_
    ·rintro i d _ _ hd ⟨rfl,b,d2,rfl⟩
     simp only[aAO,aAM]at hd
     obtain⟨k,hk,rfl⟩:=hd
     have hm:=hti k (aAU hk)
     have hr:=hc'.getD hm
     unfold encP
     rfl'
     refine jM gM (dP hm) ?_
     rfl'
     refine⟨rfl,b,some (.d (.int k)),?_⟩
     rw[aAX,hk]
     simp only[aDN,aEV,aCB,aEN]
     rfl
    ·rintro _ _ ⟨rfl,b,d2,rfl⟩
     simp only[aAL,aCO]
     have r2:=fQ (by lia:0 < n) (xs:=xs) t r1.1 r1.2
     have q2:=foldm (n:=n) (xs:=xs) t v
     generalize t.foldl (λa i=>a*xs.getD i 0 % n) v=z at r2 q2
     simp only[encD];unfold encP
     rfl'
     refine jM gM (dP hs) ?_
     rfl'
     refine⟨_,_,_,s,rfl,rfl,gM,by rw[aAL];exact oT hs,?_⟩
     refine⟨?_,_,_,_,_,rfl⟩
     rw[oN]
     have:(xs.getD s 0+z) % n=(xs.getD s 0+c*pr gs g*pr xs t) % n:=Cg.emod (Cg.add Cg.rfl (q2.trans (Cg.mul q1 Cg.rfl)))
     simp only[dn,<- this]
     simp
 ·rintro _ _ ⟨rfl,a,b,c,d',rfl⟩
  rw[show List.take (List.map encD ds).length ds=ds from aCP (by simp)]
  rfl'
  refine fK (xs:=(rn n gs ds cs).map D.int) ?_ ?_
  ·simp[sv,lr,lv]
  rfl'
  exact⟨rfl,by simp⟩
theorem sD(hn:2<=n)(hn2:n<=1000000)(hg:Rs n gs):∀{e:E},wf gs.length e->∀fuel,dp e < fuel->∀M:Mm,
  Ok (cB fuel [.d (.int n),.d (enc e),.d (intsD gs)] M) (λw M'=>w=.d (.int (val n gs e))/\M'=M):=by
 intro e
 induction e with
 |num c =>
  intro _ fuel hf M
  obtain⟨f,rfl⟩:∃f,fuel=f+1:=⟨fuel - 1,by lia⟩
  unfold cB
  simp only[enc,val]
  refine bT rfl ?_
  unfold b_e
  rfl'
  exact⟨rfl,by simp⟩
 |giv i =>
  intro h fuel hf M
  obtain⟨f,rfl⟩:∃f,fuel=f+1:=⟨fuel - 1,by lia⟩
  unfold cB
  simp only[enc,val]
  refine bT rfl ?_
  unfold b_e intsD
  rfl'
  refine nK (dP h) ?_
  rfl'
  exact⟨rfl,by simp⟩
 |op w a b iha ihb =>
  intro h fuel hf M
  obtain⟨f,rfl⟩:∃f,fuel=f+1:=⟨fuel - 1,by lia⟩
  have d1:dp a < f:=by simp only[dp]at hf;lia
  have d2:dp b < f:=by simp only[dp]at hf;lia
  have x:=jU (by lia:0 < n) hg (e:=a)
  have y:=jU (by lia:0 < n) hg (e:=b)
  have wa:=λM=>iha h.1 f d1 M
  have wb:=λM=>ihb h.2 f d2 M
  unfold cB
  simp only[enc,val]
  revert wa wb x y
  generalize val n gs a=x
  generalize val n gs b=y
  intro rx ry wa wb
  refine bT rfl ?_
  unfold b_e
  cases w with
  |sum =>
   simp only[Wd.str,Wd.ev]
   rfl'
   refine(wa _).mono ?_
   rintro _ _ ⟨rfl,rfl⟩
   rfl'
   refine(wb _).mono ?_
   rintro _ _ ⟨rfl,rfl⟩
   rfl'
   exact⟨rfl,by simp⟩
  |less =>
   simp only[Wd.str,Wd.ev]
   rfl'
   refine(wa _).mono ?_
   rintro _ _ ⟨rfl,rfl⟩
   rfl'
   refine(wb _).mono ?_
   rintro _ _ ⟨rfl,rfl⟩
   rfl'
   exact⟨rfl,by simp⟩
  |times =>
   simp only[Wd.str,Wd.ev]
   rfl'
   refine(wa _).mono ?_
   rintro _ _ ⟨rfl,rfl⟩
   rfl'
   refine(wb _).mono ?_
   rintro _ _ ⟨rfl,rfl⟩
   rfl'
   exact⟨rfl,by simp⟩
theorem kN{e:Nat}(hn:2<=n)(hn2:n<=1000000)(he:e<=1000):Ok (hX [.d (.int n),.d (.int k),.d (.int e)] M) λw M'=>w=.d (.int (k ^ e % n))/\M'=M:=by
 unfold hX
 refine bT rfl ?_
 unfold b_1
 rfl'
 refine(gW (QS:=λo M'=>M'=M/\∃t s l,o=.nx [some (.d (.int n)),some (.d (.int k)),some (.d (.int e)),some (.d (.int t)),some (.d (.int s)),some (.d (.int l))]/\0<=t/\t < n/\Cg n t (k ^ e))
  (I:=λm L M'=>M'=M/\∃(t s:Int) (l:Nat),L=[some (.d (.int n)),some (.d (.int k)),some (.d (.int e)),some (.d (.int t)),some (.d (.int s)),some (.d (.int l))]/\m=l/\l<=1000/\0<=t/\t < n/\0<=s/\s < n/\Cg n (t*s ^ l) (k ^ e)) ?_ NW e _ _
  ⟨rfl,1 % n,k % n,e,rfl,rfl,he,aAN _ (by lia),aAI _ (by lia),aAN _ (by lia),aAI _ (by lia),?_⟩ ?_).mono ?_
 ·rintro l L _ ⟨rfl,t,s,_,rfl,rfl,l1,t0,t1,s0,s1,hc⟩
  have hts:0<=t*s/\t*s<=1000000*1000000:=⟨aEQ t0 s0,aEP (by lia) (by lia) s0 (by lia)⟩
  have hss:0<=s*s/\s*s<=1000000*1000000:=⟨aEQ s0 s0,aEP (by lia) (by lia) s0 (by lia)⟩
  have m1:=aAN (t*s) (by lia:n≠0)
  have m2:=aAI (t*s) (by lia:0 < n)
  have m3:=aAN (s*s) (by lia:n≠0)
  have m4:=aAI (s*s) (by lia:0 < n)
  have cp:∀j:Nat,Cg n ((s*s % n) ^ j) (s ^ (2*j)):=λj=>by
   induction j with
   |zero=>exact Cg.of_eq (by simp)
   |succ j ih =>
    rw[aBV,show 2*(j+1)=2*j+1+1 by lia,aBV,aBV,Int.mul_assoc]
    exact Cg.mul ih Cg.mod
  rfl'
  refine⟨λh=>?_,λh=>?_⟩
  ·have hl:0 < l:=by simpa using h
   rfl'
   refine lO (λh1=>?_) (λh1=>?_)
   ·have h1:l % 2=1:=by lia
    rfl'
    refine⟨l / 2,by lia,rfl,t*s % n,s*s % n,l / 2,by simp,rfl,by lia,m1,m2,m3,m4,?_⟩
    refine Cg.trans (Cg.mul Cg.mod (cp (l / 2))) (Cg.trans (Cg.of_eq ?_) hc)
    rw[Int.mul_assoc,<- Int.pow_succ',show 2*(l / 2)+1=l by lia]
   ·have h1:l % 2=0:=by lia
    rfl'
    refine⟨l / 2,by lia,rfl,t,s*s % n,l / 2,by simp,rfl,by lia,t0,t1,m3,m4,?_⟩
    refine Cg.trans (Cg.mul Cg.rfl (cp (l / 2))) (Cg.trans (Cg.of_eq ?_) hc)
    rw[show 2*(l / 2)=l by lia]
  ·have hl:l=0:=by simp at h;lia
   subst hl
   exact⟨rfl,t,s,_,rfl,t0,t1,by simpa using hc⟩
 ·have h1:∀j:Nat,Cg n ((k % n) ^ j) (k ^ j):=λj=>by
   induction j with
   |zero=>exact Cg.of_eq (by simp)
   |succ j ih=>rw[aBV,aBV];exact Cg.mul ih Cg.mod
  exact(Cg.mul Cg.mod (h1 e)).trans (Cg.of_eq (by lia))
 ·rw[tI];lia
 ·rintro _ _ ⟨rfl,t,s,l,rfl,t0,t1,hc⟩
  rfl'
  refine⟨?_,by simp⟩
  rw[hc.symm.emod,aBZ t0 t1]
noncomputable def RootOk(n w:Int)(m:Nat):Prop:=w ^ m % n=1/\∀i:Nat,1<=i->i < m->∃v,IsIv n (w ^ i % n - 1) v
variable{w:Int}{m:Nat}
theorem oO(hn:2<=n)(hn2:n<=1000000)(hm:m<=1000):Ok (fU [.d (.int n),.d (.int w),.d (.int m)] M) λr M'=>M'=M/\((r=.d (.bl true)/\RootOk n w m)\/(r=.d (.bl false)/\¬RootOk n w m)):=by
 unfold fU
 refine bT rfl ?_
 unfold b_4
 rfl'
 refine(kN hn hn2 hm).mono ?_
 rintro _ M ⟨rfl,rfl⟩
 rfl'
 refine sC (λh=>?_) (λh=>?_)
 ·rfl'
  refine⟨1,(m:Int),rfl,rfl,⟨by decide,by simp only[in62,aAW];lia⟩,?_⟩
  refine cF (λj L M'=>M'=M/\(∀i:Nat,1<=i->i < j+1->∃v,IsIv n (w ^ i % n - 1) v)/\∃o,L=[some (.d (.int n)),some (.d (.int w)),some (.d (.int m)),o]) ⟨rfl,λi h1 h2=>by lia,none,rfl⟩ (λi L M _ _ t e=>by cases e) ?_ ?_
  ·rintro j d _ _ hx ⟨rfl,hv,o,rfl⟩
   obtain⟨hj,rfl⟩:=eQ hx
   rw[show(1:Int)+(j:Nat)=((j+1:Nat):Int) by lia]
   rfl'
   refine(kN (e:=j+1) hn hn2 (by lia)).mono ?_
   rintro _ M ⟨rfl,rfl⟩
   rfl'
   refine(gB hn hn2).mono ?_
   rintro _ M ⟨rfl,⟨v,hv',rfl⟩|⟨hv',rfl⟩⟩
   ·rfl'
    refine qW rfl ?_
    rfl'
    refine⟨rfl,λi h1 h2=>?_,_,rfl⟩
    by_cases e:i=j+1
    ·exact e▸⟨v,hv'⟩
    ·exact hv i h1 (by lia)
   ·rfl'
    try refine wZ rfl ?_
    rfl'
    exact⟨by simp,.inr ⟨rfl,λhr=>hv' (hr.2 (j+1) (by lia) (by lia))⟩⟩
  ·rintro _ _ ⟨rfl,hv,o,rfl⟩
   rfl'
   refine⟨by simp,.inl ⟨rfl,h,λi h1 h2=>hv i h1 ?_⟩⟩
   simp[rngD]
   lia
 ·rfl'
  exact⟨by simp,.inr ⟨rfl,λhr=>h hr.1⟩⟩
theorem uM(hn:2<=n)(hn2:n<=1000000)(hm:m<=1000):Ok (lS [.d (.int n),.d (.int m)] M) λr M'=>M'=M/\((∃w:Int,r=.d (.int w)/\0<=w/\w < n/\RootOk n w m/\∀v:Int,0<=v->v < w->¬RootOk n v m)\/(r=.d .non/\∀w:Int,0<=w->w < n->¬RootOk n w m)):=by
 unfold lS
 refine bT rfl ?_
 unfold b_5
 rfl'
 refine⟨by simp only[in62,aAW];lia,?_⟩
 refine cF (λj L M'=>M'=M/\(∀w:Int,0<=w->w < j->¬RootOk n w m)/\∃o,L=[some (.d (.int n)),some (.d (.int m)),o]) ⟨rfl,λi h1 h2=>by lia,none,rfl⟩ (λi L M _ _ t e=>by cases e) ?_ ?_
 ·rintro j d _ _ hx ⟨rfl,hv,o,rfl⟩
  obtain⟨hj,rfl⟩:=eQ hx
  rfl'
  refine(oO (w:=0+(j:Nat)) hn hn2 hm).mono ?_
  rintro _ M ⟨rfl,⟨rfl,hr⟩|⟨rfl,hr⟩⟩
  ·rfl'
   exact⟨by simp,.inl ⟨_,rfl,by lia,by lia,hr,λv v0 v1=>hv v v0 (by lia)⟩⟩
  ·rfl'
   refine⟨rfl,λi h1 h2=>?_,_,rfl⟩
   by_cases e:i=0+(j:Nat)
   ·exact e▸hr
   ·exact hv i h1 (by lia)
 ·rintro _ _ ⟨rfl,hv,o,rfl⟩
  rfl'
  refine⟨by simp,.inr ⟨rfl,λi h1 h2=>hv i h1 ?_⟩⟩
  simp[rngD]
  lia
noncomputable def Lst(n w:Int)(m:Nat):Prop:=0<=w/\w < n/\RootOk n w m/\∀v:Int,0<=v->v < w->¬RootOk n v m
theorem oA(hn:2<=n)(hn2:n<=1000000)(hm:m<=1000)(hw:∃w:Int,0<=w/\w < n/\RootOk n w m):Ok (fX [.d (.int n),.d (.int m)] M) λr M'=>M'=M/\∃w:Int,r=.d (.int w)/\Lst n w m:=by
 unfold fX
 refine bT rfl ?_
 unfold b_7
 rfl'
 refine(uM hn hn2 hm).mono ?_
 rintro _ M ⟨rfl,⟨w,rfl,w0,w1,h,l⟩|⟨rfl,h⟩⟩
 ·rfl'
  refine qW (by simp[isN]) ?_
  rfl'
  exact⟨by simp,w,rfl,w0,w1,h,l⟩
 ·obtain⟨w,w0,w1,hw⟩:=hw
  exact(h w w0 w1 hw).elim
theorem mI(hn:2<=n)(hn2:n<=1000000):Ok (cO [.d (.int n),.d (.int k)] M) λw M'=>M'=M/\((∃v,IsIv n k v/\w=.d (.int v))\/((¬∃v,IsIv n k v)/\(∃h:Int,1 < h/\h ∣ n/\h ∣ k)/\w=.d .non)):=by
 unfold cO
 refine bT rfl ?_
 unfold b_0
 rfl'
 refine(gW (QS:=λo M'=>M'=M/\∃h p q t,o=.nx [some (.d (.int n)),some (.d (.int k)),some (.d (.int h)),some (.d (.int 0)),some (.d (.int p)),some (.d (.int q)),t]/\0 < h/\h<=n/\Cg n (p*k) h/\h ∣ n/\h ∣ k)
  (I:=λm L M'=>M'=M/\∃(h l p q:Int) (t:Option W),L=[some (.d (.int n)),some (.d (.int k)),some (.d (.int h)),some (.d (.int l)),some (.d (.int p)),some (.d (.int q)),t]/\m=l.toNat/\0 < h/\h<=n/\0<=l/\l<=n/\Cg n (p*k) h/\Cg n (q*k) l/\∀c:Int,c ∣ h->c ∣ l->c ∣ n/\c ∣ k) ?_ NW (k % n).toNat _ _
  ⟨rfl,n,k % n,0,1,none,rfl,rfl,by lia,by lia,aAN _ (by lia),Int.le_of_lt (aAI _ (by lia)),⟨-1,by grind⟩,?_,?_⟩ ?_).mono ?_
 ·rintro m L _ ⟨rfl,h,l,p,q,t,rfl,rfl,h0,h1,l0,l1,c1,c2,hd⟩
  rfl'
  refine⟨λhl=>?_,λhl=>?_⟩
  ·have hl:0 < l:=by simpa using hl
   have e:h - h / l*l=h % l:=by rw[Int.emod_def,aCS]
   have ht0:0<=h / l:=Int.ediv_nonneg (by lia) (by lia)
   have ht1:h / l<=h:=Int.ediv_le_self _ (by lia)
   rfl'
   rw[e]
   have em1:=aAN h (by lia:l≠0)
   have em2:=aAI h hl
   refine⟨(h % l).toNat,by lia,rfl,l,h % l,q,p - h / l*q,_,rfl,rfl,hl,by lia,em1,by lia,c2,?_,?_⟩
   ·rw[<- e]
    exact(Cg.of_eq (by grind)).trans (Cg.sub c1 (Cg.mul (Cg.rfl (a:=h / l)) c2))
   ·intro c g1 g2
    refine hd c ?_ g1
    have:=aEY g2 (aCX g1 (Int.dvd_mul_left (h / l) l))
    rwa[<- e,show h - h / l*l+h / l*l=h by lia]at this
  ·have hl:l=0:=by simp at hl;lia
   subst hl
   have:=hd h (Int.dvd_refl h) (Int.dvd_zero h)
   exact⟨rfl,h,p,q,t,rfl,h0,h1,c1,this.1,this.2⟩
 ·exact(Cg.of_eq (by grind)).trans (Cg.mod (a:=k)).symm
 ·intro c g1 g2
  refine⟨g1,?_⟩
  have:=aEY g2 (aCX g1 (aGK n (k / n)))
  rwa[aFF]at this
 ·rw[tI];have:=aAI k (by lia:0 < n);lia
 ·rintro _ _ ⟨rfl,h,p,q,t,rfl,h0,h1,c1,d1,d2⟩
  have pn:=aAN p (by lia:n≠0)
  have pl:=aAI p (by lia:0 < n)
  rfl'
  refine sC (λhh=>?_) (λhh=>?_)
  ·subst hh
   rfl'
   refine⟨by simp,.inl ⟨p % n,⟨pn,pl,?_⟩,rfl⟩⟩
   exact Cg.emod ((Cg.mul Cg.rfl Cg.mod).trans ((Cg.of_eq (aCS _ _)).trans c1))
  ·rfl'
   refine⟨by simp,.inr ⟨?_,⟨h,by lia,d1,d2⟩,rfl⟩⟩
   rintro⟨v,v0,v1,e⟩
   obtain⟨z,hz⟩:=Cg.of e
   have:h ∣ 1:=by
    have g1:h ∣ k*v:=aCH d2
    rw[hz]at g1
    exact(Int.dvd_add_left (aCH d1)).mp g1
   have:=aGI (by lia) this
   lia
theorem Cg.pow{n a b:Int}(h:Cg n a b):∀j:Nat,Cg n (a ^ j) (b ^ j)
 |0=>Cg.of_eq (by simp)
 |j+1=>by rw[aBV,aBV];exact Cg.mul (Cg.pow h j) h
theorem sQ(hn:2<=n):(1:Int) % n=1:=aBZ (by lia) (by lia)
theorem RootOk.one(hn:2<=n)(h:RootOk n w m):Cg n (w ^ m) 1:=Cg.of (by rw[h.1,sQ hn])
theorem qK(w:Int)(a b:Nat):(w ^ a) ^ b=w ^ (a*b):=by
 induction b with
 |zero=>simp
 |succ b ih=>rw[aBV,ih,Nat.mul_succ,Int.pow_add]
theorem RootOk.mod(hn:2<=n)(h:RootOk n w m)(k:Nat):Cg n (w ^ k) (w ^ (k % m)):=by
 have e:w ^ k=(w ^ m) ^ (k / m)*w ^ (k % m):=by rw[qK,<- Int.pow_add,Nat.div_add_mod]
 rw[e]
 have h1:=Cg.pow (h.one hn) (k / m)
 rw[Int.one_pow]at h1
 exact(Cg.mul h1 Cg.rfl).trans (Cg.of_eq (by lia))
noncomputable def Unt(n a:Int):Prop:=∃v,Cg n (a*v) 1
theorem Unt.of{n a:Int}(h:∃v,IsIv n a v):Unt n a:=let⟨v,_,_,e⟩:=h;⟨v,Cg.of e⟩
variable{a:Int}
theorem Unt.congr{b:Int}(h:Unt n a)(g:Cg n b a):Unt n b:=let⟨v,e⟩:=h;⟨v,(Cg.mul g Cg.rfl).trans e⟩
theorem Unt.zero{x:Int}(h:Unt n a)(g:Cg n (a*x) 0):Cg n x 0:=by
 obtain⟨v,e⟩:=h
 have h1:Cg n x (a*v*x):=((Cg.mul e Cg.rfl).trans (Cg.of_eq (Int.one_mul x))).symm
 exact h1.trans ((Cg.of_eq (by grind)).trans ((Cg.mul (Cg.rfl (a:=v)) g).trans (Cg.of_eq (by simp))))
variable{k:Nat}
theorem RootOk.unt(hn:2<=n)(h:RootOk n w m)(hk:k % m≠0)(hm:0 < m):Unt n (w ^ k - 1):=by
 have hl:=Nat.mod_lt k hm
 refine(Unt.of (h.2 (k % m) (by lia) hl)).congr ?_
 exact Cg.sub ((h.mod hn k).trans Cg.mod.symm) Cg.rfl
theorem RootOk.un{x:Int}(hn:2<=n)(h:RootOk n (x % n) m)(a:1<=i)(b:i < m):Unt n (x ^ i - 1) :=
 (Unt.of (h.2 i a b)).congr (Cg.sub ((Cg.pow Cg.mod i).symm.trans Cg.mod.symm) Cg.rfl)
noncomputable section
def geo(x:Int):Nat->Int
 |0=>0
 |j+1=>geo x j+x ^ (j+1)
theorem frob{p:Nat}(hp:p=2\/p=3\/p=5\/p=7\/p=11)(x:Int):Cg p ((x - 1) ^ p) (x ^ p - 1):=by
 rcases hp with rfl|rfl|rfl|rfl|rfl
 ·exact⟨1 - x,by grind⟩
 ·exact⟨x - x ^ 2,by grind⟩
 ·exact⟨-x ^ 4+2*x ^ 3 - 2*x ^ 2+x,by grind⟩
 ·exact⟨-x ^ 6+3*x ^ 5 - 5*x ^ 4+5*x ^ 3 - 3*x ^ 2+x,by grind⟩
 ·exact⟨-x ^ 10+5*x ^ 9 - 15*x ^ 8+30*x ^ 7 - 42*x ^ 6+42*x ^ 5 - 30*x ^ 4+15*x ^ 3 - 5*x ^ 2+x,by grind⟩
theorem Cg.dvd{p b:Int}(h:Cg n a b)(d:p ∣ n):Cg p a b:=by
 obtain⟨k,rfl⟩:=h
 obtain⟨q,rfl⟩:=d
 exact⟨q*k,by grind⟩
theorem rK{h:Int}(hn:2<=n)(hr:RootOk n w m)(m1:1<=m)(m2:m<=12)(h1:1 < h)(d1:h ∣ n)(d2:h ∣ (m:Int)):False:=by
 have hle:h<=12:=Int.le_trans (aGI (by lia) d2) (by lia)
 obtain⟨p,hp,d3⟩:∃p:Nat,(p=2\/p=3\/p=5\/p=7\/p=11)/\(p:Int) ∣ h:=by
  rcases(by lia:h=2\/h=3\/h=4\/h=5\/h=6\/h=7\/h=8\/h=9\/h=10\/h=11\/h=12)with rfl|rfl|rfl|rfl|rfl|rfl|rfl|rfl|rfl|rfl|rfl <;>
   first|exact⟨2,by simp,by decide⟩|exact⟨3,by simp,by decide⟩|exact⟨5,by simp,by decide⟩|exact⟨7,by simp,by decide⟩|exact⟨11,by simp,by decide⟩
 have dn:(p:Int) ∣ n:=aCX d3 d1
 have dm:p ∣ m:=by have:=aCX d3 d2;exact Int.natCast_dvd_natCast.mp this
 obtain⟨q,hq⟩:=dm
 have p2:2<=p:=by lia
 have q0:0 < q:=Nat.pos_of_ne_zero (by rintro rfl;simp at hq;lia)
 have qm:q < m:=by rw[hq];have:=Nat.mul_le_mul_right q p2;lia
 obtain⟨v,e⟩:=hr.unt hn (k:=q) (by rw[Nat.mod_eq_of_lt qm];lia) (by lia)
 have e:=Cg.dvd e dn
 have one:=Cg.dvd (hr.one hn) dn
 rw[hq,aEI,<- qK]at one
 have f:=frob hp (w ^ q)
 have z:Cg p ((w ^ q - 1) ^ p) 0:=f.trans ((Cg.sub one Cg.rfl).trans (Cg.of_eq (by lia)))
 have e2:=Cg.pow e p
 rw[Int.one_pow]at e2
 have e3:((w ^ q - 1)*v) ^ p=(w ^ q - 1) ^ p*v ^ p:=Int.mul_pow ..
 rw[e3]at e2
 have:=(e2.symm.trans ((Cg.mul z Cg.rfl).trans (Cg.of_eq (Int.zero_mul _)))).emod
 have pp:(2:Int)<=p:=by lia
 rw[sQ pp,Int.zero_emod]at this
 lia
theorem yZ(hn:2<=n)(hn2:n<=1000000)(h:RootOk n w m)(m1:1<=m)(m2:m<=12):∃u,IsIv n (m:Int) u:=by
 obtain⟨_,_,_,_,⟨v,hv,_⟩|⟨_,⟨g,g1,gn,gm⟩,_⟩⟩:=lH.mp (mI (n:=n) (k:=m) (M:=[]) hn hn2)
 ·exact⟨v,hv⟩
 ·exact(rK hn h m1 m2 g1 gn gm).elim
def rt2:List (Int×Int×List Int):=[(3,2,[1]),(5,4,[2]),(9,8,[4]),(15,14,[7]),(49,48,[24]),(105,104,[52]),(999,998,[499])]
def rt3:List (Int×Int×List Int):=[(7,2,[1,5]),(13,3,[7,5]),(19,7,[16,2]),(31,5,[8,22]),(49,18,[26,22]),(91,9,[57,33]),(133,11,[40,92])]
def rt4:List (Int×Int×List Int):=[(5,2,[1,2,3]),(13,5,[10,6,2]),(17,4,[6,8,10]),(25,7,[21,12,3]),(65,8,[28,32,36]),(85,13,[78,42,6])]
def rt5:List (Int×Int×List Int):=[(11,3,[6,7,3,4]),(31,2,[1,21,9,29]),(41,10,[32,29,11,8]),(121,3,[61,106,14,59]),(341,4,[114,91,249,226])]
def rt6:List (Int×Int×List Int):=[(7,3,[4,1,3,5,2]),(13,4,[9,7,6,5,3]),(19,8,[11,16,9,2,7]),(43,7,[36,26,21,16,6]),(49,19,[30,26,24,22,18]),(91,10,[81,57,45,33,9])]
def ck(m:Nat)(t:Int×Int×List Int):Bool:=decide (2<=t.1/\t.1<=1000/\0<=t.2.1/\t.2.1 < t.1/\t.2.1 ^ m % t.1=1)&&(List.range (m - 1)).all λi=>decide (0<=t.2.2.getD i 0/\t.2.2.getD i 0 < t.1/\((t.2.1 ^ (i+1) % t.1 - 1)*t.2.2.getD i 0) % t.1=1 % t.1)
def Has(m:Nat)(n:Int):Prop:=2<=n/\n<=1000/\∃w:Int,0<=w/\w < n/\RootOk n w m
end
theorem aDc{t:Int×Int×List Int}(h:ck m t=true):Has m t.1:=by
 unfold ck at h
 rw[aCE]at h
 obtain⟨a,b⟩:=h
 obtain⟨a1,a2,a3,a4,a5⟩:=aET a
 refine⟨a1,a2,t.2.1,a3,a4,a5,λi i1 i2=>?_⟩
 have:=aDZ.mp b (i - 1) (List.mem_range.mpr (by lia))
 obtain⟨b1,b2,b3⟩:=aET this
 rw[show i - 1+1=i by lia]at b3
 exact⟨_,b1,b2,b3⟩
theorem jC{l:List (Int×Int×List Int)}(h:l.all (ck m)=true):∀z∈l.map (·.1),Has m z:=by
 intro z hz
 obtain⟨t,ht,rfl⟩:=aBX.mp hz
 exact aDc (aDZ.mp h t ht)
theorem aDn{l:List Int}(h:i < l.length):l.getD i 0∈l:=by
 simp[h]
theorem qR(hb:Bx M b)(k1:2<=m)(k2:m<=6):Ok (fF [.ref b,.d (.int m)] M) λw M'=>∃n:Int,w=.d (.int n)/\Has m n/\Nx b M M':=by
 unfold fF
 refine bT rfl ?_
 unfold b_14
 have n:=Nx.refl hb
 rfl'
 refine yI rfl rfl (by simp) ?_
 obtain⟨xs,x0,x1,hx,ea⟩:∃xs:List Int,0 < xs.length/\xs.length < 10/\(∀z∈xs,Has m z)/\atI ([D.lst ([2,6,10,97,64].map D.int),D.lst ([3,5,9,15,49,105,999].map D.int),D.lst ([7,13,19,31,49,91,133].map D.int),D.lst ([5,13,17,25,65,85].map D.int)]++[D.lst ([11,31,41,121,341].map D.int),D.lst ([7,13,19,43,49,91].map D.int)]) ((m:Int) - 1)=some (.lst (xs.map D.int)):=by
  obtain rfl|rfl|rfl|rfl|rfl:m=2\/m=3\/m=4\/m=5\/m=6:=by lia
  ·exact⟨rt2.map (·.1),by decide,by decide,jC (by decide +kernel),rfl⟩
  ·exact⟨rt3.map (·.1),by decide,by decide,jC (by decide +kernel),rfl⟩
  ·exact⟨rt4.map (·.1),by decide,by decide,jC (by decide +kernel),rfl⟩
  ·exact⟨rt5.map (·.1),by decide,by decide,jC (by decide +kernel),rfl⟩
  ·exact⟨rt6.map (·.1),by decide,by decide,jC (by decide +kernel),rfl⟩
 rfl'
 refine dM ea ?_
 rfl'
 refine dM ea ?_
 rfl'
 refine(aV hb (by simp;lia) (by simp;lia)).mono ?_
 rintro _ _ ⟨d1,rfl,l_d1,u_d1,n'⟩
 replace n:=n.trans n'
 clear n' hb
 obtain⟨i,rfl⟩:∃i:Nat,d1=i:=⟨d1.toNat,by lia⟩
 have hi:i < xs.length:=by simp at u_d1 ⊢;lia
 refine dM (dP (cs:=xs) hi) ?_
 rfl'
 exact⟨hx _ (aDn hi),by rw[n.take];exact n⟩
theorem jW(hb:Bx M b)(h0:k<=9):Ok (eD [.ref b,.d (.int k),.d (.int 9)] M) λw M'=>∃ps:List Nat,w=.d (.lst (ps.map λi:Nat=>D.int i))/\ps.length=k/\ps.Nodup/\(∀p∈ps,p < 9)/\Nx b M M':=by
 unfold eD
 refine bT rfl ?_
 unfold b_15
 rfl'
 refine aAk (by lia) (by lia) ?_
 rfl'
 refine⟨by simp only[in62,aAW];lia,?_⟩
 refine cF (λi L M'=>∃(Mi:Mm) (lf ns:List Int),M'=Mi++[lf.map D.int,ns.map D.int]/\Nx b M Mi/\Bx Mi b/\(lf.length:Int)=9 - i/\ns.length=i/\(ns++lf).Nodup/\(∀x∈ns++lf,0<=x/\x < 9)/\∃a,L=[some (.ref b),some (.d (.int k)),some (.d (.int 9)),some (.ref M.length),some (.ref (M.length+1)),a]) ⟨M,[0,1,2,3,4,5,6,7,8],[],?_,Nx.refl hb,hb,by decide,rfl,by decide,by decide,none,?_⟩ (λi L M _ _ t e=>by cases e) ?_ ?_
 ·simp;rfl
 ·simp
 ·rintro i d _ _ hx ⟨Mi,lf,ns,rfl,n,hb',hlf,hl,nd,rg,a,rfl⟩
  obtain⟨hi,rfl⟩:=eQ hx
  have e1:M.length=Mi.length:=n.len.symm
  rfl'
  refine tU (xs:=lf.map D.int) (by rw[e1];simp) ?_
  rfl'
  refine(aV (hb'.app (J:=[lf.map D.int,ns.map D.int])) (by simp;lia) (by simp;lia)).mono ?_
  rintro _ _ ⟨d2,rfl,l2,u2,n'⟩
  obtain⟨M2,rfl,n2⟩:=n'.unapp hb'.lt
  have e2:M.length=M2.length:=by rw[n2.len,e1]
  have u2':d2.toNat < lf.length:=by simp at u2;lia
  refine vS (xs:=lf.map D.int) (d:=.int lf[d2.toNat]) (by rw[e2];simp) l2 u2 (by simp;lia) (by simp[u2']) ?_
  have hp:List.Perm ((ns++[lf[d2.toNat]])++lf.eraseIdx d2.toNat) (ns++lf):=by
   rw[List.append_assoc]
   refine List.Perm.append_left ns ?_
   exact sN lf _ u2'
  refine fE (xs:=ns.map D.int) (by rw[e2];simp) (by simp;lia) ?_
  rfl'
  refine⟨M2,lf.eraseIdx d2.toNat,ns++[lf[d2.toNat]],?_,n.trans n2,n2.bx hb',?_,by simp[hl],(hp.nodup_iff).mpr nd,λx hx=>rg x (hp.mem_iff.mp hx),_,rfl⟩
  ·rw[e2];simp[uW]
  ·rw[List.length_eraseIdx_of_lt u2'];lia
 ·rintro _ _ ⟨Mi,lf,ns,rfl,n,hb',hlf,hl,nd,rg,a,rfl⟩
  simp only[rngD,aAL,aBY,aDS]at hl
  obtain⟨ps,rfl⟩:=natsOf (xs:=ns) λx hx=>(rg x (by simp[hx])).1
  have e1:M.length=Mi.length:=n.len.symm
  rfl'
  refine zE (xs:=(ps.map λk:Nat=>(k:Int)).map D.int) (by lia) (by rw[e1];simp) ?_
  rw[show List.take M.length (Mi++[lf.map D.int,(ps.map λk:Nat=>(k:Int)).map D.int])=Mi by rw[e1];simp]
  refine⟨ps,by rw[qL],by simpa using hl,?_,?_,n⟩
  ·have:=(aES.mp nd).1
   exact(aEU.mp this).imp λh e=>h (by rw[e])
  ·intro p hp
   have:=(rg p (by simp;exact .inl ⟨p,hp,rfl⟩)).2
   lia
theorem flt2{sh:Nat}:∀{ps:List Nat},ps.length=3->ps.Nodup->(∀p∈ps,p < 9)->∃x y r,ps.filter (λk=>!decide (k=sh))=x::y::r/\x≠y/\x≠sh/\y≠sh/\x < 9/\y < 9
 |[a,b,c],_,nd,h=>by
  have ha:=h a (by simp)
  have hb:=h b (by simp)
  have hc:=h c (by simp)
  simp only[aCU,aBE,aDI,or_false,not_or]at nd
  by_cases e1:a=sh
  ·subst e1
   exact⟨b,c,[],by have h1:=Ne.symm nd.1.1;have h2:=Ne.symm nd.1.2;simp[aDX,h1,h2],nd.2.1,λh=>nd.1.1 h.symm,λh=>nd.1.2 h.symm,hb,hc⟩
  ·by_cases e2:b=sh
   ·subst e2
    exact⟨a,c,[],by have:=nd.2.1;simp[aDX,e1,Ne.symm this],nd.1.2,e1,λh=>nd.2.1 h.symm,ha,hc⟩
   ·exact⟨a,b,_,by simp[aDX,e1,e2];rfl,nd.1.1,e1,e2,ha,hb⟩
structure Br where
 s:Nat
 b:Nat
 c:Nat
 e:E
noncomputable def Br.row(n:Int)(t:Br):List Dd:=rowAl n t.e t.s t.b t.c
noncomputable def Br.pr(n:Int)(t:Br):Nat×List Dd:=(t.s,t.row n)
structure Br.Ok(t:Br):Prop where
 s9:t.s < 9
 b9:t.b < 9
 c9:t.c < 9
 sb:t.s≠t.b
 sc:t.s≠t.c
 bc:t.b≠t.c
 wf:wf 8 t.e
 dp:dp t.e<=3
 ops:ops t.e<=3
noncomputable def neI(k:Nat):D->Bool
 |.int i=>!decide (i=(k:Int))
 |_=>true
noncomputable def eb(p:Nat×List Dd):D:=.tup [.int p.1,.tup (p.2.map encD)]
theorem mJ(hb:Bx M b)(hn:2<=n)(hn2:n<=1000000)(h0:k<=3):Ok (dR [.ref b,.d (.int n),.d (.int k)] M) λw M'=>∃ts:List Br,w=.d (.tup [.tup (ts.map λt=>eb (t.pr n)),.lst (ts.map λt=>enc t.e)])/\ts.length=k/\(ts.map (·.s)).Nodup/\(∀t∈ts,t.Ok)/\Nx b M M':=by
 unfold dR
 refine bT rfl ?_
 unfold b_16
 rfl'
 rw[show M++[[]]++[[]]=M++[[],[]] by simp]
 refine(jW (hb.app (J:=[[],[]])) (by lia)).mono ?_
 rintro _ _ ⟨ps,rfl,pl,pn,p9,n'⟩
 obtain⟨M0,rfl,n0⟩:=n'.unapp hb.lt
 replace hb:=n0.bx hb
 clear n'
 refine⟨_,rfl,?_⟩
 refine cF (λi L M'=>∃(Mi:Mm) (ts:List Br),M'=Mi++[ts.map λt=>eb (t.pr n),ts.map λt=>enc t.e]/\Nx b M Mi/\Bx Mi b/\ts.map (·.s)=ps.take i/\(∀t∈ts,t.Ok)/\ts.length<=3/\∃a5 a6 a7,L=[some (.ref b),some (.d (.int n)),some (.d (.int k)),some (.ref M.length),some (.ref (M.length+1)),a5,a6,a7]) ⟨M0,[],rfl,n0,hb,rfl,by simp,by simp,none,none,none,by simp⟩ (λi L M _ _ t e=>by cases e) ?_ ?_
 ·rintro i d _ _ hx ⟨Mi,ts,rfl,n1,hb1,hs,ok,hl,a5,a6,a7,rfl⟩
  simp only[aAO,aAM]at hx
  obtain⟨sh,hsh,rfl⟩:=hx
  have hi:=(aAC.mp hsh).1
  have sh9:=p9 sh (aAU hsh)
  have hl':ts.length=i:=by have:=congrArg List.length hs;simp at this;lia
  have e1:M.length=Mi.length:=n1.len.symm
  obtain⟨J,eJ⟩:∃J:Mm,J=[ts.map λt=>eb (t.pr n),ts.map λt=>enc t.e]:=⟨_,rfl⟩
  rw[<- eJ]
  rfl'
  refine qB ?_
  rfl'
  refine(jW (hb1.app (J:=J)) (k:=3) (by lia)).mono ?_
  rintro _ _ ⟨qs,rfl,ql,qn,q9,n'⟩
  obtain⟨M2,rfl,n2⟩:=n'.unapp hb1.lt
  clear n'
  replace n1:=n1.trans n2
  replace hb1:=n2.bx hb1
  clear n2
  refine⟨_,rfl,neI sh,id,by simp;lia,(λt e=>by cases e),?_,?_,?_⟩
  ·intro d hd acc
   obtain⟨x,hx,rfl⟩:=aBX.mp hd
   rfl'
   exact⟨rfl,rfl⟩
  ·intro d hd _ acc
   rfl'
   exact⟨rfl,rfl⟩
  obtain⟨x,y,r,ef,xy,xs,ys,x9,y9⟩:=flt2 (sh:=sh) ql qn q9
  have ef':((qs.map λi:Nat=>D.int i).filter (neI sh)).map id=.int x::.int y::r.map λi:Nat=>D.int i:=by
   rw[List.map_id,List.filter_map]
   show _=List.map (λi:Nat=>D.int i) (x::y::r)
   rw[<- ef]
   congr 1
   refine List.filter_congr λz _=>?_
   simp only[neI,Function.comp]
   congr 1
   exact decide_eq_decide.mpr ⟨λh=>by lia,λh=>by lia⟩
  have ix0:atI (.int x::.int y::r.map λi:Nat=>D.int i) 0=some (.int x):=by
   have:=dP (cs:=(x:Int)::(y:Int)::r.map λi:Nat=>(i:Int)) (i:=0) (by simp)
   simpa[aDA]using this
  have ix1:atI (.int x::.int y::r.map λi:Nat=>D.int i) 1=some (.int y):=by
   have:=dP (cs:=(x:Int)::(y:Int)::r.map λi:Nat=>(i:Int)) (i:=1) (by simp)
   simpa[aDA]using this
  rw[ef']
  rfl'
  refine(aV (hb1.app (J:=J)) (by lia) (by lia)).mono ?_
  rintro _ _ ⟨d1,rfl,l1,u1,n'⟩
  obtain⟨M3,rfl,n2⟩:=n'.unapp hb1.lt
  clear n'
  replace n1:=n1.trans n2
  replace hb1:=n2.bx hb1
  clear n2
  rfl'
  refine(uV (G:=8) (by lia) 3 50 _ _ _ _ (hb1.app (J:=J)) (by lia) rfl (by lia)).mono ?_
  rintro _ _ ⟨e,rfl,⟨dp3,op⟩,hwf,n'⟩
  obtain⟨M4,rfl,n2⟩:=n'.unapp hb1.lt
  clear n'
  replace n1:=n1.trans n2
  replace hb1:=n2.bx hb1
  clear n2
  have op3:ops e<=3:=by lia
  have e4:M.length=M4.length:=n1.len.symm
  subst eJ
  rfl'
  refine fE (xs:=ts.map λt=>enc t.e) (by rw[e4];simp) (by simp;lia) ?_
  rfl'
  refine dM ix0 ?_
  rfl'
  refine dM ix1 ?_
  rfl'
  refine(jR (G:=8) (S:=9) hn hn2 hwf sh9 x9 y9 (Ne.symm xs) (Ne.symm ys) xy (by have:many e<=65536:=vP (by lia);lia) 50 (by lia) (by lia) _).mono ?_
  rintro _ _ ⟨rfl,rfl⟩
  rfl'
  refine fE (xs:=ts.map λt=>eb (t.pr n)) (by rw[e4];simp) (by simp;lia) ?_
  rfl'
  refine⟨M4,ts++[⟨sh,x,y,e⟩],?_,n1,hb1,?_,?_,?_,_,_,_,rfl⟩
  ·rw[e4];simp[eb,Br.pr,Br.row]
  ·rw[aAX,hsh,<- hs];simp
  ·intro t ht
   rcases aCA.mp ht with ht|ht
   ·exact ok t ht
   ·rw[aBC.mp ht]
    exact⟨sh9,x9,y9,Ne.symm xs,Ne.symm ys,xy,hwf,dp3,op3⟩
  ·simp;lia
 ·rintro _ _ ⟨Mi,ts,rfl,n1,hb1,hs,ok,hl,a5,a6,a7,rfl⟩
  have e1:M.length=Mi.length:=n1.len.symm
  rw[show List.take (List.length (ps.map λi:Nat=>D.int i)) ps=ps by simp]at hs
  rfl'
  refine fK (xs:=ts.map λt=>eb (t.pr n)) (by rw[e1];simp[sv,lr,lv]) ?_
  rfl'
  refine yT ?_
  refine yE (ds:=ts.map λt=>enc t.e) (by lia) (by rw[e1];simp) ?_
  rw[show List.take M.length (Mi++[ts.map λt=>eb (t.pr n),ts.map λt=>enc t.e])=Mi by rw[e1];simp]
  refine⟨ts,rfl,?_,by rw[hs];exact pn,ok,n1⟩
  have:=congrArg List.length hs
  simpa[pl]using this
structure Ad where
 s:Nat
 c:Int
 g:List Nat
 t:List Nat
noncomputable def Ad.dd(a:Ad):Dd:=.add a.s a.c a.g a.t
structure Ad.Ok(n:Int)(m:Nat)(P:List Nat)(a:Ad):Prop where
 s9:a.s < 9
 sP:a.s∉P
 c0:0<=a.c
 cn:a.c < n
 g8:∀i∈a.g,i < 8
 gl:a.g.length<=4
 tP:∀i∈a.t,i∈P
 tl:a.t.length < m
 t4:a.t.length<=4
variable{P:List Nat}
theorem ixN(h:k < P.length):atI (P.map λi:Nat=>D.int i) (k:Int)=some (.int (P.getD k 0:Nat)):=by
 have:=dP (cs:=P.map λi:Nat=>(i:Int)) (i:=k) (by simpa using h)
 simpa[aDA,h]using this
noncomputable section
def ninI(P:List Nat):D->Bool
 |.int i=>!(P.any λk=>decide ((k:Int)=i))
 |_=>true
theorem oth(h:P.length<=3):0 < ((List.range 9).filter λk=>!decide (k∈P)).length:=by
 obtain⟨k,k9,kP⟩:∃k,k < 4/\k∉P:=by
  match P,h with
  |[],_=>exact⟨0,by simp⟩
  |[a],_=>exact⟨if a=0 then 1 else 0,by split <;> simp <;> lia⟩
  |[a,b],_ =>
   by_cases h0:a=0\/b=0
   ·by_cases h1:a=1\/b=1
    ·exact⟨2,by simp;lia⟩
    ·exact⟨1,by simp;lia⟩
   ·exact⟨0,by simp;lia⟩
  |[a,b,c],_ =>
   by_cases h0:a=0\/b=0\/c=0
   ·by_cases h1:a=1\/b=1\/c=1
    ·by_cases h2:a=2\/b=2\/c=2
     ·exact⟨3,by simp;lia⟩
     ·exact⟨2,by simp;lia⟩
    ·exact⟨1,by simp;lia⟩
   ·exact⟨0,by simp;lia⟩
 exact List.length_pos_of_mem (a:=k) (by simp;exact⟨by lia,kP⟩)
theorem sB(hb:Bx M b)(hn:2<=n)(hn2:n<=1000000)(m2:2<=m)(m6:m<=6)(p1:1<=P.length)(p3:P.length<=3):Ok (fW [.ref b,.d (.int n),.d (.int m),.d (.lst (P.map λi:Nat=>D.int i))] M) λw M'=>∃as:List Ad,w=.d (.tup (as.map λa=>encD a.dd))/\as.length<=4/\(∀a∈as,a.Ok n m P)/\Nx b M M':=by
 unfold fW
 refine bT rfl ?_
 unfold b_17
 rfl'
 refine qB ?_
 rfl'
 refine⟨by decide,(ninI P),id,by decide,(λt e=>by cases e),?_,?_,?_⟩
 ·intro d hd acc
  obtain⟨k,_,rfl⟩:∃k:Nat,k < 9/\d=.int k:=by
   obtain⟨j,hj⟩:=List.mem_iff_getElem?.mp hd
   obtain⟨h1,h2⟩:=eQ hj
   exact⟨j,by simpa using h1,by rw[h2];simp⟩
  rfl'
  refine aEz (xs:=P.map λi:Nat=>D.int i) rfl rfl (aDZ.mpr λd hd=>by obtain⟨x,_,rfl⟩:=aBX.mp hd;rfl) ?_
  rfl'
  refine⟨?_,rfl⟩
  simp only[ninI,aDF]
  congr 1
  rw[aFH]
  simp[eqD]
 ·intro d hd _ acc
  rfl'
  exact⟨rfl,rfl⟩
 obtain⟨O,eO⟩:∃O,O=(List.range 9).filter λk=>!decide (k∈P):=⟨_,rfl⟩
 have O0:0 < O.length:=by rw[eO];exact oth p3
 have O9:O.length<=9:=by rw[eO];exact aBL (List.length_filter_le _ _) (by simp)
 have hO:∀k∈O,k < 9/\k∉P:=by intro k hk;rw[eO]at hk;simpa using hk
 have ef:((rngD 0 (Int.toNat 9)).filter (ninI P)).map id=O.map λi:Nat=>D.int i:=by
  rw[List.map_id,eO]
  have:rngD 0 (Int.toNat 9)=(List.range 9).map λi:Nat=>D.int i:=rfl
  rw[this,List.filter_map]
  congr 1
  refine List.filter_congr λz _=>?_
  simp only[ninI,Function.comp]
  congr 1
  rw[aFH]
  simp only[List.any_eq_true,aAW]
  exact⟨λ⟨x,hx,e⟩=>by rw[show z=x by lia];exact hx,λh=>⟨z,h,rfl⟩⟩
 rw[ef]
 clear ef eO
 rfl'
 refine(aV (hb.app (J:=[[]])) (by lia) (by lia)).mono ?_
 rintro _ _ ⟨d0,rfl,l0,u0,n'⟩
 obtain⟨M0,rfl,n0⟩:=n'.unapp hb.lt
 replace hb:=n0.bx hb
 clear n'
 rfl'
 refine⟨by simp only[in62,aAW];lia,?_⟩
 refine cF (λi L M'=>∃(Mi:Mm) (as:List Ad),M'=Mi++[as.map λa=>encD a.dd]/\Nx b M Mi/\Bx Mi b/\as.length=i/\(∀a∈as,a.Ok n m P)/\∃a6 a7 a8 a9 a10,L=[some (.ref b),some (.d (.int n)),some (.d (.int m)),some (.d (.lst (P.map λi:Nat=>D.int i))),some (.ref M.length),some (.d (.lst (O.map λi:Nat=>D.int i))),a6,a7,a8,a9,a10]) ⟨M0,[],rfl,n0,hb,rfl,by simp,none,none,none,none,none,by simp⟩ (λi L M _ _ t e=>by cases e) ?_ ?_
 ·rintro i d _ _ hx ⟨Mi,as,rfl,n1,hb1,hl,ok,a6,a7,a8,a9,a10,rfl⟩
  obtain⟨hi,rfl⟩:=eQ hx
  obtain⟨fd,efd⟩:∃fd,fd=as.map λa=>encD a.dd:=⟨_,rfl⟩
  rw[<- efd]
  rfl'
  refine dY (λj acc L' M'=>∃(M2:Mm) (ns:List Nat),M'=M2++[fd]/\Nx b M M2/\Bx M2 b/\acc=ns.map (λi:Nat=>D.int i)/\ns.length=j/\(∀i∈ns,i < 8)/\∃a,L'=[a,some (.ref b)]) ?_
  rfl'
  refine(aV (hb1.app (J:=[fd])) (by lia) (by lia)).mono ?_
  rintro _ _ ⟨d1,rfl,l1,u1,n'⟩
  obtain⟨M1,rfl,n2⟩:=n'.unapp hb1.lt
  replace n1:=n1.trans n2
  replace hb1:=n2.bx hb1
  clear n' n2
  rfl'
  refine⟨by simp only[in62,aAW];lia,⟨M1,[],rfl,n1,hb1,rfl,rfl,by simp,none,by simp[outL]⟩,?_,by simp only[rngD,aAL,aBY];lia,?_,?_⟩
  ·rintro j acc L' M' hj ⟨M2,ns,rfl,n2,_,rfl,hns,_⟩
   exact⟨by simp[n2.len,n1.len],(λt e=>by cases e),by simp[hns]⟩
  ·rintro j d acc _ _ hx ⟨M2,ns,rfl,n2,hb2,rfl,hns,h8,a,rfl⟩
   rfl'
   rw[show M2++[fd]++[ns.map λi:Nat=>D.int i]=M2++[fd,ns.map λi:Nat=>D.int i] by simp]
   refine(aV (hb2.app (J:=[fd,ns.map λi:Nat=>D.int i])) (by lia) (by lia)).mono ?_
   rintro _ _ ⟨d2,rfl,l2,u2,n'⟩
   obtain⟨M3,rfl,n3⟩:=n'.unapp hb2.lt
   obtain⟨k,rfl⟩:∃k:Nat,d2=k:=⟨d2.toNat,by lia⟩
   refine⟨_,M3++[fd],rfl,by simp,M3,ns++[k],rfl,n2.trans n3,n3.bx hb2,by simp,by simp[hns],?_,_,rfl⟩
   intro i hi
   rcases aCA.mp hi with hi|hi
   ·exact h8 i hi
   ·rw[aBC.mp hi];lia
  clear n1 hb1
  rintro acc _ _ ⟨M2,gs,rfl,n1,hb1,rfl,hgs,g8,a,rfl⟩
  have gl:gs.length<=4:=by rw[hgs];simp only[rngD,aAL,aBY];lia
  rfl'
  refine mZ (ns:=gs.map λk:Nat=>(k:Int)) rfl (by simp) (by simp;lia) ?_
  obtain⟨gk,eg,gp,_⟩:=oZ gs
  rw[eg]
  rfl'
  refine fK (xs:=(gk.map λk:Nat=>(k:Int)).map D.int) rfl ?_
  rfl'
  refine(aV (hb1.app (J:=[fd])) (by lia) (by lia)).mono ?_
  rintro _ _ ⟨d2,rfl,l2,u2,n'⟩
  obtain⟨M3,rfl,n2⟩:=n'.unapp hb1.lt
  replace n1:=n1.trans n2
  replace hb1:=n2.bx hb1
  clear n' n2
  rfl'
  obtain⟨q,eq,q4,qm⟩:∃q:Nat,(if(m:Int) - 1 - d2 / 2 < 4 then(m:Int) - 1 - d2 / 2 else 4)=q/\q<=4/\q < m:=⟨(if(m:Int) - 1 - d2 / 2 < 4 then(m:Int) - 1 - d2 / 2 else 4).toNat,by split <;> lia,by split <;> lia,by split <;> lia⟩
  rw[eq]
  clear eq l2 u2
  refine dY (λj acc L' M'=>∃(M4:Mm) (ns:List Nat),M'=M4++[fd]/\Nx b M M4/\Bx M4 b/\acc=ns.map (λi:Nat=>D.int i)/\ns.length=j/\(∀i∈ns,i∈P)/\∃a,L'=[a,some (.d (.lst (P.map λi:Nat=>D.int i))),some (.ref b)]) ?_
  rfl'
  refine⟨by simp only[in62,aAW];lia,⟨M3,[],rfl,n1,hb1,rfl,rfl,by simp,none,by simp[outL]⟩,?_,by simp only[rngD,aAL,aBY];lia,?_,?_⟩
  ·rintro j acc L' M' hj ⟨M4,ns,rfl,n2,_,rfl,hns,_⟩
   exact⟨by simp[n2.len,n1.len],(λt e=>by cases e),by simp[hns]⟩
  ·rintro j d acc _ _ hx ⟨M4,ns,rfl,n2,hb2,rfl,hns,h8,a,rfl⟩
   rfl'
   rw[show M4++[fd]++[ns.map λi:Nat=>D.int i]=M4++[fd,ns.map λi:Nat=>D.int i] by simp]
   refine(aV (hb2.app (J:=[fd,ns.map λi:Nat=>D.int i])) (by simp;lia) (by simp;lia)).mono ?_
   rintro _ _ ⟨d3,rfl,l3,u3,n'⟩
   obtain⟨M5,rfl,n3⟩:=n'.unapp hb2.lt
   obtain⟨k,rfl⟩:∃k:Nat,d3=k:=⟨d3.toNat,by lia⟩
   have hk:k < P.length:=by simp at u3;lia
   refine dM (ixN hk) ?_
   refine⟨_,M5++[fd],rfl,by simp,M5,ns++[P.getD k 0],rfl,n2.trans n3,n3.bx hb2,by simp,by simp[hns],?_,_,rfl⟩
   intro i hi
   rcases aCA.mp hi with hi|hi
   ·exact h8 i hi
   ·rw[aBC.mp hi];simp[hk]
  clear n1 hb1
  rintro acc _ _ ⟨M4,ts,rfl,n1,hb1,rfl,hts,tP,a,rfl⟩
  have tl:ts.length=q:=by rw[hts];simp only[rngD,aAL,aBY];lia
  rfl'
  refine mZ (ns:=ts.map λk:Nat=>(k:Int)) rfl (by simp) (by simp;lia) ?_
  obtain⟨tk,et,tp,_⟩:=oZ ts
  rw[et]
  rfl'
  refine(aV (hb1.app (J:=[fd])) (by simp;lia) (by simp;lia)).mono ?_
  rintro _ _ ⟨d3,rfl,l3,u3,n'⟩
  obtain⟨M5,rfl,n2⟩:=n'.unapp hb1.lt
  replace n1:=n1.trans n2
  replace hb1:=n2.bx hb1
  clear n' n2
  obtain⟨k,rfl⟩:∃k:Nat,d3=k:=⟨d3.toNat,by lia⟩
  have hk:k < O.length:=by simp at u3;lia
  refine dM (ixN hk) ?_
  rfl'
  refine(mR (hb1.app (J:=[fd])) hn hn2).mono ?_
  rintro _ _ ⟨c,rfl,c0,c1,n'⟩
  obtain⟨M6,rfl,n2⟩:=n'.unapp hb1.lt
  replace n1:=n1.trans n2
  replace hb1:=n2.bx hb1
  clear n' n2
  have e6:M.length=M6.length:=n1.len.symm
  rfl'
  refine fK (xs:=(tk.map λk:Nat=>(k:Int)).map D.int) rfl ?_
  rfl'
  subst efd
  refine fE (xs:=as.map λa=>encD a.dd) (by rw[e6];simp) (by have:=(aAC.mp hx).1;simp[rngD]at this ⊢;lia) ?_
  rfl'
  have hkO:=hO (O.getD k 0) (by simp[hk])
  refine⟨M6,as++[⟨O.getD k 0,c,gk,tk⟩],?_,n1,hb1,by simp[hl],?_,_,_,_,_,_,rfl⟩
  ·rw[e6];simp[Ad.dd,encD,natsD,aDA]
  ·intro a ha
   rcases aCA.mp ha with ha|ha
   ·exact ok a ha
   ·rw[aBC.mp ha]
    exact⟨hkO.1,hkO.2,c0,c1,λi hi=>g8 i (gp.mem_iff.mp hi),by show gk.length<=4;rw[gp.length_eq];exact gl,λi hi=>tP i (tp.mem_iff.mp hi),by show tk.length < m;rw[tp.length_eq,tl];exact qm,by show tk.length<=4;rw[tp.length_eq,tl];exact q4⟩
 ·rintro _ _ ⟨Mi,as,rfl,n1,hb1,hl,ok,a6,a7,a8,a9,a10,rfl⟩
  have e1:M.length=Mi.length:=n1.len.symm
  rfl'
  refine fK (xs:=as.map λa=>encD a.dd) (by rw[e1];simp[sv,lr,lv]) ?_
  rfl'
  rw[show List.take M.length (Mi++[as.map λa=>encD a.dd])=Mi by rw[e1];simp]
  refine⟨?_,ok,n1⟩
  rw[hl];simp only[rngD,aAL,aBY];lia
def rep(R:List Dd)(m:Nat):List Dd:=(List.replicate m R).flatten
def Bs(bs:List (Nat×List Dd)):List Dd:=(bs.map (·.2)).flatten
def Ad.by(n u:Int)(a:Ad):Dd:=.add a.s (u*a.c % n) a.g a.t
def rd(n w u:Int)(as:List Ad)(bs:List (Nat×List Dd)):List Dd:=Bs bs++as.map (Ad.by n u)++bDs n (Bs bs)++bs.map λp=>.scale p.1 w
theorem lR{as:List Ad}{bs:List (Nat×List Dd)}(hn:2<=n)(hn2:n<=1000000)(hu:IsIv n m u)(hB:∀d∈Bs bs,OkD n G S d)(hz:∀i,(Bs (bs.take i)).length<=3300)(hb:bs.length<=4)(hm:m<=6)(h4:as.length<=4)(ok:∀a∈as,a.Ok n m P) :
  Ok (eS [.d (.int n),.d (.int m),.d (.int w),.d (.tup (bs.map eb)),.d (.tup (as.map λa=>encD a.dd))] M) λr M'=>r=.d (.tup ((rep (rd n w u as bs) m).map encD))/\M'=M:=by
 have hz0:(Bs bs).length<=3300:=by have:=hz bs.length;rwa[aCO]at this
 have u0:=hu.1
 have u1:=hu.2.1
 unfold eS
 refine bT rfl ?_
 unfold b_8
 rfl'
 refine(gB hn hn2).mono ?_
 rintro _ M ⟨rfl,⟨v,hv,rfl⟩|⟨h,rfl⟩⟩
 rotate_left
 ·exact(h ⟨u,hu⟩).elim
 obtain rfl:=hv.uniq hu
 rfl'
 refine cF (λi L M'=>M'=M/\∃(a b:Option W),L=[some (.d (.int n)),some (.d (.int m)),some (.d (.int w)),some (.d (.tup (bs.map eb))),some (.d (.tup (as.map λa=>encD a.dd))),some (.d (.int v)),some (.d (.tup ((Bs (bs.take i)).map encD))),a,b,none]) ⟨rfl,none,none,rfl⟩ (λi L M _ _ t e=>by cases e) ?_ ?_
 ·rintro i d _ _ hx ⟨rfl,a,b,rfl⟩
  simp only[aAO,aAM]at hx
  obtain⟨p,hp,rfl⟩:=hx
  have e1:Bs (bs.take (i+1))=Bs (bs.take i)++p.2:=by rw[aAX,hp];simp[Bs]
  have h1:=hz (i+1)
  rw[e1]at h1 ⊢
  unfold eb
  rfl'
  refine cJ (by simp at h1 ⊢;lia) ?_
  rfl'
  exact⟨rfl,_,_,by rw[<- List.map_append];rfl⟩
 ·rintro _ _ ⟨rfl,a,b,rfl⟩
  rw[show(bs.take (bs.map eb).length)=bs by simp]
  rfl'
  refine(kD hn hn2 hB (by lia)).mono ?_
  rintro _ M ⟨rfl,rfl⟩
  rfl'
  refine dY (λi acc L' M'=>acc=(as.take i).map (λa=>encD (Ad.by n v a))/\M'=M/\∃a b c d e,L'=[a,b,c,d,e,some (.d (.int n)),some (.d (.int v))]) ?_
  rfl'
  refine⟨⟨rfl,rfl,none,none,none,none,none,rfl⟩,?_,by simp;lia,?_,?_⟩
  ·rintro i acc L' M' hi ⟨rfl,rfl,_⟩
   exact⟨rfl,(λt e=>by cases e),by simp;lia⟩
  ·rintro i d acc _ M hx ⟨rfl,rfl,a,b,c,d',e,rfl⟩
   simp only[aAO,aAM]at hx
   obtain⟨x,hx,rfl⟩:=hx
   have ox:=ok x (aAU hx)
   have x0:=ox.c0
   have x1:=ox.cn
   have hv0:0<=v*x.c/\v*x.c<=1000000*1000000:=⟨aEQ u0 x0,aEP (by lia) (by lia) x0 (by lia)⟩
   simp only[Ad.dd,encD]
   rfl'
   refine⟨_,_,rfl,rfl,?_,rfl,_,_,_,_,_,rfl⟩
   rw[aAX,hx]
   simp[Ad.by,encD]
  rintro acc _ M ⟨rfl,rfl,_⟩
  rw[show(as.take (as.map λa=>encD a.dd).length)=as by simp]
  rfl'
  refine fK (xs:=as.map λa=>encD (Ad.by n v a)) rfl ?_
  rfl'
  refine cJ (by simp;lia) ?_
  rfl'
  refine cJ (by simp[bP];lia) ?_
  rfl'
  refine dY (λi acc L' M'=>acc=((bs.take i).map λp=>Dd.scale p.1 w).map encD/\M'=M/\∃a b,L'=[a,b,some (.d (.int w))]) ?_
  rfl'
  refine⟨⟨rfl,rfl,none,none,rfl⟩,?_,by simp;lia,?_,?_⟩
  ·rintro i acc L' M' hi ⟨rfl,rfl,_⟩
   exact⟨rfl,(λt e=>by cases e),by simp;lia⟩
  ·rintro i d acc _ M hx ⟨rfl,rfl,a,b,rfl⟩
   simp only[aAO,aAM]at hx
   obtain⟨p,hp,rfl⟩:=hx
   unfold eb
   rfl'
   exact⟨_,_,rfl,rfl,by rw[aAX,hp];simp[encD],rfl,_,_,rfl⟩
  rintro acc _ M ⟨rfl,rfl,_⟩
  rw[show(bs.take (bs.map eb).length)=bs by simp]
  rfl'
  refine fK (xs:=(bs.map λp=>Dd.scale p.1 w).map encD) rfl ?_
  rfl'
  refine cJ (by simp[bP];lia) ?_
  rfl'
  have er:(Bs bs).map encD++as.map (λa=>encD (Ad.by n v a))++(bDs n (Bs bs)).map encD++(bs.map λp=>Dd.scale p.1 w).map encD=(rd n w v as bs).map encD:=by simp[rd,aDA]
  rw[er]
  have hl:(rd n w v as bs).length<=6608:=by simp[rd,bP];lia
  refine zG ⟨?_,by lia,by lia⟩ ?_
  ·rw[aAL,aDS]
   exact aBL (Nat.mul_le_mul hl hm) (by lia)
  rfl'
  refine⟨?_,by simp⟩
  rw[aDS,rep,List.map_flatten,List.map_replicate]
theorem rH:∀e:E,many e+2<=3*2 ^ ops e
 |.num _=>by simp[many,ops]
 |.giv _=>by simp[many,ops]
 |.op w a b=>by
  have h1:=rH a
  have h2:=rH b
  have e5:many (.op w a b)<=2*(many a+many b):=by cases w <;> simp only[many] <;> lia
  have p1:1<=2 ^ ops a:=Nat.one_le_two_pow
  have p2:1<=2 ^ ops b:=Nat.one_le_two_pow
  have e6:2 ^ ops a+2 ^ ops b<=2 ^ ops a*2 ^ ops b+1:=by
   obtain⟨x,hx⟩:∃x,2 ^ ops a=x+1:=⟨2 ^ ops a - 1,by lia⟩
   obtain⟨y,hy⟩:∃y,2 ^ ops b=y+1:=⟨2 ^ ops b - 1,by lia⟩
   rw[hx,hy,Nat.mul_add,Nat.add_mul]
   lia
  simp only[ops]
  rw[Nat.pow_succ,Nat.pow_add]
  lia
theorem zB{e:E}(h:ops e<=3):many e<=24:=by
 have h1:=rH e
 have h2:3*2 ^ ops e<=3*2 ^ 3:=Nat.mul_le_mul_left _ (aDW (by lia) h)
 lia
def bsT(n:Int)(ts:List Br):List (Nat×List Dd):=ts.map (Br.pr n)
theorem vO{n:Int}{ts:List Br}(hn:2<=n)(h:∀t∈ts,t.Ok):∀d∈Bs (bsT n ts),OkD n 8 9 d:=by
 intro d hd
 simp only[Bs,bsT,aEJ,List.mem_flatten,aBX]at hd
 obtain⟨l,⟨t,ht,rfl⟩,hd⟩:=hd
 have o:=h t ht
 exact cM (by lia) o.wf o.s9 o.b9 o.c9 o.sb o.sc o.bc d hd
theorem xL{n:Int}:∀{ts:List Br},(∀t∈ts,t.Ok)->(Bs (bsT n ts)).length<=24*ts.length
 |[],_=>by simp[Bs,bsT]
 |t::r,h=>by
  have h1:=xL (n:=n) (ts:=r) λq hq=>h q (by simp[hq])
  have h2:((t.pr n).2).length<=24:=by
   show(rowAl n t.e t.s t.b t.c).length<=24
   rw[aX]
   exact zB (h t (by simp)).ops
  have e:Bs (bsT n (t::r))=(t.pr n).2++Bs (bsT n r):=by simp[Bs,bsT]
  rw[e]
  simp only[aBR,aBT]
  lia
theorem pB{as:List Ad}{ts:List Br}(hH:Has m n)(m2:2<=m)(m6:m<=6)(ht:∀t∈ts,t.Ok)(t3:ts.length<=3)(h4:as.length<=4)(ok:∀a∈as,a.Ok n m P) :
  Ok (gH [.d (.int n),.d (.int m),.d (.tup (ts.map λt=>eb (t.pr n))),.d (.tup (as.map λa=>encD a.dd))] M) λr M'=>M'=M/\∃w u:Int,r=.d (.tup ((rep (rd n w u as (bsT n ts)) m).map encD))/\RootOk n w m/\IsIv n m u/\0<=w/\w < n:=by
 obtain⟨hn,hn2,hw⟩:=hH
 unfold gH
 refine bT rfl ?_
 unfold b_6
 rfl'
 refine(oA hn (by lia) (by lia) hw).mono ?_
 rintro _ M ⟨rfl,w,rfl,w0,w1,hr,_⟩
 obtain⟨u,hu⟩:=yZ hn (by lia) hr (by lia) (by lia)
 rfl'
 have eq:(ts.map λt=>eb (t.pr n))=(bsT n ts).map eb:=by simp[bsT]
 rw[eq]
 refine(lR (G:=8) (S:=9) (P:=P) (w:=w) hn (by lia) hu (vO hn ht) ?_ (by simp[bsT];lia) m6 h4 ok).mono ?_
 ·intro i
  have:(bsT n ts).take i=bsT n (ts.take i):=by simp[bsT,List.map_take]
  rw[this]
  have h1:=xL (n:=n) (ts:=ts.take i) λt h=>ht t (aCN h)
  have h2:(ts.take i).length<=3:=by simp;lia
  lia
 ·rintro _ _ ⟨rfl,rfl⟩
  rfl'
  exact⟨by simp,w,u,rfl,hr,hu,w0,w1⟩
def fB(n:Int)(gs:List Int)(ts:List Br)(s:Nat):Int:=(ts.map λt=>if s=t.s then val n gs t.e else 0).sum
theorem aBp{t:Br}(hn:2<=n)(hg:gs.length=8)(o:t.Ok):Brg n gs 9 (t.pr n).2 λs=>if s=t.s then val n gs t.e else 0:=by
 intro cs hc hl s hs
 have hr:rn n gs (t.pr n).2 cs=cs.set t.s ((cs.getD t.s 0+val n gs t.e) % n):=fC (by lia) (by rw[hg];exact o.wf) o.s9 o.b9 o.c9 o.sb o.sc o.bc cs hc hl
 have s9:=o.s9
 rw[hr]
 by_cases h:s=t.s
 ·subst h
  show Cg n _ (_+(if t.s=t.s then _ else _))
  rw[aAH rfl]
  simp only[aCK]
  rw[aAY (by lia)]
  exact Cg.mod
 ·show Cg n _ (_+(if s=t.s then _ else _))
  rw[aAJ h]
  simp only[aCK]
  rw[aAZ (by lia)]
  exact Cg.of_eq (by lia)
theorem xP{n:Int}{gs:List Int}(hn:2<=n)(hg:gs.length=8):∀{ts:List Br},(∀t∈ts,t.Ok)->Brg n gs 9 (Bs (bsT n ts)) (fB n gs ts)
 |[],_=>Brg.nil
 |t::r,h=>by
  have h:=Brg.app (by lia) (aBp hn hg (h t (by simp))) (xP hn hg (ts:=r) λx hx=>h x (by simp[hx]))
  have e1:Bs (bsT n (t::r))=(t.pr n).2++Bs (bsT n r):=by simp[bsT,Bs]
  rw[e1]
  exact h
def Ad.cv(n u:Int)(gs:List Int)(a:Ad):Nat×Int×List Nat:=(a.s,u*a.c % n*pr gs a.g,a.t)
end
theorem aEj{a:Ad}:dn n gs cs (Ad.by n u a)=dn n gs cs (mkA (a.cv n u gs)):=by
 simp only[Ad.by,mkA,Ad.cv,dn,iJ,aGD]
theorem aAd{n u:Int}{gs:List Int}:∀{as:List Ad} {cs:List Int},rn n gs (as.map (Ad.by n u)) cs=rn n gs ((as.map (Ad.cv n u gs)).map mkA) cs
 |[],_=>rfl
 |a::r,cs=>by
  simp only[aAQ,dW]
  rw[aEj,aAd]
variable{ts:List Br}
theorem aDw{as:List Ad}:rn n gs (rd n w u as (bsT n ts)) cs=rn n gs (rnd n w (Bs (bsT n ts)) (as.map (Ad.cv n u gs)) (ts.map (·.s))) cs:=by
 have e:((bsT n ts).map λp=>Dd.scale p.1 w)=(ts.map (·.s)).map λs=>Dd.scale s w:=by simp[bsT,Br.pr]
 unfold rd rnd
 rw[aR,aR,aR,aR,aR,aR,aAd,e]
theorem vR{n:Int}{gs:List Int}{R R':List Dd}(h:∀cs,rn n gs R cs=rn n gs R' cs):∀(m:Nat) (cs:List Int),rn n gs (rep R m) cs=rn n gs (rep R' m) cs
 |0,_=>rfl
 |m+1,cs=>by
  simp only[rep,aCJ,aDR,aR]
  rw[h]
  exact vR h m _
noncomputable def dueS(n:Int)(gs:List Int)(ts:List Br)(as:List Ad)(s:Nat):Int:=(as.map λa=>if a.s=s then a.c*pr gs a.g*pf (fB n gs ts) a.t else 0).sum
theorem yR{as:List Ad}{ts:List Br}(hn:2<=n)(hg:gs.length=8)(hr:RootOk n w m)(hu:IsIv n m u)(ht:∀t∈ts,t.Ok)(nd:(ts.map (·.s)).Nodup)(ok:∀a∈as,a.Ok n m (ts.map (·.s))) :
  Brg n gs 9 (rep (rd n w u as (bsT n ts)) m) (dueS n gs ts as):=by
 have h:=rO (G:=8) (u:=u) (gs:=gs) (S:=9) (ad:=as.map (Ad.cv n u gs)) (P:=ts.map (·.s)) hn (show Rt n w m from hr) (vO hn ht) (xP hn hg ht) nd (λs hs=>by obtain⟨t,h1,rfl⟩:=aBX.mp hs;exact(ht t h1).s9) (by
  intro d hd
  obtain⟨a,ha,rfl⟩:=aBX.mp hd
  have o:=ok a ha
  exact⟨o.sP,o.s9,o.tP,o.tl⟩)
 intro cs hc hl s hs
 rw[vR (λcs=>aDw) m cs]
 refine(h cs hc hl s hs).trans (Cg.add Cg.rfl ?_)
 have h1:Cg n (u*(m:Int)) 1:=(Cg.of_eq (aCS _ _)).trans (Cg.of hu.2.2)
 have key:∀as':List Ad,Cg n (((as'.map (Ad.cv n u gs)).map λd=>if d.1=s then d.2.1*(m*pf (fB n gs ts) d.2.2)else 0).sum) (dueS n gs ts as' s):=by
  intro as'
  induction as' with
  |nil=>exact Cg.rfl
  |cons a r ih =>
   simp only[dueS,aAQ,aCG]at ih ⊢
   refine Cg.add ?_ ih
   show Cg n (if a.s=s then u*a.c % n*pr gs a.g*(m*pf (fB n gs ts) a.t)else 0) (if a.s=s then a.c*pr gs a.g*pf (fB n gs ts) a.t else 0)
   by_cases e:a.s=s
   ·rw[aAH e,aAH e]
    refine(Cg.mul (Cg.mul Cg.mod Cg.rfl) Cg.rfl).trans ?_
    refine(Cg.of_eq (show u*a.c*pr gs a.g*(m*pf (fB n gs ts) a.t)=u*m*(a.c*pr gs a.g*pf (fB n gs ts) a.t) by grind)).trans ?_
    exact(Cg.mul h1 Cg.rfl).trans (Cg.of_eq (Int.one_mul _))
   ·rw[aAJ e,aAJ e]
    exact Cg.rfl
 dsimp only
 by_cases hp:s∈ts.map (·.s)
 ·rw[aAH hp]
  refine Cg.of_eq ?_
  have:∀as':List Ad,(∀a∈as',a.s≠s)->dueS n gs ts as' s=0:=by
   intro as'
   induction as' with
   |nil=>intro _;rfl
   |cons a r ih =>
    intro h
    simp only[dueS,aAQ,aCG]at ih ⊢
    rw[aAJ (h a (by simp)),ih λx hx=>h x (by simp[hx])]
    rfl
  exact(this as λa ha e=>(ok a ha).sP (e▸hp)).symm
 ·rw[aAJ hp]
  exact key as
noncomputable def prs(n:Int)(gs:List Int)(ts:List Br):List D:=ts.map λt=>.tup [.int t.s,.int (val n gs t.e)]
theorem wH{n:Int}{gs:List Int}{s:Nat}:∀{ts:List Br},s∉ts.map (·.s)->fB n gs ts s=0
 |[],_=>rfl
 |t::r,h=>by
  simp only[aAQ,aBE,not_or]at h
  have ih:=wH (n:=n) (gs:=gs) h.2
  simp only[fB,aAQ,aCG]at ih ⊢
  rw[ih,aAJ h.1]
  rfl
theorem tJ{n:Int}{gs:List Int}{s:Nat}:∀{ts:List Br},(ts.map (·.s)).Nodup->s∈ts.map (·.s)->kgetK (.inl (s:Int)) (prs n gs ts)=some (.int (fB n gs ts s))/\∃t∈ts,fB n gs ts s=val n gs t.e
 |t::r,nd,h=>by
  simp only[aAQ,aCU]at nd
  by_cases e:s=t.s
  ·subst e
   have h0:=wH (n:=n) (gs:=gs) nd.1
   have h1:fB n gs (t::r) t.s=val n gs t.e:=by
    simp only[fB,aAQ,aCG]at h0 ⊢
    rw[h0,aAH trivial]
    lia
   rw[h1]
   refine⟨?_,t,by simp,rfl⟩
   simp[prs,kgetK,pkOf,keyOf]
  ·simp only[aAQ,aBE,e,false_or]at h
   obtain⟨h1,t',ht',h2⟩:=tJ (n:=n) (gs:=gs) nd.2 h
   have h3:fB n gs (t::r) s=fB n gs r s:=by
    simp only[fB,aAQ,aCG]
    rw[aAJ e]
    lia
   rw[h3]
   refine⟨?_,t',by simp[ht'],h2⟩
   rw[<- h1]
   have e':¬((t.s:Int)=(s:Int)):=by lia
   simp[prs,kgetK,pkOf,keyOf,e']
variable{f:Nat->Int}
theorem foldf(is:List Nat)(c:Int):Cg n (is.foldl (λa i=>a*f i % n) c) (c*pf f is):=by
 induction is generalizing c with
 |nil=>exact Cg.of_eq (by simp[pf])
 |cons i r ih =>
  refine(ih (c*f i % n)).trans ((Cg.mul Cg.mod Cg.rfl).trans (Cg.of_eq ?_))
  rw[pf,Int.mul_assoc]
theorem jZ(hn:0 < n)(is:List Nat){c:Int}(l:0<=c)(u:c < n):0<=is.foldl (λa i=>a*f i % n) c/\is.foldl (λa i=>a*f i % n) c < n:=by
 induction is generalizing c with
 |nil=>exact⟨l,u⟩
 |cons i r ih=>exact ih (aAN _ (by lia)) (aAI _ hn)
theorem wF{as:List Ad}(hn:2<=n)(hn2:n<=1000000)(hg:Rs n gs)(gl:gs.length=8)(hc:Rs n cs)(cl:cs.length=9)(nd:(ts.map (·.s)).Nodup)(ok:∀a∈as,a.Ok n m (ts.map (·.s)))(hj:M[j]?=some (prs n gs ts)) :
  Ok (jB [.d (.int n),.d (.tup (as.map λa=>encD a.dd)),.ob "dictK" j,.d (intsD gs),.d (intsD cs)] M) λw M'=>M'=M/\∃zs:List Int,w=.d (intsD zs)/\Rs n zs/\zs.length=9/\∀s,s < 9->Cg n (zs.getD s 0) (cs.getD s 0+dueS n gs ts as s):=by
 have jl:j < M.length:=(aAC.mp hj).1
 unfold jB
 refine bT rfl ?_
 unfold b_18
 rfl'
 refine sZ (xs:=cs.map D.int) rfl ?_
 rfl'
 refine cF (λi L M'=>∃zs:List Int,M'=M++[zs.map D.int]/\Rs n zs/\zs.length=9/\(∀s,s < 9->Cg n (zs.getD s 0) (cs.getD s 0+dueS n gs ts (as.take i) s))/\∃a b c d e f g,L=[some (.d (.int n)),some (.d (.tup (as.map λa=>encD a.dd))),some (.ob "dictK" j),some (.d (intsD gs)),some (.d (intsD cs)),some (.ref M.length),a,b,c,d,e,f,g]) ⟨cs,rfl,hc,cl,λs _=>Cg.of_eq (by simp[dueS]),none,none,none,none,none,none,none,rfl⟩ (λi L M _ _ t e=>by cases e) ?_ ?_
 ·rintro i d _ _ hx ⟨zs,rfl,rz,lz,hz,a6,a7,a8,a9,a10,a11,a12,rfl⟩
  simp only[aAO,aAM]at hx
  obtain⟨x,hx,rfl⟩:=hx
  have o:=ok x (aAU hx)
  have gM:(M++[zs.map D.int])[M.length]?=some (zs.map D.int):=by simp
  have gJ:(M++[zs.map D.int])[j]?=some (prs n gs ts):=by rw[aAS jl];exact hj
  have eT:as.take (i+1)=as.take i++[x]:=by rw[aAX,hx];rfl
  rw[eT]
  generalize as.take i=as0 at hz
  generalize(as.map λa=>encD a.dd)=I
  obtain⟨s,c,g,t⟩:=x
  have s9:s < 9:=o.s9
  have c0:0<=c:=o.c0
  have c1:c < n:=o.cn
  have g8:∀i∈g,i < 8:=o.g8
  have tP:∀i∈t,i∈ts.map (·.s):=o.tP
  clear o hx eT ok
  simp only[Ad.dd,encD]
  rfl'
  refine cF (λi L M'=>M'=M++[zs.map D.int]/\∃b,L=[some (.d (.int n)),some (.d (.tup I)),some (.ob "dictK" j),some (.d (intsD gs)),some (.d (intsD cs)),some (.ref M.length),some (.d (.str "add")),some (.d (.int s)),some (.d (.int ((g.take i).foldl (λa i=>a*gs.getD i 0 % n) c))),some (.d (natsD g)),some (.d (natsD t)),b,a12]) ⟨rfl,_,rfl⟩ (λi L M _ _ t e=>by cases e) ?_ ?_
  ·rintro i d _ _ hd ⟨rfl,b,rfl⟩
   simp only[aAO,aAM]at hd
   obtain⟨k,hk,rfl⟩:=hd
   have hm:k < gs.length:=by rw[gl];exact g8 k (aAU hk)
   have hr:=hg.getD hm
   have r1:=fQ (by lia:0 < n) (xs:=gs) (g.take i) c0 c1
   have fin:(g.take (i+1)).foldl (λa i=>a*gs.getD i 0 % n) c=(g.take i).foldl (λa i=>a*gs.getD i 0 % n) c*gs.getD k 0 % n:=by
    rw[aAX,hk]
    simp only[aDN,aEV,aCB,aEN]
   rw[fin]
   generalize(g.take i).foldl (λa i=>a*gs.getD i 0 % n) c=v at r1
   have hv:0<=v*gs.getD k 0/\v*gs.getD k 0<=1000000*1000000:=⟨aEQ r1.1 hr.1,aEP (by lia) (by lia) hr.1 (by lia)⟩
   unfold intsD
   rfl'
   refine nK (dP hm) ?_
   rfl'
   exact⟨rfl,_,rfl⟩
  ·rintro _ _ ⟨rfl,b,rfl⟩
   simp only[aAL,aCO]
   have r1:=fQ (by lia:0 < n) (xs:=gs) g c0 c1
   have q1:=foldm (n:=n) (xs:=gs) g c
   generalize g.foldl (λa i=>a*gs.getD i 0 % n) c=v at r1 q1
   rfl'
   unfold natsD
   refine cF (λi L M'=>M'=M++[zs.map D.int]/\∃d,L=[some (.d (.int n)),some (.d (.tup I)),some (.ob "dictK" j),some (.d (intsD gs)),some (.d (intsD cs)),some (.ref M.length),some (.d (.str "add")),some (.d (.int s)),some (.d (.int ((t.take i).foldl (λa i=>a*fB n gs ts i % n) v))),some (.d (natsD g)),some (.d (natsD t)),b,d]) ⟨rfl,_,rfl⟩ (λi L M _ _ t e=>by cases e) ?_ ?_
   ·rintro i d _ _ hd ⟨rfl,d2,rfl⟩
    simp only[aAO,aAM]at hd
    obtain⟨k,hk,rfl⟩:=hd
    obtain⟨hm,t',ht',hval⟩:=tJ (n:=n) (gs:=gs) nd (tP k (aAU hk))
    have hr:=jU (n:=n) (gs:=gs) (by lia) hg (e:=t'.e)
    rw[<- hval]at hr
    have r2:=jZ (by lia:0 < n) (f:=fB n gs ts) (t.take i) r1.1 r1.2
    have fin:(t.take (i+1)).foldl (λa i=>a*fB n gs ts i % n) v=(t.take i).foldl (λa i=>a*fB n gs ts i % n) v*fB n gs ts k % n:=by
     rw[aAX,hk]
     simp only[aDN,aEV,aCB,aEN]
    rw[fin]
    generalize(t.take i).foldl (λa i=>a*fB n gs ts i % n) v=z at r2
    have hv:0<=z*fB n gs ts k/\z*fB n gs ts k<=1000000*1000000:=⟨aEQ r2.1 hr.1,aEP (by lia) (by lia) hr.1 (by lia)⟩
    rfl'
    refine yS gJ rfl hm ?_
    rfl'
    exact⟨rfl,_,rfl⟩
   ·rintro _ _ ⟨rfl,d2,rfl⟩
    simp only[aAL,aCO]
    have r2:=jZ (by lia:0 < n) (f:=fB n gs ts) t r1.1 r1.2
    have q2:=foldf (n:=n) (f:=fB n gs ts) t v
    generalize t.foldl (λa i=>a*fB n gs ts i % n) v=z at r2 q2
    have hs:s < zs.length:=by lia
    have hrz:=rz.getD hs
    rfl'
    refine jM gM (dP hs) ?_
    rfl'
    refine⟨_,_,_,s,rfl,rfl,gM,by rw[aAL];exact oT hs,?_⟩
    refine⟨zs.set s ((zs.getD s 0+z) % n),?_,rz.set (aAN _ (by lia)) (aAI _ (by lia)),by simpa using lz,?_,_,_,_,_,_,_,_,rfl⟩
    ·rw[oN];simp
    ·intro s' h'
     have ed:dueS n gs ts (as0++[⟨s,c,g,t⟩]) s'=dueS n gs ts as0 s'+(if s=s' then c*pr gs g*pf (fB n gs ts) t else 0):=by
      simp[dueS,List.sum_append]
     rw[ed]
     have h0:=hz s' h'
     by_cases e:s'=s
     ·subst e
      rw[aAH rfl]
      simp only[aCK]at h0 ⊢
      rw[aAY hs]
      refine Cg.trans (Cg.mod) ?_
      refine(Cg.add h0 (q2.trans (Cg.mul q1 Cg.rfl))).trans (Cg.of_eq ?_)
      lia
     ·rw[aAJ (λh=>e h.symm)]
      simp only[aCK]at h0 ⊢
      rw[aAZ (λh=>e h.symm)]
      refine h0.trans (Cg.of_eq (by lia))
 ·rintro _ _ ⟨zs,rfl,rz,lz,hz,a6,a7,a8,a9,a10,a11,a12,rfl⟩
  rw[show List.take (as.map λa=>encD a.dd).length as=as by simp]at hz
  rfl'
  refine fK (xs:=zs.map D.int) (by simp[sv,lr,lv]) ?_
  rfl'
  exact⟨by simp,zs,rfl,rz,lz,hz⟩
theorem pA{n:Int}{gs:List Int}:∀(ts:List Br),∃kds,pksOf (prs n gs ts)=some kds/\kds.map (·.1)=ts.map (λt=>Sum.inl (t.s:Int))/\kds.length=ts.length
 |[]=>⟨[],rfl,rfl,rfl⟩
 |t::r=>by
  obtain⟨k,h1,h2,h3⟩:=pA (n:=n) (gs:=gs) r
  refine⟨(.inl (t.s:Int),.int (val n gs t.e))::k,?_,by simp[h2],by simp[h3]⟩
  show pksOf (_::prs n gs r)=_
  simp[pksOf,pkOf,keyOf,h1]
theorem unW(hn:2<=n)(hm:1<=m)(h:RootOk n w m)(w0:0<=w)(w1:w < n):Un n w:=by
 obtain⟨j,rfl⟩:∃j,m=j+1:=⟨m - 1,by lia⟩
 refine⟨w0,w1,w ^ j % n,aAN _ (by lia),aAI _ (by lia),?_⟩
 have:=h.one hn
 rw[aBV]at this
 exact Cg.emod ((Cg.mul Cg.rfl Cg.mod).trans ((Cg.of_eq (aCS _ _)).trans this))
theorem aBf{n w u:Int}{m:Nat}{as:List Ad}{ts:List Br}(hn:2<=n)(hu:Un n w)(ht:∀t∈ts,t.Ok)(ok:∀a∈as,a.Ok n m (ts.map (·.s))):∀d∈rep (rd n w u as (bsT n ts)) m,OkD n 8 9 d:=by
 have hB:=vO (n:=n) hn ht
 have h:∀d∈rd n w u as (bsT n ts),OkD n 8 9 d:=by
  refine bY (bY (bY hB ?_) (OkD.backs (by lia) hB)) ?_
  ·intro d hd
   obtain⟨a,ha,rfl⟩:=aBX.mp hd
   have o:=ok a ha
   refine⟨o.s9,aAN _ (by lia),aAI _ (by lia),o.g8,λi hi=>?_,λh=>o.sP (o.tP _ h),o.gl,o.t4⟩
   obtain⟨t,h1,rfl⟩:=aBX.mp (o.tP i hi)
   exact(ht t h1).s9
  ·intro d hd
   obtain⟨p,hp,rfl⟩:=aBX.mp hd
   obtain⟨t,h1,rfl⟩:=aBX.mp hp
   exact⟨(ht t h1).s9,hu⟩
 intro d hd
 obtain⟨l,hl,hd⟩:=List.mem_flatten.mp hd
 rw[List.eq_of_mem_replicate hl]at hd
 exact h d hd
theorem aCb(ns:List Int)(hn:ns.length<=63):Ok (lG [.d (.fz (ns.map D.int))] []) λw _=>w=.d (.bl true):=by
 unfold lG
 refine bT rfl ?_
 unfold b_19
 rfl'
 refine(iN (by lia) hn).mono ?_
 rintro _ _ ⟨x,y,z,rfl,rfl⟩
 generalize eM:([]:Mm)++[[D.int x,.int y,.int z]]=M
 have hb:Bx M 0:=by subst eM;exact⟨x,y,z,rfl⟩
 have ln:M.length=1:=by subst eM;rfl
 clear eM
 rfl'
 refine(aV hb (by lia) (by lia)).mono ?_
 rintro _ M1 ⟨d1,rfl,l1,u1,n'⟩
 replace ln:=n'.len.trans ln
 replace hb:=n'.bx hb
 clear n'
 obtain⟨m,hm⟩:∃m:Nat,2+d1=m:=⟨(2+d1).toNat,by lia⟩
 rfl'
 rw[hm]
 have m2:2<=m:=by lia
 have m6:m<=6:=by lia
 refine(qR hb m2 m6).mono ?_
 rintro _ M2 ⟨n,rfl,hH,n'⟩
 replace ln:=n'.len.trans ln
 replace hb:=n'.bx hb
 clear n'
 have n2:=hH.1
 have n3:=hH.2.1
 rfl'
 refine(iN (by lia) hn).mono ?_
 rintro _ _ ⟨x1,y1,z1,rfl,rfl⟩
 rfl'
 refine(aV (hb.app (J:=[_])) (by lia) (by lia)).mono ?_
 rintro _ _ ⟨d2,rfl,l2,u2,n'⟩
 obtain⟨M3,rfl,n3'⟩:=n'.unapp hb.lt
 have e3:M2.length=M3.length:=n3'.len.symm
 replace ln:=n3'.len.trans ln
 clear n' n3' hb
 obtain⟨k,hk⟩:∃k:Nat,1+d2=k:=⟨(1+d2).toNat,by lia⟩
 rfl'
 rw[hk]
 refine(mJ (b:=M2.length) (by rw[e3];exact⟨x1,y1,z1,by simp⟩) n2 (by lia) (k:=k) (by lia)).mono ?_
 rintro _ M4 ⟨ts,rfl,tl,nd,tok,n'⟩
 clear n' ln e3
 rfl'
 refine(iN (by lia) hn).mono ?_
 rintro _ _ ⟨x2,y2,z2,rfl,rfl⟩
 rfl'
 generalize eM5:M4++[[D.int x2,.int y2,.int z2]]=M5
 refine dY (λi acc L' M'=>acc=((ts.take i).map (·.s)).map (λi:Nat=>D.int i)/\M'=M5/\∃a b,L'=[a,b]) ?_
 rfl'
 refine⟨⟨rfl,rfl,none,none,rfl⟩,?_,by simp;lia,?_,?_⟩
 ·rintro i acc L' M' hi ⟨rfl,rfl,_⟩
  exact⟨rfl,(λt e=>by cases e),by simp;lia⟩
 ·rintro i d acc _ _ hx ⟨rfl,rfl,a,b,rfl⟩
  simp only[aAO,aAM]at hx
  obtain⟨t,ht,rfl⟩:=hx
  unfold eb
  rfl'
  exact⟨_,_,rfl,rfl,by rw[aAX,ht];simp[Br.pr],rfl,_,_,rfl⟩
 rintro acc _ _ ⟨rfl,rfl,_⟩
 rw[show(ts.take (ts.map λt=>eb (t.pr n)).length)=ts by simp]
 rfl'
 subst eM5
 have hbb:Bx (M4++[[D.int x2,.int y2,.int z2]]) M4.length:=⟨x2,y2,z2,by simp⟩
 have p1:1<=(ts.map (·.s)).length:=by rw[aAL];lia
 have p3:(ts.map (·.s)).length<=3:=by rw[aAL];lia
 refine(sB hbb n2 (by lia) m2 m6 p1 p3).mono ?_
 rintro _ M6 ⟨as,rfl,al,aok,n'⟩
 clear n'
 rfl'
 have t3:ts.length<=3:=by lia
 refine(pB hH m2 m6 tok t3 al aok).mono ?_
 rintro _ M ⟨rfl,w,u,rfl,hr,hu,w0,w1⟩
 rfl'
 refine⟨by decide,?_⟩
 refine cF (λi L M'=>∃(o1 o8 o9 o10 o11:Option W),L=[some (.d (.fz (ns.map D.int))),o1,some (.d (.int m)),some (.d (.int n)),some (.d (.tup (ts.map λt=>eb (t.pr n)))),some (.d (.lst (ts.map λt=>enc t.e))),some (.d (.tup (as.map λa=>encD a.dd))),some (.d (.tup ((rep (rd n w u as (bsT n ts)) m).map encD))),o8,o9,o10,o11]) ⟨_,_,_,_,_,rfl⟩ (λi L M _ _ t e=>by cases e) ?_ ?_
 ·rintro i d _ M hd ⟨o1,o8,o9,o10,o11,rfl⟩
  obtain⟨hi,rfl⟩:=eQ hd
  rfl'
  refine(iN (by lia) hn).mono ?_
  rintro _ _ ⟨x,y,z,rfl,rfl⟩
  have hb:Bx (M++[[.int x,.int y,.int z]]) M.length:=⟨x,y,z,by simp⟩
  rfl'
  refine(kT hb n2 (by lia) (by lia) (by lia)).mono ?_
  rintro _ M1 ⟨gs,rfl,gl,gr,n'⟩
  replace hb:=n'.bx hb
  clear n'
  rfl'
  refine(kT hb n2 (by lia) (by lia) (by lia)).mono ?_
  rintro _ M2 ⟨cs,rfl,cl,cr,n'⟩
  clear n' hb
  rfl'
  replace gl:gs.length=8:=by lia
  replace cl:cs.length=9:=by lia
  refine dY (λi acc L' M'=>acc=prs n gs (ts.take i)/\M'=M2/\∃a b,L'=[a,b,some (.d (.int n)),some (.d (intsD gs))]) ?_
  refine tZ ?_
  rfl'
  refine⟨_,_,rfl,rfl,⟨rfl,rfl,none,none,rfl⟩,?_,by simp[fN];lia,?_,?_⟩
  ·rintro i acc L' M' hi ⟨rfl,rfl,_⟩
   exact⟨rfl,(λt e=>by cases e),by simp[prs];lia⟩
  ·rintro i d acc _ _ hx ⟨rfl,rfl,a,b,rfl⟩
   obtain⟨_,_,h1,h2,rfl⟩:=kX hx
   simp only[aAO,aAM]at h1 h2
   obtain⟨t,ht,rfl⟩:=h1
   obtain⟨t',ht',rfl⟩:=h2
   obtain rfl:t=t':=by rw[ht]at ht';exact Option.some.inj ht'
   have tk:=tok t (aAU ht)
   unfold eb
   rfl'
   refine(sD n2 (by lia) gr (by rw[gl];exact tk.wf) 50 (by have:=tk.dp;lia) _).mono ?_
   rintro _ _ ⟨rfl,rfl⟩
   rfl'
   exact⟨_,_,rfl,rfl,by rw[aAX,ht];simp[prs,Br.pr],rfl,_,_,rfl⟩
  rintro acc _ _ ⟨rfl,rfl,_⟩
  rw[show List.take (zipT (ts.map λt=>eb (t.pr n)) (ts.map λt=>enc t.e)).length ts=ts by simp[fN]]
  obtain⟨kds,k1,k2,k3⟩:=pA (n:=n) (gs:=gs) ts
  refine xO k1 (by rw[k2];exact(aEU.mp nd |> λh=>aEU.mpr (h.imp λh e=>h (by injection e with e;lia)))) (by lia) ?_
  rfl'
  have okr:∀d∈rep (rd n w u as (bsT n ts)) m,OkD n gs.length cs.length d:=by
   rw[gl,cl]
   exact aBf n2 (unW n2 (by lia) hr w0 w1) tok aok
  refine(qX n2 (by lia) gr cr okr (by lia)).mono ?_
  rintro _ _ ⟨rfl,rfl⟩
  rfl'
  refine(wF n2 (by lia) gr gl cr cl nd aok (by simp)).mono ?_
  rintro _ _ ⟨rfl,zs,rfl,zr,zl,hz⟩
  have ez:rn n gs (rep (rd n w u as (bsT n ts)) m) cs=zs:=by
   refine wR (cr.rn (by lia)) zr (by rw[cP,cl,zl]) λs hs=>?_
   rw[cP,cl]at hs
   exact(yR n2 gl hr hu tok nd aok cs cr cl s hs).trans (hz s hs).symm
  rw[ez]
  refine aBz rfl rfl rfl (qJ _) ?_
  rfl'
  exact⟨_,_,_,_,_,rfl⟩
 ·rintro _ _ ⟨o1,o8,o9,o10,o11,rfl⟩
  rfl'
  rfl
theorem xE(ns:List Int)(hn:ns.length<=63):∃M',lG [.d (.fz (ns.map D.int))] []=.ok (.d (.bl true)) M':=by
 obtain⟨_,M,e,rfl⟩:=lH.mp (aCb ns hn)
 exact⟨M,e⟩
theorem aAj{l:PySem.W.OpenLaw}{w:World}{fa:Addr}{f1 f2 f3 f4 f5 f6 f7 f8 f9 f10 f11 f12 f13 f14 f15 f16 f17 f18 f19 f20 f21 f22 f23 f24 f25 f26:Addr}{od1 an1 od2 an2 od3 an3 od4 an4 od5 an5 od6 an6 od7 an7 od8 an8 od9 an9 od10 an10 od11 an11 od12 an12 od13 an13 od14 an14 od15 an15 od16 an16 od17 an17 od18 an18 od19 an19 od20 an20 od21 an21 od22 an22 od23 an23 od24 an24 od25 an25 od26 an26:Option Addr}{sl1 sl2 sl3 sl4 sl5 sl6 sl7 sl8 sl9 sl10 sl11 sl12 sl13 sl14 sl15 sl16 sl17 sl18 sl19 sl20 sl21 sl22 sl23 sl24 sl25 sl26:Array (Option Value)}{oc1 kV1 dc1 pm1 cd1 ct1 oc2 kV2 dc2 pm2 cd2 ct2 oc3 kV3 dc3 pm3 cd3 ct3 oc4 kV4 dc4 pm4 cd4 ct4 oc5 kV5 dc5 pm5 cd5 ct5 oc6 kV6 dc6 pm6 cd6 ct6 oc7 kV7 dc7 pm7 cd7 ct7 oc8 kV8 dc8 pm8 cd8 ct8 oc9 kV9 dc9 pm9 cd9 ct9 oc10 kV10 dc10 pm10 cd10 ct10 oc11 kV11 dc11 pm11 cd11 ct11 oc12 kV12 dc12 pm12 cd12 ct12 oc13 kV13 dc13 pm13 cd13 ct13 oc14 kV14 dc14 pm14 cd14 ct14 oc15 kV15 dc15 pm15 cd15 ct15 oc16 kV16 dc16 pm16 cd16 ct16 oc17 kV17 dc17 pm17 cd17 ct17 oc18 kV18 dc18 pm18 cd18 ct18 oc19 kV19 dc19 pm19 cd19 ct19 oc20 kV20 dc20 pm20 cd20 ct20 oc21 kV21 dc21 pm21 cd21 ct21 oc22 kV22 dc22 pm22 cd22 ct22 oc23 kV23 dc23 pm23 cd23 ct23 oc24 kV24 dc24 pm24 cd24 ct24 oc25 kV25 dc25 pm25 cd25 ct25 oc26 kV26 dc26 pm26 cd26 ct26:Value}(X:K.In h)(G:h.Ns mainGlobals mg)(hfa:mg "law"=some (.ref fa))
  (a1:nsIn K mainGlobals "inverse"=some (some (.ref f1)))
  (l1:K.lookup f1=some ⟨oc1,od1,.func (fnOf "inverse" "inverse" (defArgs cQ) (defBody cQ) (defScope cQ) .none kV1 dc1 pm1 an1 cd1 ct1),sl1⟩)
  (c1:codeIn K cd1 "inverse"=true)
  (k1:keepIn K (.ref f1)=true)
  (a2:nsIn K mainGlobals "power"=some (some (.ref f2)))
  (l2:K.lookup f2=some ⟨oc2,od2,.func (fnOf "power" "power" (defArgs eL) (defBody eL) (defScope eL) .none kV2 dc2 pm2 an2 cd2 ct2),sl2⟩)
  (c2:codeIn K cd2 "power"=true)
  (k2:keepIn K (.ref f2)=true)
  (a3:nsIn K mainGlobals "deeds_back"=some (some (.ref f3)))
  (l3:K.lookup f3=some ⟨oc3,od3,.func (fnOf "deeds_back" "deeds_back" (defArgs bM) (defBody bM) (defScope bM) .none kV3 dc3 pm3 an3 cd3 ct3),sl3⟩)
  (c3:codeIn K cd3 "deeds_back"=true)
  (k3:keepIn K (.ref f3)=true)
  (a4:nsIn K mainGlobals "deed_back"=some (some (.ref f4)))
  (l4:K.lookup f4=some ⟨oc4,od4,.func (fnOf "deed_back" "deed_back" (defArgs bW) (defBody bW) (defScope bW) .none kV4 dc4 pm4 an4 cd4 ct4),sl4⟩)
  (c4:codeIn K cd4 "deed_back"=true)
  (k4:keepIn K (.ref f4)=true)
  (a5:nsIn K mainGlobals "is_root"=some (some (.ref f5)))
  (l5:K.lookup f5=some ⟨oc5,od5,.func (fnOf "is_root" "is_root" (defArgs cU) (defBody cU) (defScope cU) .none kV5 dc5 pm5 an5 cd5 ct5),sl5⟩)
  (c5:codeIn K cd5 "is_root"=true)
  (k5:keepIn K (.ref f5)=true)
  (a6:nsIn K mainGlobals "root"=some (some (.ref f6)))
  (l6:K.lookup f6=some ⟨oc6,od6,.func (fnOf "root" "root" (defArgs fR) (defBody fR) (defScope fR) .none kV6 dc6 pm6 an6 cd6 ct6),sl6⟩)
  (c6:codeIn K cd6 "root"=true)
  (k6:keepIn K (.ref f6)=true)
  (a7:nsIn K mainGlobals "rounds"=some (some (.ref f7)))
  (l7:K.lookup f7=some ⟨oc7,od7,.func (fnOf "rounds" "rounds" (defArgs dE) (defBody dE) (defScope dE) .none kV7 dc7 pm7 an7 cd7 ct7),sl7⟩)
  (c7:codeIn K cd7 "rounds"=true)
  (k7:keepIn K (.ref f7)=true)
  (a8:nsIn K mainGlobals "root_of"=some (some (.ref f8)))
  (l8:K.lookup f8=some ⟨oc8,od8,.func (fnOf "root_of" "root_of" (defArgs cS) (defBody cS) (defScope cS) .none kV8 dc8 pm8 an8 cd8 ct8),sl8⟩)
  (c8:codeIn K cd8 "root_of"=true)
  (k8:keepIn K (.ref f8)=true)
  (a9:nsIn K mainGlobals "rounds_by"=some (some (.ref f9)))
  (l9:K.lookup f9=some ⟨oc9,od9,.func (fnOf "rounds_by" "rounds_by" (defArgs bO) (defBody bO) (defScope bO) .none kV9 dc9 pm9 an9 cd9 ct9),sl9⟩)
  (c9:codeIn K cd9 "rounds_by"=true)
  (k9:keepIn K (.ref f9)=true)
  (a10:nsIn K mainGlobals "_law_box"=some (some (.ref f10)))
  (l10:K.lookup f10=some ⟨oc10,od10,.func (fnOf "_law_box" "_law_box" (defArgs eN) (defBody eN) (defScope eN) .none kV10 dc10 pm10 an10 cd10 ct10),sl10⟩)
  (c10:codeIn K cd10 "_law_box"=true)
  (k10:keepIn K (.ref f10)=true)
  (a11:nsIn K mainGlobals "_law_take"=some (some (.ref f11)))
  (l11:K.lookup f11=some ⟨oc11,od11,.func (fnOf "_law_take" "_law_take" (defArgs dD) (defBody dD) (defScope dD) .none kV11 dc11 pm11 an11 cd11 ct11),sl11⟩)
  (c11:codeIn K cd11 "_law_take"=true)
  (k11:keepIn K (.ref f11)=true)
  (a12:nsIn K mainGlobals "_law_rest"=some (some (.ref f12)))
  (l12:K.lookup f12=some ⟨oc12,od12,.func (fnOf "_law_rest" "_law_rest" (defArgs dC) (defBody dC) (defScope dC) .none kV12 dc12 pm12 an12 cd12 ct12),sl12⟩)
  (c12:codeIn K cd12 "_law_rest"=true)
  (k12:keepIn K (.ref f12)=true)
  (a13:nsIn K mainGlobals "_law_rests"=some (some (.ref f13)))
  (l13:K.lookup f13=some ⟨oc13,od13,.func (fnOf "_law_rests" "_law_rests" (defArgs cK) (defBody cK) (defScope cK) .none kV13 dc13 pm13 an13 cd13 ct13),sl13⟩)
  (c13:codeIn K cd13 "_law_rests"=true)
  (k13:keepIn K (.ref f13)=true)
  (a14:nsIn K mainGlobals "_law_expr"=some (some (.ref f14)))
  (l14:K.lookup f14=some ⟨oc14,od14,.func (fnOf "_law_expr" "_law_expr" (defArgs cZ) (defBody cZ) (defScope cZ) .none kV14 dc14 pm14 an14 cd14 ct14),sl14⟩)
  (c14:codeIn K cd14 "_law_expr"=true)
  (k14:keepIn K (.ref f14)=true)
  (a15:nsIn K mainGlobals "_law_worth"=some (some (.ref f15)))
  (l15:K.lookup f15=some ⟨oc15,od15,.func (fnOf "_law_worth" "_law_worth" (defArgs cR) (defBody cR) (defScope cR) .none kV15 dc15 pm15 an15 cd15 ct15),sl15⟩)
  (c15:codeIn K cd15 "_law_worth"=true)
  (k15:keepIn K (.ref f15)=true)
  (a16:nsIn K mainGlobals "_law_inverse"=some (some (.ref f16)))
  (l16:K.lookup f16=some ⟨oc16,od16,.func (fnOf "_law_inverse" "_law_inverse" (defArgs bV) (defBody bV) (defScope bV) .none kV16 dc16 pm16 an16 cd16 ct16),sl16⟩)
  (c16:codeIn K cd16 "_law_inverse"=true)
  (k16:keepIn K (.ref f16)=true)
  (a17:nsIn K mainGlobals "_law_run"=some (some (.ref f17)))
  (l17:K.lookup f17=some ⟨oc17,od17,.func (fnOf "_law_run" "_law_run" (defArgs eK) (defBody eK) (defScope eK) .none kV17 dc17 pm17 an17 cd17 ct17),sl17⟩)
  (c17:codeIn K cd17 "_law_run"=true)
  (k17:keepIn K (.ref f17)=true)
  (a18:nsIn K mainGlobals "_law_deeds_back"=some (some (.ref f18)))
  (l18:K.lookup f18=some ⟨oc18,od18,.func (fnOf "_law_deeds_back" "_law_deeds_back" (defArgs bF) (defBody bF) (defScope bF) .none kV18 dc18 pm18 an18 cd18 ct18),sl18⟩)
  (c18:codeIn K cd18 "_law_deeds_back"=true)
  (k18:keepIn K (.ref f18)=true)
  (a19:nsIn K mainGlobals "_law_row_by"=some (some (.ref f19)))
  (l19:K.lookup f19=some ⟨oc19,od19,.func (fnOf "_law_row_by" "_law_row_by" (defArgs cG) (defBody cG) (defScope cG) .none kV19 dc19 pm19 an19 cd19 ct19),sl19⟩)
  (c19:codeIn K cd19 "_law_row_by"=true)
  (k19:keepIn K (.ref f19)=true)
  (a20:nsIn K mainGlobals "_law_row_alone"=some (some (.ref f20)))
  (l20:K.lookup f20=some ⟨oc20,od20,.func (fnOf "_law_row_alone" "_law_row_alone" (defArgs bJ) (defBody bJ) (defScope bJ) .none kV20 dc20 pm20 an20 cd20 ct20),sl20⟩)
  (c20:codeIn K cd20 "_law_row_alone"=true)
  (k20:keepIn K (.ref f20)=true)
  (a21:nsIn K mainGlobals "_law_rooted"=some (some (.ref f21)))
  (l21:K.lookup f21=some ⟨oc21,od21,.func (fnOf "_law_rooted" "_law_rooted" (defArgs cI) (defBody cI) (defScope cI) .none kV21 dc21 pm21 an21 cd21 ct21),sl21⟩)
  (c21:codeIn K cd21 "_law_rooted"=true)
  (k21:keepIn K (.ref f21)=true)
  (a22:nsIn K mainGlobals "_law_places"=some (some (.ref f22)))
  (l22:K.lookup f22=some ⟨oc22,od22,.func (fnOf "_law_places" "_law_places" (defArgs cH) (defBody cH) (defScope cH) .none kV22 dc22 pm22 an22 cd22 ct22),sl22⟩)
  (c22:codeIn K cd22 "_law_places"=true)
  (k22:keepIn K (.ref f22)=true)
  (a23:nsIn K mainGlobals "_law_bringers"=some (some (.ref f23)))
  (l23:K.lookup f23=some ⟨oc23,od23,.func (fnOf "_law_bringers" "_law_bringers" (defArgs bL) (defBody bL) (defScope bL) .none kV23 dc23 pm23 an23 cd23 ct23),sl23⟩)
  (c23:codeIn K cd23 "_law_bringers"=true)
  (k23:keepIn K (.ref f23)=true)
  (a24:nsIn K mainGlobals "_law_inner"=some (some (.ref f24)))
  (l24:K.lookup f24=some ⟨oc24,od24,.func (fnOf "_law_inner" "_law_inner" (defArgs bX) (defBody bX) (defScope bX) .none kV24 dc24 pm24 an24 cd24 ct24),sl24⟩)
  (c24:codeIn K cd24 "_law_inner"=true)
  (k24:keepIn K (.ref f24)=true)
  (a25:nsIn K mainGlobals "_law_due"=some (some (.ref f25)))
  (l25:K.lookup f25=some ⟨oc25,od25,.func (fnOf "_law_due" "_law_due" (defArgs eI) (defBody eI) (defScope eI) .none kV25 dc25 pm25 an25 cd25 ct25),sl25⟩)
  (c25:codeIn K cd25 "_law_due"=true)
  (k25:keepIn K (.ref f25)=true)
  (a26:nsIn K mainGlobals "law"=some (some (.ref f26)))
  (l26:K.lookup f26=some ⟨oc26,od26,.func (fnOf "law" "law" (defArgs gF) (defBody gF) (defScope gF) .none kV26 dc26 pm26 an26 cd26 ct26),sl26⟩)
  (c26:codeIn K cd26 "law"=true)
  (k26:keepIn K (.ref f26)=true)
  (nddictK:nsIn K mainGlobals "dictK"=some none)
  (z_dict:nsIn K mainGlobals "dict"=some none)
  (z_int:nsIn K mainGlobals "int"=some none)
  (z_len:nsIn K mainGlobals "len"=some none)
  (z_list:nsIn K mainGlobals "list"=some none)
  (z_min:nsIn K mainGlobals "min"=some none)
  (z_range:nsIn K mainGlobals "range"=some none)
  (z_reversed:nsIn K mainGlobals "reversed"=some none)
  (z_sorted:nsIn K mainGlobals "sorted"=some none)
  (z_tuple:nsIn K mainGlobals "tuple"=some none)
  (z_zip:nsIn K mainGlobals "zip"=some none)
  : ∃fd:FuncData,(∀(s:Shared) (v:Value),BindsTo s fd ⟨[v],[]⟩ [("_law_script",v)])/\∀base:Heap,K.In base->base.Ns mainGlobals mg->FnOk l.prog w K mg base CX0 104 fa fd aHJ (spF K Z0 1 lG):=by
 have e:=hfa.symm.trans (aAP X G a26)
 cases e
 have T:Tx K mg ⟨f1,(fnOf "inverse" "inverse" (defArgs cQ) (defBody cQ) (defScope cQ) .none kV1 dc1 pm1 an1 cd1 ct1),f2,(fnOf "power" "power" (defArgs eL) (defBody eL) (defScope eL) .none kV2 dc2 pm2 an2 cd2 ct2),f3,(fnOf "deeds_back" "deeds_back" (defArgs bM) (defBody bM) (defScope bM) .none kV3 dc3 pm3 an3 cd3 ct3),f4,(fnOf "deed_back" "deed_back" (defArgs bW) (defBody bW) (defScope bW) .none kV4 dc4 pm4 an4 cd4 ct4),f5,(fnOf "is_root" "is_root" (defArgs cU) (defBody cU) (defScope cU) .none kV5 dc5 pm5 an5 cd5 ct5),f6,(fnOf "root" "root" (defArgs fR) (defBody fR) (defScope fR) .none kV6 dc6 pm6 an6 cd6 ct6),f7,(fnOf "rounds" "rounds" (defArgs dE) (defBody dE) (defScope dE) .none kV7 dc7 pm7 an7 cd7 ct7),f8,(fnOf "root_of" "root_of" (defArgs cS) (defBody cS) (defScope cS) .none kV8 dc8 pm8 an8 cd8 ct8),f9,(fnOf "rounds_by" "rounds_by" (defArgs bO) (defBody bO) (defScope bO) .none kV9 dc9 pm9 an9 cd9 ct9),f10,(fnOf "_law_box" "_law_box" (defArgs eN) (defBody eN) (defScope eN) .none kV10 dc10 pm10 an10 cd10 ct10),f11,(fnOf "_law_take" "_law_take" (defArgs dD) (defBody dD) (defScope dD) .none kV11 dc11 pm11 an11 cd11 ct11),f12,(fnOf "_law_rest" "_law_rest" (defArgs dC) (defBody dC) (defScope dC) .none kV12 dc12 pm12 an12 cd12 ct12),f13,(fnOf "_law_rests" "_law_rests" (defArgs cK) (defBody cK) (defScope cK) .none kV13 dc13 pm13 an13 cd13 ct13),f14,(fnOf "_law_expr" "_law_expr" (defArgs cZ) (defBody cZ) (defScope cZ) .none kV14 dc14 pm14 an14 cd14 ct14),f15,(fnOf "_law_worth" "_law_worth" (defArgs cR) (defBody cR) (defScope cR) .none kV15 dc15 pm15 an15 cd15 ct15),f16,(fnOf "_law_inverse" "_law_inverse" (defArgs bV) (defBody bV) (defScope bV) .none kV16 dc16 pm16 an16 cd16 ct16),f17,(fnOf "_law_run" "_law_run" (defArgs eK) (defBody eK) (defScope eK) .none kV17 dc17 pm17 an17 cd17 ct17),f18,(fnOf "_law_deeds_back" "_law_deeds_back" (defArgs bF) (defBody bF) (defScope bF) .none kV18 dc18 pm18 an18 cd18 ct18),f19,(fnOf "_law_row_by" "_law_row_by" (defArgs cG) (defBody cG) (defScope cG) .none kV19 dc19 pm19 an19 cd19 ct19),f20,(fnOf "_law_row_alone" "_law_row_alone" (defArgs bJ) (defBody bJ) (defScope bJ) .none kV20 dc20 pm20 an20 cd20 ct20),f21,(fnOf "_law_rooted" "_law_rooted" (defArgs cI) (defBody cI) (defScope cI) .none kV21 dc21 pm21 an21 cd21 ct21),f22,(fnOf "_law_places" "_law_places" (defArgs cH) (defBody cH) (defScope cH) .none kV22 dc22 pm22 an22 cd22 ct22),f23,(fnOf "_law_bringers" "_law_bringers" (defArgs bL) (defBody bL) (defScope bL) .none kV23 dc23 pm23 an23 cd23 ct23),f24,(fnOf "_law_inner" "_law_inner" (defArgs bX) (defBody bX) (defScope bX) .none kV24 dc24 pm24 an24 cd24 ct24),f25,(fnOf "_law_due" "_law_due" (defArgs eI) (defBody eI) (defScope eI) .none kV25 dc25 pm25 an25 cd25 ct25),fa,(fnOf "law" "law" (defArgs gF) (defBody gF) (defScope gF) .none kV26 dc26 pm26 an26 cd26 ct26)⟩ :=
  ⟨aM l1 c1 k1,
   (aM (st:=cQ) l1 c1 k1).binds (ps:=["n","k"]) (λ_ _ _ _ _ _=>ex2 λ_ _=>rfl),
   k1,
   aAP X G a1,
   aM l2 c2 k2,
   (aM (st:=eL) l2 c2 k2).binds (ps:=aGO) (λ_ _ _ _ _ _=>ex3 λ_ _ _=>rfl),
   k2,
   aAP X G a2,
   aM l3 c3 k3,
   (aM (st:=bM) l3 c3 k3).binds (ps:=aGP) (λ_ _ _ _ _ _=>ex2 λ_ _=>rfl),
   k3,
   aAP X G a3,
   aM l4 c4 k4,
   (aM (st:=bW) l4 c4 k4).binds (ps:=aGQ) (λ_ _ _ _ _ _=>ex2 λ_ _=>rfl),
   k4,
   aAP X G a4,
   aM l5 c5 k5,
   (aM (st:=cU) l5 c5 k5).binds (ps:=aGR) (λ_ _ _ _ _ _=>ex3 λ_ _ _=>rfl),
   k5,
   aAP X G a5,
   aM l6 c6 k6,
   (aM (st:=fR) l6 c6 k6).binds (ps:=aGS) (λ_ _ _ _ _ _=>ex2 λ_ _=>rfl),
   k6,
   aAP X G a6,
   aM l7 c7 k7,
   (aM (st:=dE) l7 c7 k7).binds (ps:=aGT) (λ_ _ _ _ _ _=>ex4 λ_ _ _ _=>rfl),
   k7,
   aAP X G a7,
   aM l8 c8 k8,
   (aM (st:=cS) l8 c8 k8).binds (ps:=aGS) (λ_ _ _ _ _ _=>ex2 λ_ _=>rfl),
   k8,
   aAP X G a8,
   aM l9 c9 k9,
   (aM (st:=bO) l9 c9 k9).binds (ps:=aGU) (λ_ _ _ _ _ _=>ex5 λ_ _ _ _ _=>rfl),
   k9,
   aAP X G a9,
   aM l10 c10 k10,
   (aM (st:=eN) l10 c10 k10).binds (ps:=aGV) (λ_ _ _ _ _ _=>ex2 λ_ _=>rfl),
   k10,
   aAP X G a10,
   aM l11 c11 k11,
   (aM (st:=dD) l11 c11 k11).binds (ps:=aGW) (λ_ _ _ _ _ _=>ex2 λ_ _=>rfl),
   k11,
   aAP X G a11,
   aM l12 c12 k12,
   (aM (st:=dC) l12 c12 k12).binds (ps:=aGX) (λ_ _ _ _ _ _=>ex2 λ_ _=>rfl),
   k12,
   aAP X G a12,
   aM l13 c13 k13,
   (aM (st:=cK) l13 c13 k13).binds (ps:=aGY) (λ_ _ _ _ _ _=>ex3 λ_ _ _=>rfl),
   k13,
   aAP X G a13,
   aM l14 c14 k14,
   (aM (st:=cZ) l14 c14 k14).binds (ps:=aGZ) (λ_ _ _ _ _ _=>ex4 λ_ _ _ _=>rfl),
   k14,
   aAP X G a14,
   aM l15 c15 k15,
   (aM (st:=cR) l15 c15 k15).binds (ps:=aHA) (λ_ _ _ _ _ _=>ex3 λ_ _ _=>rfl),
   k15,
   aAP X G a15,
   aM l16 c16 k16,
   (aM (st:=bV) l16 c16 k16).binds (ps:=aHB) (λ_ _ _ _ _ _=>ex2 λ_ _=>rfl),
   k16,
   aAP X G a16,
   aM l17 c17 k17,
   (aM (st:=eK) l17 c17 k17).binds (ps:=aHC) (λ_ _ _ _ _ _=>ex3 λ_ _ _=>rfl),
   k17,
   aAP X G a17,
   aM l18 c18 k18,
   (aM (st:=bF) l18 c18 k18).binds (ps:=aHD) (λ_ _ _ _ _ _=>ex2 λ_ _=>rfl),
   k18,
   aAP X G a18,
   aM l19 c19 k19,
   (aM (st:=cG) l19 c19 k19).binds (ps:=aHE) (λ_ _ _ _ _ _=>ex5 λ_ _ _ _ _=>rfl),
   k19,
   aAP X G a19,
   aM l20 c20 k20,
   (aM (st:=bJ) l20 c20 k20).binds (ps:=aHE) (λ_ _ _ _ _ _=>ex5 λ_ _ _ _ _=>rfl),
   k20,
   aAP X G a20,
   aM l21 c21 k21,
   (aM (st:=cI) l21 c21 k21).binds (ps:=aHF) (λ_ _ _ _ _ _=>ex2 λ_ _=>rfl),
   k21,
   aAP X G a21,
   aM l22 c22 k22,
   (aM (st:=cH) l22 c22 k22).binds (ps:=aHG) (λ_ _ _ _ _ _=>ex3 λ_ _ _=>rfl),
   k22,
   aAP X G a22,
   aM l23 c23 k23,
   (aM (st:=bL) l23 c23 k23).binds (ps:=aGY) (λ_ _ _ _ _ _=>ex3 λ_ _ _=>rfl),
   k23,
   aAP X G a23,
   aM l24 c24 k24,
   (aM (st:=bX) l24 c24 k24).binds (ps:=aHH) (λ_ _ _ _ _ _=>ex4 λ_ _ _ _=>rfl),
   k24,
   aAP X G a24,
   aM l25 c25 k25,
   (aM (st:=eI) l25 c25 k25).binds (ps:=aHI) (λ_ _ _ _ _ _=>ex5 λ_ _ _ _ _=>rfl),
   k25,
   aAP X G a25,
   aM l26 c26 k26,
   (aM (st:=gF) l26 c26 k26).binds (ps:=aHJ) (λ_ _ _ _ _ _=>ex1 λ_=>rfl),
   k26,
   aAP X G a26,
   nddictK,
   aBP X G z_dict,
   aBP X G z_int,
   aBP X G z_len,
   aBP X G z_list,
   aBP X G z_min,
   aBP X G z_range,
   aBP X G z_reversed,
   aBP X G z_sorted,
   aBP X G z_tuple,
   aBP X G z_zip⟩
 exact⟨_,λs v=>.of_eq rfl,λbase _ _=>(aBn T).mono (by lia)⟩
theorem xI{l:PySem.W.OpenLaw}{q:Program}{d:DefRec}{K:Params->Frag}(hn:l.most=some 63)(hdf:d.params.defaults=[])
  (hY:∀(w:World) (h:Heap),YP w h->(K w.params).In h)
  (F:∀(w:World) (mg:Str->Option Value) (fa:Addr) (h:Heap),(K w.params).In h->h.Ns mainGlobals mg->mg d.name=some (.ref fa) ->
   ∃fd:FuncData,(∀(s:Shared) (u:Value),BindsTo s fd ⟨[u],[]⟩ [("_law_script",u)])/\∀base:Heap,(K w.params).In base->base.Ns mainGlobals mg->FnOk l.prog w (K w.params) mg base CX0 104 fa fd aHJ (spF (K w.params) Z0 1 lG)) :
  PySem.W.WalkO q loose XP YP l.row.toRowW d [] (λf vs=>PySem.call f vs) :=
 L2.tE (n:=63) (k:=104) (x:="_law_script") (CX:=λw=>CX0) (sp:=λw=>(spF (K w.params) Z0 1 lG)) hn (by decide) hdf ⟨rfl,by decide,by decide⟩ hY F (λ_ _ a ns hl hO hS=>aDp hO hS (xE ns hl)) λ_ _ _ _ _ z=>z
end K42
open PySem PySem.W PyProof.Rows
end
namespace PySem.W.Fast
noncomputable def tw4614961041709776663:List Stmt:=[]
theorem te4614961041709776663:tw4614961041709776663=tw4614961041709776663:=rfl
noncomputable def tw7517007272802299333:List Stmt:=[]
theorem te7517007272802299333:tw7517007272802299333=tw7517007272802299333:=rfl
noncomputable def tw9993973031035093439:Params->Obj:=fun _=>default
theorem te9993973031035093439:tw9993973031035093439=tw9993973031035093439:=rfl
noncomputable def tw6772727427790240381:Params->Obj:=fun _=>default
theorem te6772727427790240381:tw6772727427790240381=tw6772727427790240381:=rfl
noncomputable def tw10109888050238300216:Params->Obj:=fun _=>default
theorem te10109888050238300216:tw10109888050238300216=tw10109888050238300216:=rfl
noncomputable def tw3943973661148619279:Params->Obj:=fun _=>default
theorem te3943973661148619279:tw3943973661148619279=tw3943973661148619279:=rfl
noncomputable def tw4039185035524185704:Params->Obj:=fun _=>default
theorem te4039185035524185704:tw4039185035524185704=tw4039185035524185704:=rfl
noncomputable def tw15339095875575634699:Params->Obj:=fun _=>default
theorem te15339095875575634699:tw15339095875575634699=tw15339095875575634699:=rfl
noncomputable def tw7659738395066813297:Params->Obj:=fun _=>default
theorem te7659738395066813297:tw7659738395066813297=tw7659738395066813297:=rfl
noncomputable def tw5737080132194495705:Params->Obj:=fun _=>default
theorem te5737080132194495705:tw5737080132194495705=tw5737080132194495705:=rfl
noncomputable def tw17645351015270954571:Params->Obj:=fun _=>default
theorem te17645351015270954571:tw17645351015270954571=tw17645351015270954571:=rfl
noncomputable def tw13122996359077916705:Params->Obj:=fun _=>default
theorem te13122996359077916705:tw13122996359077916705=tw13122996359077916705:=rfl
noncomputable def tw18339242807222800109:Params->Heap:=fun _=>⟨#[],default⟩
theorem te18339242807222800109:tw18339242807222800109=tw18339242807222800109:=rfl
noncomputable def tw15677847008232293355:Params->Heap:=fun _=>⟨#[],default⟩
theorem te15677847008232293355:tw15677847008232293355=tw15677847008232293355:=rfl
noncomputable def tw11597667067887821416:Program:=Challenge.pw_lentshelf_k42_whole_what_rounds_bring
theorem te11597667067887821416:tw11597667067887821416=tw11597667067887821416:=rfl
noncomputable def tw17886012516147124566:Program:=Challenge.pw_lentshelf_k42_whole_what_rounds_bring
theorem te17886012516147124566:Challenge.pw_lentshelf_k42_whole_what_rounds_bring=tw17886012516147124566:=rfl
noncomputable def tw11624377341550278426:Params->BT:=fun _=>BT.nil
theorem te11624377341550278426:tw11624377341550278426=tw11624377341550278426:=rfl
noncomputable def tw11833825545733291143:List Stmt:=[]
theorem te11833825545733291143:tw11833825545733291143=tw11833825545733291143:=rfl
noncomputable def tw17950507381631098555:Params->BT:=fun _=>BT.nil
theorem te17950507381631098555:tw17950507381631098555=tw17950507381631098555:=rfl
noncomputable def tw1924521553752592680:List Stmt:=[]
theorem te1924521553752592680:tw1924521553752592680=tw1924521553752592680:=rfl
noncomputable def tw17236566437931522435:Params->Obj:=fun _=>default
theorem te17236566437931522435:tw17236566437931522435=tw17236566437931522435:=rfl
noncomputable def tw11050521332822786439:Params->Obj:=fun _=>default
theorem te11050521332822786439:tw11050521332822786439=tw11050521332822786439:=rfl
noncomputable def tw13401985546711493011:Params->BT:=fun _=>BT.nil
theorem te13401985546711493011:tw13401985546711493011=tw13401985546711493011:=rfl
noncomputable def tw4006125969817574309:Params->Obj:=fun _=>default
theorem te4006125969817574309:tw4006125969817574309=tw4006125969817574309:=rfl
noncomputable def tw9992134507685235021:Params->Obj:=fun _=>default
theorem te9992134507685235021:tw9992134507685235021=tw9992134507685235021:=rfl
noncomputable def tw15549546609376791101:List Stmt:=[]
theorem te15549546609376791101:tw15549546609376791101=tw15549546609376791101:=rfl
noncomputable def tw14727794044745787813:Params->Obj:=fun _=>default
theorem te14727794044745787813:tw14727794044745787813=tw14727794044745787813:=rfl
noncomputable def tw18086451976852482675:Params->Obj:=fun _=>default
theorem te18086451976852482675:tw18086451976852482675=tw18086451976852482675:=rfl
noncomputable def tw13417236696390454442:Params->Obj:=fun _=>default
theorem te13417236696390454442:tw13417236696390454442=tw13417236696390454442:=rfl
noncomputable def tw206145362297471101:Params->Obj:=fun _=>default
theorem te206145362297471101:tw206145362297471101=tw206145362297471101:=rfl
noncomputable def tw4711984167542863559:Params->Obj:=fun _=>default
theorem te4711984167542863559:tw4711984167542863559=tw4711984167542863559:=rfl
noncomputable def tw9695920008899533898:Params->Obj:=fun _=>default
theorem te9695920008899533898:tw9695920008899533898=tw9695920008899533898:=rfl
noncomputable def tw17562595267250631847:Params->Obj:=fun _=>default
theorem te17562595267250631847:tw17562595267250631847=tw17562595267250631847:=rfl
noncomputable def tw6547628933706674030:Params->Obj:=fun _=>default
theorem te6547628933706674030:tw6547628933706674030=tw6547628933706674030:=rfl
noncomputable def tw2720637030619455500:Params->Obj:=fun _=>default
theorem te2720637030619455500:tw2720637030619455500=tw2720637030619455500:=rfl
noncomputable def tw9764842467530798695:Params->Obj:=fun _=>default
theorem te9764842467530798695:tw9764842467530798695=tw9764842467530798695:=rfl
end PySem.W.Fast
set_option maxRecDepth 100000 in
set_option maxHeartbeats 0 in
theorem PySem.Challenge.cw_lentshelf_k42_whole_what_rounds_bring_holds : PySem.Challenge.rw_lentshelf_k42_whole_what_rounds_bring.Holds := by
 w_on; o_law; k_head; (case hw=>w_witness2)
 k_fill
 refine K42.xI (l:=PySem.Challenge.rw_lentshelf_k42_whole_what_rounds_bring) rfl rfl (fun w h Y=>PySem.W.kIn_of Y) ?F
 case F =>
  intro w mg fa h KX G hmg
  refine' K42.aAj KX G hmg ?a1 ?l1 ?c1 ?k1 ?a2 ?l2 ?c2 ?k2 ?a3 ?l3 ?c3 ?k3 ?a4 ?l4 ?c4 ?k4 ?a5 ?l5 ?c5 ?k5 ?a6 ?l6 ?c6 ?k6 ?a7 ?l7 ?c7 ?k7 ?a8 ?l8 ?c8 ?k8 ?a9 ?l9 ?c9 ?k9 ?a10 ?l10 ?c10 ?k10 ?a11 ?l11 ?c11 ?k11 ?a12 ?l12 ?c12 ?k12 ?a13 ?l13 ?c13 ?k13 ?a14 ?l14 ?c14 ?k14 ?a15 ?l15 ?c15 ?k15 ?a16 ?l16 ?c16 ?k16 ?a17 ?l17 ?c17 ?k17 ?a18 ?l18 ?c18 ?k18 ?a19 ?l19 ?c19 ?k19 ?a20 ?l20 ?c20 ?k20 ?a21 ?l21 ?c21 ?k21 ?a22 ?l22 ?c22 ?k22 ?a23 ?l23 ?c23 ?k23 ?a24 ?l24 ?c24 ?k24 ?a25 ?l25 ?c25 ?k25 ?a26 ?l26 ?c26 ?k26 ?nddictK ?z_dict ?z_int ?z_len ?z_list ?z_min ?z_range ?z_reversed ?z_sorted ?z_tuple ?z_zip
  (case a1=>k_is)
  (case l1=>k_is)
  (case c1=>k_is)
  (case k1=>k_is)
  (case a2=>k_is)
  (case l2=>k_is)
  (case c2=>k_is)
  (case k2=>k_is)
  (case a3=>k_is)
  (case l3=>k_is)
  (case c3=>k_is)
  (case k3=>k_is)
  (case a4=>k_is)
  (case l4=>k_is)
  (case c4=>k_is)
  (case k4=>k_is)
  (case a5=>k_is)
  (case l5=>k_is)
  (case c5=>k_is)
  (case k5=>k_is)
  (case a6=>k_is)
  (case l6=>k_is)
  (case c6=>k_is)
  (case k6=>k_is)
  (case a7=>k_is)
  (case l7=>k_is)
  (case c7=>k_is)
  (case k7=>k_is)
  (case a8=>k_is)
  (case l8=>k_is)
  (case c8=>k_is)
  (case k8=>k_is)
  (case a9=>k_is)
  (case l9=>k_is)
  (case c9=>k_is)
  (case k9=>k_is)
  (case a10=>k_is)
  (case l10=>k_is)
  (case c10=>k_is)
  (case k10=>k_is)
  (case a11=>k_is)
  (case l11=>k_is)
  (case c11=>k_is)
  (case k11=>k_is)
  (case a12=>k_is)
  (case l12=>k_is)
  (case c12=>k_is)
  (case k12=>k_is)
  (case a13=>k_is)
  (case l13=>k_is)
  (case c13=>k_is)
  (case k13=>k_is)
  (case a14=>k_is)
  (case l14=>k_is)
  (case c14=>k_is)
  (case k14=>k_is)
  (case a15=>k_is)
  (case l15=>k_is)
  (case c15=>k_is)
  (case k15=>k_is)
  (case a16=>k_is)
  (case l16=>k_is)
  (case c16=>k_is)
  (case k16=>k_is)
  (case a17=>k_is)
  (case l17=>k_is)
  (case c17=>k_is)
  (case k17=>k_is)
  (case a18=>k_is)
  (case l18=>k_is)
  (case c18=>k_is)
  (case k18=>k_is)
  (case a19=>k_is)
  (case l19=>k_is)
  (case c19=>k_is)
  (case k19=>k_is)
  (case a20=>k_is)
  (case l20=>k_is)
  (case c20=>k_is)
  (case k20=>k_is)
  (case a21=>k_is)
  (case l21=>k_is)
  (case c21=>k_is)
  (case k21=>k_is)
  (case a22=>k_is)
  (case l22=>k_is)
  (case c22=>k_is)
  (case k22=>k_is)
  (case a23=>k_is)
  (case l23=>k_is)
  (case c23=>k_is)
  (case k23=>k_is)
  (case a24=>k_is)
  (case l24=>k_is)
  (case c24=>k_is)
  (case k24=>k_is)
  (case a25=>k_is)
  (case l25=>k_is)
  (case c25=>k_is)
  (case k25=>k_is)
  (case a26=>k_is)
  (case l26=>k_is)
  (case c26=>k_is)
  (case k26=>k_is)
  (case nddictK=>k_is)
  (case z_dict=>k_is)
  (case z_int=>k_is)
  (case z_len=>k_is)
  (case z_list=>k_is)
  (case z_min=>k_is)
  (case z_range=>k_is)
  (case z_reversed=>k_is)
  (case z_sorted=>k_is)
  (case z_tuple=>k_is)
  (case z_zip=>k_is)

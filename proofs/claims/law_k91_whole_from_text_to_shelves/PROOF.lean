import PyProof.Rows.All
import Wide.All
import OpenK.AllK
import Wide.FinOn
import Lean
import PyProof.EqAt
import PyProof.EqKinds
import PyProof.TupleCall
import PySem.Challenge.RW_lentshelf_k91_whole_from_text_to_shelves
set_option compiler.extract_closed false
noncomputable section
set_option Elab.async false
set_option linter.all false
set_option bootstrap.genMatcherCode false
set_option maxRecDepth 100000
section
open PySem.W (Frag fnOf keepIn nsIn codeIn)
section
open PySem PySem.Spec PyProof.Rows
def aAA:=@Heap.get?_push_of_some
def aAB:=@wpAny_bind
def aAC:=@List.getElem?_eq_some_iff
def aAD:=@List.take_length
def aAE:=@Heap.get?_push_size
def aAF:=@wpAny_pure
def aAG:=@PySem.W.mg_of
def aAH:=@Nat.le_refl
def aAI:=@if_neg
def aAJ:=@if_pos
def aAK:=@List.size_toArray
def aAL:=@List.length_map
def aAM:=@Heap.lt_size
def aAN:=@Option.map_eq_some_iff
def aAO:=@List.mem_cons
def aAP:=@Option.some.injEq
def aAQ:=@List.mem_singleton
def aAR:=@Nat.lt_of_lt_of_le
def aAS:=@List.take_of_length_le
def aAT:=@List.length_append
def aAU:=@decide_eq_true_eq
def aAV:=@List.getElem?_map
def aAW:=@PySem.boot_len
def aAX:=@Heap.size_push
def aAY:=@Int.emod_lt_of_pos
def aAZ:=@List.mem_of_getElem?
def aBA:=@List.length_cons
def aBB:=@List.getElem?_eq_getElem
def aBC:=@List.map_cons
def aBD:=@Bool.false_eq_true
def aBE:=@List.getElem?_append_left
def aBF:=@sizeLine_eq
def aBG:=@Bool.false_ne_true
def aBH:=@wpAny_field
def aBI:=@decide_eq_false
def aBJ:=@Nat.ne_of_lt
def aBK:=@List.mem_map
def aBL:=@List.not_mem_nil
def aBM:=@Int.emod_nonneg
def aBN:=@List.mem_append
def aBO:=@Nat.le_trans
def aBP:=@Int.toNat_natCast
def aBQ:=@wpAny_setField_rec
def aBR:=@wpAny_callSpecial?_slot
def aBS:=@wpAny_loadPart'
def aBT:=@wpAny_holding
def aBU:=@List.take_add_one
def aBV:=@List.getElem?_set_self
def aBW:=@PySem.W.mg_none_of
def aBX:=@List.mem_append_right
def aBY:=@wpAny_call_entry
def aBZ:=@PassesOwn.never
def aCA:=@List.map_map
def aCB:=@wpAny_of_eq
def aCC:=@wpAny_newObj_type
def aCD:=@PyProof.Rows.slot_tuple_getitem
def aCE:=@List.getElem?_append_right
def aCF:=@List.getElem?_set_ne
def aCG:=@Nat.pow_le_pow_right
def aCH:=@List.mem_cons_of_mem
def aCI:=@List.drop_eq_nil_of_le
def aCJ:=@List.drop_eq_getElem_cons
def aCK:=@List.length_range
def aCL:=@List.getElem?_eq_none
def aCM:=@List.set_set
def aCN:=@PyProof.Rows.callWith_type1
def aCO:=@Bool.and_eq_true
def aCP:=@List.mem_of_mem_take
def aCQ:=@if_true
def aCR:=@wpAny_pyIter_list
def aCS:=@List.lookup_cons
def aCT:=@call_meets
def aCU:=@Nat.add_sub_cancel_left
def aCV:=@List.map_append
def aCW:=@List.filterMap_cons
def aCX:=@List.takeWhile_cons
def aCY:=@List.map_congr_left
def aCZ:=@List.pairwise_iff_getElem
def aDA:=@wpAny_rule
def aDB:=@or_false
def aDC:=@if_false
def aDD:=@of_decide_eq_true
def aDE:=@Nat.lt_irrefl
def aDF:=@List.dropWhile_cons
def aDG:=@Array.length_toList
def aDH:=@List.replicate_succ
def aDI:=@wpAny_seqItems
def aDJ:=@List.drop_zero
def aDK:=@wpAny_pyIter_tuple
def aDL:=@Obj.data_mapFields
def aDM:=@List.mem_cons_self
def aDN:=@F.slot_enumerate_next
def aDO:=@wpAny_passesOwn
def aDP:=@Prod.mk.injEq
def aDQ:=@List.any_cons
def aDR:=@F.slot_tuple_iterator_next
def aDS:=@Int.emod_eq_of_lt
def aDT:=@List.mem_iff_getElem
def aDU:=@wpAny_mono
def aDV:=@List.drop_suffix
def aDW:=@List.map_nil
def aDX:=@Option.isSome_iff_exists
def aDY:=@List.length_take
def aDZ:=@List.cons_append
def aEA:=@Heap.SameBut.update
def aEB:=@PySem.mem_of_lookup
def aEC:=@List.all_cons
def aED:=@wpAny_attempt
def aEE:=@wpAny_standAt
def aEF:=@wpAny_Call_Name_kw
def aEG:=@List.append_nil
def aEH:=@List.forIn_cons
def aEI:=@PySem.F.slot_str_split
def aEJ:=@List.range_succ_eq_map
def aEK:=@wpAny_truthy_bool
def aEL:=@builtinLookup_eq_fast
def aEM:=@isSubtype_type
def aEN:=@Nat.ne_of_gt
def aEO:=@List.filterMap_append
def aEP:=@Heap.get?_update_self
def aEQ:=@List.getElem?_concat_length
def aER:=@List.length_drop
def aES:=@Nat.lt_succ_self
def aET:=@List.mem_reverse
def aEU:=@F.slot_tuple_mul
def aEV:=@F.args_object_init_3
def aEW:=@wpAny_specialOf
def aEX:=@F.slot_zip_next
def aEY:=@Nat.min_eq_left
def aEZ:=@Option.map_some
def aFA:=@PySem.F.args_tuple_add_2
def aFB:=@PySem.F.args_str_split_2
def aFC:=@Nat.pow_succ
def aFD:=@List.filterMap_map
def aFE:=@List.getElem?_take
def aFF:=@of_decide_eq_false
def aFG:=@typeIs_str
def aFH:=@wpAny_setField
def aFI:=@PySem.F.plainAttrs_list
def aFJ:=@PySem.F.entry_tuple_add
def aFK:=@PySem.F.entry_str_split
def aFL:=@List.flatten_cons
def aFM:=@Nat.lt_succ_of_lt
def aFN:=@PySem.F.slot_tuple_add
def aFO:=@wpAny_pyIter_rangeiter
def aFP:=@PySem.F.plainAttrs_str
def aFQ:=@Nat.zero_le
def aFR:=@wpAny_isInstance
def aFS:=@F.typeCall_zip_2
def aFT:=@List.map_reverse
def aFU:=@Obj.isFreed_of_fields
def aFV:=@List.length_replicate
def aFW:=@F.slot_range_reversed
def aFX:=@List.takeWhile_append_dropWhile
def aFY:=@List.nodup_cons
def aFZ:=@List.nil_append
def aGA:=@callType_new
def aGB:=@typeLookup_type
def aGC:=@Bool.or_eq_false_iff
def aGD:=@F.entry_zip_new
def aGE:=@F.newCall_zip_2
def aGF:=@codeAny_mono
def aGG:=@List.foldl_cons
def aGH:=@F.slot_int_rmul
def aGI:=@wpAny_execs_nil
def aGJ:=@wpAny_ite_false
def aGK:=@wpAny_updateSeq_pair
def aGL:=@List.take_succ_cons
def aGM:=@List.forIn_nil
def aGN:=@List.take_left
def aGO:=@decide_eq_true
def aGP:=@List.drop_drop
def aGQ:=@Nat.le_succ
def aGR:=@seqIndex_of
def aGS:=@false_iff
def aGT:=@F.called_enumerate
def aGU:=@assignInOrder_cons
def aGV:=@F.args_tuple_mul_2
def aGW:=@List.mem_filterMap
def aGX:=@Option.isNone_some
def aGY:=@wpAny_onRaise
def aGZ:=@wpAny_pyIter_slot
def aHA:=@slot_list_getitem
def aHB:=@List.append_assoc
def aHC:=@F.entry_tuple_mul
def aHD:=@List.ext_getElem?
def aHE:=@typeIs_int
abbrev aHF:List Str:=["expr"]
abbrev aHG:List Str:=["n","givens","shelves","deed"]
abbrev aHH:List Str:=["numbers","many"]
abbrev aHI:List Str:=["n","deeds"]
abbrev aHJ:List Str:=["n","deed"]
abbrev aHK:List Str:=["program","places"]
abbrev aHL:List Str:=["deed","places"]
abbrev aHM:List Str:=["n","expr","S","B","C"]
abbrev aHN:List Str:=["n","expr","shelf","ts"]
abbrev aHO:List Str:=["n","word","one","other"]
abbrev aHP:List Str:=["n","first","second"]
abbrev aHQ:List Str:=["n","givens","expr","most"]
abbrev aHR:List Str:=["program","paper","S","B","C","by"]
abbrev aHS:List Str:=["n","deeds","at","paper","shelves","by","back"]
abbrev aHT:List Str:=["n","deeds","at","shelves","by","back"]
abbrev aHU:List Str:=["deeds","at","asked"]
abbrev aHV:List Str:=["text","at"]
abbrev aHW:List Str:=["text","most"]
abbrev aHX:List Str:=["text"]
abbrev aHY:List Str:=["text","at","brackets"]
abbrev aHZ:List Str:=["shelf","number","words"]
abbrev aIA:List Str:=["letter","word"]
abbrev aIB:List Str:=["program","givens","contents"]
abbrev aIC:List Str:=["n","deed","givens","contents"]
abbrev aID:List Str:=["places","numbers"]
abbrev aIE:List Str:=["n","saying"]
abbrev aIF:List Str:=["n","k","parts"]
abbrev aIG:List Str:=["n","number"]
abbrev aIH:List Str:=["_law_script","_law_k"]
abbrev aII:List Str:=["_law_box_here","_law_many"]
abbrev aIJ:List Str:=["_law_box_here"]
abbrev aIK:List Str:=["_law_box_here","_law_n_here"]
abbrev aIL:List Str:=["_law_box_here","_law_n_here","_law_many"]
abbrev aIM:List Str:=["_law_box_here","_law_givens","_law_room","_law_deep"]
abbrev aIN:List Str:=["_law_n_here","_law_expr_here","_law_given"]
abbrev aIO:List Str:=["_law_expr_here"]
abbrev aIP:List Str:=["_law_n_here","_law_expr_here"]
abbrev aIQ:List Str:=["_law_n_here","_law_expr_here","_law_places","_law_given","_law_contents"]
abbrev aIR:List Str:=["_law_box_here","_law_givens"]
abbrev aIS:List Str:=["_law_box_here","_law_n_here","_law_givens"]
abbrev aIT:List Str:=["_law_script"]
abbrev aIU:List Str:=["program","places","n","givens","deeds"]
abbrev aIV:List Str:=["program","n","givens","shelves","deeds","rows"]
abbrev aIW:List Str:=["row","words","numbers","n","givens","shelves"]
abbrev aIX:List Str:=["shelf","number","words","many","gs","ts"]
abbrev aIY:List Str:=["n","saying","word","one","other"]
abbrev aIZ:List Str:=["n","k","parts","many","total","part","numbers","told","i"]
abbrev aJA:List Str:=["n","row","told","left","over","i"]
abbrev aJB:List Str:=["_law_box_here","_law_n_here","_law_givens","_law_some"]
abbrev aJC:List Str:=["_law_script","_law_k","_law_box_here","_law_n_here","_law_givens","_law_left","_law_contents","_law_places","_law_expr_here","_law_form"]
abbrev aJD:List Str:=["_law_k","_law_box_here","_law_n_here"]
abbrev aJE:List Str:=["_law_turn","_law_box_here","_law_givens"]
abbrev aJF:List Str:=["_law_turn","_law_left","_law_box_here"]
end
variable{xs ys items:Array PySem.Value}{us its bm:List PySem.Value}{x y name qual z:PySem.Str}{u u2:PySem.Value}{a it C dx LE src l1 l2:PySem.Addr}{P:PySem.Program}{w:PySem.World}{h h' base:PySem.Heap}{α β:Type}{pins:List (PySem.Addr×PySem.Obj)}{s s' s₂:PySem.Shared}{t' i j m G S:Nat}{ch fp μ μ1:List PySem.Addr}{N ps loose Nc:List PySem.Str}{A A':PySem.Around}{Q:PySem.Value->PySem.Shared->Prop}{K:Frag}{st:PySem.Stmt}{n:Int}{pos' py p tpos apos p2 cpos pos2:PySem.Pos}{op:PySem.CmpOp}{body:List PySem.Stmt}{lo hi:Option Int}{mA mg:PySem.Str->Option PySem.Value}{fd:PySem.FuncData}{kindOf:PySem.Str->Option PySem.NameKind}{outer:List PySem.Env}{an od d:Option PySem.Addr}{osl sl:Array (Option PySem.Value)}{ws:List (List Nat)}{l ts acc:List Nat}{XP:(PySem.Str->Option PySem.Value)->PySem.Heap->Prop}{YP:PySem.World->PySem.Heap->Prop}{ns gs cs:List Int}{env:PySem.Env}{js os:List (Option Nat)}{cl:List (PySem.Str×PySem.Addr)}{tn:Nat->PySem.Heap->Prop}{byb:Bool}
section
open PySem PySem.Spec PyProof.Rows
namespace L2
abbrev Key:=Sum Int Str
def keyIs:Key->Value->Bool
 |.inl k,v=>Value.isInt k v
 |.inr x,v=>Value.isStrOf x v
def keyH(w:World):Key->Int
 |.inl k=>hashInt k
 |.inr x=>hashStr w x
theorem eD:∀{k:Key} {v:Value},keyIs k v=true->(∃i t,k=Sum.inl i/\v=Value.int i t)\/(∃x t,k=Sum.inr x/\v=Value.str x t)
 |.inl i,v,h=>by
  obtain⟨t,e⟩:=Value.isInt_shape (k:=i) (v:=v) h
  exact .inl ⟨i,t,rfl,e⟩
 |.inr x,v,h=>by
  obtain⟨t,e⟩:=Value.isStrOf_shape (x:=x) (v:=v) h
  exact .inr ⟨x,t,rfl,e⟩
theorem aQp(a b:Int):decide ((Sum.inl a:Key)=Sum.inl b)=(a==b):=by
 by_cases e:a=b
 ·subst e;simp
 ·have h:¬(Sum.inl a:Key)=Sum.inl b:=λq=>e (Sum.inl.inj q)
  rw[aBI h]
  exact(beq_eq_false_iff_ne.mpr e).symm
theorem aQz(a b:Str):decide ((Sum.inr a:Key)=Sum.inr b)=decide (a=b):=by
 by_cases e:a=b
 ·subst e;simp
 ·have h:¬(Sum.inr a:Key)=Sum.inr b:=λq=>e (Sum.inr.inj q)
  rw[aBI h,aBI e]
theorem aTd(a:Int)(b:Str):decide ((Sum.inl a:Key)=Sum.inr b)=false:=aBI (λq=>nomatch q)
theorem aPw(a:Str)(b:Int):decide ((Sum.inr a:Key)=Sum.inl b)=false:=aBI (λq=>nomatch q)
def mixKind(prog:Program)(w:World):PySem.KeyKind prog w Key where
 is:=keyIs
 hash:=keyH w
 inj:=λv a b ha hb=>by
  rcases eD ha with⟨i,t,rfl,rfl⟩|⟨x,t,rfl,rfl⟩
  ·rcases eD hb with⟨j,u,rfl,e⟩|⟨y,u,rfl,e⟩
   ·injection e with e1 _;rw[e1]
   ·exact nomatch e
  ·rcases eD hb with⟨j,u,rfl,e⟩|⟨y,u,rfl,e⟩
   ·exact nomatch e
   ·injection e with e1 _;rw[e1]
 byValue:=λk v h=>by
  rcases eD h with⟨i,t,rfl,rfl⟩|⟨x,t,rfl,rfl⟩ <;> rfl
 pyHash:=λhv h=>by
  rcases eD hv with⟨i,t,rfl,rfl⟩|⟨x,t,rfl,rfl⟩
  ·exact wpAny_pyHash_int h
  ·exact wpAny_pyHash_str h
 eqBool:=λhu hv h=>by
  rcases eD hu with⟨i,t,rfl,rfl⟩|⟨x,t,rfl,rfl⟩
  ·rcases eD hv with⟨j,u,rfl,rfl⟩|⟨y,u,rfl,rfl⟩
   ·rw[aQp]at h;exact wpAny_eqBool_int h
   ·rw[aTd]at h;exact SeqAt.EqAt.int_str i t y u _ _ _ _ h
  ·rcases eD hv with⟨j,u,rfl,rfl⟩|⟨y,u,rfl,rfl⟩
   ·rw[aPw]at h;exact SeqAt.EqAt.str_int x t j u _ _ _ _ h
   ·rw[aQz]at h;exact wpAny_eqBool_str h
 «strs»:=λk x t v h=>by
  rcases eD h with⟨i,u,rfl,e⟩|⟨y,u,rfl,e⟩
  ·exact nomatch e
  ·injection e with e1 _
   subst e1
   cases v <;> rfl
inductive V where
 |non|bl (b:Bool)|int (i:Int)|str (x:Str)|byt (b:Array UInt8)|flt (b:UInt64)|ref (a:Addr)|ty (n:String)
 deriving DecidableEq
def RelV:V->Value->Prop
 |.non,u=>u=Value.none
 |.bl b,u=>u=Value.bool b
 |.int i,u=>∃t,u=Value.int i t
 |.str x,u=>∃t,u=Value.str x t
 |.byt b,u=>∃t,u=Value.bytes b t
 |.flt b,u=>∃t,u=Value.float b t
 |.ref a,u=>u=Value.ref a
 |.ty n,u=>u=Value.type n
abbrev Vals:List V->List Value->Prop:=Paired RelV
theorem Vals.length{xs:List V}{us:List Value}(r:Vals xs us):xs.length=us.length:=Paired.length r
theorem Vals.get:∀{xs:List V} {us:List Value} {i:Nat} {x:V},Vals xs us->xs[i]?=some x->∃u,us[i]?=some u/\RelV x u
 |_,_,_,_,.nil,e=>by simp at e
 |_,_,0,_,.cons r _,e=>by simp at e;subst e;exact⟨_,rfl,r⟩
 |_,_,i+1,x,.cons _ t,e=>by
  obtain⟨u,h1,h2⟩:=Vals.get (i:=i) (x:=x) t (by simpa using e)
  exact⟨u,by simpa using h1,h2⟩
theorem Vals.set{x:V}{u:Value}(r:RelV x u):∀{xs:List V} {us:List Value} (i:Nat),Vals xs us->Vals (xs.set i x) (us.set i u)
 |_,_,_,.nil=>.nil
 |_,_,0,.cons _ t=>.cons r t
 |_,_,i+1,.cons q t=>.cons q (Vals.set r i t)
theorem Vals.append:∀{xs ys:List V} {us ws:List Value},Vals xs us->Vals ys ws->Vals (xs++ys) (us++ws)
 |_,_,_,_,.nil,s=>s
 |_,_,_,_,.cons r t,s=>.cons r (Vals.append t s)
theorem Vals.take:∀{xs:List V} {us:List Value} (n:Nat),Vals xs us->Vals (xs.take n) (us.take n)
 |_,_,0,_=>.nil
 |_,_,_+1,.nil=>.nil
 |_,_,n+1,.cons r t=>.cons r (Vals.take n t)
theorem Vals.drop:∀{xs:List V} {us:List Value} (n:Nat),Vals xs us->Vals (xs.drop n) (us.drop n)
 |_,_,0,r=>r
 |_,_,_+1,.nil=>.nil
 |_,_,n+1,.cons _ t=>Vals.drop n t
def RelO:Option V->Option Value->Prop
 |some v,some u=>RelV v u
 |none,none=>True
 |_,_=>False
def KV{κ:Type}:List (κ×V)->List (κ×Value)->Prop:=Paired λ(p:κ×V) (q:κ×Value)=>p.1=q.1/\RelV p.2 q.2
def kV:Key->V
 |.inl i=>.int i
 |.inr x=>.str x
inductive HO where
 |lst (xs:List V)
 |tup (xs:List V)
 |dK (kvs:List (Key×V))|dT (kvs:List (List Key×V))
 |set (S:Int->Bool) (n:Nat)
 |ins (C dx:Addr) (fs:List (Str×V))
 |own (x:Addr)
 |xd (fs:List (Str×V))
 |met (f x:Addr)
 |rng (lo hi:Int)
 |frz (o:Obj) (u:HO)
 |tbl (ps:Array Value)
 |ext (φ:Heap->Prop)
abbrev Hp:=Addr->Option HO
def upd(H:Hp)(a:Addr)(o:HO):Hp:=λb=>if b=a then some o else H b
variable{H:Hp}{o:HO}
theorem cQ :upd H a o a=some o:=by unfold upd;rw[aAJ rfl]
variable{b:Addr}
theorem bN(h:b≠a):upd H a o b=H b:=by unfold upd;rw[aAI h]
theorem dU(h:H a=some o)(h':H b=none):a≠b:=by
 intro e;subst e;rw[h]at h';cases h'
section
variable(P:Program)(w:World)
def ObjOk(H:Hp)(h:Heap)(a:Addr):HO->Prop
 |.lst xs=>xs.length<=sizeLine/\∃(its:List Value) (n:Nat),Vals xs its/\h.get? a=some {cls:=.type "list",data:=.seq its.toArray n}
 |.tup xs=>xs.length<=sizeLine/\∃its:List Value,Vals xs its/\IsTup h a its.toArray
 |.dK kvs=>kvs.length<=sizeLine/\(a==sysModules)=false/\∃vs,KV kvs vs/\h.DictOf (mixKind P w) a vs
 |.dT kvs=>kvs.length<=sizeLine/\(a==sysModules)=false/\∃xs:List (List Key×Addr×Value),
   Paired (λ(p:List Key×V) (q:List Key×Addr×Value)=>p.1=q.1/\H q.2.1=some (.tup (p.1.map kV))/\RelV p.2 q.2.2) kvs xs /\
   ∃o es ep,h.get? a=some o/\o.ExactDict/\o.data=.dict es ep/\es.toList=xs.map (entryOfKey (tupleKind (mixKind P w)))/\(xs.map (·.1)).Nodup
 |.set S n=>h.SetOf (intKind P w) a S n
 |.ins C dx fs=>H dx=some (.own a)/\fs.length<=1000/\dx≠a/\h.get? a=some (PySem.W.instObj C dx) /\
   ∃mA,h.Ns1 dx mA/\(∀f,RelO (fs.lookup f) (mA f))/\PySem.Within mA (fs.map (·.1))
 |.own _=>∃o,h.get? a=some o
 |.xd fs=>∃mA,h.Ns1 a mA/\∀f,RelO (fs.lookup f) (mA f)
 |.rng lo hi=>∃t u v,h.get? a=some {cls:=.type "range",data:=.fields #[.int lo t,.int hi u,.int 1 v]}
 |.frz o u=>h.get? a=some o/\ObjOk H h a u
 |.tbl ps=>h.get? a=some {cls:=.none,data:=.fields ps}
 |.met f x=>h.get? a=some (PySem.W.methodObj (.ref f) (.ref x))
 |.ext φ=>φ h/\(∃o,h.get? a=some o)/\∀h1 h2:Heap,φ h1->(∀o,h1.get? a=some o->h2.get? a=some o)->φ h2
def HOk(H:Hp)(h:Heap):Prop:=∀a o,H a=some o->ObjOk P w H h a o
end
variable{H':Hp}
theorem ObjOk.lt(x:ObjOk P w H h a o):a < h.objs.size:=by
 cases o with
 |lst xs=>obtain⟨_,_,_,_,e⟩:=x;exact aAM e
 |tup xs=>obtain⟨_,_,_,p⟩:=x;exact p.lt
 |dK kvs=>obtain⟨_,_,_,_,o,_,_,e,_⟩:=x;exact aAM e
 |dT kvs=>obtain⟨_,_,_,_,o,_,_,e,_⟩:=x;exact aAM e
 |set S n=>obtain⟨o,_,_,_,e,_⟩:=x;exact aAM e
 |ins C dx fs=>obtain⟨_,_,_,e,_⟩:=x;exact aAM e
 |own y=>obtain⟨_,e⟩:=x;exact aAM e
 |xd fs=>obtain⟨_,⟨_,_,_,e,_⟩,_⟩:=x;exact aAM e
 |rng lo hi=>obtain⟨_,_,_,e⟩:=x;exact aAM e
 |frz ob u=>obtain⟨e,_⟩:=x;exact aAM e
 |tbl ps=>exact aAM (show h.get? a=some _ from x)
 |met f y=>exact aAM (show h.get? a=some _ from x)
 |ext φ=>obtain⟨_,⟨_,e⟩,_⟩:=x;exact aAM e
theorem Paired.mapP{α β:Type}{F G:α->β->Prop}:∀{l₁:List α} {l₂:List β},Paired F l₁ l₂->(∀a b,F a b->G a b)->Paired G l₁ l₂
 |_,_,.nil,_=>.nil
 |_,_,.cons r t,f=>.cons (f _ _ r) (Paired.mapP t f)
theorem ObjOk.stay(x:ObjOk P w H h a o)(k:∀b u,(b=a\/H b=some (.own a))->h.get? b=some u->h'.get? b=some u)
  (ho:∀b,H b=some (.own a)->H' b=some (.own a))(ht:∀b xs,H b=some (.tup xs)->H' b=some (.tup xs)):ObjOk P w H' h' a o:=by
 induction o with
 |lst xs=>obtain⟨z,its,n,r,e⟩:=x;exact⟨z,its,n,r,k _ _ (.inl rfl) e⟩
 |tup xs=>obtain⟨z,its,r,ob,e,c⟩:=x;exact⟨z,its,r,ob,k _ _ (.inl rfl) e,c⟩
 |dK kvs=>obtain⟨z,y,vs,r,ob,es,ep,e,c⟩:=x;exact⟨z,y,vs,r,ob,es,ep,k _ _ (.inl rfl) e,c⟩
 |dT kvs =>
  obtain⟨z,y,xs,r,ob,es,ep,e,c⟩:=x
  exact⟨z,y,xs,Paired.mapP r λp q z=>⟨z.1,ht _ _ z.2.1,z.2.2⟩,ob,es,ep,k _ _ (.inl rfl) e,c⟩
 |set S n=>obtain⟨ob,es,ep,t,e,c⟩:=x;exact⟨ob,es,ep,t,k _ _ (.inl rfl) e,c⟩
 |ins C dx fs =>
  obtain⟨d,z,ne,e,mA,⟨od,es,ep,e2,c⟩,r⟩:=x
  exact⟨ho _ d,z,ne,k _ _ (.inl rfl) e,mA,⟨od,es,ep,k _ _ (.inr d) e2,c⟩,r⟩
 |own y=>obtain⟨ob,e⟩:=x;exact⟨ob,k _ _ (.inl rfl) e⟩
 |xd fs=>obtain⟨mA,⟨od,es,ep,e,c⟩,r⟩:=x;exact⟨mA,⟨od,es,ep,k _ _ (.inl rfl) e,c⟩,r⟩
 |rng lo hi=>obtain⟨t,u,v,e⟩:=x;exact⟨t,u,v,k _ _ (.inl rfl) e⟩
 |frz ob u ih=>obtain⟨e,q⟩:=x;exact⟨k _ _ (.inl rfl) e,ih q⟩
 |tbl ps =>
  have e:h.get? a=some {cls:=.none,data:=.fields ps}:=x
  show h'.get? a=some {cls:=.none,data:=.fields ps}
  exact k a _ (.inl rfl) e
 |met f y =>
  have e:h.get? a=some (PySem.W.methodObj (.ref f) (.ref y)):=x
  show h'.get? a=some (PySem.W.methodObj (.ref f) (.ref y))
  exact k a _ (.inl rfl) e
 |ext φ=>obtain⟨p,⟨o,e⟩,st⟩:=x;exact⟨st _ _ p λo q=>k _ _ (.inl rfl) q,⟨o,k _ _ (.inl rfl) e⟩,st⟩
theorem HOk.lt(x:HOk P w H h)(e:H a=some o):a < h.objs.size:=(x a o e).lt
theorem HOk.fresh(x:HOk P w H h)(e:h.objs.size<=a):H a=none:=by
 cases q:H a with
 |none=>rfl
 |some u=>exact absurd (aAR (x.lt q) e) (aDE _)
theorem HOk.kept(x:HOk P w H h)(k:∀b u,h.get? b=some u->h'.get? b=some u):HOk P w H h':=λa o e =>
 (x a o e).stay (λb u _ q=>k b u q) (λ_ q=>q) λ_ _ q=>q
theorem HOk.laid(x:HOk P w H h)(k:∀b u,h.get? b=some u->h'.get? b=some u)(hp:h.objs.size<=a)(new:ObjOk P w (upd H a o) h' a o):HOk P w (upd H a o) h':=λb u e=>by
 have hn:=x.fresh hp
 by_cases hb:b=a
 ·subst hb;rw[cQ]at e;cases e;exact new
 ·rw[bN hb]at e
  exact(x b u e).stay (λc v _ q=>k c v q) (λc q=>by rw[bN (dU q hn)];exact q) λc xs q=>by rw[bN (dU q hn)];exact q
def Rd(H:Hp)(a:Addr)(u:HO):Prop:=H a=some u\/∃o,H a=some (.frz o u)
theorem Rd.ok{u:HO}(r:Rd H a u)(x:HOk P w H h):ObjOk P w H h a u:=by
 rcases r with r|⟨o,r⟩
 ·exact x a u r
 ·obtain⟨_,q⟩:=x a _ r
  exact q
def Mut:Option HO->Prop
 |some (.lst _)=>True
 |some (.dK _)=>True
 |some (.dT _)=>True
 |some (.set _ _)=>True
 |some (.ins _ _ _)=>True
 |some (.ext _)=>True
 |_=>False
variable{x e:Addr}{o':HO}
theorem HOk.write(ok:HOk P w H h)(mu:Mut (H x))(he:e=x\/H e=some (.own x))(k:∀b u,b≠e->h.get? b=some u->h'.get? b=some u)(heo:∃u,h'.get? e=some u)
  (new:ObjOk P w (upd H x o') h' x o'):HOk P w (upd H x o') h':=λb u q=>by
 have nown:∀c y,H c=some (.own y)->c≠x:=λc y r z=>by subst z;rw[r]at mu;exact mu
 have ntup:∀c xs,H c=some (.tup xs)->c≠x:=λc xs r z=>by subst z;rw[r]at mu;exact mu
 by_cases hb:b=x
 ·subst hb;rw[cQ]at q;cases q;exact new
 ·rw[bN hb]at q
  by_cases hbe:b=e
  ·have q':H b=some (.own x):=by
    rcases he with z|z
    ·exact absurd (hbe.trans z) hb
    ·rw[hbe];exact z
   rw[q]at q';cases q'
   obtain⟨v,hv⟩:=heo
   exact⟨v,by rw[hbe];exact hv⟩
  ·refine(ok b u q).stay (λc v hc r=>k c v ?_ r) (λc r=>by rw[bN (nown c b r)];exact r) λc xs r=>by rw[bN (ntup c xs r)];exact r
   rcases hc with rfl|hc
   ·exact hbe
   ·rintro rfl
    rcases he with z|z
    ·exact nown c b hc z
    ·rw[hc]at z;cases z;exact hb rfl
structure Un(fs ex:List Addr)(H H':Hp)(h h':Heap):Prop where
 keep:∀b o,h.get? b=some o->H b=none->b∉fs->b∉ex->h'.get? b=some o
 slot:∀b o,h.get? b=some o->H b=none->b∈fs->b∉ex->∃sl,h'.get? b=some {o with slots:=sl}
 free:∀b o,h.get? b=some o->H b=none->b∉ex->H' b=none
 there:∀b o,h.get? b=some o->b∉ex->∃o',h'.get? b=some o'
 tups:∀b xs,H b=some (.tup xs)->H' b=some (.tup xs)
 frzs:∀b o u,H b=some (.frz o u)->H' b=some (.frz o u)
 tbls:∀b ps,H b=some (.tbl ps)->∃more,H' b=some (.tbl (ps++more))
section
variable{fs fs' ex ex':List Addr}{H1 H2:Hp}{h1 h2:Heap}
theorem Un.any(u:Un fs ex H H1 h h1){ob:Obj}(q:h.get? b=some ob)(n:H b=none)(hx:b∉ex):∃sl,h1.get? b=some {ob with slots:=sl}:=by
 by_cases hb:b∈fs
 ·exact u.slot b ob q n hb hx
 ·exact⟨ob.slots,u.keep b ob q n hb hx⟩
theorem Un.trans(a:Un fs ex H H1 h h1)(b:Un fs ex H1 H2 h1 h2):Un fs ex H H2 h h2 where
 keep:=λc ob q n hc hx=>b.keep c ob (a.keep c ob q n hc hx) (a.free c ob q n hx) hc hx
 slot:=λc ob q n hc hx=>by
  obtain⟨sl,e1⟩:=a.slot c ob q n hc hx
  obtain⟨sl',e2⟩:=b.slot c _ e1 (a.free c ob q n hx) hc hx
  exact⟨sl',e2⟩
 free:=λc ob q n hx=>by
  obtain⟨o',e1⟩:=a.there c ob q hx
  exact b.free c o' e1 (a.free c ob q n hx) hx
 there:=λc ob q hx=>by
  obtain⟨o',e1⟩:=a.there c ob q hx
  exact b.there c o' e1 hx
 tups:=λc xs q=>b.tups c xs (a.tups c xs q)
 frzs:=λc ob xs q=>b.frzs c ob xs (a.frzs c ob xs q)
 tbls:=λc ps q=>by
  obtain⟨m1,e1⟩:=a.tbls c ps q
  obtain⟨m2,e2⟩:=b.tbls c _ e1
  exact⟨m1++m2,by rw[e2,Array.append_assoc]⟩
theorem Un.kept(k:∀b u,h.get? b=some u->h'.get? b=some u):Un fs ex H H h h' :=
 ⟨λb ob q _ _ _=>k b ob q,λb ob q _ _ _=>⟨ob.slots,k b ob q⟩,λ_ _ _ n _=>n,λb ob q _=>⟨ob,k b ob q⟩,λ_ _ q=>q,λ_ _ _ q=>q,λ_ ps q=>⟨#[],by rw[q];simp⟩⟩
theorem Un.refl:Un fs ex H H h h:=Un.kept λ_ _ q=>q
theorem Un.laid(k:∀b u,h.get? b=some u->h'.get? b=some u)(hp:h.objs.size<=a)(hn:H a=none):Un fs ex H (upd H a o) h h' where
 keep:=λb u q _ _ _=>k b u q
 slot:=λb u q _ _ _=>⟨u.slots,k b u q⟩
 free:=λb u q n _=>by rw[bN (aBJ (aAR (aAM q) hp))];exact n
 there:=λb u q _=>⟨u,k b u q⟩
 tups:=λb xs q=>by rw[bN (dU q hn)];exact q
 frzs:=λb u xs q=>by rw[bN (dU q hn)];exact q
 tbls:=λb ps q=>⟨#[],by rw[bN (dU q hn),q];simp⟩
theorem Un.write(mu:Mut (H x))(he:e=x\/H e=some (.own x))(k:∀b u,b≠e->h.get? b=some u->h'.get? b=some u)(heo:∃u,h'.get? e=some u):Un fs ex H (upd H x o) h h':=by
 have hx:∀b,H b=none->b≠x:=λb n z=>by subst z;rw[n]at mu;exact mu
 have hb:∀b,H b=none->b≠e:=λb n z=>by
  subst z
  rcases he with r|r
  ·exact hx b n r
  ·rw[n]at r;cases r
 have hm:∀b u,H b=some u->¬Mut (some u)->b≠x:=λb u q nm z=>by subst z;rw[q]at mu;exact nm mu
 refine⟨λb u q n _ _=>k b u (hb b n) q,λb u q n _ _=>⟨u.slots,k b u (hb b n) q⟩,λb u q n _=>by rw[bN (hx b n)];exact n,λb u q _=>?_,
  λb xs q=>by rw[bN (hm b _ q λz=>z)];exact q,λb u xs q=>by rw[bN (hm b _ q λz=>z)];exact q,λb ps q=>⟨#[],by rw[bN (hm b _ q λz=>z),q];simp⟩⟩
 by_cases hbe:b=e
 ·subst hbe;exact heo
 ·exact⟨u,k b u hbe q⟩
end
def trk(h:Heap)(H:Hp):List Addr:=(List.range h.objs.size).filter λa=>(H a).isSome
def hidT(h:Heap)(H:Hp):Heap:=PySem.W.hideAll h (trk h H)
theorem aHt(h:Heap)(H:Hp):(hidT h H).objs.size=h.objs.size:=PySem.W.hideAll_size _ _
variable{o:Obj}
theorem aKx(e:h.get? b=some o)(n:H b=none):(hidT h H).get? b=some o :=
 PySem.W.hideAll_get _ e λhm=>by
  have q:(H b).isSome=true:=(List.mem_filter.mp hm).2
  rw[n]at q;simp at q
theorem aPg(e:(hidT h H).get? b=some o):h.get? b=some o/\H b=none:=by
 have e':h.get? b=some o:=PySem.W.of_hideAll (trk h H) e
 refine⟨e',?_⟩
 cases q:H b with
 |none=>rfl
 |some x =>
  have hm:b∈trk h H:=List.mem_filter.mpr ⟨List.mem_range.mpr (aAM e'),by simp[q]⟩
  have z:(hidT h H).get? b=none:=PySem.W.hideAll_none (trk h H) hm
  rw[z]at e;cases e
def allNews(g h:Heap)(L:Addr):List (Addr×Obj):=(List.range h.objs.size).filterMap λa=>if a=L\/(g.get? a).isSome=true then none else(h.get? a).map λo=>(a,o)
def rest(g h:Heap)(L d:Addr):List (Addr×Obj):=(allNews g h L).filter λp=>decide (p.1≠d)
structure Mod(K:Frag)(mg:Str->Option Value)(base:Heap):Prop where
 kin:K.In base
 glob:base.Ns mainGlobals mg
 blt:∃mb,base.Ns builtinsNs mb/\∀x:Str,x≠"__name__"->mb x=bootBuiltins x
 nolimit:base.NoLimit
structure Cx where
 prog:Program
 w:World
 K:Frag
 mg:Str->Option Value
 base:Heap
 A:Around
 N:List Str
 s₀:Shared
 H₀:Hp
 env:Env
 outer:List Env
 stack:List Env
 ex:List Addr
 fn:Str->Bool
 calm:Bool
 pn:List (Addr×Obj)
 xe:Value->Shared->Prop
def frs(l:List Env):List Addr:=l.filterMap (·.frame)
abbrev Cx.fs(X:Cx):List Addr:=frs X.outer
def Vis(sc:Scope)(x:Str):Prop:=sc.names.lookup x=some .local\/sc.names.lookup x=some .cell\/sc.names.lookup x=some .free
def Loc(sc:Scope)(x:Str):Prop:=sc.names.lookup x=some .local\/sc.names.lookup x=some .cell
def Look(env:Env)(h:Heap)(m:Str->Option Value)(x:Str)(u:Value):Prop :=
 (env.kindOf x=some .local/\m x=some u)\/((env.kindOf x=some .cell\/env.kindOf x=some .free)/\∃c,env.cells.lookup x=some c/\h.IsCell c (some u))
structure Cx.Ok(X:Cx):Prop where
 mod:Mod X.K X.mg X.base
 kind:X.env.scope.kind=.function
 glob:X.env.globals=mainGlobals
 blt:X.env.builtins=builtinsNs
 above:X.s₀.heap.objs.size<=X.env.locals
 inj:∀x y c,X.env.cells.lookup x=some c->X.env.cells.lookup y=some c->x=y
 has:∀x,(X.env.kindOf x=some .cell\/X.env.kindOf x=some .free)->∃c,X.env.cells.lookup x=some c
 cab:∀x c,X.fn x=true->X.env.cells.lookup x=some c->X.s₀.heap.objs.size<=c
 hd:X.calm=true->X.A.handled=none
 frames:X.A.frames=some X.stack
 stk:X.stack=X.outer\/(X.stack=X.env::X.outer/\X.env.frame=some X.env.locals)
 exf:∀b∈X.ex,b≠X.env.locals/\∀x c,X.env.cells.lookup x=some c->c≠b
 bs:∀b o,X.base.get? b=some o->X.s₀.heap.get? b=some o/\X.H₀ b=none
 bsz:X.base.objs.size<=X.s₀.heap.objs.size
 noex:∀b o,X.base.get? b=some o->b∉X.ex
 exfs:∀b∈X.ex,b∉X.fs
 funs:X.s₀.heap.FunFrames X.base X.outer
 frf:∀b∈X.fs,X.H₀ b=none
structure Inv(X:Cx)(pins:List (Addr×Obj))(σ:List (Option V))(H:Hp)(s:Shared):Prop where
 ok:X.Ok
 os:s.os=X.s₀.os
 bare:AllBare s.gens
 base:Un X.fs X.ex X.H₀ H X.s₀.heap s.heap
 loc:∃m,s.heap.Ns X.env.locals m/\∀(i:Nat) (x:Str) (v:V),X.N[i]?=some x->σ[i]?=some (some v)->Vis X.env.scope x->∃u,RelV v u/\Look X.env s.heap m x u
 cell:∀x c,X.env.cells.lookup x=some c->∃v,s.heap.IsCell c v
 free:H X.env.locals=none
 freeC:∀x c,X.env.cells.lookup x=some c->H c=none
 pin:∀p∈X.pn++pins,s.heap.get? p.1=some p.2/\H p.1=none/\p.1≠X.env.locals/\p.1∉X.fs/\∀v,p.2.data≠.cell v
 hok:HOk X.prog X.w H s.heap
 len:σ.length=X.N.length
variable{X:Cx}{σ:List (Option V)}
theorem Cx.Ok.nofr(ok:X.Ok)(e:X.base.get? b=some o):b∉X.fs:=λhb=>by
 have:=(ok.funs.mem hb).1
 rw[e]at this;cases this
theorem Inv.bs(I:Inv X pins σ H s):∀b o,X.base.get? b=some o->s.heap.get? b=some o/\H b=none:=λb o e =>
 ⟨I.base.keep b o (I.ok.bs b o e).1 (I.ok.bs b o e).2 (I.ok.nofr e) (I.ok.noex b o e),I.base.free b o (I.ok.bs b o e).1 (I.ok.bs b o e).2 (I.ok.noex b o e)⟩
theorem Inv.bk(I:Inv X pins σ H s):∀b o,X.base.get? b=some o->s.heap.get? b=some o:=λb o e=>(I.bs b o e).1
theorem Inv.mod(I:Inv X pins σ H s):Mod X.K X.mg X.base:=I.ok.mod
theorem Inv.kIn(I:Inv X pins σ H s):X.K.In s.heap:=I.ok.mod.kin.keeps I.bk
theorem Inv.lt(I:Inv X pins σ H s):X.env.locals < s.heap.objs.size:=let⟨_,hn,_⟩:=I.loc;hn.lt
theorem Inv.sz(I:Inv X pins σ H s):X.s₀.heap.objs.size<=s.heap.objs.size:=aBO I.ok.above (Nat.le_of_lt I.lt)
theorem Inv.nofs(I:Inv X pins σ H s)(h:s.heap.objs.size<=a):a∉X.fs:=λhb=>by
 obtain⟨_,o,ho,_⟩:=I.ok.funs.mem hb
 exact absurd (aAR (aAM ho) (aBO I.sz h)) (aDE _)
theorem Inv.cne(I:Inv X pins σ H s):∀x c,X.env.cells.lookup x=some c->c≠X.env.locals:=λx c e z=>by
 obtain⟨v,o,ho,hd⟩:=I.cell x c e
 obtain⟨m,⟨o',es,ep,ho',hd',_⟩,_⟩:=I.loc
 rw[z,ho']at ho;cases ho;rw[hd']at hd;cases hd
theorem Inv.funs(I:Inv X pins σ H s):s.heap.FunFrames X.base X.outer:=by
 have all:∀(l:List Env),(∀b∈frs l,b∈X.fs)->X.s₀.heap.FunFrames X.base l->s.heap.FunFrames X.base l:=by
  intro l
  induction l with
  |nil=>intro _ _;trivial
  |cons env r ih =>
   intro hs hl
   obtain⟨hk,⟨L,o,hf,hn,ho,hd⟩,hr⟩:=hl
   have hL:L∈X.fs:=hs L (by unfold frs;rw[aCW,hf];exact aDM)
   obtain⟨sl,e⟩:=I.base.slot L o ho (I.ok.frf L hL) hL λz=>I.ok.exfs L z hL
   exact⟨hk,⟨L,_,hf,hn,e,hd⟩,ih (λb hb=>hs b (by unfold frs;rw[aCW,hf];exact aCH _ hb)) hr⟩
 exact all X.outer (λ_ hb=>hb) I.ok.funs
theorem Inv.stack(I:Inv X pins σ H s):s.heap.FunFrames X.base X.stack:=by
 rcases I.ok.stk with e|⟨e,hf⟩
 ·rw[e];exact I.funs
 ·rw[e]
  obtain⟨m,hn,_⟩:=I.loc
  refine .cons (by rw[I.ok.kind];decide) hf hn ?_ I.funs
  exact Heap.get?_none_of_le (aBO I.ok.bsz I.ok.above)
theorem Inv.stkSub(I:Inv X pins σ H s):∀b∈frs X.stack,b∈X.env.locals::X.fs:=λb hb=>by
 rcases I.ok.stk with e|⟨e,hf⟩
 ·rw[e]at hb;exact aCH _ hb
 ·rw[e]at hb
  unfold frs at hb
  rw[aCW,hf]at hb
  exact hb
theorem Inv.stkFree(I:Inv X pins σ H s):∀b∈frs X.stack,H b=none:=λb hb=>by
 rcases aAO.mp (I.stkSub b hb)with e|hb
 ·rw[e];exact I.free
 ·obtain⟨_,o,ho,_⟩:=I.ok.funs.mem hb
  exact I.base.free b o ho (I.ok.frf b hb) λz=>I.ok.exfs b z hb
variable{g':Array GenState}{d':Drawn}
theorem Inv.step{ch:List Addr}(I:Inv X pins σ H s)
  (hch:∀b∈ch,(b∈X.ex\/X.s₀.heap.objs.size<=b)/\b≠X.env.locals/\(∀x c,X.env.cells.lookup x=some c->c≠b)/\∀p∈X.pn++pins,p.1≠b)
  (keep:∀b o,b≠X.env.locals->b∉X.fs->b∉ch->s.heap.get? b=some o->H b=none->h'.get? b=some o)
  (slot:∀b o,b≠X.env.locals->b∈X.fs->b∉ch->s.heap.get? b=some o->H b=none->∃sl,h'.get? b=some {o with slots:=sl})(free:∀b o,b∉ch->s.heap.get? b=some o->H b=none->H' b=none)
  (there:∀b o,b∉ch->s.heap.get? b=some o->∃o',h'.get? b=some o')
  (tups:∀b xs,H b=some (.tup xs)->H' b=some (.tup xs))(frzs:∀b o u,H b=some (.frz o u)->H' b=some (.frz o u))(tbls:∀b ps,H b=some (.tbl ps)->∃more,H' b=some (.tbl (ps++more)))
  (ns:∀m,s.heap.Ns X.env.locals m->h'.Ns X.env.locals m)(hok:HOk X.prog X.w H' h')(hg:AllBare g') :
  Inv X pins σ H' {s with heap:=h',gens:=g',drawn:=d',toks:=t'}:=by
 have neL:∀b o,X.s₀.heap.get? b=some o->b≠X.env.locals:=λb o e=>aBJ (aAR (aAM e) I.ok.above)
 have neC:∀b o,X.s₀.heap.get? b=some o->b∉X.ex->b∉ch:=λb o e hx hb=>by
  rcases(hch b hb).1 with z|z
  ·exact hx z
  ·exact absurd (aAR (aAM e) z) (aDE _)
 have cellK:∀x c,X.env.cells.lookup x=some c->∀v,s.heap.IsCell c v->h'.IsCell c v:=λx c e v ⟨o,ho,hd⟩=>by
  have nch:c∉ch:=λz=>(hch c z).2.2.1 x c e rfl
  by_cases hc:c∈X.fs
  ·obtain⟨sl,q⟩:=slot c o (I.cne x c e) hc nch ho (I.freeC x c e)
   exact⟨_,q,hd⟩
  ·exact⟨o,keep c o (I.cne x c e) hc nch ho (I.freeC x c e),hd⟩
 refine⟨I.ok,I.os,hg,⟨λb o e n hb hx=>?_,λb o e n hb hx=>?_,λb o e n hx=>?_,λb o e hx=>?_,λb xs e=>tups b xs (I.base.tups b xs e),λb o xs e=>frzs b o xs (I.base.frzs b o xs e),λb ps e=>?_⟩,?_,λx c e=>?_,?_,λx c e=>?_,λp hp=>?_,hok,I.len⟩
 ·exact keep b o (neL b o e) hb (neC b o e hx) (I.base.keep b o e n hb hx) (I.base.free b o e n hx)
 ·obtain⟨sl,e1⟩:=I.base.slot b o e n hb hx
  obtain⟨sl',e2⟩:=slot b _ (neL b o e) hb (neC b o e hx) e1 (I.base.free b o e n hx)
  exact⟨sl',e2⟩
 ·obtain⟨o',e1⟩:=I.base.there b o e hx
  exact free b o' (neC b o e hx) e1 (I.base.free b o e n hx)
 ·obtain⟨o',e1⟩:=I.base.there b o e hx
  exact there b o' (neC b o e hx) e1
 ·obtain⟨m1,e1⟩:=I.base.tbls b ps e
  obtain⟨m2,e2⟩:=tbls b _ e1
  exact⟨m1++m2,by rw[e2,Array.append_assoc]⟩
 ·obtain⟨m,hn,hl⟩:=I.loc
  refine⟨m,ns m hn,λi x v e1 e2 e3=>?_⟩
  obtain⟨u,r,l⟩:=hl i x v e1 e2 e3
  refine⟨u,r,?_⟩
  rcases l with l|⟨k,c,e,z⟩
  ·exact .inl l
  ·exact .inr ⟨k,c,e,cellK x c e _ z⟩
 ·obtain⟨v,z⟩:=I.cell x c e
  exact⟨v,cellK x c e v z⟩
 ·obtain⟨m,⟨o,_,_,ho,_⟩,_⟩:=I.loc
  exact free _ o (λz=>(hch _ z).2.1 rfl) ho I.free
 ·obtain⟨v,o,ho,hd⟩:=I.cell x c e
  exact free c o (λz=>(hch c z).2.2.1 x c e rfl) ho (I.freeC x c e)
 ·obtain⟨e,n,ne,nf,d⟩:=I.pin p hp
  have nch:p.1∉ch:=λz=>(hch p.1 z).2.2.2 p hp rfl
  exact⟨keep p.1 p.2 ne nf nch e n,free p.1 p.2 nch e n,ne,nf,d⟩
theorem Inv.un(I:Inv X pins σ H s)(u:Un X.fs [] H H' s.heap h')(hok:HOk X.prog X.w H' h'):Inv X pins σ H' {s with heap:=h',toks:=t'}:=by
 obtain⟨m,⟨o,es,ep,ho,r⟩,_⟩:=id I.loc
 obtain⟨sl,hL⟩:=u.any ho I.free (by simp)
 exact I.step (g':=s.gens) (d':=s.drawn) (ch:=[]) (λ_ z=>nomatch z) (λb o _ hb _ e n=>u.keep b o e n hb (by simp)) (λb o _ hb _ e n=>u.slot b o e n hb (by simp)) (λb o _ e n=>u.free b o e n (by simp)) (λb o _ e=>u.there b o e (by simp)) u.tups u.frzs u.tbls (λm' hm=>by
  obtain⟨o',es',ep',ho',r'⟩:=hm
  rw[ho]at ho';cases ho'
  exact⟨_,es',ep',hL,r'⟩) hok I.bare
theorem Inv.call{ch:List Addr}(I:Inv X pins σ H s)(u:Un (frs X.stack) ch H H' s.heap h')(hok:HOk X.prog X.w H' h')(hg:AllBare g')
  (hch:∀b∈ch,(b∈X.ex\/X.s₀.heap.objs.size<=b)/\b≠X.env.locals/\(∀x c,X.env.cells.lookup x=some c->c≠b)/\∀p∈X.pn++pins,p.1≠b) :
  Inv X pins σ H' {s with heap:=h',gens:=g',drawn:=d',toks:=t'}:=by
 obtain⟨m,⟨o,es,ep,ho,r⟩,_⟩:=id I.loc
 obtain⟨sl,hL⟩:=u.any ho I.free λz=>(hch _ z).2.1 rfl
 exact I.step (ch:=ch) hch (λb o hL hb hc e n=>u.keep b o e n (λz=>(aAO.mp (I.stkSub b z)).elim hL hb) hc) (λb o _ _ hc e n=>u.any e n hc) (λb o hc e n=>u.free b o e n hc) (λb o hc e=>u.there b o e hc) u.tups u.frzs u.tbls (λm' hm=>by
  obtain⟨o',es',ep',ho',r'⟩:=hm
  rw[ho]at ho';cases ho'
  exact⟨_,es',ep',hL,r'⟩) hok hg
theorem Inv.turned(I:Inv X pins σ H s)(k:∀b o,b≠it->s.heap.get? b=some o->h'.get? b=some o)(hn:H it=none)(hL:it≠X.env.locals)
  (h1:it∈X.ex\/X.s₀.heap.objs.size<=it)(h2:∀x c,X.env.cells.lookup x=some c->c≠it)(h3:∀p∈X.pn++pins,p.1≠it):Inv X pins σ H {s with heap:=h',toks:=t'}:=by
 have nit:∀b u,H b=some u->b≠it:=λb u e z=>by rw[z,hn]at e;cases e
 refine I.step (g':=s.gens) (d':=s.drawn) (ch:=[it]) (λb hb=>?_) (λb o _ _ hc e _=>k b o (λz=>hc (by simp[z])) e) (λb o _ _ hc e _=>⟨o.slots,k b o (λz=>hc (by simp[z])) e⟩) (λ_ _ _ _ n=>n)
  (λb o hc e=>⟨o,k b o (λz=>hc (by simp[z])) e⟩) (λ_ _ e=>e) (λ_ _ _ e=>e) (λb ps e=>⟨#[],by rw[e];simp⟩) (λm hm=>?_) (λb u e=>?_) I.bare
 ·have e:b=it:=by simpa using hb
  subst e
  exact⟨h1,hL,h2,h3⟩
 ·obtain⟨o,es,ep,ho,r⟩:=hm
  exact⟨o,es,ep,k _ o (Ne.symm hL) ho,r⟩
 ·refine(I.hok b u e).stay (λc v hc q=>k c v ?_ q) (λ_ q=>q) λ_ _ q=>q
  rcases hc with z|z
  ·rw[z];exact nit b u e
  ·exact nit c _ z
theorem Inv.tok(I:Inv X pins σ H s)(t:Nat):Inv X pins σ H {s with toks:=t}:=I.un (h':=s.heap) (t':=t) Un.refl I.hok
theorem Inv.kept{t':Nat}(I:Inv X pins σ H s)(k:∀b u,s.heap.get? b=some u->h'.get? b=some u):Inv X pins σ H {s with heap:=h',toks:=t'}:=I.un (Un.kept k) (I.hok.kept k)
theorem Inv.laid{a:Addr}{o:HO}{t':Nat}(I:Inv X pins σ H s)(k:∀b u,s.heap.get? b=some u->h'.get? b=some u)(hp:s.heap.objs.size<=a)(new:ObjOk X.prog X.w (upd H a o) h' a o) :
  Inv X pins σ (upd H a o) {s with heap:=h',toks:=t'}:=I.un (Un.laid k hp (I.hok.fresh hp)) (I.hok.laid k hp new)
theorem Inv.write{x e:Addr}{o:HO}{t':Nat}(I:Inv X pins σ H s)(mu:Mut (H x))(he:e=x\/H e=some (.own x))(k:∀b u,b≠e->s.heap.get? b=some u->h'.get? b=some u)(heo:∃u,h'.get? e=some u)
  (new:ObjOk X.prog X.w (upd H x o) h' x o):Inv X pins σ (upd H x o) {s with heap:=h',toks:=t'}:=I.un (Un.write mu he k heo) (I.hok.write mu he k heo new)
theorem Inv.pins_of{pins':List (Addr×Obj)}(I:Inv X pins σ H s)(h:∀p∈pins',s.heap.get? p.1=some p.2/\H p.1=none/\p.1≠X.env.locals/\p.1∉X.fs/\∀v,p.2.data≠.cell v):Inv X pins' σ H s :=
 ⟨I.ok,I.os,I.bare,I.base,I.loc,I.cell,I.free,I.freeC,λp hp=>(aBN.mp hp).elim (λz=>I.pin p (List.mem_append_left _ z)) (h p),I.hok,I.len⟩
variable{x:Str}
theorem aBd(hN:N.Nodup)(a:N[i]?=some x)(b:N[j]?=some x):i=j:=by
 obtain⟨h1,e1⟩:=aAC.mp a
 obtain⟨h2,e2⟩:=aAC.mp b
 exact(List.getElem_inj hN).mp (e1.trans e2.symm)
variable{M:Model}{E:Value->Shared->Prop}{v:V}{Q:Unit->Shared->Prop}
theorem xJ(I:Inv X pins σ H s)(hN:X.N.Nodup)(hi:X.N[i]?=some x)(hx:Loc X.env.scope x)(r:RelV v u)
  (h:∀s',Inv X pins (σ.set i (some v)) H s'->(∃a,Heap.SameBut a s.heap s'.heap/\(a=X.env.locals\/X.env.cells.lookup x=some a))->Q () s')(hf:X.fn x=true\/X.env.scope.names.lookup x=some .local:=by first|exact .inl rfl|exact .inr rfl|assumption):wpAny M A (storeName X.env x u) Q E s:=by
 obtain⟨m,hn,hl⟩:=id I.loc
 have hcls:(X.env.scope.kind==.class || (X.env.scope.kind==.module&&X.env.locals != X.env.globals))=false:=by rw[I.ok.kind];rfl
 have hiσ:i < σ.length:=by rw[I.len];exact(aAC.mp hi).1
 have cne:=I.cne
 have tracked:∀{a:Addr} {h':Heap},(∃o,s.heap.get? a=some o/\H a=none)->Heap.SameBut a s.heap h'->HOk X.prog X.w H h':=λ{a h'} ha hs b ob e=>by
  obtain⟨_,_,hfree⟩:=ha
  refine(I.hok b ob e).stay (λc w' hc q=>(hs.2 c ?_).trans q) (λ_ q=>q) λ_ _ q=>q
  rintro rfl
  rcases hc with rfl|hc
  ·rw[hfree]at e;cases e
  ·rw[hfree]at hc;cases hc
 rcases hx with hk|hk
 ·refine wpAny_storeName_local hk hn (λh' hn' hs=>?_) hcls
  obtain⟨oL,_,_,hoL,_⟩:=id hn
  refine h _ ⟨I.ok,I.os,I.bare,⟨λb o e n hb hx=>?_,λb o e n hb hx=>?_,I.base.free,λb o e hx=>?_,I.base.tups,I.base.frzs,I.base.tbls⟩,⟨_,hn',λj y v' e1 e2 e3=>?_⟩,λy c e=>?_,I.free,I.freeC,λp hp=>?_,tracked ⟨oL,hoL,I.free⟩ hs,by simpa using I.len⟩ ⟨_,hs,.inl rfl⟩
  ·exact(hs.2 b (aBJ (aAR (aAM e) I.ok.above))).trans (I.base.keep b o e n hb hx)
  ·obtain⟨sl,e1⟩:=I.base.slot b o e n hb hx
   exact⟨sl,(hs.2 b (aBJ (aAR (aAM e) I.ok.above))).trans e1⟩
  ·obtain⟨o',e1⟩:=I.base.there b o e hx
   exact⟨o',(hs.2 b (aBJ (aAR (aAM e) I.ok.above))).trans e1⟩
  ·by_cases hj:j=i
   ·subst hj
    rw[hi]at e1;cases e1
    rw[aBV hiσ]at e2
    cases e2
    exact⟨u,r,.inl ⟨hk,by simp⟩⟩
   ·rw[aCF (Ne.symm hj)]at e2
    obtain⟨u',r',q⟩:=hl j y v' e1 e2 e3
    refine⟨u',r',?_⟩
    rcases q with⟨k,e⟩|⟨k,c,e,z⟩
    ·refine .inl ⟨k,?_⟩
     have:y≠x:=λe=>hj (aBd hN e1 (e▸hi))
     simp[this,e]
    ·exact .inr ⟨k,c,e,z.sameBut hs (cne y c e)⟩
  ·obtain⟨w',z⟩:=I.cell y c e
   exact⟨w',z.sameBut hs (cne y c e)⟩
  ·obtain⟨e,n,ne,nf,d⟩:=I.pin p hp
   exact⟨(hs.2 p.1 ne).trans e,n,ne,nf,d⟩
 ·have hfn:X.fn x=true:=by
   rcases hf with z|z
   ·exact z
   ·rw[z]at hk;cases hk
  obtain⟨c,hc⟩:=I.ok.has x (.inl hk)
  obtain⟨w',z⟩:=I.cell x c hc
  refine wpAny_storeName_cell I.ok.kind hk hc z (λh' hc' hs=>?_)
  obtain⟨oc,hoc,hocd⟩:=id z
  refine h {s with heap:=h'} ⟨I.ok,I.os,I.bare,⟨λb o e n hb hx=>?_,λb o e n hb hx=>?_,I.base.free,λb o e hx=>?_,I.base.tups,I.base.frzs,I.base.tbls⟩,⟨m,hn.sameBut hs (Ne.symm (cne x c hc)),λj y v' e1 e2 e3=>?_⟩,λy c' e=>?_,I.free,I.freeC,λp hp=>?_,tracked ⟨oc,hoc,I.freeC x c hc⟩ hs,by simpa using I.len⟩ ⟨c,hs,.inr hc⟩
  ·exact(hs.2 b (aBJ (aAR (aAM e) (I.ok.cab x c hfn hc)))).trans (I.base.keep b o e n hb hx)
  ·obtain⟨sl,e1⟩:=I.base.slot b o e n hb hx
   exact⟨sl,(hs.2 b (aBJ (aAR (aAM e) (I.ok.cab x c hfn hc)))).trans e1⟩
  ·obtain⟨o',e1⟩:=I.base.there b o e hx
   exact⟨o',(hs.2 b (aBJ (aAR (aAM e) (I.ok.cab x c hfn hc)))).trans e1⟩
  ·by_cases hj:j=i
   ·subst hj
    rw[hi]at e1;cases e1
    rw[aBV hiσ]at e2
    cases e2
    exact⟨u,r,.inr ⟨.inl hk,c,hc,hc'⟩⟩
   ·rw[aCF (Ne.symm hj)]at e2
    obtain⟨u',r',q⟩:=hl j y v' e1 e2 e3
    refine⟨u',r',?_⟩
    rcases q with q|⟨k,c',e,z'⟩
    ·exact .inl q
    ·refine .inr ⟨k,c',e,z'.sameBut hs ?_⟩
     rintro rfl
     exact hj (aBd hN e1 (I.ok.inj _ _ _ e hc▸hi))
  ·by_cases hcc:c'=c
   ·subst hcc;exact⟨_,hc'⟩
   ·obtain⟨w2,z2⟩:=I.cell y c' e
    exact⟨w2,z2.sameBut hs hcc⟩
  ·obtain⟨e,n,ne,nf,d⟩:=I.pin p hp
   refine⟨(hs.2 p.1 ?_).trans e,n,ne,nf,d⟩
   intro q
   rw[q,hoc]at e
   have q':oc=p.2:=Option.some.inj e
   exact d w' (by rw[<- q'];exact hocd)
theorem mY(I:Inv X pins σ H s)(hN:X.N.Nodup)(hi:X.N[i]?=some x)(hx:Loc X.env.scope x)(r:RelV v u)
  (h:∀s',Inv X pins (σ.set i (some v)) H s'->Q () s')(hf:X.fn x=true\/X.env.scope.names.lookup x=some .local:=by first|exact .inl rfl|exact .inr rfl|assumption):wpAny M A (storeName X.env x u) Q E s :=
 xJ I hN hi hx r (λs' I' _=>h s' I') hf
theorem Inv.call'{ch:List Addr}(I:Inv X pins σ H s)(ho:s'.os=s.os)(u:Un (frs X.stack) ch H H' s.heap s'.heap)(hok:HOk X.prog X.w H' s'.heap)(hg:AllBare s'.gens)
  (hch:∀b∈ch,(b∈X.ex\/X.s₀.heap.objs.size<=b)/\b≠X.env.locals/\(∀x c,X.env.cells.lookup x=some c->c≠b)/\∀p∈X.pn++pins,p.1≠b):Inv X pins σ H' s':=by
 obtain⟨h',g',d',t',o'⟩:=s'
 have e:o'=s.os:=ho
 subst e
 exact I.call (g':=g') (t':=t') (d':=d') u hok hg hch
abbrev XK:=Value->Option Addr->Hp->Prop
abbrev St:=List (Option V)
abbrev VK:=V->Hp->Prop
abbrev TE:=St->Hp->VK->Prop
abbrev TT:=St->Hp->(Bool->Hp->Prop)->Prop
abbrev TA:=St->Hp->(List V->Hp->Prop)->Prop
structure Ends where
 nx:St->Hp->Prop
 rt:VK
 bk:St->Hp->Prop:=λ_ _=>False
 ct:St->Hp->Prop:=λ_ _=>False
abbrev TS:=Ends->St->Hp->Prop
def EP(X:Cx)(pins:List (Addr×Obj))(σ:St)(Q:VK)(u:Value)(s':Shared):Prop:=∃v H',Inv X pins σ H' s'/\RelV v u/\Q v H'
def TP(X:Cx)(pins:List (Addr×Obj))(σ:St)(Q:Bool->Hp->Prop)(b:Bool)(s':Shared):Prop:=∃H',Inv X pins σ H' s'/\Q b H'
def AP(X:Cx)(pins:List (Addr×Obj))(σ:St)(Q:List V->Hp->Prop)(us:List Value)(s':Shared):Prop:=∃vs H',Inv X pins σ H' s'/\Vals vs us/\Q vs H'
def SP(X:Cx)(pins:List (Addr×Obj))(D:Ends)(f:Flow)(s':Shared):Prop :=
 match f with
 |.next=>∃σ' H',Inv X pins σ' H' s'/\D.nx σ' H'
 |.brk=>∃σ' H',Inv X pins σ' H' s'/\D.bk σ' H'
 |.cont=>∃σ' H',Inv X pins σ' H' s'/\D.ct σ' H'
 |.ret u=>∃v σ' H',Inv X pins σ' H' s'/\RelV v u/\D.rt v H'
def PE(X:Cx)(e:Expr)(t:TE):Prop :=
 ∀(pins:List (Addr×Obj)) (s:Shared) (σ:St) (H:Hp) (Q:VK),Inv X pins σ H s->t σ H Q->wpAny (model X.prog X.w) X.A (eval e X.env) (EP X pins σ Q) X.xe s
def PT(X:Cx)(e:Expr)(t:TT):Prop :=
 ∀(pins:List (Addr×Obj)) (s:Shared) (σ:St) (H:Hp) (Q:Bool->Hp->Prop),Inv X pins σ H s->t σ H Q->wpAny (model X.prog X.w) X.A (isTrue e X.env (eval e X.env)) (TP X pins σ Q) X.xe s
def PW(X:Cx)(e:Expr)(t:TT):Prop :=
 ∀(whole:Sem Value) (pins:List (Addr×Obj)) (s:Shared) (σ:St) (H:Hp) (Q:Bool->Hp->Prop),Inv X pins σ H s->t σ H Q->wpAny (model X.prog X.w) X.A (isTrue e X.env whole) (TP X pins σ Q) X.xe s
variable{e:Expr}
theorem PW.pt{t:TT}(h:PW X e t):PT X e t:=h _
def PA(X:Cx)(es:List Expr)(t:TA):Prop :=
 ∀(pos:Pos) (pins:List (Addr×Obj)) (s:Shared) (σ:St) (H:Hp) (Q:List V->Hp->Prop),Inv X pins σ H s->t σ H Q->wpAny (model X.prog X.w) X.A (spliced (backTo pos (starEach es X.env))) (AP X pins σ Q) X.xe s
def PS(X:Cx)(st:Stmt)(t:TS):Prop :=
 ∀(pins:List (Addr×Obj)) (s:Shared) (σ:St) (H:Hp) (D:Ends),Inv X pins σ H s->t D σ H->wpAny (model X.prog X.w) X.A (exec st X.env) (SP X pins D) X.xe s
def PSs(X:Cx)(st:List Stmt)(t:TS):Prop :=
 ∀(pins:List (Addr×Obj)) (s:Shared) (σ:St) (H:Hp) (D:Ends),Inv X pins σ H s->t D σ H->wpAny (model X.prog X.w) X.A (execs st X.env) (SP X pins D) X.xe s
theorem thn{t:Sem α}{Q Q':α->Shared->Prop}{s:Shared}(h:wpAny M A t Q E s)(hQ:∀a s,Q a s->Q' a s):wpAny M A t Q' E s:=aDU h hQ λ_ _ x=>x
section
def tVar(i:Nat):TE:=λσ H Q=>∃v,σ[i]?=some (some v)/\Q v H
def tC(v:V):TE:=λ_ H Q=>Q v H
variable{pos:Pos}
theorem aSj(hN:X.N[i]?=some x)(hv:Vis X.env.scope x)(hd:(x==("__debug__":Str))=false:=by decide)(hcd:(x==("__classdict__":Str))=false:=by decide):PE X (.Name x pos) (tVar i):=by
 intro pins s σ H Q I h
 obtain⟨v,e,h⟩:=h
 obtain⟨m,hn,hl⟩:=I.loc
 obtain⟨u,r,l⟩:=hl i x v hN e hv
 have fin:EP X pins σ Q u s:=⟨v,H,I,r,h⟩
 rcases l with⟨hk,hm⟩|⟨hk,c,hc,hcell⟩
 ·exact wpAny_Name (wpAny_loadName_local I.ok.kind hk hn hm fin) hd
 ·rcases hk with hk|hk
  ·exact wpAny_Name (wpAny_loadName_cell I.ok.kind hk hc hcell fin) hd
  ·exact wpAny_Name (wpAny_loadName_free I.ok.kind hk hc hcell fin hcd) hd
theorem aMm{i j pos}:PE X (.Constant (.int i) j pos) (tC (.int i)):=λ_ _ _ H _ I h=>wpAny_Constant_int ⟨.int i,H,I.tok _,⟨_,rfl⟩,h⟩
theorem aUo{b j pos}:PE X (.Constant (.bool b) j pos) (tC (.bl b)):=λ_ _ _ H _ I h=>Constant_bool ⟨.bl b,H,I,rfl,h⟩
theorem aRm{j pos}:PE X (.Constant .none j pos) (tC .non):=λ_ _ _ H _ I h=>Constant_none ⟨.non,H,I,rfl,h⟩
theorem aJh{x j pos}:PE X (.Constant (.str x) j pos) (tC (.str x)):=λ_ _ _ H _ I h=>Calls.Constant_str ⟨.str x,H,I.tok _,⟨_,rfl⟩,h⟩
def Gl(X:Cx)(x:Str):Prop:=X.env.kindOf x=some .globalImplicit
variable{σ:St}{Q:Value->Shared->Prop}
theorem aFb(I:Inv X pins σ H s)(hg:Gl X x)(hm:X.mg x=some u)(h:Q u s)
  (hd:(x==("__debug__":Str))=false:=by decide):wpAny (model X.prog X.w) X.A (eval (.Name x pos) X.env) Q E s :=
 Calls.Name_function_global I.ok.kind hg (Calls.loadGlobal_global (by rw[I.ok.glob];exact I.mod.glob.keeps I.bk) hm h) hd
theorem nJ(I:Inv X pins σ H s)(hg:Gl X x)(hm:X.mg x=none)(hv:bootBuiltins x=some u)(h:Q u s)
  (hn:x≠"__name__":=by decide)(hd:(x==("__debug__":Str))=false:=by decide):wpAny (model X.prog X.w) X.A (eval (.Name x pos) X.env) Q E s:=by
 obtain⟨mb,h1,h2⟩:=I.mod.blt
 exact Calls.Name_function_global I.ok.kind hg (Calls.loadGlobal_builtin (by rw[I.ok.glob];exact I.mod.glob.keeps I.bk) hm (by rw[I.ok.blt];exact h1.keeps I.bk) ((h2 x hn).trans hv) h) hd
theorem tD(hg:Gl X x)(hm:X.mg x=some u)(r:RelV v u)(hd:(x==("__debug__":Str))=false:=by decide):PE X (.Name x pos) (tC v) :=
 λ_ _ _ H _ I h=>aFb I hg hm ⟨v,H,I,r,h⟩ hd
def t2I(ta tb:TE)(k:Int->Int->Hp->Prop):St->Hp->Prop:=λσ H=>ta σ H λx H1=>tb σ H1 λy H2=>∃i j,x=.int i/\y=.int j/\k i j H2
variable{a b:Expr}{ta tb:TE}
def tCmp(p:Int->Int->Bool)(ta tb:TE):TE:=λσ H Q=>t2I ta tb (λi j H2=>Q (.bl (p i j)) H2) σ H
abbrev tLt:TE->TE->TE:=tCmp λi j=>decide (i < j)
def tB(t:TE):TT:=λσ H Q=>t σ H λx H1=>∃c,x=.bl c/\Q c H1
variable{tA tB':TT}{rest:List Expr}
def tAnd(t u:TT):TT:=λσ H Q=>t σ H λc H1=>if c=true then u σ H1 Q else Q false H1
def tOr(t u:TT):TT:=λσ H Q=>t σ H λc H1=>if c=true then Q true H1 else u σ H1 Q
def tNot(t:TT):TT:=λσ H Q=>t σ H λc H1=>Q (!c) H1
theorem aPl(ha:PT X a tA):PW X (.BoolOp .And [a] pos) tA:=by
 intro wh pins s σ H Q I h
 refine isTrue_and (thn (ha pins s σ H Q I h) λc s1 e=>?_)
 cases c with
 |true=>exact isTrue_and_nil e
 |false=>exact e
theorem aSi(ha:PT X a tA):PW X (.BoolOp .Or [a] pos) tA:=by
 intro wh pins s σ H Q I h
 refine isTrue_or (thn (ha pins s σ H Q I h) λc s1 e=>?_)
 cases c with
 |false=>exact isTrue_or_nil e
 |true=>exact e
theorem aQl(ha:PT X a tA)(hb:PW X (.BoolOp .And (b::rest) pos) tB'):PW X (.BoolOp .And (a::b::rest) pos) (tAnd tA tB'):=by
 intro wh pins s σ H Q I h
 refine isTrue_and (thn (ha pins s σ H _ I h) λc s1 ⟨H1,I1,q1⟩=>?_)
 cases c with
 |true=>exact hb wh pins s1 σ H1 Q I1 q1
 |false=>exact⟨H1,I1,q1⟩
theorem aUg(ha:PT X a tA)(hb:PW X (.BoolOp .Or (b::rest) pos) tB'):PW X (.BoolOp .Or (a::b::rest) pos) (tOr tA tB'):=by
 intro wh pins s σ H Q I h
 refine isTrue_or (thn (ha pins s σ H _ I h) λc s1 ⟨H1,I1,q1⟩=>?_)
 cases c with
 |true=>exact⟨H1,I1,q1⟩
 |false=>exact hb wh pins s1 σ H1 Q I1 q1
theorem aQr(ha:PT X a tA):PT X (.UnaryOp .Not a pos) (tNot tA):=by
 intro pins s σ H Q I h
 exact isTrue_not (ha pins s σ H (λc H1=>Q (!c) H1) I h)
def tAndV(ta tb:TE):TE:=λσ H Q=>ta σ H λx H1=>∃c,x=.bl c/\if c=true then tb σ H1 Q else Q (.bl false) H1
theorem aQa{op}{t:TE}(h:PE X a t):PE X (.BoolOp op [a] pos) t:=λpins s σ H Q I hw=>BoolOp_one (h pins s σ H Q I hw)
theorem aTj(ha:PE X a ta)(hb:PE X (.BoolOp .And (b::rest) pos) tb):PE X (.BoolOp .And (a::b::rest) pos) (tAndV ta tb):=by
 intro pins s σ H Q I h
 refine BoolOp_and (thn (ha pins s σ H _ I h) λv s1 ⟨x,H1,I1,r1,q1⟩=>?_)
 obtain⟨c,rfl,q1⟩:=q1
 cases r1
 refine aEK ?_
 cases c with
 |true=>exact hb pins s1 σ H1 Q I1 q1
 |false=>exact⟨.bl false,H1,I1,rfl,q1⟩
def tIf(t:TT)(ta tb:TE):TE:=λσ H Q=>t σ H λc H1=>if c=true then ta σ H1 Q else tb σ H1 Q
theorem aIs{c:Expr}(hc:PT X c tA)(ha:PE X a ta)(hb:PE X b tb):PE X (.IfExp c a b pos) (tIf tA ta tb):=by
 intro pins s σ H Q I h
 refine wpAny_IfExp (thn (hc pins s σ H _ I h) λd s1 ⟨H1,I1,q1⟩=>?_)
 cases d with
 |true=>exact ha pins s1 σ H1 Q I1 q1
 |false=>exact hb pins s1 σ H1 Q I1 q1
end
def SqL(K:Frag)(H:Hp)(a:Addr)(xs:List V):Prop :=
 Rd H a (.lst xs) \/
  ∃(o:Obj) (its:Array Value) (n:Nat),K.lookup a=some o/\o.cls=.type "list"/\o.dict=none/\o.data=.seq its n/\its.size<=sizeLine/\Vals xs its.toList
def SqT(K:Frag)(H:Hp)(a:Addr)(xs:List V):Prop :=
 Rd H a (.tup xs) \/
  ∃(o:Obj) (its:Array Value) (n:Nat),K.lookup a=some o/\o.cls=.type "tuple"/\o.data=.seq its n/\its.size<=sizeLine/\Vals xs its.toList
def absV:Value->Option V
 |.none=>some .non
 |.bool b=>some (.bl b)
 |.int i _=>some (.int i)
 |.str x _=>some (.str x)
 |.bytes b _=>some (.byt b)
 |.float b _=>some (.flt b)
 |.ref a=>some (.ref a)
 |.type n=>some (.ty n)
 |_=>none
theorem RelV.abs{x:V}(r:RelV x u):absV u=some x:=by
 cases x with
 |non=>cases r;rfl
 |bl _=>cases r;rfl
 |int _=>obtain⟨t,rfl⟩:=r;rfl
 |str _=>obtain⟨t,rfl⟩:=r;rfl
 |byt _=>obtain⟨t,rfl⟩:=r;rfl
 |flt _=>obtain⟨t,rfl⟩:=r;rfl
 |ref _=>cases r;rfl
 |ty _=>cases r;rfl
theorem RelV.inj{x y:V}{u:Value}(r:RelV x u)(q:RelV y u):x=y:=Option.some.inj (r.abs.symm.trans q.abs)
theorem Vals.inj:∀{xs ys:List V} {us:List Value},Vals xs us->Vals ys us->xs=ys
 |_,_,_,.nil,.nil=>rfl
 |_,_,_,.cons r t,.cons r' t'=>by rw[r.inj r',Vals.inj t t']
variable{σ:St}{xs ys:List V}
theorem SqL.of(h:H a=some (.lst xs)):SqL K H a xs:=.inl (.inl h)
theorem SqT.of(h:H a=some (.tup xs)):SqT K H a xs:=.inl (.inl h)
theorem Inv.list(I:Inv X pins σ H s)(h:SqL X.K H a xs):∃its:List Value,Vals xs its/\PlainL s.heap a its.toArray/\xs.length<=sizeLine:=by
 rcases h with h|⟨o,its,n,hk,hc,hd,hs,hz,r⟩
 ·obtain⟨z,its,n,r,e⟩:=h.ok I.hok
  exact⟨its,r,⟨_,n,e,rfl,rfl,rfl⟩,z⟩
 ·refine⟨its.toList,r,⟨o,n,I.kIn a o hk,hc,hd,by simpa using hs⟩,?_⟩
  have e:=r.length
  simp only[aDG]at e
  lia
theorem Inv.tuple(I:Inv X pins σ H s)(h:SqT X.K H a xs):∃its:List Value,Vals xs its/\IsTup s.heap a its.toArray/\xs.length<=sizeLine:=by
 rcases h with h|⟨o,its,n,hk,hc,hs,hz,r⟩
 ·obtain⟨z,its,r,p⟩:=h.ok I.hok
  exact⟨its,r,p,z⟩
 ·refine⟨its.toList,r,⟨o,I.kIn a o hk,hc,n,by simpa using hs⟩,?_⟩
  have e:=r.length
  simp only[aDG]at e
  lia
theorem Inv.list_inj(I:Inv X pins σ H s)(h:SqL X.K H a xs)(h':SqL X.K H a ys):xs=ys:=by
 obtain⟨its,r,⟨o,n,e,_,_,d⟩,_⟩:=I.list h
 obtain⟨its',r',⟨o',n',e',_,_,d'⟩,_⟩:=I.list h'
 rw[e]at e';cases e'
 rw[d]at d'
 injection d' with d1 _
 have:its=its':=by simpa using congrArg Array.toList d1
 subst this
 exact r.inj r'
theorem Inv.tuple_inj(I:Inv X pins σ H s)(h:SqT X.K H a xs)(h':SqT X.K H a ys):xs=ys:=by
 obtain⟨its,r,⟨o,e,_,n,d⟩,_⟩:=I.tuple h
 obtain⟨its',r',⟨o',e',_,n',d'⟩,_⟩:=I.tuple h'
 rw[e]at e';cases e'
 rw[d]at d'
 injection d' with d1 _
 have:its=its':=by simpa using congrArg Array.toList d1
 subst this
 exact r.inj r'
abbrev Cx.wish(X:Cx)(E:Value->Shared->Prop):Cx:={X with xe:=E}
abbrev Cx.nox(X:Cx):Cx:=X.wish λ_ _=>False
theorem Cx.Ok.wish{X:Cx}(ok:X.Ok)(E:Value->Shared->Prop):(X.wish E).Ok :=
 ⟨ok.mod,ok.kind,ok.glob,ok.blt,ok.above,ok.inj,ok.has,ok.cab,ok.hd,ok.frames,ok.stk,ok.exf,ok.bs,ok.bsz,ok.noex,ok.exfs,ok.funs,ok.frf⟩
theorem Cx.Ok.unwish(ok:(X.wish E).Ok):X.Ok :=
 ⟨ok.mod,ok.kind,ok.glob,ok.blt,ok.above,ok.inj,ok.has,ok.cab,ok.hd,ok.frames,ok.stk,ok.exf,ok.bs,ok.bsz,ok.noex,ok.exfs,ok.funs,ok.frf⟩
theorem Inv.wish(I:Inv X pins σ H s)(E:Value->Shared->Prop):Inv (X.wish E) pins σ H s:=⟨I.ok.wish E,I.os,I.bare,I.base,I.loc,I.cell,I.free,I.freeC,I.pin,I.hok,I.len⟩
theorem Inv.unwish(I:Inv (X.wish E) pins σ H s):Inv X pins σ H s:=⟨I.ok.unwish,I.os,I.bare,I.base,I.loc,I.cell,I.free,I.freeC,I.pin,I.hok,I.len⟩
theorem SP.unwish{D:Ends}{f:Flow}{s':Shared}(h:SP (X.wish E) pins D f s'):SP X pins D f s':=by
 cases f with
 |next=>obtain⟨σ',H',I,q⟩:=h;exact⟨σ',H',I.unwish,q⟩
 |brk=>obtain⟨σ',H',I,q⟩:=h;exact⟨σ',H',I.unwish,q⟩
 |cont=>obtain⟨σ',H',I,q⟩:=h;exact⟨σ',H',I.unwish,q⟩
 |ret u=>obtain⟨v,σ',H',I,r,q⟩:=h;exact⟨v,σ',H',I.unwish,r,q⟩
theorem PSs.nox{st:List Stmt}{t:TS}(h:PSs X.nox st t):PSs X st t:=λpins s σ H D I hw =>
 aDU (h pins s σ H D (I.wish _) hw) (λ_ _ q=>q.unwish) λ_ _ z=>False.elim z
section
variable{rest:List Stmt}{t u:TS}{te:TE}{pos:Pos}
def tNext:TS:=λD σ H=>D.nx σ H
def tSeq(t u:TS):TS:=λD σ H=>t {D with nx:=u D} σ H
theorem aNm:PSs X [] tNext:=λ_ _ σ H _ I h=>aGI ⟨σ,H,I,h⟩
theorem aMl(h1:PS X st t)(h2:PSs X rest u):PSs X (st::rest) (tSeq t u):=by
 intro pins s σ H D I h
 refine wpAny_execs_cons (thn (h1 pins s σ H {D with nx:=u D} I h) λf s1 q=>?_)
 cases f with
 |next =>
  obtain⟨σ',H',I',q⟩:=q
  exact h2 pins s1 σ' H' D I' q
 |ret v=>exact q
 |brk=>exact q
 |cont=>exact q
theorem aOa(h1:PS X st t):PSs X [st] t:=by
 intro pins s σ H D I h
 refine wpAny_execs_cons (thn (h1 pins s σ H D I h) λf s1 q=>?_)
 cases f with
 |next=>exact aGI q
 |ret v=>exact q
 |brk=>exact q
 |cont=>exact q
theorem Inv.quiet(I:Inv X pins σ H s):interactive X.env=false:=by simp[interactive,I.ok.kind]
def tDrop(te:TE):TS:=λD σ H=>te σ H λ_ H1=>D.nx σ H1
theorem aOf(he:PE X e te)(hs:swapsWith e none pos.line X.env=pure false:=by rfl):PS X (.Expr e pos) (tDrop te):=by
 intro pins s σ H D I h
 exact wpAny_Expr_any (thn (he pins s σ H _ I h) λv s1 ⟨x,H1,I1,r1,q1⟩=>⟨σ,H1,I1,q1⟩) I.quiet hs
def tRet(te:TE):TS:=λD σ H=>te σ H D.rt
theorem aTc(he:PE X e te):PS X (.Return (some e) pos) (tRet te):=by
 intro pins s σ H D I h
 exact wpAny_Return_some (thn (he pins s σ H _ I h) λv s1 ⟨x,H1,I1,r1,q1⟩=>⟨x,σ,H1,I1,r1,q1⟩)
def tIfS(c:TT)(t u:TS):TS:=λD σ H=>c σ H λb H1=>if b=true then t D σ H1 else u D σ H1
theorem aUj{c:Expr}{a b:List Stmt}{tc:TT}(hc:PT X c tc)(ha:PSs X a t)(hb:PSs X b u):PS X (.If c a b pos) (tIfS tc t u):=by
 intro pins s σ H D I h
 refine wpAny_If (thn (hc pins s σ H _ I h) λd s1 ⟨H1,I1,q1⟩=>?_)
 cases d with
 |true=>exact ha pins s1 σ H1 D I1 q1
 |false=>exact hb pins s1 σ H1 D I1 q1
def tNever:TS:=λ_ _ _=>False
theorem aMc:PS X st tNever:=λ_ _ _ _ _ _ h=>h.elim
end
abbrev TG:=V->St->Hp->(St->Hp->Prop)->Prop
abbrev TGs:=List V->St->Hp->(St->Hp->Prop)->Prop
def PG(X:Cx)(target:Expr)(t:TG):Prop :=
 ∀(pins:List (Addr×Obj)) (s:Shared) (σ:St) (H:Hp) (v:V) (u:Value) (Q:St->Hp->Prop),Inv X pins σ H s->RelV v u->t v σ H Q ->
  wpAny (model X.prog X.w) X.A (assign target X.env u) (λ_ s'=>∃σ' H',Inv X pins σ' H' s'/\Q σ' H') X.xe s
def PGs(X:Cx)(ts:List Expr)(t:TGs):Prop :=
 ∀(pins:List (Addr×Obj)) (s:Shared) (σ:St) (H:Hp) (vs:List V) (us:List Value) (Q:St->Hp->Prop),Inv X pins σ H s->Vals vs us->t vs σ H Q ->
  wpAny (model X.prog X.w) X.A (assignInOrder ((assignEach ts X.env).map (·.2)) us) (λ_ s'=>∃σ' H',Inv X pins σ' H' s'/\Q σ' H') X.xe s
abbrev TSet:=V->V->V->Hp->(Hp->Prop)->Prop
def PSet(X:Cx)(t:TSet):Prop :=
 ∀(pins:List (Addr×Obj)) (s:Shared) (σ:St) (H:Hp) (o i v:V) (ov iv u:Value) (Q:Hp->Prop),Inv X pins σ H s->RelV o ov->RelV i iv->RelV v u->t o i v H Q ->
  wpAny (model X.prog X.w) X.A (setItem ov iv u) (λ_ s'=>∃H',Inv X pins σ H' s'/\Q H') X.xe s
abbrev TIp:=V->V->Hp->VK->Prop
def PIp(X:Cx)(op:Operator)(t:TIp):Prop :=
 ∀(pins:List (Addr×Obj)) (s:Shared) (σ:St) (H:Hp) (x y:V) (v u:Value) (Q:VK),Inv X pins σ H s->RelV x v->RelV y u->t x y H Q ->
  wpAny (model X.prog X.w) X.A (inplaceOp op v u) (EP X pins σ Q) X.xe s
variable{pos:Pos}
def gName(i:Nat):TG:=λv σ H Q=>Q (σ.set i (some v)) H
theorem sX(hN:X.N.Nodup)(hi:X.N[i]?=some x)(hx:Loc X.env.scope x)(hf:X.fn x=true\/X.env.scope.names.lookup x=some .local:=by first|exact .inl rfl|exact .inr rfl|assumption):PG X (.Name x pos) (gName i):=by
 intro pins s σ H v u Q I r h
 exact wpAny_assign_Name (mY I hN hi hx r (λs' I'=>⟨_,H,I',h⟩) hf)
def gNil:TGs:=λvs σ H Q=>vs=[]/\Q σ H
def gCons(t:TG)(u:TGs):TGs:=λvs σ H Q=>∃v r,vs=v::r/\t v σ H λσ' H'=>u r σ' H' Q
theorem aFv:PGs X [] gNil:=by
 intro pins s σ H vs us Q I r h
 obtain⟨e,h⟩:=h
 subst e
 cases r
 exact assignInOrder_nil ⟨σ,H,I,h⟩
variable{es:List Expr}
theorem pM{t:TG}{u:TGs}(h1:PG X e t)(h2:PGs X es u)
  (hs:(assignEach (e::es) X.env).map (·.2)=assign e X.env::(assignEach es X.env).map (·.2):=by rfl):PGs X (e::es) (gCons t u):=by
 intro pins s σ H vs us Q I r h
 obtain⟨v,vr,e1,h⟩:=h
 subst e1
 cases r with
 |cons r rr =>
  rw[hs]
  refine aGU (thn (h1 pins s σ H _ _ _ I r h) λ_ s1 ⟨σ1,H1,I1,q1⟩=>?_)
  exact h2 pins s1 σ1 H1 _ _ Q I1 rr q1
def gTup(K:Frag)(n:Nat)(t:TGs):TG:=λv σ H Q=>∃a xs,v=.ref a/\SqT K H a xs/\xs.length=n/\t xs σ H Q
theorem aJk{k:Nat}{t:TGs}{n:Nat}(hc:X.calm=true)(h:PGs X es t)
  (hn:(assignEach es X.env).length=n:=by rfl)(hst:(assignEach es X.env).findIdx? (·.1)=none:=by rfl):PG X (.Tuple es k pos) (gTup X.K n t):=by
 intro pins s σ H v u Q I r hw
 obtain⟨a,xs,e1,hq,hl,hw⟩:=hw
 subst e1
 cases r
 obtain⟨its,rv,ht,hz⟩:=I.tuple hq
 refine assign_Tuple_tuple (I.ok.hd hc) ht (by simp[hn,<- hl,rv.length]) hst λh' hx=>?_
 have I1:Inv X pins σ H {s with heap:=h'}:=I.kept (t':=s.toks) λb o e=>hx b o (aBJ (aAM e)) e
 exact h pins _ σ H xs _ Q I1 (by simpa using rv) hw
def gSub(to ti:TE)(t:TSet):TG:=λv σ H Q=>to σ H λo H1=>ti σ H1 λi H2=>t o i v H2 λH3=>Q σ H3
theorem aQs{o i:Expr}{to ti:TE}{t:TSet}(ho:PE X o to)(hi:PE X i ti)(hs:PSet X t)
  (ha:∀v,assign (.Subscript o i pos) X.env v=(do
   let ov <- holding [v] (eval o X.env)
   let iv <- holding [v,ov] (eval i X.env)
   standAt pos
   holding [v,ov,iv] (setItem ov iv v)
   release [v,ov,iv] []):=by intro _;rfl):PG X (.Subscript o i pos) (gSub to ti t):=by
 intro pins s σ H v u Q I r h
 rw[ha]
 refine aAB (aBT (thn (ho pins s σ H _ I h) λov s1 ⟨x,H1,I1,r1,q1⟩=>?_))
 refine aAB (aBT (thn (hi pins s1 σ H1 _ I1 q1) λiv s2 ⟨y,H2,I2,r2,q2⟩=>?_))
 refine aAB (aEE (aAB (aBT (thn (hs pins s2 σ H2 x y v ov iv u _ I2 r1 r2 r q2) λ_ s3 ⟨H3,I3,q3⟩=>?_))))
 exact wpAny_release ⟨σ,H3,I3,q3⟩
def tAsg(te:TE)(g:TG):TS:=λD σ H=>te σ H λx H1=>g x σ H1 D.nx
variable{tg:Expr}{te:TE}{g:TG}
theorem aIl(he:PE X e te)(hg:PG X tg g)(hs:swapsWithSole [tg] e pos.line X.env=pure false:=by rfl)(hw:swappedStores [tg] e X.env=pure none:=by rfl)
  (h1:(assignEach [tg] X.env).map (·.2)=[assign tg X.env]:=by rfl):PS X (.Assign [tg] e pos) (tAsg te g):=by
 intro pins s σ H D I h
 refine wpAny_Assign_stores (thn (he pins s σ H _ I h) λv s1 ⟨x,H1,I1,r1,q1⟩=>?_) hs hw
 rw[h1]
 exact thn (hg pins s1 σ H1 x v _ I1 r1 q1) λ_ s2 q=>q
theorem aRj(hN:X.N.Nodup)(hi:X.N[i]?=some x)(hx:Loc X.env.scope x)(he:PE X e te)(hs:swapsWith e (some (.Name x pos')) pos.line X.env=pure false:=by rfl)(hf:X.fn x=true\/X.env.scope.names.lookup x=some .local:=by first|exact .inl rfl|exact .inr rfl|assumption) :
  PS X (.Assign [.Name x pos'] e pos) (tAsg te (gName i)):=by
 intro pins s σ H D I h
 refine wpAny_Assign_Name (thn (he pins s σ H _ I h) λv s1 ⟨y,H1,I1,r1,q1⟩=>?_) hs
 exact mY I1 hN hi hx r1 (λs2 I2=>⟨_,H1,I2,q1⟩) hf
def tPar(i j:Nat)(ta:TA):TS:=λD σ H=>ta σ H λvs H1=>∃v w,vs=[v,w]/\D.nx ((σ.set i (some v)).set j (some w)) H1
variable{a:Expr}{ta:TA}
theorem aTn{b:Expr}{px pt:Pos}{kt k2 pt2}(hc:X.calm=true)(hN:X.N.Nodup)(hi:X.N[i]?=some x)(hj:X.N[j]?=some y)(hij:i≠j)
  (hx:X.env.scope.names.lookup x=some .local)(hy:X.env.scope.names.lookup y=some .local)(ha:PA X [a,b] ta)
  (hw:swappedStores [.Tuple [.Name x px,.Name y py] kt pt] (.Tuple [a,b] k2 pt2) X.env=pure (some [x,y]))
  (hs:swapsWithSole [.Tuple [.Name x px,.Name y py] kt pt] (.Tuple [a,b] k2 pt2) pos.line X.env=pure false:=by rfl) :
  PS X (.Assign [.Tuple [.Name x px,.Name y py] kt pt] (.Tuple [a,b] k2 pt2) pos) (tPar i j ta):=by
 intro pins s σ H D I h
 rw[exec_Assign_arm]
 refine aAB (aEE ?_)
 rw[hs]
 refine aAB (aAF ?_)
 rw[aAI (by decide)]
 refine aAB (Tuple_ (thn (ha _ pins s σ H _ I h) λus s1 ⟨vs,H1,I1,r1,q1⟩=>?_))
 obtain⟨v,w,e1,q1⟩:=q1
 subst e1
 obtain⟨u1,u2,rfl,rv,rw'⟩:∃u1 u2,us=[u1,u2]/\RelV v u1/\RelV w u2:=by
  cases r1 with
  |cons p q =>
   cases q with
   |cons p' q' =>
    cases q'
    exact⟨_,_,rfl,p,p'⟩
 refine aCC ?_ (by show 2<=sizeLine;decide)
 have I2:Inv X pins σ H1 {s1 with heap:=s1.heap.push {cls:=.type "tuple",data:=.seq [u1,u2].toArray}}:=I1.kept (t':=s1.toks) λb o e=>aAA _ e
 rw[hw]
 refine aAB (aAF ?_)
 show wpAny (model X.prog X.w) X.A (do rule "assign.swapped-stores";let items <- unpackItems (.ref s1.heap.objs.size) 2 none;assignInOrder [λv=>bindName X.env y v,λv=>bindName X.env x v] items.reverse;pure Flow.next) _ _ _
 refine aAB (aDA (aAB (unpackItems_tuple (items:=#[u1,u2]) (I.ok.hd hc) (IsTup.new s1.heap _) λh' hx'=>?_)))
 have I3:=I2.kept (h':=h') (t':=s1.toks) λb o e=>hx' b o (aBJ (aAM e)) e
 show wpAny _ _ (assignInOrder [λv=>bindName X.env y v,λv=>bindName X.env x v] [u2,u1] >>= λ_=>pure Flow.next) _ _ _
 refine aAB (aGU (wpAny_bindName (mY I3 hN hj (.inl hy) rw' (λs2 I4=>?_) (.inr hy))))
 refine aGU (wpAny_bindName (mY I4 hN hi (.inl hx) rv (λs3 I5=>assignInOrder_nil (aAF ?_)) (.inr hx)))
 rw[List.set_comm _ _ (Ne.symm hij)]at I5
 exact⟨_,H1,I5,q1⟩
def tAug(i:Nat)(te:TE)(ti:TIp):TS:=λD σ H=>∃x,σ[i]?=some (some x)/\te σ H λy H1=>ti x y H1 λz H2=>D.nx (σ.set i (some z)) H2
variable{op:Operator}
theorem aLx{ti:TIp}(hN:X.N.Nodup)(hi:X.N[i]?=some x)(hx:Loc X.env.scope x)(he:PE X e te)(ho:PIp X op ti)(hf:X.fn x=true\/X.env.scope.names.lookup x=some .local:=by first|exact .inl rfl|exact .inr rfl|assumption) :
  PS X (.AugAssign (.Name x pos') op e pos) (tAug i te ti):=by
 intro pins s σ H D I h
 obtain⟨v,e1,h⟩:=h
 obtain⟨m,hn,hl⟩:=I.loc
 have vis:Vis X.env.scope x:=by rcases hx with k|k;exact .inl k;exact .inr (.inl k)
 obtain⟨u,r,l⟩:=hl i x v hi e1 vis
 refine wpAny_AugAssign_Name ?_
 have go:wpAny (model X.prog X.w) X.A (eval e X.env) (λw s₂=>wpAny (model X.prog X.w) X.A (inplaceOp op u w) (λr s₃=>wpAny (model X.prog X.w) X.A (storeName X.env x r) (λ_=>SP X pins D .next) X.xe s₃) X.xe s₂) X.xe s:=by
  refine thn (he pins s σ H _ I h) λw s1 ⟨y,H1,I1,r1,q1⟩=>?_
  refine thn (ho pins s1 σ H1 v y u w _ I1 r r1 q1) λz s2 ⟨zv,H2,I2,r2,q2⟩=>?_
  exact mY I2 hN hi hx r2 (λs3 I3=>⟨_,H2,I3,q2⟩) hf
 rcases l with⟨hk,hm⟩|⟨hk,c,hc,hcell⟩
 ·exact wpAny_loadName_local I.ok.kind hk hn hm go
 ·rcases hk with hk|hk
  ·exact wpAny_loadName_cell I.ok.kind hk hc hcell go
  ·rcases hx with k|k
   ·have:X.env.scope.names.lookup x=some .free:=hk
    rw[k]at this;cases this
   ·have:X.env.scope.names.lookup x=some .free:=hk
    rw[k]at this;cases this
def ipI(f:Int->Int->Int):TIp:=λx y H Q=>∃i j,x=.int i/\y=.int j/\Q (.int (f i j)) H
theorem aCm:PIp X .Add (ipI λi j=>i+j):=by
 intro pins s σ H x y v u Q I r1 r2 h
 obtain⟨i,j,e1,e2,q⟩:=h
 subst e1;subst e2
 obtain⟨t,rfl⟩:=r1
 obtain⟨t',rfl⟩:=r2
 exact iadd_int ⟨.int _,H,I.tok _,⟨_,rfl⟩,q⟩
def tWhile(c:TT)(tb:TS):TS:=λD σ H=>∃W:Nat->St->Hp->Prop,(∃m,W m σ H)/\∀m σ H,W m σ H ->
 c σ H λb H1=>if b=true then ∃N:St->Hp->Prop,(∀σ' H',N σ' H'->∃m',m' < m/\W m' σ' H')/\tb {D with nx:=N,ct:=N,bk:=D.nx} σ H1 else D.nx σ H1
variable{c:Expr}{tb:TS}
theorem aMo{tc:TT}(hp:PassesOwn (model X.prog X.w) X.A X.env X.xe)(hc:PT X c tc)(hb:PSs X body tb):PS X (.While c body [] pos) (tWhile tc tb):=by
 intro pins s σ H D I h
 obtain⟨W,⟨m0,w0⟩,turn⟩:=h
 refine wpAny_While (codeAny_whileLoop (λn s'=>∃σ' H',Inv X pins σ' H' s'/\W n σ' H') ?_ m0 ⟨σ,H,I,w0⟩)
 rintro n s1 ⟨σ1,H1,I1,w1⟩
 refine aDO hp (thn (hc pins s1 σ1 H1 _ I1 (turn n σ1 H1 w1)) λb s2 ⟨H2,I2,q2⟩=>?_)
 cases b with
 |true =>
  obtain⟨N,hN,q2⟩:=q2
  rw[aAJ rfl]
  refine aDO hp (thn (hb pins s2 σ1 H2 _ I2 q2) λf s3 q3=>?_)
  cases f with
  |next =>
   obtain⟨σ3,H3,I3,n3⟩:=q3
   obtain⟨m',hm,w3⟩:=hN σ3 H3 n3
   exact⟨m',hm,σ3,H3,I3,w3⟩
  |cont =>
   obtain⟨σ3,H3,I3,n3⟩:=q3
   obtain⟨m',hm,w3⟩:=hN σ3 H3 n3
   exact⟨m',hm,σ3,H3,I3,w3⟩
  |brk=>exact q3
  |ret v=>exact q3
 |false =>
  rw[aAI aBG]
  exact aGI ⟨σ1,H2,I2,q2⟩
structure It where
 go:Nat->Hp->Prop
 yld:Nat->Hp->V->Hp->Prop
 stop:Nat->Hp->Prop
def FpOk(X:Cx)(pins:List (Addr×Obj))(H:Hp)(b:Addr):Prop :=
 H b=none/\b≠X.env.locals/\b∉X.fs/\(b∈X.ex\/X.s₀.heap.objs.size<=b)/\(∀x c,X.env.cells.lookup x=some c->c≠b)/\∀p∈X.pn++pins,p.1≠b
theorem Inv.fpOk(I:Inv X pins σ H s)(hb:s.heap.objs.size<=b)(hn:H' b=none):FpOk X pins H' b:=by
 refine⟨hn,aEN (aAR I.lt hb),I.nofs hb,.inr (aBO I.sz hb),λx c e z=>?_,λp hp z=>?_⟩
 ·obtain⟨v,q⟩:=I.cell x c e
  exact absurd (aAR q.lt (by rw[z];exact hb)) (aDE _)
 ·exact absurd (aAR (aAM (I.pin p hp).1) (by rw[z];exact hb)) (aDE _)
structure Turn(P:Program)(w:World)(K:Frag)(tg:Expr)(J:It)(fp:List Addr)(it:Addr)(tn:Nat->Heap->Prop):Prop where
 mem:it∈fp
 obj:∀i h,tn i h->∀b∈fp,∃o,h.get? b=some o/\∀v,o.data≠.cell v
 keep:∀i h h',tn i h->(∀b∈fp,∀o,h.get? b=some o->h'.get? b=some o)->tn i h'
 item:∀(X:Cx),X.prog=P->X.w=w->X.K=K->X.calm=true->∀(i:Nat) (pins:List (Addr×Obj)) (s:Shared) (σ:St) (H:Hp) (E:Value->Shared->Prop),Inv X pins σ H s->(∀b∈fp,FpOk X pins H b)->tn i s.heap->J.go i H ->
  wpAny (model P w) X.A (pyNext (.ref it)) (λr s1=>∃u,r=some u /\
   wpAny (model P w) X.A (letOwnedTupleGo tg (.ref it) u) (λ_ s2=>∃x H',Inv X pins σ H' s2/\RelV x u/\J.yld i H x H'/\tn (i+1) s2.heap/\∀b∈fp,H' b=none) E s1) E s
 done:∀(X:Cx),X.prog=P->X.w=w->X.K=K->X.calm=true->∀(i:Nat) (pins:List (Addr×Obj)) (s:Shared) (σ:St) (H:Hp) (E:Value->Shared->Prop),Inv X pins σ H s->(∀b∈fp,FpOk X pins H b)->tn i s.heap->J.stop i H ->
  wpAny (model P w) X.A (pyNext (.ref it)) (λr s1=>r=none/\Inv X pins σ H s1) E s
 self:∀(A:Around) (i:Nat) (s:Shared) (Q:Value->Shared->Prop) (E:Value->Shared->Prop),tn i s.heap->Q (.ref it) s->wpAny (model P w) A (pyIter (.ref it)) Q E s
abbrev TI:=St->Hp->(It->Hp->Prop)->Prop
def PIE(X:Cx)(pins:List (Addr×Obj))(σ:St)(tg:Expr)(R:It->Hp->Prop)(itv:Value)(s2:Shared):Prop :=
 ∃(it:Addr) (fp:List Addr) (tn:Nat->Heap->Prop) (J:It) (H':Hp),itv=.ref it/\Inv X pins σ H' s2/\Turn X.prog X.w X.K tg J fp it tn/\tn 0 s2.heap/\(∀b∈fp,FpOk X pins H' b)/\R J H'
def PI(X:Cx)(tg iter:Expr)(wi:TI):Prop :=
 ∀(pins:List (Addr×Obj)) (s:Shared) (σ:St) (H:Hp) (R:It->Hp->Prop),Inv X pins σ H s->wi σ H R ->
  wpAny (model X.prog X.w) X.A (eval iter X.env) (λv s1=>wpAny (model X.prog X.w) X.A (pyIter v) (PIE X pins σ tg R) X.xe s1) X.xe s
theorem xU{n:String}{vs:Array Value}(ho:s.heap.get? it=some o)(hc:o.cls=.type n)(hd:o.data=.fields vs)
  (hn:["enumerate","zip","dict_itemiterator","dict_reverseitemiterator","odict_iterator","itertools.zip_longest","itertools.pairwise"].contains n=false)(hQ:Q () s):wpAny M A (letOwnedTupleGo tg (.ref it) u) Q E s:=by
 unfold letOwnedTupleGo
 cases tg <;> first
  |exact aAF hQ
  |(cases u <;> first
    |exact aAF hQ
    |(refine aAB (wpAny_load ho ?_)
      rw[hc,hd]
      show wpAny M A (if(["enumerate","zip","dict_itemiterator","dict_reverseitemiterator","odict_iterator","itertools.zip_longest","itertools.pairwise"].contains n&&vs[0]?==some (rawInt _))=true then _ else _) Q E s
      rw[aAI (by intro h;rw[hn,Bool.false_and]at h;cases h)]
      exact aAF hQ))
def Itl(K:Frag)(a:Addr):It :=
 ⟨λi H=>∃xs x,SqL K H a xs/\xs[i]?=some x,λi H x H'=>H'=H/\∀xs,SqL K H a xs->xs[i]?=some x,λi H=>∃xs,SqL K H a xs/\xs.length<=i⟩
def Itt(K:Frag)(a:Addr):It :=
 ⟨λi H=>∃xs x,SqT K H a xs/\xs[i]?=some x,λi H x H'=>H'=H/\∀xs,SqT K H a xs->xs[i]?=some x,λi H=>∃xs,SqT K H a xs/\xs.length<=i⟩
def Itr(lo:Int)(n:Nat):It:=⟨λi _=>i < n,λi H x H'=>H'=H/\x=.int (lo+i),λi _=>n<=i⟩
theorem aHf(a it:Addr):Turn P w K tg (Itl K a) [it] it (λi h=>h.IsListIter it a i)where
 mem:=by simp
 obj:=λi h st b hb=>by
  have e:b=it:=by simpa using hb
  subst e
  obtain⟨o,e,c,d⟩:=st
  exact⟨o,e,λv z=>by rw[d]at z;cases z⟩
 keep:=λi h h' st k=>st.at λo e=>k it (by simp) o e
 item:=by
  intro X hP hw hK hc i pins s σ H E I hf st hg
  subst hP hw hK
  obtain⟨xs,x,hq,hx⟩:=hg
  obtain⟨its,rv,p,hz⟩:=I.list hq
  obtain⟨u,hu,ru⟩:=rv.get hx
  obtain⟨f0,f1,f2,f3,f4,f5⟩:=hf it (by simp)
  refine wpAny_pyNext_list_item st p.isList (x:=u) (by simpa using hu) λh' st' sb=>?_
  have I1:Inv X pins σ H {s with heap:=h'}:=I.turned (t':=s.toks) (λb o hb e=>(sb.2 b hb).trans e) f0 f1 f3 f4 f5
  obtain⟨o,e,c,d⟩:=id st'
  exact⟨u,rfl,xU (s:={s with heap:=h'}) e c d (by decide) ⟨x,H,I1,ru,⟨rfl,λys hy=>by rw[I.list_inj hy hq];exact hx⟩,st',λb hb=>(hf b hb).1⟩⟩
 done:=by
  intro X hP hw hK hc i pins s σ H E I hf st hg
  subst hP hw hK
  obtain⟨xs,hq,hx⟩:=hg
  obtain⟨its,rv,p,hz⟩:=I.list hq
  obtain⟨f0,f1,f2,f3,f4,f5⟩:=hf it (by simp)
  have hl:=rv.length
  exact wpAny_pyNext_list_end (I.ok.hd hc) st p.isList (by simp;lia) λh' eb=>⟨rfl,I.turned (t':=s.toks) (λb o hb e=>eb b o hb e) f0 f1 f3 f4 f5⟩
 self:=λ_ _ _ _ _ st h=>wpAny_pyIter_listiter st h
theorem aEl(a it:Addr):Turn P w K tg (Itt K a) [it] it (λi h=>h.IsTupleIter it a i)where
 mem:=by simp
 obj:=λi h st b hb=>by
  have e:b=it:=by simpa using hb
  subst e
  obtain⟨o,e,c,d⟩:=st
  exact⟨o,e,λv z=>by rw[d]at z;cases z⟩
 keep:=λi h h' st k=>st.at λo e=>k it (by simp) o e
 item:=by
  intro X hP hw hK hc i pins s σ H E I hf st hg
  subst hP hw hK
  obtain⟨xs,x,hq,hx⟩:=hg
  obtain⟨its,rv,p,hz⟩:=I.tuple hq
  obtain⟨u,hu,ru⟩:=rv.get hx
  obtain⟨f0,f1,f2,f3,f4,f5⟩:=hf it (by simp)
  refine wpAny_pyNext_tuple_item st (show s.heap.IsTuple a its.toArray from p) (x:=u) (by simpa using hu) λh' st' sb=>?_
  have I1:Inv X pins σ H {s with heap:=h'}:=I.turned (t':=s.toks) (λb o hb e=>(sb.2 b hb).trans e) f0 f1 f3 f4 f5
  obtain⟨o,e,c,d⟩:=id st'
  exact⟨u,rfl,xU (s:={s with heap:=h'}) e c d (by decide) ⟨x,H,I1,ru,⟨rfl,λys hy=>by rw[I.tuple_inj hy hq];exact hx⟩,st',λb hb=>(hf b hb).1⟩⟩
 done:=by
  intro X hP hw hK hc i pins s σ H E I hf st hg
  subst hP hw hK
  obtain⟨xs,hq,hx⟩:=hg
  obtain⟨its,rv,p,hz⟩:=I.tuple hq
  obtain⟨f0,f1,f2,f3,f4,f5⟩:=hf it (by simp)
  have hl:=rv.length
  exact wpAny_pyNext_tuple_end (I.ok.hd hc) st (show s.heap.IsTuple a its.toArray from p) (by simp;lia) λh' eb=>⟨rfl,I.turned (t':=s.toks) (λb o hb e=>eb b o hb e) f0 f1 f3 f4 f5⟩
 self:=λ_ _ _ _ _ st h=>wpAny_pyIter_tupleiter st h
theorem aDe(it:Addr)(lo:Int)(n:Nat):Turn P w K tg (Itr lo n) [it] it (λi h=>IsRangeIter h it (lo+(i:Nat)*1) ((n:Int) - (i:Nat)) 1)where
 mem:=by simp
 obj:=λi h st b hb=>by
  have e:b=it:=by simpa using hb
  subst e
  exact⟨_,st,λv z=>by
   have z':Data.fields _=Data.cell v:=z
   cases z'⟩
 keep:=λi h h' st k=>k it (by simp) _ st
 item:=by
  intro X hP hw hK hc i pins s σ H E I hf st hg
  subst hP hw hK
  obtain⟨f0,f1,f2,f3,f4,f5⟩:=hf it (by simp)
  have W:=Walks.range (prog:=X.prog) (w:=X.w) (I.ok.hd hc) it lo 1 n
  refine W.item i s _ _ hg st λv h' tk hv st' kk=>?_
  obtain⟨t,rfl⟩:=hv
  have I1:Inv X pins σ H {s with heap:=h',toks:=tk}:=I.turned (λb o hb e=>kk b o (by simpa using hb) e) f0 f1 f3 f4 f5
  refine⟨_,rfl,xU (s:={s with heap:=h',toks:=tk}) (n:="range_iterator") st' rfl rfl (by decide) ⟨.int (lo+i),H,I1,⟨t,?_⟩,⟨rfl,rfl⟩,st',λb hb=>(hf b hb).1⟩⟩
  rw[Int.mul_one]
 done:=by
  intro X hP hw hK hc i pins s σ H E I hf st hg
  subst hP hw hK
  obtain⟨f0,f1,f2,f3,f4,f5⟩:=hf it (by simp)
  exact wpAny_pyNext_range_end (I.ok.hd hc) st (by have:n<=i:=hg;lia) λh' eb=>⟨rfl,I.turned (t':=s.toks) (λb o hb e=>eb b o hb e) f0 f1 f3 f4 f5⟩
 self:=λ_ _ _ _ _ st h=>aFO st h
theorem aCg{R:It->Hp->Prop}{lo hi:Int}{t u v:Tok}{tk:Nat}(I:Inv X pins σ H s)(h1 : -(2 ^ 62)<=lo)(h2:lo < 2 ^ 62)(h3 : -(2 ^ 62)<=hi)(h4:hi < 2 ^ 62)
  (q:R (Itr lo (hi - lo).toNat) H):wpAny (model X.prog X.w) X.A (pyIter (.ref s.heap.objs.size)) (PIE X pins σ tg R) E {s with heap:=s.heap.push {cls:=.type "range",data:=.fields #[.int lo t,.int hi u,.int 1 v]},toks:=tk}:=by
 refine wpAny_pyIter_range (IsRange.new ..) (small_one h1 h2 h3 h4) ?_
 have I1:Inv X pins σ H {s with heap:=s.heap.push {cls:=.type "range",data:=.fields #[.int lo t,.int hi u,.int 1 v]},toks:=tk}:=I.kept λb o e=>aAA _ e
 refine⟨(s.heap.push {cls:=.type "range",data:=.fields #[.int lo t,.int hi u,.int 1 v]}).objs.size,[(s.heap.push {cls:=.type "range",data:=.fields #[.int lo t,.int hi u,.int 1 v]}).objs.size],_,_,H,rfl,
  I1.kept (t':=tk) λb o e=>aAA _ e,aDe _ lo (hi - lo).toNat,?_,λb hb=>?_,q⟩
 ·have e1:lo+((0:Nat):Int)*1=lo:=by simp
  have e2:(((hi - lo).toNat:Nat):Int) - ((0:Nat):Int)=Builtin.Range.rangeSize lo hi 1:=by rw[rangeSize_one];split <;> lia
  show IsRangeIter _ _ (lo+((0:Nat):Int)*1) ((((hi - lo).toNat:Nat):Int) - ((0:Nat):Int)) 1
  rw[e1,e2]
  exact aAE _ rfl
 ·have e:b=(s.heap.push {cls:=.type "range",data:=.fields #[.int lo t,.int hi u,.int 1 v]}).objs.size:=by simpa using hb
  subst e
  exact I1.fpOk (aAH _) (I1.hok.fresh (aAH _))
def iRng1(ta:TA):TI:=λσ H R=>ta σ H λvs H1=>∃j:Int,vs=[.int j] /\ -(2 ^ 62)<=j/\j < 2 ^ 62/\R (Itr 0 j.toNat) H1
def iRng2(ta:TA):TI:=λσ H R=>ta σ H λvs H1=>∃i j:Int,vs=[.int i,.int j]/\(-(2 ^ 62)<=i/\i < 2 ^ 62 /\ -(2 ^ 62)<=j/\j < 2 ^ 62)/\R (Itr i (j - i).toNat) H1
theorem aGs(hg:Gl X "range")(hm:X.mg "range"=none)(ha:PA X [a] ta)(hs:starEach [a] X.env=[(false,eval a X.env)]:=by rfl):PI X tg (.Call (.Name "range" p) [a] [] pos) (iRng1 ta):=by
 intro pins s σ H R I h
 refine Call_ (nJ I hg hm boot_range (aCN (thn (ha pos pins s σ H _ I h) λus s1 ⟨vs,H1,I1,r1,q1⟩=>?_) hs rfl))
 obtain⟨j,e,q1,q2,q⟩:=q1
 subst e
 cases r1 with
 |cons r rr =>
  cases rr
  obtain⟨t,rfl⟩:=r
  exact call_range_1 (aCg I1 (by lia) (by lia) q1 q2 (by simpa using q))
theorem aIf{b:Expr}(hg:Gl X "range")(hm:X.mg "range"=none)(ha:PA X [a,b] ta)(hs:starEach [a,b] X.env=[(false,eval a X.env),(false,eval b X.env)]:=by rfl)(hs2:starEach [b] X.env=[(false,eval b X.env)]:=by rfl) :
  PI X tg (.Call (.Name "range" p) [a,b] [] pos) (iRng2 ta):=by
 intro pins s σ H R I h
 refine Call_ (nJ I hg hm boot_range (aCN (thn (ha pos pins s σ H _ I h) λus s1 ⟨vs,H1,I1,r1,q1⟩=>?_) (by rw[hs,hs2]) (by rw[hs2];rfl)))
 obtain⟨i,j,e,⟨q1,q2,q3,q4⟩,q⟩:=q1
 subst e
 cases r1 with
 |cons r rr =>
  cases rr with
  |cons r' rr =>
   cases rr
   obtain⟨t,rfl⟩:=r
   obtain⟨t',rfl⟩:=r'
   exact call_range_2 (aCg I1 q1 q2 q3 q4 q)
def tFor(wi:TI)(g:TG)(tb:TS):TS:=λD σ H=>wi σ H λJ H1=>∃W:Nat->Nat->St->Hp->Prop,(∃m,W 0 m σ H1)/\∀i m σ H,W i m σ H ->
 (J.stop i H/\D.nx σ H)\/(J.go i H/\∃N:St->Hp->Prop,(∀σ' H',N σ' H'->∃m',m' < m/\W (i+1) m' σ' H')/\∀x H',J.yld i H x H'->g x σ H' λσ2 H2=>tb {D with nx:=N,ct:=N,bk:=D.nx} σ2 H2)
def pinsAt(fp:List Addr)(h:Heap):List (Addr×Obj):=fp.filterMap λb=>(h.get? b).map λo=>(b,o)
theorem mB(hb:b∈fp)(e:h.get? b=some o):(b,o)∈pinsAt fp h:=aGW.mpr ⟨b,hb,by rw[e];rfl⟩
theorem aHx{p:Addr×Obj}(hp:p∈pinsAt fp h):p.1∈fp/\h.get? p.1=some p.2:=by
 obtain⟨b,hb,e⟩:=aGW.mp hp
 cases q:h.get? b with
 |none=>rw[q]at e;cases e
 |some o =>
  rw[q]at e
  have e':(b,o)=p:=Option.some.inj e
  subst e'
  exact⟨hb,q⟩
theorem Inv.pinned{fp:List Addr}(I:Inv X pins σ H s)(hf:∀b∈fp,FpOk X pins H b)(ho:∀b∈fp,∃o,s.heap.get? b=some o/\∀v,o.data≠.cell v):Inv X (pins++pinsAt fp s.heap) σ H s :=
 I.pins_of λp hp=>(aBN.mp hp).elim (λz=>I.pin p (aBX _ z)) λz=>by
  obtain⟨hb,e⟩:=aHx z
  obtain⟨f0,f1,f2,_⟩:=hf p.1 hb
  obtain⟨o,e',d⟩:=ho p.1 hb
  rw[e]at e';cases e'
  exact⟨e,f0,f1,f2,d⟩
theorem Inv.unpinned{pl:List (Addr×Obj)}(I:Inv X (pins++pl) σ H s):Inv X pins σ H s:=I.pins_of λp hp=>I.pin p (aBX _ (List.mem_append_left _ hp))
theorem aPz{iter:Expr}{wi:TI}(hp:PassesOwn (model X.prog X.w) X.A X.env X.xe)(hc:X.calm=true)(hi:PI X tg iter wi)(hg:PG X tg g)(hb:PSs X body tb)
  (hs:∀x,foldedSetIterable iter X.env x=pure x:=by intro _;rfl):PS X (.For tg iter body [] pos) (tFor wi g tb):=by
 intro pins s σ H D I h
 refine wpAny_For (thn (hi pins s σ H _ I h) λv s1 h1=>thn h1 λitv s2 h2=>?_) hs
 obtain⟨it,fp,tn,J,H2,e,I2,T,st2,f2,W,⟨m0,w0⟩,turn⟩:=h2
 subst e
 have stat:∀{H':Hp},(∀b∈fp,H' b=none)->∀b∈fp,FpOk X pins H' b:=λhn b hb=>⟨hn b hb,(f2 b hb).2⟩
 refine codeAny_forLoop_any (λn s'=>∃i σ' H',Inv X pins σ' H' s'/\tn i s'.heap/\(∀b∈fp,H' b=none)/\W i n σ' H') ?_ m0 ⟨0,σ,H2,I2,st2,λb hb=>(f2 b hb).1,w0⟩
 rintro n s3 ⟨i,σ3,H3,I3,st3,fr3,w3⟩
 rcases turn i n σ3 H3 w3 with⟨stop,qn⟩|⟨go,N,hN,step⟩
 ·refine aDO hp (thn (T.done X rfl rfl rfl hc i pins s3 σ3 H3 X.xe I3 (stat fr3) st3 stop) λr s4 ⟨hr,I4⟩=>?_)
  subst hr
  exact aGI ⟨σ3,H3,I4,qn⟩
 ·refine aDO hp (thn (T.item X rfl rfl rfl hc i pins s3 σ3 H3 X.xe I3 (stat fr3) st3 go) λr s4 ⟨u,hr,h4⟩=>?_)
  subst hr
  refine aDO hp (thn h4 λ_ s5 ⟨x,H5,I5,r5,y5,st5,fr5⟩=>?_)
  have I5':=I5.pinned (stat fr5) (T.obj _ _ st5)
  refine aDO hp (thn (hg _ s5 σ3 H5 x u _ I5' r5 (step x H5 y5)) λ_ s6 ⟨σ6,H6,I6,q6⟩=>?_)
  refine aDO hp (thn (hb _ s6 σ6 H6 _ I6 q6) λf s7 q7=>?_)
  have again:∀{σ7:St} {H7:Hp},Inv X (pins++pinsAt fp s5.heap) σ7 H7 s7->N σ7 H7->∃m,m < n/\∃i σ' H',Inv X pins σ' H' s7/\tn i s7.heap/\(∀b∈fp,H' b=none)/\W i m σ' H':=λ{σ7 H7} I7 n7=>by
   obtain⟨m',hm,w7⟩:=hN σ7 H7 n7
   refine⟨m',hm,i+1,σ7,H7,I7.unpinned,T.keep _ _ _ st5 λb hb o e=>(I7.pin (b,o) (aBX _ (aBX _ (mB hb e)))).1,λb hb=>?_,w7⟩
   obtain⟨o,e,d⟩:=T.obj _ _ st5 b hb
   exact(I7.pin (b,o) (aBX _ (aBX _ (mB hb e)))).2.1
  cases f with
  |next=>obtain⟨σ7,H7,I7,n7⟩:=q7;exact again I7 n7
  |cont=>obtain⟨σ7,H7,I7,n7⟩:=q7;exact again I7 n7
  |brk=>obtain⟨σ7,H7,I7,q7⟩:=q7;exact⟨σ7,H7,I7.unpinned,q7⟩
  |ret v=>obtain⟨x7,σ7,H7,I7,r7,q7⟩:=q7;exact⟨x7,σ7,H7,I7.unpinned,r7,q7⟩
abbrev R2:=V->V->Hp->VK->Prop
def OpR(X:Cx)(f:Value->Value->Sem Value)(r:R2):Prop :=
 ∀(pins:List (Addr×Obj)) (s:Shared) (σ:St) (H:Hp) (x y:V) (v u:Value) (Q:VK),Inv X pins σ H s->RelV x v->RelV y u->r x y H Q ->
  wpAny (model X.prog X.w) X.A (f v u) (EP X pins σ Q) X.xe s
def UnR(X:Cx)(f:Value->Sem Value)(r:V->Hp->VK->Prop):Prop :=
 ∀(pins:List (Addr×Obj)) (s:Shared) (σ:St) (H:Hp) (x:V) (v:Value) (Q:VK),Inv X pins σ H s->RelV x v->r x H Q ->
  wpAny (model X.prog X.w) X.A (f v) (EP X pins σ Q) X.xe s
def CallR(X:Cx)(f:Value)(r:List V->Hp->VK->Prop):Prop :=
 ∀(pins:List (Addr×Obj)) (s:Shared) (σ:St) (H:Hp) (xs:List V) (us:List Value) (Q:VK),Inv X pins σ H s->Vals xs us->r xs H Q ->
  wpAny (model X.prog X.w) X.A (call f us) (EP X pins σ Q) X.xe s
def TruR(X:Cx)(r:V->Hp->(Bool->Hp->Prop)->Prop):Prop :=
 ∀(pins:List (Addr×Obj)) (s:Shared) (σ:St) (H:Hp) (x:V) (v:Value) (Q:Bool->Hp->Prop),Inv X pins σ H s->RelV x v->r x H Q ->
  wpAny (model X.prog X.w) X.A (truthy v) (TP X pins σ Q) X.xe s
def tOp(r:R2)(ta tb:TE):TE:=λσ H Q=>ta σ H λx H1=>tb σ H1 λy H2=>r x y H2 Q
def tUn(r:V->Hp->VK->Prop)(ta:TE):TE:=λσ H Q=>ta σ H λx H1=>r x H1 Q
def rI(C:Int->Int->Prop)(g:Int->Int->V):R2:=λx y H Q=>∃i j,x=.int i/\y=.int j/\C i j/\Q (g i j) H
def rI0(g:Int->Int->V):R2:=λx y H Q=>∃i j,x=.int i/\y=.int j/\Q (g i j) H
def rU(g:Int->V):V->Hp->VK->Prop:=λx H Q=>∃i,x=.int i/\Q (g i) H
variable{b:Expr}{ta tb tc:TE}{f:Value->Value->Sem Value}
theorem binT(ha:PE X a ta)(hb:PE X b tb){R:V->V->Hp->Prop}(I:Inv X pins σ H s)
  (h:ta σ H λx H1=>tb σ H1 λy H2=>R x y H2){Q:Value->Shared->Prop}
  (hf:∀v u s2 x y H2,Inv X pins σ H2 s2->RelV x v->RelV y u->R x y H2->wpAny (model X.prog X.w) X.A (f v u) Q X.xe s2) :
  wpAny (model X.prog X.w) X.A (eval a X.env) (λv s₁=>wpAny (model X.prog X.w) X.A (eval b X.env) (λu s₂=>wpAny (model X.prog X.w) X.A (f v u) Q X.xe s₂) X.xe s₁) X.xe s:=by
 refine thn (ha pins s σ H _ I h) λv s1 ⟨x,H1,I1,r1,q1⟩=>?_
 refine thn (hb pins s1 σ H1 _ I1 q1) λu s2 ⟨y,H2,I2,r2,q2⟩=>?_
 exact hf v u s2 x y H2 I2 r1 r2 q2
theorem aTs{r:R2}(ho:OpR X (binaryOp op) r)(ha:PE X a ta)(hb:PE X b tb):PE X (.BinOp a op b pos) (tOp r ta tb):=by
 intro pins s σ H Q I h
 exact wpAny_BinOp (binT ha hb I h λv u s2 x y H2 I2 rx ry q=>ho pins s2 σ H2 x y v u Q I2 rx ry q)
theorem aVg{op:UnaryOp}{r:V->Hp->VK->Prop}(ho:UnR X (unaryOp op) r)(ha:PE X a ta):PE X (.UnaryOp op a pos) (tUn r ta):=by
 intro pins s σ H Q I h
 exact UnaryOp_ (thn (ha pins s σ H _ I h) λv s1 ⟨x,H1,I1,r1,q1⟩=>ho pins s1 σ H1 x v Q I1 r1 q1)
variable{g:Int->Int->Int}
theorem opI{C:Int->Int->Prop}
  (rule:∀(i j:Int) (t u:Tok) (s:Shared) (Q:Value->Shared->Prop) (E:Value->Shared->Prop),C i j->Q (.int (g i j) s.toks) {s with toks:=s.toks+1}->wpAny (model X.prog X.w) X.A (f (.int i t) (.int j u)) Q E s) :
  OpR X f (rI C λi j=>.int (g i j)):=by
 intro pins s σ H x y v u Q I rx ry h
 obtain⟨i,j,rfl,rfl,hc,q⟩:=h
 obtain⟨t,rfl⟩:=rx
 obtain⟨t',rfl⟩:=ry
 exact rule i j t t' s _ _ hc ⟨.int (g i j),H,I.tok _,⟨_,rfl⟩,q⟩
theorem opI0 
  (rule:∀(i j:Int) (t u:Tok) (s:Shared) (Q:Value->Shared->Prop) (E:Value->Shared->Prop),Q (.int (g i j) s.toks) {s with toks:=s.toks+1}->wpAny (model X.prog X.w) X.A (f (.int i t) (.int j u)) Q E s) :
  OpR X f (rI0 λi j=>.int (g i j)):=by
 intro pins s σ H x y v u Q I rx ry h
 obtain⟨i,j,rfl,rfl,q⟩:=h
 obtain⟨t,rfl⟩:=rx
 obtain⟨t',rfl⟩:=ry
 exact rule i j t t' s _ _ ⟨.int (g i j),H,I.tok _,⟨_,rfl⟩,q⟩
theorem opB0{g:Int->Int->Bool}
  (rule:∀(i j:Int) (t u:Tok) (s:Shared) (Q:Value->Shared->Prop) (E:Value->Shared->Prop),Q (.bool (g i j)) s->wpAny (model X.prog X.w) X.A (f (.int i t) (.int j u)) Q E s) :
  OpR X f (rI0 λi j=>.bl (g i j)):=by
 intro pins s σ H x y v u Q I rx ry h
 obtain⟨i,j,rfl,rfl,q⟩:=h
 obtain⟨t,rfl⟩:=rx
 obtain⟨t',rfl⟩:=ry
 exact rule i j t t' s _ _ ⟨.bl (g i j),H,I,rfl,q⟩
def CPow(i j:Int):Prop:=0<=j/\j<=1000000/\i.natAbs < 2 ^ 64
def CMul(i j:Int):Prop:=(-(2 ^ 64) < i/\i < 2 ^ 64)\/(-(2 ^ 64) < j/\j < 2 ^ 64)
theorem CMul.ok{i j:Int}(h:CMul i j):IntMulOk i j:=by
 rcases h with⟨h1,h2⟩|⟨h1,h2⟩
 ·exact .of_left (intBits_le_64 h1 h2)
 ·exact .of_right (intBits_le_64 h1 h2)
theorem aRg:OpR X (binaryOp .Add) (rI0 λi j=>.int (i+j)):=opI0 λ_ _ _ _ _ _ _ q=>add_int q
theorem aTg:OpR X (binaryOp .Sub) (rI0 λi j=>.int (i - j)):=opI0 λ_ _ _ _ _ _ _ q=>sub_int q
theorem aRx:OpR X (binaryOp .Mod) (rI (λ_ j=>0 < j) λi j=>.int (i % j)):=opI λi j _ _ _ _ _ hc q=>by
 have h1:(0:Int) < j:=hc
 exact mod_int' (by lia) (by rw[Int.fmod_eq_emod_of_nonneg i (by lia)];exact q)
theorem aRc:OpR X (binaryOp .Pow) (rI CPow λi j=>.int (i ^ j.toNat)):=opI λ_ _ _ _ _ _ _ hc q=>pow_int_small hc.1 hc.2.1 hc.2.2 q
theorem unI{f:Value->Sem Value}{g:Int->Int}
  (rule:∀(i:Int) (t:Tok) (s:Shared) (Q:Value->Shared->Prop) (E:Value->Shared->Prop),Q (.int (g i) s.toks) {s with toks:=s.toks+1}->wpAny (model X.prog X.w) X.A (f (.int i t)) Q E s) :
  UnR X f (rU λi=>.int (g i)):=by
 intro pins s σ H x v Q I rx h
 obtain⟨i,rfl,q⟩:=h
 obtain⟨t,rfl⟩:=rx
 exact rule i t s _ _ ⟨.int (g i),H,I.tok _,⟨_,rfl⟩,q⟩
theorem aRu:UnR X (unaryOp .USub) (rU λi=>.int (-i)):=unI λ_ _ _ _ _ q=>neg_int q
theorem aDm{Q:VK}{k k':Bool}(I:Inv X pins σ H s)(q:Q (.bl k) H)(e:k=k'):EP X pins σ Q (.bool k') s:=by
 subst e
 exact⟨.bl k,H,I,rfl,q⟩
theorem aUp:OpR X (compareOp .Lt) (rI0 λi j=>.bl (decide (i < j))):=opB0 λ_ _ _ _ _ _ _ q=>lt_int q
theorem aUh:OpR X (compareOp .LtE) (rI0 λi j=>.bl (decide (i<=j))):=opB0 λ_ _ _ _ _ _ _ q=>le_int q
theorem aUw:OpR X (compareOp .Gt) (rI0 λi j=>.bl (decide (j < i))):=opB0 λ_ _ _ _ _ _ _ q=>gt_int q
theorem aTv:OpR X (compareOp .GtE) (rI0 λi j=>.bl (decide (j<=i))):=opB0 λ_ _ _ _ _ _ _ q=>ge_int q
theorem aGt:OpR X (compareOp .In) (λx y H Q=>∃i j,x=.str i/\y=.str j/\Q (.bl (!(Builtin.Str.occurrences j i 0 j.length 1).isEmpty)) H):=by
 intro pins s σ H x y v u Q I rx ry h
 obtain⟨i,j,rfl,rfl,q⟩:=h
 obtain⟨t,rfl⟩:=rx
 obtain⟨t',rfl⟩:=ry
 exact in_str (aDm I q rfl)
theorem aRa:OpR X (compareOp .Is) (λx y H Q=>y=.non/\Q (.bl (decide (x=.non))) H):=by
 intro pins s σ H x y v u Q I rx ry h
 obtain⟨rfl,q⟩:=h
 cases ry
 refine is_none_gen (aDm I q ?_)
 cases x <;> first
  |(cases rx;rfl)
  |(obtain⟨t,rfl⟩:=rx;rfl)
theorem aNu:OpR X (compareOp .IsNot) (λx y H Q=>y=.non/\Q (.bl (!decide (x=.non))) H):=by
 intro pins s σ H x y v u Q I rx ry h
 obtain⟨rfl,q⟩:=h
 cases ry
 refine isnot_none_gen (aDm I q ?_)
 cases x <;> first
  |(cases rx;rfl)
  |(obtain⟨t,rfl⟩:=rx;rfl)
variable{op:CmpOp}
theorem nomark(b:Expr)(h:op≠.In:=by decide)(h2:op≠.NotIn:=by decide):behindInMarks op b=false:=by
 have e1:(op==CmpOp.In)=false:=by cases op <;> first|rfl|exact absurd rfl h
 have e2:(op==CmpOp.NotIn)=false:=by cases op <;> first|rfl|exact absurd rfl h2
 cases b <;> simp[behindInMarks,e1,e2]
variable{r:R2}
theorem aNe(ho:OpR X (compareOp op) r)(ha:PE X a ta)(hb:PE X b tb)(hm:behindInMarks op b=false):PE X (.Compare a [op] [b] pos) (tOp r ta tb):=by
 intro pins s σ H Q I h
 exact wpAny_Compare1 (binT ha hb I h λv u s2 x y H2 I2 rx ry q=>ho pins s2 σ H2 x y v u Q I2 rx ry q) hm
def tTest(t:TE):TT:=λσ H Q=>t σ H λx H'=>∃k,x=.bl k/\Q k H'
theorem aMt(ho:OpR X (compareOp op) r)(ha:PE X a ta)(hb:PE X b tb)(hm:behindInMarks op b=false):PT X (.Compare a [op] [b] pos) (tTest (tOp r ta tb)):=by
 intro pins s σ H Q I h
 refine wpAny_isTrue_Compare1 (thn (ha pins s σ H _ I h) λv s1 ⟨x,H1,I1,r1,q1⟩=>thn (hb pins s1 σ H1 _ I1 q1) λu s2 ⟨y,H2,I2,r2,q2⟩ =>
  thn (ho pins s2 σ H2 x y v u _ I2 r1 r2 q2) λc s3 ⟨z,H3,I3,r3,k,e,q3⟩=>?_) hm
 subst e
 cases r3
 exact aEK ⟨H3,I3,q3⟩
def tChain(r r':R2)(ta tb tc:TE):TE:=λσ H Q=>ta σ H λx H1=>tb σ H1 λy H2=>r x y H2 λz H3=>∃k,z=.bl k /\
 (if k=true then tc σ H3 λw' H4=>r' y w' H4 Q else Q (.bl false) H3)
theorem aKp{op':CmpOp}{r':R2}(ho:OpR X (compareOp op) r)(ho':OpR X (compareOp op') r')(ha:PE X a ta)(hb:PE X b tb)(hc:PE X c tc)
  (hm:lastMarks [op,op'] [b,c]=false:=by with_unfolding_all rfl):PT X (.Compare a [op,op'] [b,c] pos) (tTest (tChain r r' ta tb tc)):=by
 intro pins s σ H Q I h
 refine isTrue_chain (thn (ha pins s σ H _ I h) λv s1 ⟨x,H1,I1,r1,q1⟩=>test_link (thn (hb pins s1 σ H1 _ I1 q1) λu s2 ⟨y,H2,I2,r2,q2⟩ =>
  thn (ho pins s2 σ H2 x y v u _ I2 r1 r2 q2) λd s3 ⟨z,H3,I3,r3,k,e,q3⟩=>?_)) hm
 subst e
 cases r3
 refine aEK ?_
 cases k with
 |false =>
  obtain⟨k',e',q'⟩:=q3
  cases e'
  exact ite_ff ⟨H3,I3,q'⟩
 |true =>
  refine ite_tt (test_last (thn (hc pins s3 σ H3 _ I3 q3) λw' s4 ⟨z',H4,I4,r4,q4⟩=>thn (ho' pins s4 σ H4 y z' u w' _ I4 r2 r4 q4) λd' s5 ⟨z2,H5,I5,r5,k2,e2,q5⟩=>?_))
  subst e2
  cases r5
  exact aEK ⟨H5,I5,q5⟩
def TruV(K:Frag)(x:V)(H:Hp)(k:Bool):Prop :=
 match x with
 |.non=>k=false
 |.bl b=>k=b
 |.int i=>k=(i != 0)
 |.str y=>y.length<=sizeLine/\k=((y.length:Int) != 0)
 |.byt y=>y.size<=sizeLine/\k=((y.size:Int) != 0)
 |.ref p=>(∃xs,SqL K H p xs/\k=!xs.isEmpty)\/(∃xs,SqT K H p xs/\k=!xs.isEmpty)\/∃kvs,H p=some (.dK kvs)/\k=!kvs.isEmpty
 |_=>False
theorem aEr{κ:Type}{kvs:List (κ×V)}{vs:List (κ×Value)}(r:KV kvs vs):(!vs.isEmpty)=!kvs.isEmpty:=by
 cases r <;> rfl
theorem tY(r:Vals xs its):(!its.toArray.isEmpty)=!xs.isEmpty:=by
 cases r <;> simp
theorem line63:(sizeLine:Nat) < 2 ^ 63:=by rw[aBF];decide
theorem aRt:TruR X (λx H Q=>∃k,TruV X.K x H k/\Q k H):=by
 intro pins s σ H x v Q I rx h
 obtain⟨k,e,q⟩:=h
 have hl:=line63
 have hs:sizeLine=16777216:=aBF
 cases x with
 |non =>
  cases rx
  have e':k=false:=e
  subst e'
  exact truthy_none ⟨H,I,q⟩
 |bl b =>
  cases rx
  have e':k=b:=e
  subst e'
  exact aEK ⟨H,I,q⟩
 |int i =>
  obtain⟨t,rfl⟩:=rx
  have e':k=(i != 0):=e
  subst e'
  exact PySem.P.truthy_int ⟨H,I,q⟩
 |str y =>
  obtain⟨t,rfl⟩:=rx
  obtain⟨hy,e'⟩:y.length<=sizeLine/\k=((y.length:Int) != 0):=e
  subst e'
  exact PySem.P.truthy_str (by lia) ⟨H,I.tok _,q⟩
 |byt y =>
  obtain⟨t,rfl⟩:=rx
  obtain⟨hy,e'⟩:y.size<=sizeLine/\k=((y.size:Int) != 0):=e
  subst e'
  exact PySem.W.truthy_bytes (by lia) ⟨H,I.tok _,q⟩
 |ref p =>
  cases rx
  have e':(∃xs,SqL X.K H p xs/\k=!xs.isEmpty)\/(∃xs,SqT X.K H p xs/\k=!xs.isEmpty)\/∃kvs,H p=some (.dK kvs)/\k=!kvs.isEmpty:=e
  rcases e' with⟨xs,hx,e'⟩|⟨xs,hx,e'⟩|⟨kvs,hx,e'⟩
  ·subst e'
   obtain⟨its,r,pl,hz⟩:=I.list hx
   have hlen:=r.length
   exact wpAny_truthy_list pl.isList (by simp only[aAK];lia) ⟨H,I.tok _,by rw[tY r];exact q⟩
  ·subst e'
   obtain⟨its,r,pl,hz⟩:=I.tuple hx
   have hlen:=r.length
   exact truthy_tuple pl (by simp only[aAK];lia) ⟨H,I.tok _,by rw[tY r];exact q⟩
  ·subst e'
   obtain⟨hz,hS,vs,r,m⟩:kvs.length<=sizeLine/\(p==sysModules)=false/\∃vs,KV kvs vs/\s.heap.DictOf (mixKind X.prog X.w) p vs:=I.hok p _ hx
   have hlen:kvs.length=vs.length:=Paired.length r
   exact wpAny_truthy_dict hS m (by lia) ⟨H,I.tok _,by rw[aEr r];exact q⟩
 |_=>exact(show False from e).elim
theorem aKq(ha:PE X a ta)(he:∀whole,isTrue a X.env whole=(do let v <- whole;standAt a.pos;holding [v] (truthy v))) :
  PT X a (λσ H Q=>ta σ H λx H'=>∃k,TruV X.K x H' k/\Q k H'):=by
 intro pins s σ H Q I h
 exact isTrue_plain (thn (ha pins s σ H _ I h) λv s1 ⟨x,H1,I1,r1,q1⟩=>aRt pins s1 σ H1 x v Q I1 r1 q1) (he _)
theorem aDk:OpR X (binaryOp .Add) (λx y H Q=>∃i j,x=.str i/\y=.str j/\i.length+j.length<=sizeLine/\Q (.str (i++j)) H):=by
 intro pins s σ H x y v u Q I rx ry h
 obtain⟨i,j,rfl,rfl,hz,q⟩:=h
 obtain⟨t,rfl⟩:=rx
 obtain⟨t',rfl⟩:=ry
 exact add_str (λt' tk=>⟨.str (i++j),H,I.tok _,⟨_,rfl⟩,q⟩) hz
variable{x:V}
theorem vals1(r:Vals [x] us):∃u,us=[u]/\RelV x u:=by
 cases r with
 |cons r1 r2=>cases r2;exact⟨_,rfl,r1⟩
theorem vals2{y:V}(r:Vals [x,y] us):∃u w',us=[u,w']/\RelV x u/\RelV y w':=by
 cases r with
 |cons r1 r2 =>
  cases r2 with
  |cons r3 r4=>cases r4;exact⟨_,_,rfl,r1,r3⟩
theorem aGo(hc:X.calm=true):CallR X (.builtin "max") (λxs H Q=>∃i j,xs=[.int i,.int j]/\Q (.int (if j > i then j else i)) H):=by
 intro pins s σ H xs us Q I r h
 obtain⟨i,j,rfl,q⟩:=h
 obtain⟨u,w',rfl,⟨t,rfl⟩,⟨t',rfl⟩⟩:=vals2 r
 refine max_two_ints (I.ok.hd hc) λh' tk k=>⟨_,H,I.kept k,?_,q⟩
 by_cases hj:j > i
 ·rw[aAJ hj,aAJ hj];exact⟨_,rfl⟩
 ·rw[aAI hj,aAI hj];exact⟨_,rfl⟩
theorem aHw(hc:X.calm=true):CallR X (.builtin "min") (λxs H Q=>∃i j,xs=[.int i,.int j]/\Q (.int (if j < i then j else i)) H):=by
 intro pins s σ H xs us Q I r h
 obtain⟨i,j,rfl,q⟩:=h
 obtain⟨u,w',rfl,⟨t,rfl⟩,⟨t',rfl⟩⟩:=vals2 r
 refine min_two_ints (I.ok.hd hc) λh' tk k=>⟨_,H,I.kept k,?_,q⟩
 by_cases hj:j < i
 ·rw[aAJ hj,aAJ hj];exact⟨_,rfl⟩
 ·rw[aAI hj,aAI hj];exact⟨_,rfl⟩
theorem aHp:CallR X (.type "int") (λxs H Q=>(∃i,xs=[.int i]/\Q (.int i) H)\/∃k,xs=[.bl k]/\Q (.int (if k then 1 else 0)) H):=by
 intro pins s σ H xs us Q I r h
 rcases h with⟨i,rfl,q⟩|⟨k,rfl,q⟩
 ·obtain⟨u,rfl,t,rfl⟩:=vals1 r
  exact call_int_int ⟨.int i,H,I,⟨_,rfl⟩,q⟩
 ·obtain⟨u,rfl,r1⟩:=vals1 r
  cases r1
  exact call_int_bool ⟨.int (if k then 1 else 0),H,I.tok _,⟨_,rfl⟩,q⟩
theorem yE:CallR X (.type "str") (λxs H Q=>∃i,xs=[.int i]/\i.natAbs.log2 < 1920/\Q (.str (toString i)) H):=by
 intro pins s σ H xs us Q I r h
 obtain⟨i,rfl,hz,q⟩:=h
 obtain⟨u,rfl,t,rfl⟩:=vals1 r
 exact PySem.P.str_of_int hz ⟨.str _,H,I.tok _,⟨_,rfl⟩,q⟩
structure ObjM(h:Heap)(x dx C:Addr)(mA:Str->Option Value):Prop where
 obj:h.get? x=some (PySem.W.instObj C dx)
 ns:h.Ns1 dx mA
 ne:dx≠x
variable{prog:Program}{K:Frag}{x f:Addr}{v:Value}
section
variable{a:Addr}{fs fs':List (Str×V)}
end
structure Cls(K:Frag)(C:Addr):Prop where
 pg:PySem.W.plainGet K C Str.empty=true
 hd:PySem.W.hasDictIn K C=true
 po:PySem.W.plainOver K C=true
 sa:PySem.W.findIn K (.ref C) "__setattr__"=some (some (.builtin "object.__setattr__"))
structure Con(K:Frag)(C:Addr)(f:Str)(v:V)(u:Value):Prop where
 at_:PySem.W.findIn K (.ref C) f=some (some u)
 rel:RelV v u
 get:PySem.W.specialIn K u "__get__"=some none
 cp:PySem.W.copiedNames.contains f=false
structure Meth(K:Frag)(C:Addr)(m:Str)(f:Addr):Prop where
 at_:PySem.W.findIn K (.ref C) m=some (some (.ref f))
 fn:PySem.W.isFn K (.ref f)=true
 kp:keepIn K (.ref f)=true
section
variable{a:Addr}{fs:List (Str×V)}{f:Str}{v:V}
end
variable{o value:Expr}{f:Str}{tv:TE}{Q:Value->Shared->Prop}{c:Value}{b:Bool}
inductive TyOf(K:Frag)(H:Hp):V->Value->Prop where
 |non:TyOf K H .non (.type "NoneType")
 |bl (x:Bool):TyOf K H (.bl x) (.type "bool")
 |int (i:Int):TyOf K H (.int i) (.type "int")
 |str (x:Str):TyOf K H (.str x) (.type "str")
 |flt (x:UInt64):TyOf K H (.flt x) (.type "float")
 |lst {a:Addr} {xs:List V} (e:H a=some (.lst xs)):TyOf K H (.ref a) (.type "list")
 |frz {a:Addr} {o:Obj} {xs:List V} (e:H a=some (.frz o (.lst xs))):TyOf K H (.ref a) (.type "list")
 |tup {a:Addr} {xs:List V} (e:H a=some (.tup xs)):TyOf K H (.ref a) (.type "tuple")
 |dK {a:Addr} {kvs:List (Key×V)} (e:H a=some (.dK kvs)):TyOf K H (.ref a) (.type "dict")
 |dT {a:Addr} {kvs:List (List Key×V)} (e:H a=some (.dT kvs)):TyOf K H (.ref a) (.type "dict")
 |ins {a C dx:Addr} {fs:List (Str×V)} (e:H a=some (.ins C dx fs)) (cl:Cls K C) (ha:PySem.W.findIn K (.ref C) "__class__"=some (some (.builtin "object.__class__")))
   (hn:PySem.W.specialIn K (.builtin "object.__class__") "__get__"=some (some (.builtin "getset_descriptor.__get__"))) (htk:PySem.W.takesIn K (.builtin "object.__class__")=some true)
   (hm:PySem.W.mroIn K C (.type "object")=some true):TyOf K H (.ref a) (.ref C)
structure Room(k:Nat)(A:Around):Prop where
 hd:A.handled=none
 dp:A.depth+3*k+5 < recursionLimit
 un:A.units+16*k+200 < cLine
theorem Room.mono{k:Nat}(r:Room k A)(h:j<=k):Room j A:=⟨r.hd,by have:=r.dp;lia,by have:=r.un;lia⟩
theorem Room.deeper{k:Nat}{A:Around}(r:Room (k+1) A)(env:Env):Room k (A.deeper env) :=
 ⟨r.hd,by have:=r.dp;show A.depth+1+3*k+5 < _;lia,by have:=r.un;show A.units+3+16*k+200 < _;lia⟩
theorem Room.depth{k:Nat}{A:Around}(r:Room k A):A.depth < recursionLimit:=by have:=r.dp;lia
def tNil:TA:=λ_ H Q=>Q [] H
def tCons(ta:TE)(tr:TA):TA:=λσ H Q=>ta σ H λx H1=>tr σ H1 λxs H2=>Q (x::xs) H2
section
variable{t:TA}
theorem fQ:PA X [] tNil:=λ_ _ _ _ H Q I h=>Calls.spliced_nil ⟨[],H,I,.nil,h⟩
theorem dC(ha:PE X e te)(hr:PA X es t)(hs:starEach (e::es) X.env=(false,eval e X.env)::starEach es X.env:=by rfl):PA X (e::es) (tCons te t):=by
 intro pos pins s σ H Q I h
 rw[hs]
 show wpAny _ _ (spliced ((false,eval e X.env)::backTo pos (starEach es X.env))) _ _ s
 refine Calls.spliced_cons (thn (ha pins s σ H _ I h) λu s1 ⟨x,H1,I1,r1,q1⟩=>?_)
 exact thn (hr pos pins s1 σ H1 _ I1 q1) λus s2 ⟨xs,H2,I2,r2,q2⟩=>⟨x::xs,H2,I2,.cons r1 r2,q2⟩
def tTup(t:TA):TE:=λσ H Q=>t σ H λxs H1=>xs.length<=sizeLine/\∀p,H1 p=none->Q (.ref p) (upd H1 p (.tup xs))
def tLst(t:TA):TE:=λσ H Q=>t σ H λxs H1=>xs.length<=sizeLine/\∀p,H1 p=none->Q (.ref p) (upd H1 p (.lst xs))
theorem aMa{x1}(h:PA X es t):PE X (.Tuple es x1 pos) (tTup t):=by
 intro pins s σ H Q I hq
 refine wpAny_Tuple_spliced (thn (h pos pins s σ H _ I hq) λus s1 ⟨xs,H1,I1,r,z,q⟩=>⟨by rw[<- r.length];exact z,?_⟩)
 have hf:H1 s1.heap.objs.size=none:=I1.hok.fresh (aAH _)
 refine⟨.ref s1.heap.objs.size,upd H1 s1.heap.objs.size (.tup xs),I1.laid (t':=s1.toks) (λb u e=>aAA _ e) (aAH _) ?_,rfl,q _ hf⟩
 exact⟨z,us,r,⟨_,aAE _ rfl,rfl,_,rfl⟩⟩
theorem aDv(h:PA X es t):PE X (.List es pos) (tLst t):=by
 intro pins s σ H Q I hq
 refine wpAny_List_spliced (thn (h pos pins s σ H _ I hq) λus s1 ⟨xs,H1,I1,r,z,q⟩=>⟨by rw[<- r.length];exact z,?_⟩)
 have hf:H1 s1.heap.objs.size=none:=I1.hok.fresh (aAH _)
 refine⟨.ref s1.heap.objs.size,upd H1 s1.heap.objs.size (.lst xs),I1.laid (t':=s1.toks) (λb u e=>aAA _ e) (aAH _) ?_,rfl,q _ hf⟩
 exact⟨z,us,0,r,aAE _ rfl⟩
end
abbrev Sp:=List V->Hp->VK->XK->Prop
abbrev CXT:=List Env->Hp->Shared->XK->Value->Shared->Prop
structure Env0(P:Program)(w:World)(K:Frag)(mg:Str->Option Value)(base:Heap)(A:Around)(outer:List Env)(s:Shared)(H:Hp):Prop where
 frames:A.frames=some outer
 mod:Mod K mg base
 bs:∀b o,base.get? b=some o->s.heap.get? b=some o/\H b=none
 bsz:base.objs.size<=s.heap.objs.size
 funs:s.heap.FunFrames base outer
 frf:∀b∈frs outer,H b=none
 hok:HOk P w H s.heap
 bare:AllBare s.gens
def CE(outer:List Env)(P:Program)(w:World)(H:Hp)(s:Shared)(Q:VK)(u:Value)(s':Shared):Prop :=
 ∃v H',s'.os=s.os/\AllBare s'.gens/\Un (frs outer) [] H H' s.heap s'.heap/\HOk P w H' s'.heap/\RelV v u/\Q v H'
def CR(CX:CXT)(outer:List Env)(P:Program)(w:World)(H:Hp)(s:Shared)(Q:VK)(E:XK)(r:Result)(s':Shared):Prop :=
 match r with
 |.ok (.ret u)=>CE outer P w H s Q u s'
 |.ok _=>False
 |.error e=>CX outer H s E e s'
structure FnOk(P:Program)(w:World)(K:Frag)(mg:Str->Option Value)(base:Heap)(CX:CXT)(k:Nat)(f:Addr)(fd:FuncData)(ps:List Str)(sp:Sp):Prop where
 len:∀vs H Q E,sp vs H Q E->vs.length=ps.length
 run:∀(A:Around) (outer:List Env) (s:Shared) (H:Hp) (args:Args) (us:List Value) (vs:List V) (Q:VK) (E:XK),Room k A->Env0 P w K mg base A outer s H->BindsTo s fd args (ps.zip us)->Vals vs us->sp vs H Q E ->
  codeAny (model P w) A (.call (.ref f) args) (CR CX outer P w H s Q E) s
theorem FnOk.mono{P:Program}{w:World}{K:Frag}{mg:Str->Option Value}{base:Heap}{CX:CXT}{j k:Nat}{f:Addr}{fd:FuncData}{ps:List Str}{sp:Sp}(F:FnOk P w K mg base CX j f fd ps sp)(h:j<=k) :
  FnOk P w K mg base CX k f fd ps sp:=⟨F.len,λA outer s H args us vs Q E hr=>F.run A outer s H args us vs Q E (hr.mono h)⟩
theorem Inv.env0(I:Inv X pins σ H s):Env0 X.prog X.w X.K X.mg X.base X.A X.stack s H :=
 ⟨I.ok.frames,I.ok.mod,I.bs,aBO I.ok.bsz I.sz,I.stack,I.stkFree,I.hok,I.bare⟩
variable{Q:VK}
theorem Inv.after(I:Inv X pins σ H s)(h:CE X.stack X.prog X.w H s Q u s'):EP X pins σ Q u s':=by
 obtain⟨v,H',os,bare,un,hok,r,q⟩:=h
 obtain⟨hh,g,d,t,os'⟩:=s'
 obtain rfl:os'=s.os:=os
 exact⟨v,H',I.call (h':=hh) (g':=g) (d':=d) (t':=t) (ch:=[]) un hok bare (λb z=>absurd z (by simp)),r,q⟩
def tCall(sp:Sp)(dvs:List V)(E:XK)(t:TA):TE:=λσ H Q=>t σ H λvs H1=>sp (vs++dvs) H1 Q E
def Binds(K:Frag)(fd:FuncData)(ps:List Str)(ds:List Value):Prop :=
 ∀(s:Shared) (us:List Value),K.In s.heap->(us++ds).length=ps.length->BindsTo s fd ⟨us,[]⟩ (ps.zip (us++ds))
theorem Binds.all(h:∀us:List Value,us.length=ps.length->bindArgs fd ⟨us,[]⟩=pure (ps.zip us)):Binds K fd ps []:=λs us _ hl=>by
 rw[aEG]at hl ⊢
 exact .of_eq (h us hl)
def Passes(CX:CXT)(X:Cx)(E:XK):Prop:=∀(pins:List (Addr×Obj)) (σ:St) (H:Hp) (s:Shared) (e:Value) (s':Shared),Inv X pins σ H s->CX X.stack H s E e s'->X.xe e s'
section
variable{CX:CXT}{k:Nat}{f:Addr}{sp:Sp}{dvs:List V}{ds:List Value}{E:XK}{x m:Str}{t:TA}
theorem aTb{vs:List V}(F:FnOk X.prog X.w X.K X.mg X.base CX k f fd ps sp)(hr:Room k X.A)(hb:Binds X.K fd ps ds)(hd:Vals dvs ds)(hx:Passes CX X E)
  (I:Inv X pins σ H s)(r:Vals vs us)(h:sp (vs++dvs) H Q E):wpAny (model X.prog X.w) X.A (call (.ref f) us) (EP X pins σ Q) X.xe s:=by
 have r2:Vals (vs++dvs) (us++ds):=r.append hd
 have hl:(us++ds).length=ps.length:=by rw[<- r2.length];exact F.len _ _ _ _ h
 refine wpAny_call (aGF (F.run X.A X.stack s H ⟨us,[]⟩ (us++ds) (vs++dvs) Q E hr I.env0 (hb s us I.kIn hl) r2 h) λr s' hq=>?_)
 cases r with
 |error e=>exact hx pins σ H s e s' I hq
 |ok fl =>
  cases fl with
  |ret u=>exact I.after hq
  |next=>exact False.elim hq
  |brk=>exact False.elim hq
  |cont=>exact False.elim hq
theorem aGc(F:FnOk X.prog X.w X.K X.mg X.base CX k f fd ps sp)(hr:Room k X.A)(hg:Gl X x)(hm:X.mg x=some (.ref f))(hk:keepIn X.K (.ref f)=true)(hb:Binds X.K fd ps ds)(hd:Vals dvs ds)(hx:Passes CX X E)
  (ha:PA X (e::es) t)(hdb:(x==("__debug__":Str))=false:=by decide)(he:starEach (e::es) X.env=(false,eval e X.env)::starEach es X.env:=by rfl)(hpl:(backTo pos (starEach es X.env)).any (·.1)=false:=by rfl) :
  PE X (.Call (.Name x p) (e::es) [] pos) (tCall sp dvs E t):=by
 intro pins s σ H Q I h
 refine aEF (aFb I hg hm ?_ hdb)
 refine PySem.W.callWith_K (h₀:=X.base) I.ok.mod.kin hk (thn (ha pos pins s σ H _ I h) λus s1 ⟨vs,H1,I1,r,q⟩=>⟨I1.kIn,?_⟩) he hpl
 exact aTb F hr hb hd hx I1 r q
structure Mk(K:Frag)(C f:Addr):Prop where
 makes:PySem.W.makesIn K C=true
 init:PySem.W.findIn K (.ref C) "__init__"=some (some (.ref f))
 fn:PySem.W.isFn K (.ref f)=true
 kp:keepIn K (.ref C)=true
end
def PK(X:Cx)(kws:List Keyword)(t:TA):Prop :=
 ∀(pos:Pos) (pins:List (Addr×Obj)) (s:Shared) (σ:St) (H:Hp) (Q:List V->Hp->Prop),Inv X pins σ H s->t σ H Q->wpAny (model X.prog X.w) X.A (evalAll ((backToKw pos (keywordEach kws X.env)).map (·.2))) (AP X pins σ Q) X.xe s
section
variable{CX:CXT}{k:Nat}{f:Addr}{ks:List Str}{sp:Sp}{E:XK}{x m:Str}{kpos:Pos}{kws:List Keyword}{t tk:TA}{nm:Option Str}
theorem aQx:PK X [] tNil:=λ_ _ _ _ H Q I h=>wpAny_evalAll_nil ⟨[],H,I,.nil,h⟩
theorem aPb(ha:PE X e te)(hr:PK X kws t):PK X (⟨nm,e,kpos⟩::kws) (tCons te t):=by
 intro pos pins s σ H Q I h
 show wpAny _ _ (evalAll ((do let v <- eval e X.env;standAt pos;pure v)::(backToKw pos (keywordEach kws X.env)).map (·.2))) _ _ s
 refine wpAny_evalAll_cons (aAB (thn (ha pins s σ H _ I h) λu s1 ⟨x,H1,I1,r1,q1⟩=>aAB (aEE (aAF ?_))))
 exact thn (hr pos pins s1 σ H1 _ I1 q1) λus s2 ⟨xs,H2,I2,r2,q2⟩=>⟨x::xs,H2,I2,.cons r1 r2,q2⟩
structure KBinds(K:Frag)(fd:FuncData)(ps ks:List Str)(g:List Value->List Value->List Value)(gV:List V->List V->List V):Prop where
 to:∀(s:Shared) (us ws:List Value),K.In s.heap->(g us ws).length=ps.length->BindsTo s fd ⟨us,ks.zip ws⟩ (ps.zip (g us ws))
 rel:∀{vs:List V} {us:List Value} {zs:List V} {ws:List Value},Vals vs us->Vals zs ws->Vals (gV vs zs) (g us ws)
variable{g:List Value->List Value->List Value}{gV:List V->List V->List V}
end
structure FnScope(N P:List Str)(sc:Scope):Prop where
 kind:sc.kind=.function
 co:sc.isCoroutine=false
 gen:sc.isGenerator=false
 nd:N.Nodup
 pre:N.take P.length=P
 par:∀x∈P,sc.names.lookup x=some .local\/sc.names.lookup x=some .cell
 nofree:∀y∈sc.names,y.2≠.free
theorem wW{kindOf:Str->Option NameKind}{x:Str}:∀{binds:List (Str×Value)} {m:Str->Option Value},(∀v,(x,v)∉binds)->bindL kindOf binds m x=m x
 |[],_,_=>rfl
 |(n,v)::r,m,h=>by
  unfold bindL
  rw[wW λw hw=>h w (aCH _ hw)]
  split
  ·have:x≠n:=by rintro rfl;exact h v aDM
   simp[this]
  ·rfl
theorem xE{kindOf:Str->Option NameKind}{x:Str}:∀{binds:List (Str×Value)} {m:Str->Option Value},(∀v,(x,v)∉binds)->bindC kindOf binds m x=m x
 |[],_,_=>rfl
 |(n,v)::r,m,h=>by
  unfold bindC
  rw[xE λw hw=>h w (aCH _ hw)]
  split
  ·rfl
  ·have:x≠n:=by rintro rfl;exact h v aDM
   simp[this]
theorem xW{kindOf:Str->Option NameKind}{x:Str}{v:Value}:∀{P:List Str} {vs:List Value} {i:Nat} {m:Str->Option Value},P.Nodup->P[i]?=some x->vs[i]?=some v->kindOf x=some .local ->
  bindL kindOf (P.zip vs) m x=some v
 |[],_,_,_,_,h,_,_=>by simp at h
 |_::_,[],_,_,_,_,h,_=>by simp at h
 |p::P,w::vs,0,m,nd,h1,h2,hk=>by
  simp at h1 h2;subst h1;subst h2
  show bindL kindOf ((p,w)::P.zip vs) m p=_
  unfold bindL
  rw[wW λv hv=>(aFY.mp nd).1 (List.of_mem_zip hv).1,aAJ hk]
  simp
 |p::P,w::vs,i+1,m,nd,h1,h2,hk=>by
  show bindL kindOf ((p,w)::P.zip vs) m x=_
  unfold bindL
  exact xW (i:=i) (aFY.mp nd).2 (by simpa using h1) (by simpa using h2) hk
theorem xK{kindOf:Str->Option NameKind}{x:Str}{v:Value}:∀{P:List Str} {vs:List Value} {i:Nat} {m:Str->Option Value},P.Nodup->P[i]?=some x->vs[i]?=some v->kindOf x≠some .local ->
  bindC kindOf (P.zip vs) m x=some v
 |[],_,_,_,_,h,_,_=>by simp at h
 |_::_,[],_,_,_,_,h,_=>by simp at h
 |p::P,w::vs,0,m,nd,h1,h2,hk=>by
  simp at h1 h2;subst h1;subst h2
  show bindC kindOf ((p,w)::P.zip vs) m p=_
  unfold bindC
  rw[xE λv hv=>(aFY.mp nd).1 (List.of_mem_zip hv).1,aAI hk]
  simp
 |p::P,w::vs,i+1,m,nd,h1,h2,hk=>by
  show bindC kindOf ((p,w)::P.zip vs) m x=_
  unfold bindC
  exact xK (i:=i) (aFY.mp nd).2 (by simpa using h1) (by simpa using h2) hk
def start(N:List Str)(vs:List V):St:=vs.map some++List.replicate (N.length - vs.length) none
def cxOf(CX:CXT)(P:Program)(w:World)(K:Frag)(mg:Str->Option Value)(base:Heap)(N:List Str)(qual:Str)(scope:Scope)(f:Addr)(cd:Value)(A:Around)(outer:List Env)(s:Shared)(H:Hp)(E:XK):Cx where
 prog:=P
 w:=w
 K:=K
 mg:=mg
 base:=base
 A:=A.deeper (envOfC qual scope s.heap.objs.size f cd)
 N:=N
 s₀:=s
 H₀:=H
 env:=envOfC qual scope s.heap.objs.size f cd
 outer:=outer
 stack:=envOfC qual scope s.heap.objs.size f cd::outer
 ex:=[]
 calm:=true
 fn:=λ_=>true
 pn:=[]
 xe:=λe s'=>wpAny (model P w) (A.deeper (envOfC qual scope s.heap.objs.size f cd)) (leaving (envOfC qual scope s.heap.objs.size f cd) e) (λ_ s''=>CX outer H s E e s'') (λe' s''=>CX outer H s E e' s'') s'
variable{x:Str}
theorem aBk{sc:Scope}{n:Nat}(h:sc.names.lookup x=some .cell):∃c,(cellsFrom n sc.names []).lookup x=some c:=by
 have q:=PySem.W.cellsFrom_some sc.names n [] (.inl h)
 exact aDX.mp q
variable{CX:CXT}{scope:Scope}{f:Addr}
theorem aGz{cd:Value}{s1:Shared}{E:XK}{vs:List V}
  (S:FnScope N ps scope)(hd:A.handled=none)(e0:Env0 P w K mg base A outer s H)(hl:vs.length=ps.length)(r:Vals vs us)
  (x:InCallC s s.heap.objs.size (bindL (envOfC qual scope s.heap.objs.size f cd).kindOf (ps.zip us) λ_=>none) (cellsFrom (s.heap.objs.size+1) scope.names []) (bindC (envOfC qual scope s.heap.objs.size f cd).kindOf (ps.zip us) λ_=>none) s1) :
  Inv (cxOf CX P w K mg base N qual scope f cd A outer s H E) [] (start N vs) H s1:=by
 have hpl:ps.length<=N.length:=by have:=congrArg List.length S.pre;rw[aDY]at this;lia
 obtain⟨h1,tk,rfl,hk⟩:=x.done
 have noA:∀b:Addr,b∉(cxOf CX P w K mg base N qual scope f cd A outer s H E).ex:=λb z=>absurd (show b∈([]:List Addr)from z) (by simp)
 refine⟨⟨e0.mod,S.kind,rfl,rfl,aAH _,λy z c h1 h2=>?_,λy hy=>?_,λy c _ h=>?_,λ_=>hd,Around.frames_deeper e0.frames,.inr ⟨rfl,rfl⟩,λb z=>absurd z (noA b),e0.bs,e0.bsz,λb _ _=>noA b,λb z=>absurd z (noA b),e0.funs,e0.frf⟩,
  rfl,e0.bare,Un.kept hk,⟨_,x.toInCall.ns,λi y v h1 h2 h3=>?_⟩,λy c h=>⟨_,x.cell y c h⟩,e0.hok.fresh (aAH _),λy c h=>?_,λp hp=>absurd (show p∈([]:List (Addr×Obj))from hp) (by simp),e0.hok.kept hk,?_⟩
 ·exact name_of_addr x.apart (aEB h1) (aEB h2)
 ·have hy:scope.names.lookup y=some .cell\/scope.names.lookup y=some .free:=hy
  rcases hy with hy|hy
  ·exact aBk hy
  ·exact absurd rfl (S.nofree _ (aEB hy))
 ·exact Nat.le_of_lt (x.above y c (aEB h))
 ·have hi:i < vs.length:=by
   unfold start at h2
   by_cases hi:i < vs.length
   ·exact hi
   ·rw[aCE (by simpa using hi)]at h2
    rw[List.getElem?_replicate]at h2
    split at h2 <;> cases h2
  have ha:vs[i]?=some v:=by
   unfold start at h2
   rw[aBE (by simpa using hi),aAV]at h2
   cases e:vs[i]? with
   |none=>rw[e]at h2;cases h2
   |some a=>rw[e]at h2;cases h2;rfl
  obtain⟨u,hu,rv⟩:=r.get ha
  have hp:ps[i]?=some y:=by
   rw[<- S.pre,List.getElem?_take_of_lt (by lia)];exact h1
  have ndP:ps.Nodup:=by rw[<- S.pre];exact S.nd.sublist (List.take_sublist _ _)
  refine⟨u,rv,?_⟩
  rcases S.par y (aAZ hp)with k|k
  ·exact .inl ⟨k,xW ndP hp hu k⟩
  ·obtain⟨c,e⟩:=aBk (n:=s.heap.objs.size+1) k
   refine .inr ⟨.inl k,c,e,?_⟩
   have q:=x.cell y c e
   rw[xK ndP hp hu (by show scope.names.lookup y≠_;rw[k];decide)]at q
   exact q
 ·exact e0.hok.fresh (Nat.le_of_lt (x.above y c (aEB h)))
 ·unfold start
  show _=N.length
  rw[aAT,aAL,aFV]
  lia
theorem aPu{k:Nat}{params:Arguments}{dV kV doc pm cdv ct oc:Value}
  {sp:Sp}(lk:K.lookup f=some ⟨oc,od,.func (fnOf name qual params body scope dV kV doc pm an cdv ct),osl⟩)(hcd:codeIn K cdv qual=true)(S:FnScope N ps scope)
  (len:∀vs H Q E,sp vs H Q E->vs.length=ps.length)
  (hbody:∀(A:Around) (outer:List Env) (s:Shared) (H:Hp) (vs:List V) (Q:VK) (E:XK),Room k (A.deeper (envOfC qual scope s.heap.objs.size f cdv))->sp vs H Q E ->
   ∃t,PSs (cxOf CX P w K mg base N qual scope f cdv A outer s H E) body t/\t {nx:=λ_ H'=>Q .non H',rt:=Q} (start N vs) H) :
  FnOk P w K mg base CX (k+1) f (fnOf name qual params body scope dV kV doc pm an cdv ct) ps sp:=by
 refine⟨len,λA outer s H args us vs Q E hr e0 hb r hsp=>?_⟩
 have hl:=len _ _ _ _ hsp
 have KX:K.In s.heap:=e0.mod.kin.keeps λb o e=>(e0.bs b o e).1
 have lim:s.heap.NoLimit:=e0.mod.nolimit.keeps λb o e=>(e0.bs b o e).1
 have hkind:∀y∈ps.zip us,scope.names.lookup y.1=some .local\/(scope.names.lookup y.1=some .cell/\((cellsFrom (s.heap.objs.size+1) scope.names []).lookup y.1).isSome=true):=λ⟨n,v⟩ hy=>by
  rcases S.par n (List.of_mem_zip hy).1 with q|q
  ·exact .inl q
  ·exact .inr ⟨q,PySem.W.cellsFrom_some _ _ _ (.inl q)⟩
 refine codeAny_call_function hr.depth (KX _ _ lk) rfl S.co S.gen rfl (PySem.W.codeRec_of KX hcd) (hb _ _ _ _ ?_)
 refine wpAny_newFunctionEnv_cells S.kind hkind λenv he s1 x=>?_
 subst he
 refine⟨lim.keeps x.toInCall.keep,codeAny_func ?_⟩
 obtain⟨t,ht,hq⟩:=hbody A outer s H vs Q E (hr.deeper _) hsp
 have I:Inv (cxOf CX P w K mg base N qual scope f cdv A outer s H E) [] (start N vs) H s1:=aGz S hr.hd e0 hl r x
 refine aDU (ht [] s1 (start N vs) H _ I hq) (λfl s' hs=>?_) λe s' hs=>hs
 have fin:∀{σ':St} {H':Hp} {v:V} {u:Value},Inv (cxOf CX P w K mg base N qual scope f cdv A outer s H E) [] σ' H' s'->RelV v u->Q v H'->CE outer P w H s Q u s' :=
  λ{σ' H' v u} J rv q=>⟨v,H',J.os,J.bare,J.base,J.hok,rv,q⟩
 cases fl with
 |ret u =>
  obtain⟨v,σ',H',J,rv,q⟩:=hs
  exact fin J rv q
 |next =>
  obtain⟨σ',H',J,q⟩:=hs
  exact fin (v:=V.non) (u:=Value.none) J rfl q
 |brk =>
  obtain⟨_,_,_,q⟩:=hs
  exact False.elim q
 |cont =>
  obtain⟨_,_,_,q⟩:=hs
  exact False.elim q
section
variable{t:TA}{id T:String}{r:List V->Hp->VK->Prop}
def tCB(r:List V->Hp->VK->Prop)(t:TA):TE:=λσ H Q=>t σ H λvs H1=>r vs H1 Q
theorem aKd(hc:CallR X (.builtin id) r)(hg:Gl X x)(hm:X.mg x=none)(hv:bootBuiltins x=some (.builtin id))(ha:PA X (e::es) t)(hn:x≠"__name__":=by decide)(hdb:(x==("__debug__":Str))=false:=by decide)
  (he:starEach (e::es) X.env=(false,eval e X.env)::starEach es X.env:=by rfl)(hpl:(backTo pos (starEach es X.env)).any (·.1)=false:=by rfl):PE X (.Call (.Name x p) (e::es) [] pos) (tCB r t):=by
 intro pins s σ H Q I h
 refine aEF (nJ I hg hm hv ?_ hn hdb)
 exact PyProof.Rows.callWith_builtin1 (thn (ha pos pins s σ H _ I h) λus s1 ⟨vs,H1,I1,r1,q1⟩=>hc pins s1 σ H1 vs us Q I1 r1 q1) he hpl
theorem nW(hc:CallR X (.type T) r)(hg:Gl X x)(hm:X.mg x=none)(hv:bootBuiltins x=some (.type T))(ha:PA X (e::es) t)(hn:x≠"__name__":=by decide)(hdb:(x==("__debug__":Str))=false:=by decide)
  (he:starEach (e::es) X.env=(false,eval e X.env)::starEach es X.env:=by rfl)(hpl:(backTo pos (starEach es X.env)).any (·.1)=false:=by rfl):PE X (.Call (.Name x p) (e::es) [] pos) (tCB r t):=by
 intro pins s σ H Q I h
 refine aEF (nJ I hg hm hv ?_ hn hdb)
 exact aCN (thn (ha pos pins s σ H _ I h) λus s1 ⟨vs,H1,I1,r1,q1⟩=>hc pins s1 σ H1 vs us Q I1 r1 q1) he hpl
end
end L2
end
variable{H H' H1 H2:L2.Hp}{X:L2.Cx}{v:L2.V}{ta tb te:L2.TE}{vs:List L2.V}{R:PySem.Addr->L2.Hp->Prop}{r:List L2.V->L2.Hp->L2.VK->Prop}{CX:L2.CXT}{sp:L2.Sp}{kvs:List (L2.Key×L2.V)}
section
open PySem PySem.Spec PyProof.Rows
end
namespace HT
open PySem PyProof.Rows
def lexLt:List Int->List Int->Bool
 |[],[]=>false
 |[],_::_=>true
 |_::_,[]=>false
 |x::xs,y::ys=>if x=y then lexLt xs ys else decide (x < y)
section
open PySem.SeqAt
open PySem.AutoSeq1 (wpAny_loadPart')
open PySem.MeetsSeq PySem.MeetsSeq2 PySem.MeetsSeq3
end
variable{prog:Program}{E:Value->Shared->Prop}
theorem cat_tup{t b:Addr}{vs ws:List Value}(ht:IsTup s.heap t vs.toArray)(hb:IsTup s.heap b ws.toArray)(hv:vs≠[])
  (h1:ws=[]->Q (.ref t) s)(h2:ws≠[]->Q (.ref s.heap.objs.size) {s with heap:=s.heap.push {cls:=.type "tuple",data:=.seq (vs++ws).toArray}})
  (hsz:vs.length+ws.length<=sizeLine):wpAny (model prog w) A (binaryOp .Add (.ref t) (.ref b)) Q E s:=by
 obtain⟨⟨cls,dd,data,sl⟩,ho,hc,n,hd⟩:=id ht
 obtain⟨⟨cls2,dd2,data2,sl2⟩,ho2,hc2,n2,hd2⟩:=id hb
 simp only at hc hd hc2 hd2
 subst hc hd hc2 hd2
 have e:vs.toArray++ws.toArray=(vs++ws).toArray:=by simp
 by_cases hw:ws=[]
 ·exact concat_meets ⟨_,ho,rfl⟩ ⟨_,ho2,rfl⟩ noFill_tuple_add seq_tuple_add aFN aFJ (aFA _ _)
   (tuple_addW1 t b vs.toArray ws.toArray n n2 dd dd2 sl sl2 (by simpa using hv) (by simp[hw])) ⟨ho,ho2,h1 hw⟩
 ·refine concat_meets ⟨_,ho,rfl⟩ ⟨_,ho2,rfl⟩ noFill_tuple_add seq_tuple_add aFN aFJ (aFA _ _)
   (tuple_addW2 t b vs.toArray ws.toArray n n2 dd dd2 sl sl2 (by simpa using hv) (by simpa using hw) (by rw[aAK,aAK];exact hsz)) ⟨ho,ho2,?_⟩
  rw[e]
  exact h2 hw
def sIx(n d:Nat):Option Int->Nat
 |none=>d
 |some v=>if v < 0 then(v+(n:Int)).toNat else min v.toNat n
theorem sIx_none(n d:Nat):sIx n d none=d:=rfl
theorem sIx_nat(n d k:Nat):sIx n d (some (k:Int))=min k n:=by
 show(if(k:Int) < 0 then((k:Int)+(n:Int)).toNat else min (k:Int).toNat n)=min k n
 rw[aAI (by lia),aBP]
theorem sIx_le(n d:Nat)(hd:d<=n)(o:Option Int):sIx n d o<=n:=by
 cases o with
 |none=>exact hd
 |some v =>
  show(if v < 0 then(v+(n:Int)).toNat else min v.toNat n)<=n
  by_cases hv:v < 0
  ·rw[aAJ hv];lia
  ·rw[aAI hv];exact Nat.min_le_right _ _
theorem aEy(v:Int)(n d:Nat):(if v < 0 then max (v+(n:Int)) 0 else min v (n:Int))=((sIx n d (some v):Nat):Int):=by
 show(if v < 0 then max (v+(n:Int)) 0 else min v (n:Int))=(((if v < 0 then(v+(n:Int)).toNat else min v.toNat n):Nat):Int)
 by_cases hv:v < 0
 ·simp only[aAJ hv];lia
 ·simp only[aAI hv];lia
theorem aDl(lo hi:Option Int)(n:Nat):Builtin.Slice.sliceAdjust lo hi 1 (n:Int)=(((sIx n 0 lo:Nat):Int),((sIx n n hi:Nat):Int)):=by
 have h1:¬((1:Int) < 0):=by lia
 unfold Builtin.Slice.sliceAdjust
 simp only[h1,aDC]
 refine Prod.ext ?_ ?_
 ·cases lo with
  |none=>rfl
  |some v=>exact aEy v n 0
 ·cases hi with
  |none=>rfl
  |some v=>exact aEy v n n
theorem aDt(i j:Nat):Builtin.Slice.slicePlaces (i:Int) (j:Int) 1=j - i:=by
 unfold Builtin.Slice.slicePlaces
 have h1:(1:Int) > 0:=by lia
 simp only[h1,aCQ,Int.ediv_one]
 split <;> lia
theorem tT{v:Value}{o:Option Int}{Q:Option Int->Shared->Prop}(p:IsPart v o)(h:Q o s):wpAny (model prog w) A (Builtin.Slice.slicePartIndex v) Q E s:=by
 cases p with
 |none=>exact slicePart_none h
 |int i t=>exact slicePart_int h
variable{sl:Addr}
theorem lT{vl vu:Value}{n:Nat}{Q:Int×Int×Nat->Shared->Prop}(hs:s.heap.IsSliceOf sl vl vu .none)(pl:IsPart vl lo)(pu:IsPart vu hi)
  (h:Q (((sIx n 0 lo:Nat):Int),1,sIx n n hi - sIx n 0 lo) s):wpAny (model prog w) A (Builtin.Slice.sliceApplied (.ref sl) (pure (n:Int))) Q E s:=by
 obtain⟨os,hos,hcs,hds⟩:=id hs
 unfold Builtin.Slice.sliceApplied Builtin.Slice.sliceFields
 refine aAB (aAB (aBH hos hds (x:=vl) rfl (aAB (aBH hos hds (x:=vu) rfl (aAB (aBH hos hds (x:=.none) rfl (aAF ?_)))))))
 refine aAB (slicePart_none ?_)
 show wpAny _ _ (if((1:Int)==0)=true then _ else _) _ _ s
 rw[aAI (by decide)]
 refine aAB (tT pl (aAB (tT pu (aAB (aAF ?_)))))
 show wpAny _ _ (match Builtin.Slice.sliceAdjust lo hi 1 (n:Int)with|(lo,hi)=>pure (lo,(1:Int),Builtin.Slice.slicePlaces lo hi 1)) _ _ s
 rw[aDl lo hi n]
 show wpAny _ _ (pure (((sIx n 0 lo:Nat):Int),(1:Int),Builtin.Slice.slicePlaces ((sIx n 0 lo:Nat):Int) ((sIx n n hi:Nat):Int) 1)) _ _ s
 rw[aDt]
 exact aAF h
theorem aLu(xs:Array Value)(i k:Nat):((List.range k).filterMap λ(m:Nat)=>xs[((i:Int)+(m:Int)*1).toNat]?).toArray=((xs.toList.drop i).take k).toArray:=by
 have e:(λ(m:Nat)=>xs[((i:Int)+(m:Int)*1).toNat]?)=λm=>xs[i+m]?:=by
  funext m
  have:((i:Int)+(m:Int)*1).toNat=i+m:=by lia
  rw[this]
 rw[e]
 have:=pick_run xs i k
 rw[aFD]at this
 have e2:((λx=>xs[x]?) ∘ λx=>i+x)=λm=>xs[i+m]?:=rfl
 rw[e2]at this
 rw[this]
theorem getItem_tuple_cut{t:Addr}{vl vu:Value}(ht:IsTup s.heap t items)(hs:s.heap.IsSliceOf sl vl vu .none)(pl:IsPart vl lo)(pu:IsPart vu hi)
  (hw:¬(sIx items.size 0 lo=0/\sIx items.size items.size hi=items.size))
  (h:Q (.ref s.heap.objs.size) {s with heap:=s.heap.push {cls:=.type "tuple",data:=.seq ((items.toList.drop (sIx items.size 0 lo)).take (sIx items.size items.size hi - sIx items.size 0 lo)).toArray}})
  (hsz:items.size<=sizeLine):wpAny (model prog w) A (getItem (.ref t) (.ref sl)) Q E s:=by
 have htake:sizeOk (.seq ((items.toList.drop (sIx items.size 0 lo)).take (sIx items.size items.size hi - sIx items.size 0 lo)).toArray):=by
  show((items.toList.drop (sIx items.size 0 lo)).take (sIx items.size items.size hi - sIx items.size 0 lo)).toArray.size<=sizeLine
  rw[aAK,aDY,aER,aDG]
  lia
 have hj:sIx items.size items.size hi<=items.size:=sIx_le _ _ (aAH _) hi
 obtain⟨os,hos,hcs,hds⟩:=id hs
 have hTs:s.TypeIs (.ref sl) "slice":=⟨os,hos,hcs⟩
 unfold getItem
 try with_reducible refine aBT ?_
 first|refine aAB (aAF ?_)|skip
 refine aAB (wpAny_sequenceKey ht.typeIs (by decide) ?_)
 refine aAB (aBR (name:=Str.ofString "__getitem__") ht.typeIs aCD
  (aBY aCD ht.typeIs entry_tuple_getitem ?_ (args_tuple_getitem _ _)))
 show wpAny _ _ (Builtin.Tuple.tupleItemsOf (.ref t) >>= _) _ _ s
 refine aAB (tupleItemsOf_ ht ?_)
 refine aAB (wpAny_typeOf hTs ?_)
 rw[aAJ (by decide)]
 refine aAB (lT hs pl pu ?_)
 have hno:¬((((sIx items.size 0 lo:Nat):Int)==0&&(1:Int)==1&&(sIx items.size items.size hi - sIx items.size 0 lo)==items.size)=true):=by
  intro q
  rw[aCO,aCO]at q
  have q1:((sIx items.size 0 lo:Nat):Int)=0:=eq_of_beq q.1.1
  have q2:sIx items.size items.size hi - sIx items.size 0 lo=items.size:=eq_of_beq q.2
  exact hw ⟨by lia,by lia⟩
 show wpAny _ _ (if(((sIx items.size 0 lo:Nat):Int)==0&&(1:Int)==1&&(sIx items.size items.size hi - sIx items.size 0 lo)==items.size)=true then _ else _) _ _ s
 rw[aAI hno,aLu]
 first
  |exact aAB (m:=Builtin.Tuple.tupleExact _) (aCC (aAF ⟨_,rfl,aAF h⟩) htake)
  |exact aAB (m:=Builtin.Tuple.tupleExact _) (aCC (aAB (aAF (aAF ⟨_,rfl,aAF h⟩))) htake)
  |exact aAB (aAB (m:=Builtin.Tuple.tupleExact _) (aCC (aAF (aAF ⟨_,rfl,aAF h⟩)) htake))
  |exact aAB (aAB (m:=Builtin.Tuple.tupleExact _) (aCC (aAF ⟨_,rfl,aAF h⟩) htake))
end HT
section
open PySem PySem.Spec PyProof.Rows
namespace L2
abbrev TO:=St->Hp->(Option Int->Hp->Prop)->Prop
def PO(X:Cx)(e:Option Expr)(t:TO):Prop :=
 ∀(pins:List (Addr×Obj)) (s:Shared) (σ:St) (H:Hp) (Q:Option Int->Hp->Prop),Inv X pins σ H s->t σ H Q ->
  wpAny (model X.prog X.w) X.A (evalPart e X.env) (λu s'=>∃o H',Inv X pins σ H' s'/\IsPart u o/\Q o H') X.xe s
def tNoPart:TO:=λ_ H Q=>Q none H
def tPart(t:TE):TO:=λσ H Q=>t σ H λx H1=>∃i,x=.int i/\Q (some i) H1
variable{e:Expr}{lo hi:Option Expr}{tl th:TO}{pos:Pos}
theorem aMv:PO X none tNoPart:=by
 intro pins s σ H Q I h
 rw[evalPart_none]
 exact aAF ⟨none,H,I,.none,h⟩
theorem aPj(h:PE X e te):PO X (some e) (tPart te):=by
 intro pins s σ H Q I hw
 rw[evalPart_some]
 refine thn (h pins s σ H _ I hw) λu s1 ⟨x,H1,I1,r1,q1⟩=>?_
 obtain⟨i,rfl,q⟩:=q1
 obtain⟨t,rfl⟩:=r1
 exact⟨some i,H1,I1,.int i t,q⟩
def SlR(X:Cx)(r:V->Option Int->Option Int->Hp->VK->Prop):Prop :=
 ∀(pins:List (Addr×Obj)) (s:Shared) (σ:St) (H:Hp) (x:V) (v vl vu:Value) (lo hi:Option Int) (sl:Addr) (Q:VK),Inv X pins σ H s->RelV x v->s.heap.IsSliceOf sl vl vu .none->IsPart vl lo->IsPart vu hi->r x lo hi H Q ->
  ∃T id,typeLookup (.type T) "__getitem__"=pure (some (.builtin id))/\s.TypeIs v T/\wpAny (model X.prog X.w) X.A (getItem v (.ref sl)) (EP X pins σ Q) X.xe s
variable{r:V->Option Int->Option Int->Hp->VK->Prop}
theorem SlR.or{r':V->Option Int->Option Int->Hp->VK->Prop}(h:SlR X r)(h':SlR X r'):SlR X (λx lo hi H Q=>r x lo hi H Q\/r' x lo hi H Q):=by
 intro pins s σ H x v vl vu lo hi sl Q I rx hs pl pu q
 rcases q with q|q
 ·exact h pins s σ H x v vl vu lo hi sl Q I rx hs pl pu q
 ·exact h' pins s σ H x v vl vu lo hi sl Q I rx hs pl pu q
def tSl(r:V->Option Int->Option Int->Hp->VK->Prop)(te:TE)(tl th:TO):TE:=λσ H Q=>te σ H λx H1=>tl σ H1 λl H2=>th σ H2 λu H3=>r x l u H3 Q
theorem aJd(hr:SlR X r)(he:PE X e te)(hl:PO X lo tl)(hu:PO X hi th):PE X (.Subscript e (.Slice lo hi none p2) pos) (tSl r te tl th):=by
 intro pins s σ H Q I h
 refine Subscript_ (thn (he pins s σ H _ I h) λv s1 ⟨x,H1,I1,r1,q1⟩=>?_)
 refine wpAny_Slice (thn (hl pins s1 σ H1 _ I1 q1) λvl s2 ⟨l,H2,I2,pl,q2⟩=>thn (hu pins s2 σ H2 _ I2 q2) λvu s3 ⟨u,H3,I3,pu,q3⟩=>?_)
 rw[evalPart_none]
 refine aAF ?_
 have I4:Inv X pins σ H3 {s3 with heap:=s3.heap.push {cls:=.type "slice",data:=.fields #[vl,vu,.none]}}:=I3.kept (t':=s3.toks) λb ob q=>aAA _ q
 obtain⟨T,id,hT,ht,hg⟩:=hr pins {s3 with heap:=s3.heap.push {cls:=.type "slice",data:=.fields #[vl,vu,.none]}} σ H3 x v vl vu l u s3.heap.objs.size Q I4 r1 (Heap.IsSliceOf.new ..) pl pu q3
 show wpAny (model X.prog X.w) X.A (subscriptTail e (.Slice lo hi none p2) v (.ref s3.heap.objs.size)) (EP X pins σ Q) X.xe {s3 with heap:=s3.heap.push {cls:=.type "slice",data:=.fields #[vl,vu,.none]}}
 exact tail_any (ops:=[.ref s3.heap.objs.size,v]) ht hT hg (by with_unfolding_all rfl)
def cutV(xs:List V)(lo hi:Option Int):List V:=(xs.drop (HT.sIx xs.length 0 lo)).take (HT.sIx xs.length xs.length hi - HT.sIx xs.length 0 lo)
theorem sE(xs:List V)(lo hi:Option Int):(cutV xs lo hi).length<=xs.length:=by
 unfold cutV
 rw[aDY,aER]
 lia
def rSlT(K:Frag):V->Option Int->Option Int->Hp->VK->Prop:=λx lo hi H Q=>∃a xs,x=.ref a/\SqT K H a xs /\
 ¬(HT.sIx xs.length 0 lo=0/\HT.sIx xs.length xs.length hi=xs.length)/\∀p,H p=none->Q (.ref p) (upd H p (.tup (cutV xs lo hi)))
theorem aSm:SlR X (rSlT X.K):=by
 intro pins s σ H x v vl vu lo hi sl Q I rx hs pl pu h
 obtain⟨a,xs,rfl,hx,hw,q⟩:=h
 cases rx
 obtain⟨its,r,ht,hz⟩:=I.tuple hx
 have hlen:its.toArray.size=xs.length:=by rw[aAK];exact r.length.symm
 refine⟨"tuple",_,aCD.lookup,ht.typeIs,?_⟩
 refine HT.getItem_tuple_cut ht hs pl pu (by rw[hlen];exact hw) ?_ (by rw[hlen];exact hz)
 rw[hlen]
 refine⟨.ref s.heap.objs.size,_,I.laid (t':=s.toks) (o:=.tup (cutV xs lo hi)) (λb ob q=>aAA _ q) (aAH _) ?_,rfl,q _ (I.hok.fresh (aAH _))⟩
 exact⟨aBO (sE xs lo hi) hz,_,(r.drop (HT.sIx xs.length 0 lo)).take (HT.sIx xs.length xs.length hi - HT.sIx xs.length 0 lo),IsTup.new _ _⟩
def rCatT(K:Frag):R2:=λx y H Q=>∃a b xs ys,x=.ref a/\y=.ref b/\SqT K H a xs/\SqT K H b ys/\xs≠[]/\xs.length+ys.length<=sizeLine /\
 (ys=[]->Q (.ref a) H)/\(ys≠[]->∀p,H p=none->Q (.ref p) (upd H p (.tup (xs++ys))))
variable{xs:List V}
theorem Vals.nil_iff(r:Vals xs us):us=[] ↔ xs=[]:=by
 cases r with
 |nil=>simp
 |cons _ _=>simp
theorem aOv:OpR X (binaryOp .Add) (rCatT X.K):=by
 intro pins s σ H x y v u Q I rx ry h
 obtain⟨a,b,xs,ys,rfl,rfl,ha,hb,hx,hz,q1,q2⟩:=h
 cases rx
 cases ry
 obtain⟨its,r1,p1,_⟩:=I.tuple ha
 obtain⟨its2,r2,p2,_⟩:=I.tuple hb
 refine HT.cat_tup p1 p2 (λz=>hx (r1.nil_iff.mp z)) (λz=>⟨.ref a,H,I,rfl,q1 (r2.nil_iff.mp z)⟩) (λz=>?_) (by rw[<- r1.length,<- r2.length];exact hz)
 refine⟨.ref s.heap.objs.size,_,I.laid (t':=s.toks) (o:=.tup (xs++ys)) (λb ob q=>aAA _ q) (aAH _) ?_,rfl,q2 (λw=>z (r2.nil_iff.mpr w)) _ (I.hok.fresh (aAH _))⟩
 exact⟨by rw[aAT];exact hz,_,r1.append r2,IsTup.new _ _⟩
def ixN(n:Nat)(i:Int):Option Nat:=if 0<=i then(if i < n then some i.toNat else none)else if -(n:Int)<=i then some (i+n).toNat else none
def atI(xs:List α)(i:Int):Option α:=(ixN xs.length i).bind λj=>xs[j]?
variable{n:Nat}{i:Int}
theorem aGa(h:ixN n i=some j):seqIndex? i n=some j/\j < n /\ -(n:Int)<=i/\i < n:=by
 unfold ixN at h
 by_cases h0:0<=i
 ·rw[aAJ h0]at h
  by_cases h1:i < n
  ·rw[aAJ h1]at h
   have e:i.toNat=j:=Option.some.inj h
   exact⟨by rw[aGR h0 h1,e],by lia,by lia,h1⟩
  ·rw[aAI h1]at h;cases h
 ·rw[aAI h0]at h
  by_cases h1 : -(n:Int)<=i
  ·rw[aAJ h1]at h
   have e:(i+n).toNat=j:=Option.some.inj h
   exact⟨by rw[seqIndex_neg (by lia) h1,e],by lia,h1,by lia⟩
  ·rw[aAI h1]at h;cases h
theorem zG{xs:List α}{v:α}(h:atI xs i=some v):∃j,seqIndex? i xs.length=some j/\xs[j]?=some v/\j < xs.length /\ -(xs.length:Int)<=i/\i < xs.length:=by
 unfold atI at h
 cases e:ixN xs.length i with
 |none=>rw[e]at h;cases h
 |some j =>
  rw[e]at h
  obtain⟨h1,h2,h3,h4⟩:=aGa e
  exact⟨j,h1,h,h2,h3,h4⟩
def PlainIx(b:Expr):Prop:=∀o i,subscripted b false o i=operate [o,i] (getItem o i)
def IxR(X:Cx)(r:R2):Prop :=
 ∀(value slice:Expr) (pins:List (Addr×Obj)) (s:Shared) (σ:St) (H:Hp) (x y:V) (v u:Value) (Q:VK),Inv X pins σ H s->RelV x v->RelV y u->r x y H Q ->
  subscripted slice false v u=operate [v,u] (getItem v u)->wpAny (model X.prog X.w) X.A (subscriptTail value slice v u) (EP X pins σ Q) X.xe s
def MtR(X:Cx)(id:String)(r:V->List V->Hp->VK->Prop):Prop :=
 ∀(pins:List (Addr×Obj)) (s:Shared) (σ:St) (H:Hp) (x:V) (xs:List V) (v:Value) (us:List Value) (Q:VK),Inv X pins σ H s->RelV x v->Vals xs us->r x xs H Q ->
  wpAny (model X.prog X.w) X.A (call (.builtin id) (v::us)) (EP X pins σ Q) X.xe s
section
variable{a b:Expr}{r:R2}
theorem IxR.or{r':R2}(h:IxR X r)(h':IxR X r'):IxR X (λx y H Q=>r x y H Q\/r' x y H Q):=by
 intro value slice pins s σ H x y v u Q I rx ry q hs
 rcases q with q|q
 ·exact h value slice pins s σ H x y v u Q I rx ry q hs
 ·exact h' value slice pins s σ H x y v u Q I rx ry q hs
theorem aTt(hr:IxR X r)(ha:PE X a ta)(hb:PE X b tb)(hs:PlainIx b):PE X (.Subscript a b pos) (tOp r ta tb):=by
 intro pins s σ H Q I h
 exact Subscript_ (binT ha hb I h λv u s2 x y H2 I2 rx ry q=>hr a b pins s2 σ H2 x y v u Q I2 rx ry q (hs _ _))
def rIxL(K:Frag):R2:=λx y H Q=>∃p xs i v,x=.ref p/\y=.int i/\SqL K H p xs/\atI xs i=some v/\Q v H
def rIxT(K:Frag):R2:=λx y H Q=>∃p xs i v,x=.ref p/\y=.int i/\SqT K H p xs/\atI xs i=some v/\Q v H
def rIxS:R2:=λx y H Q=>∃z i c,x=.str z/\y=.int i/\z.length<=sizeLine/\atI z.cps.toList i=some c/\Q (.str ⟨#[c]⟩) H
theorem aOu:IxR X (rIxL X.K):=by
 intro value slice pins s σ H x y v u Q I rx ry h hs
 obtain⟨p,xs,i,z,rfl,rfl,hq,he,q⟩:=h
 cases rx
 obtain⟨t,rfl⟩:=ry
 obtain⟨its,r,pl,hz⟩:=I.list hq
 obtain⟨j,h1,h2,h3,h4,h5⟩:=zG he
 obtain⟨w,ew,rw'⟩:=r.get h2
 have hl:=r.length
 have hn:=line63
 have fin:EP X pins σ Q w s:=⟨z,H,I,rw',q⟩
 by_cases h0:0<=i
 ·have hj:i.toNat=j:=by
   rw[aGR h0 h5]at h1
   exact Option.some.inj h1
  exact item_listR pl.isList h0 (by lia) (by rw[hj];simpa using ew) fin hs
 ·have hj:(i+(its.toArray.size:Int)).toNat=j:=by
   rw[seqIndex_neg (by lia) h4]at h1
   rw[aAK,<- hl]
   exact Option.some.inj h1
  exact subscriptTail_builtinR (x:=w) pl.isList.typeIs aHA.lookup
   (wpAny_getItem_list_neg (Q:=λr s'=>r=w/\EP X pins σ Q r s') pl.isList (by lia) (by rw[aAK] <;> lia) (by lia) (by rw[hj];simpa using ew) ⟨rfl,fin⟩) hs
theorem aSh:IxR X (rIxT X.K):=by
 intro value slice pins s σ H x y v u Q I rx ry h hs
 obtain⟨p,xs,i,z,rfl,rfl,hq,he,q⟩:=h
 cases rx
 obtain⟨t,rfl⟩:=ry
 obtain⟨its,r,pl,hz⟩:=I.tuple hq
 obtain⟨j,h1,h2,h3,h4,h5⟩:=zG he
 obtain⟨w,ew,rw'⟩:=r.get h2
 have hl:=r.length
 have hn:=line63
 have fin:EP X pins σ Q w s:=⟨z,H,I,rw',q⟩
 exact subscriptTail_builtinR (x:=w) pl.typeIs slot_tuple_getitem.lookup
  (getItem_tuple (j:=j) (Q:=λr s'=>r=w/\EP X pins σ Q r s') pl (by lia) (by lia) (by rw[aAK,<- hl];exact h1) (by simpa using ew) ⟨rfl,fin⟩) hs
theorem aQk:IxR X rIxS:=by
 intro value slice pins s σ H x y v u Q I rx ry h hs
 obtain⟨z,i,c,rfl,rfl,hz,he,q⟩:=h
 obtain⟨t,rfl⟩:=rx
 obtain⟨t',rfl⟩:=ry
 obtain⟨j,h1,h2,h3,h4,h5⟩:=zG he
 have hl:z.cps.toList.length=z.length:=by simp[Str.length]
 rw[hl]at h1 h4 h5
 have hn:=line63
 exact tail_any (aFG s z t) slot_str_getitem.lookup (getItem_str (c:=c) (by
  have e1:decide (i < -(2 ^ 63:Int))=false:=aBI (by lia)
  have e2:decide (i>=2 ^ 63)=false:=aBI (by lia)
  rw[e1,e2,Bool.or_false]) (by rw[h1];simpa using h2) ⟨.str ⟨#[c]⟩,H,I.tok _,⟨_,rfl⟩,q⟩) hs
def rIx(K:Frag):R2:=λx y H Q=>rIxL K x y H Q\/rIxT K x y H Q\/rIxS x y H Q
theorem aRk:IxR X (rIx X.K):=aOu.or (aSh.or aQk)
theorem aEs(its:List Value)(n j:Nat)(u:Value):Obj.mapSeq (·.setIfInBounds j u) {cls:=.type "list",data:=.seq its.toArray n}={cls:=.type "list",data:=.seq (its.set j u).toArray n}:=by
 simp[Obj.mapSeq]
theorem Inv.lst{pins:List (Addr×Obj)}{σ:St}{H:Hp}{s:Shared}{p:Addr}{xs:List V}(I:Inv X pins σ H s)(h:H p=some (.lst xs)) :
  ∃(its:List Value) (n:Nat),Vals xs its/\s.heap.get? p=some {cls:=.type "list",data:=.seq its.toArray n}/\xs.length<=sizeLine:=by
 obtain⟨z,its,n,r,e⟩:=I.hok p _ h
 exact⟨its,n,r,e,z⟩
variable{σ:St}
theorem Inv.lstUpd{p:Addr}{ys:List V}{its':List Value}{n':Nat}{f:Obj->Obj}(I:Inv X pins σ H s)(h:H p=some (.lst xs))
  (ho:s.heap.get? p=some {cls:=.type "list",data:=.seq its.toArray n})(hf:f {cls:=.type "list",data:=.seq its.toArray n}={cls:=.type "list",data:=.seq its'.toArray n'})(r:Vals ys its')(hz:ys.length<=sizeLine)(t:Nat) :
  Inv X pins σ (upd H p (.lst ys)) {s with heap:=s.heap.update p f,toks:=t}:=by
 have e:(s.heap.update p f).get? p=some {cls:=.type "list",data:=.seq its'.toArray n'}:=by
  rw[aEP f ho (by rw[hf] <;> rfl),hf]
 refine I.write (x:=p) (e:=p) (by rw[h];trivial) (.inl rfl) (λb u hb q=>(Heap.get?_update_other _ _ (Ne.symm hb)).trans q) ⟨_,e⟩ ?_
 exact⟨hz,its',n',r,e⟩
def rSetL:V->V->V->Hp->(Hp->Prop)->Prop:=λo i v H Q=>∃p xs k j,o=.ref p/\i=.int k/\H p=some (.lst xs)/\ixN xs.length k=some j/\Q (upd H p (.lst (xs.set j v)))
theorem aLy:PSet X rSetL:=by
 intro pins s σ H o i v ov iv u Q I ro ri rv h
 obtain⟨p,xs,k,j,rfl,rfl,hp,hj,q⟩:=h
 cases ro
 obtain⟨t,rfl⟩:=ri
 obtain⟨its,n,r,ho,hz⟩:=I.lst hp
 obtain⟨h1,h2,h3,h4⟩:=aGa hj
 have hl:=r.length
 have hn:=line63
 have I':Inv X pins σ (upd H p (.lst (xs.set j v))) {s with heap:=s.heap.update p (Obj.mapSeq (·.setIfInBounds j u))} :=
  I.lstUpd hp ho (aEs its n j u) (r.set rv j) (by rw[List.length_set];exact hz) s.toks
 by_cases h0:0<=k
 ·have hk:k.toNat=j:=by
   rw[aGR h0 h4]at h1
   exact Option.some.inj h1
  exact PySem.W.ki_setAt ho h0 (by lia) (by rw[aAK,<- hl];exact h4) (by rw[hk];exact⟨_,I',q⟩)
 ·have hk:(k+(its.toArray.size:Int)).toNat=j:=by
   rw[seqIndex_neg (by lia) h3]at h1
   rw[aAK,<- hl]
   exact Option.some.inj h1
  exact PySem.W.ki_setBack ho (by lia) (by rw[aAK,<- hl];exact h3) (by lia) (by rw[hk];exact⟨_,I',q⟩)
theorem qE(lo hi:Option Int)(n:Nat):(sliceBounds lo hi none n).1=((HT.sIx n 0 lo:Nat):Int)/\(sliceBounds lo hi none n).2.1=((HT.sIx n n hi:Nat):Int)/\(sliceBounds lo hi none n).2.2=1:=by
 refine⟨?_,?_,rfl⟩
 ·cases lo with
  |none=>simp[sliceBounds,HT.sIx]
  |some i =>
   simp only[sliceBounds,HT.sIx,Option.getD_none,show(1:Int) > 0 by decide,aCQ]
   by_cases h:i < 0
   ·simp only[h,aCQ] <;> lia
   ·simp only[h,aDC] <;> lia
 ·cases hi with
  |none=>simp[sliceBounds,HT.sIx]
  |some i =>
   simp only[sliceBounds,HT.sIx,Option.getD_none,show(1:Int) > 0 by decide,aCQ]
   by_cases h:i < 0
   ·simp only[h,aCQ] <;> lia
   ·simp only[h,aDC] <;> lia
theorem vW(its:List Value)(lo hi:Option Int):slicePick its.toArray lo hi none=((its.drop (HT.sIx its.length 0 lo)).take (HT.sIx its.length its.length hi - HT.sIx its.length 0 lo)).toArray:=by
 obtain⟨h1,h2,h3⟩:=qE lo hi its.toArray.size
 unfold slicePick
 rw[h1,h2,h3]
 simp only[sliceRange_one,pick_run,aAK] <;> rfl
def rSlL(K:Frag):V->Option Int->Option Int->Hp->VK->Prop:=λx lo hi H Q=>∃a xs,x=.ref a/\SqL K H a xs/\∀p,H p=none->Q (.ref p) (upd H p (.lst (cutV xs lo hi)))
theorem aMr:SlR X (rSlL X.K):=by
 intro pins s σ H x v vl vu lo hi sl Q I rx hs pl pu h
 obtain⟨a,xs,rfl,hx,q⟩:=h
 cases rx
 obtain⟨its,r,ht,hz⟩:=I.list hx
 have hlen:=r.length
 refine⟨"list",_,aHA.lookup,ht.isList.typeIs,?_⟩
 refine wpAny_getItem_list_slice ht.isList hs pl pu .none (by simp) ?_ (by rw[aAK] <;> lia)
 rw[vW,<- hlen]
 refine⟨.ref s.heap.objs.size,_,I.laid (t':=s.toks) (o:=.lst (cutV xs lo hi)) (λb ob q=>aAA _ q) (aAH _) ?_,rfl,q _ (I.hok.fresh (aAH _))⟩
 exact⟨aBO (sE xs lo hi) hz,_,0,(r.drop (HT.sIx xs.length 0 lo)).take (HT.sIx xs.length xs.length hi - HT.sIx xs.length 0 lo),aAE _ rfl⟩
def flatV:V->Bool
 |.non=>true
 |.bl _=>true
 |.int _=>true
 |.str _=>true
 |_=>false
def eqV:V->V->Bool
 |.non,.non=>true
 |.bl a,.bl b=>a==b
 |.bl a,.int b=>(if a then 1 else 0)==b
 |.int a,.bl b=>a==(if b then 1 else 0)
 |.int a,.int b=>a==b
 |.str a,.str b=>a==b
 |_,_=>false
variable{x:V}{v:Value}
theorem aLo{y:V}(ry:RelV y u)(rx:RelV x v)(fy:flatV y=true)(fx:flatV x=true):SeqAt.EqAt A s u v (eqV y x):=by
 cases y with
 |non =>
  cases ry
  cases x with
  |non=>cases rx;exact SeqAt.EqAt.same _
  |bl b=>cases rx;exact SeqAt.EqAt.none_bool b
  |int b=>obtain⟨t,rfl⟩:=rx;exact SeqAt.EqAt.none_int b t
  |str b=>obtain⟨t,rfl⟩:=rx;exact SeqAt.EqAt.none_str b t
  |_=>exact absurd (show false=true from fx) aBG
 |bl a =>
  cases ry
  cases x with
  |non=>cases rx;exact SeqAt.EqAt.bool_none a
  |bl b=>cases rx;exact SeqAt.EqAt.bool_bool a b
  |int b=>obtain⟨t,rfl⟩:=rx;exact SeqAt.EqAt.bool_int a b t
  |str b=>obtain⟨t,rfl⟩:=rx;exact SeqAt.EqAt.bool_str a b t
  |_=>exact absurd (show false=true from fx) aBG
 |int a =>
  obtain⟨t',rfl⟩:=ry
  cases x with
  |non=>cases rx;exact SeqAt.EqAt.int_none a t'
  |bl b=>cases rx;exact SeqAt.EqAt.int_bool a t' b
  |int b=>obtain⟨t,rfl⟩:=rx;exact SeqAt.EqAt.int_int a t' b t
  |str b=>obtain⟨t,rfl⟩:=rx;exact SeqAt.EqAt.int_str a t' b t
  |_=>exact absurd (show false=true from fx) aBG
 |str a =>
  obtain⟨t',rfl⟩:=ry
  cases x with
  |non=>cases rx;exact SeqAt.EqAt.str_none a t'
  |bl b=>cases rx;exact SeqAt.EqAt.str_bool a t' b
  |int b=>obtain⟨t,rfl⟩:=rx;exact SeqAt.EqAt.str_int a t' b t
  |str b=>obtain⟨t,rfl⟩:=rx;exact SeqAt.EqAt.str_str a t' b t
  |_=>exact absurd (show false=true from fx) aBG
 |_=>exact absurd (show false=true from fy) aBG
def eqU(x:V)(u:Value):Bool:=match u with
 |.none=>eqV .non x
 |.bool b=>eqV (.bl b) x
 |.int i _=>eqV (.int i) x
 |.str z _=>eqV (.str z) x
 |_=>false
theorem aJr{y:V}(r:RelV y u)(f:flatV y=true):eqU x u=eqV y x:=by
 cases y with
 |non=>cases r;rfl
 |bl b=>cases r;rfl
 |int i=>obtain⟨t,rfl⟩:=r;rfl
 |str z=>obtain⟨t,rfl⟩:=r;rfl
 |_=>exact absurd (show false=true from f) aBG
theorem pU{x:V}:∀{xs:List V} {us:List Value},Vals xs us->xs.all flatV=true->us.any (eqU x)=xs.any λy=>eqV y x
 |_,_,.nil,_=>rfl
 |y::xs,u::us,.cons r t,f=>by
  rw[aEC,aCO]at f
  rw[aDQ,aDQ,aJr r f.1,pU t f.2]
theorem nM{A:Around}{s:Shared}{x:V}{v:Value}(rx:RelV x v)(fx:flatV x=true):∀{xs:List V} {us:List Value},Vals xs us->xs.all flatV=true->∀u∈us,SeqAt.EqAt A s u v (eqU x u)
 |_,_,.nil,_=>λu hu=>by cases hu
 |y::xs,u::us,.cons r t,f=>λu' hu=>by
  rw[aEC,aCO]at f
  rcases aAO.mp hu with rfl|hu
  ·rw[aJr r f.1];exact aLo r rx f.1 fx
  ·exact nM rx fx t f.2 u' hu
def inV(x:V)(xs:List V):Bool:=xs.any λy=>eqV y x
def rIn(K:Frag)(neg:Bool):R2:=λx y H Q=>∃p xs,y=.ref p/\(SqL K H p xs\/SqT K H p xs)/\flatV x=true/\xs.all flatV=true/\Q (.bl (if neg then !inV x xs else inV x xs)) H
theorem aGp:OpR X (compareOp .In) (rIn X.K false):=by
 intro pins s σ H x y v u Q I rx ry h
 obtain⟨p,xs,rfl,hq,fx,fs,q⟩:=h
 cases ry
 rcases hq with hq|hq
 ·obtain⟨its,r,pl,hz⟩:=I.list hq
  refine SeqAt.in_listAt (eqU x) pl.isList (λw hw=>nM rx fx r fs w (by simpa using hw)) ⟨.bl _,H,I,rfl,?_⟩
  rw[show its.toArray.any (eqU x)=its.any (eqU x) by simp,pU r fs]
  exact q
 ·obtain⟨its,r,pl,hz⟩:=I.tuple hq
  refine SeqAt.in_tupleAt (eqU x) pl (λw hw=>nM rx fx r fs w (by simpa using hw)) ⟨.bl _,H,I,rfl,?_⟩
  rw[show its.toArray.any (eqU x)=its.any (eqU x) by simp,pU r fs]
  exact q
theorem zJ:OpR X (compareOp .NotIn) (rIn X.K true):=by
 intro pins s σ H x y v u Q I rx ry h
 obtain⟨p,xs,rfl,hq,fx,fs,q⟩:=h
 cases ry
 rcases hq with hq|hq
 ·obtain⟨its,r,pl,hz⟩:=I.list hq
  refine SeqAt.notIn_listAt (eqU x) pl.isList (λw hw=>nM rx fx r fs w (by simpa using hw)) ⟨.bl _,H,I,rfl,?_⟩
  rw[show its.toArray.any (eqU x)=its.any (eqU x) by simp,pU r fs]
  exact q
 ·obtain⟨its,r,pl,hz⟩:=I.tuple hq
  refine SeqAt.notIn_tupleAt (eqU x) pl (λw hw=>nM rx fx r fs w (by simpa using hw)) ⟨.bl _,H,I,rfl,?_⟩
  rw[show its.toArray.any (eqU x)=its.any (eqU x) by simp,pU r fs]
  exact q
theorem yY:CallR X (.builtin "len") (λxs H Q=>∃p ys,xs=[.ref p]/\(SqL X.K H p ys\/SqT X.K H p ys)/\Q (.int ys.length) H):=by
 intro pins s σ H xs us Q I r h
 obtain⟨p,ys,rfl,hq,q⟩:=h
 obtain⟨u,rfl,rx⟩:=vals1 r
 cases rx
 have hn:=line63
 rcases hq with hq|hq
 ·obtain⟨its,r',pl,hz⟩:=I.list hq
  have hlen:=r'.length
  exact Calls.call_len_list pl.isList (by simp only[aAK] <;> lia) ⟨.int ys.length,H,I.tok _,⟨s.toks+1,by rw[aAK,hlen]⟩,q⟩
 ·obtain⟨its,r',pl,hz⟩:=I.tuple hq
  have hlen:=r'.length
  exact len_tuple pl (by simp only[aAK] <;> lia) ⟨.int ys.length,H,I.tok _,⟨s.toks+1,by rw[aAK,hlen]⟩,q⟩
theorem yQ:CallR X (.builtin "len") (λxs H Q=>∃z,xs=[.str z]/\z.length<=sizeLine/\Q (.int z.length) H):=by
 intro pins s σ H xs us Q I r h
 obtain⟨z,rfl,hz,q⟩:=h
 obtain⟨u,rfl,t,rfl⟩:=vals1 r
 have hn:=line63
 exact len_str (by lia) ⟨.int z.length,H,I.tok _,⟨_,rfl⟩,q⟩
theorem CallR.or{f:Value}{r r':List V->Hp->VK->Prop}(h:CallR X f r)(h':CallR X f r'):CallR X f (λxs H Q=>r xs H Q\/r' xs H Q):=by
 intro pins s σ H xs us Q I rs q
 rcases q with q|q
 ·exact h pins s σ H xs us Q I rs q
 ·exact h' pins s σ H xs us Q I rs q
theorem vK:CallR X (.type "tuple") (λxs H Q=>∃p ys,xs=[.ref p]/\((SqL X.K H p ys/\∀l,H l=none->Q (.ref l) (upd H l (.tup ys)))\/(SqT X.K H p ys/\Q (.ref p) H))):=by
 intro pins s σ H xs us Q I r h
 obtain⟨p,ys,rfl,h⟩:=h
 obtain⟨u,rfl,rx⟩:=vals1 r
 cases rx
 rcases h with⟨hq,q⟩|⟨hq,q⟩
 ·obtain⟨its,r',pl,hz⟩:=I.list hq
  have hlen:=r'.length
  refine call_tuple_list pl.isList (λh' kp=>?_) (by simp only[aAK] <;> lia)
  have I1:Inv X pins σ H {s with heap:=h'}:=I.kept (t':=s.toks) kp
  have I2:Inv X pins σ (upd H h'.objs.size (.tup ys)) {s with heap:=h'.push {cls:=.type "tuple",data:=.seq its.toArray}} :=
   I1.laid (t':=s.toks) (λb o e=>aAA _ e) (aAH _) (show ObjOk X.prog X.w _ _ _ (.tup ys)from⟨hz,its,r',IsTup.new _ _⟩)
  exact⟨.ref h'.objs.size,_,I2,rfl,q _ (I1.hok.fresh (aAH _))⟩
 ·obtain⟨its,r',pl,hz⟩:=I.tuple hq
  exact call_tuple_same pl ⟨.ref p,H,I,rfl,q⟩
def tyV(K:Frag)(T:String)(x:V)(H:Hp):Prop:=match x with
 |.str _=>T="str"
 |.int _=>T="int"
 |.ref p=>(T="list"/\∃xs,SqL K H p xs)\/(T="tuple"/\∃o,K.lookup p=some o/\o.cls=.type "tuple"/\o.dict=none) \/
   (T="dict"/\((∃kvs,H p=some (.dK kvs))\/∃kvs,H p=some (.dT kvs)))\/(T="set"/\∃S n,H p=some (.set S n))
 |_=>False
variable{T:String}
theorem aQt(I:Inv X pins σ H s)(r:RelV x v)(ty:tyV X.K T x H) :
  s.TypeIs v T/\∀a,v=.ref a->∃ob,s.heap.get? a=some ob/\ob.dict=none:=by
 cases x with
 |str z =>
  obtain⟨t,rfl⟩:=r
  cases(show T="str"from ty)
  exact⟨aFG s z t,λ_ e=>nomatch e⟩
 |int i =>
  obtain⟨t,rfl⟩:=r
  cases(show T="int"from ty)
  exact⟨aHE s i t,λ_ e=>nomatch e⟩
 |ref p =>
  cases r
  rcases ty with⟨rfl,xs,hq⟩|⟨rfl,o,hk,hc,hd⟩|⟨rfl,hk⟩|⟨rfl,S,n,hk⟩
  ·obtain⟨its,_,pl,_⟩:=I.list hq
   refine⟨pl.isList.typeIs,λa e=>?_⟩
   cases e
   obtain⟨o,n,e,c,hd,_⟩:=pl
   exact⟨o,e,hd⟩
  ·refine⟨⟨o,I.kIn p o hk,hc⟩,λa e=>?_⟩
   cases e
   exact⟨o,I.kIn _ o hk,hd⟩
  ·have z:∃o,s.heap.get? p=some o/\o.ExactDict:=by
    rcases hk with⟨kvs,hk⟩|⟨kvs,hk⟩
    ·obtain⟨_,_,_,_,o,_,_,e,ex,_⟩:=I.hok p _ hk
     exact⟨o,e,ex⟩
    ·obtain⟨_,_,_,_,o,_,_,e,ex,_⟩:=I.hok p _ hk
     exact⟨o,e,ex⟩
   obtain⟨o,e,ex⟩:=z
   refine⟨⟨o,e,ex.1⟩,λa e2=>?_⟩
   cases e2
   exact⟨o,e,ex.2.1⟩
  ·obtain⟨o,_,_,_,e,ex,_⟩:=I.hok p _ hk
   refine⟨⟨o,e,ex.1⟩,λa e2=>?_⟩
   cases e2
   exact⟨o,e,ex.2.1⟩
 |_=>exact False.elim ty
def tBM(K:Frag)(T:String)(r:V->List V->Hp->VK->Prop)(to:TE)(t:TA):TE:=λσ H Q=>to σ H λx H1=>tyV K T x H1/\t σ H1 λxs H2=>r x xs H2 Q
variable{o:Expr}{es:List Expr}{to:TE}{t:TA}{id:String}{r:V->List V->Hp->VK->Prop}
theorem wT(pa:PlainAttrs T)(slot:Slot T name id)(hty:typeOf (.builtin id)=pure (.type "method_descriptor"))(hm:MtR X id r)(ho:PE X o to)(ha:PA X (e::es) t)
  (hbase:attributeBase o name X.env (eval o X.env)=eval o X.env:=by rfl)
  (hfew:((backTo cpos (starEach (e::es) X.env)).all (λx=>!x.1)&&(backToKw cpos (keywordEach [] X.env)).all (λx=>x.1.isSome)
   && decide ((e::es).length+([]:List Keyword).length+(if([]:List Keyword).isEmpty then 0 else 1) < 30))=true:=by rfl)
  (hline:(apos.endLine==cpos.line)=true:=by rfl)(hs:starEach (e::es) X.env=(false,eval e X.env)::starEach es X.env:=by rfl)(hplain:(backTo cpos (starEach es X.env)).any (·.1)=false:=by rfl) :
  PE X (.Call (.Attribute o name apos) (e::es) [] cpos) (tBM X.K T r to t):=by
 intro pins s σ H Q I h
 refine wpAny_Call_method_late hbase hfew hline rfl (thn (ho pins s σ H _ I h) λv s1 ⟨x,H1,I1,r1,ty,q1⟩=>?_)
 obtain⟨h1,h2⟩:=aQt I1 r1 ty
 refine⟨T,id,pa,slot,hty,h1,h2,?_⟩
 have hA:=ha cpos pins s1 σ H1 _ I1 q1
 rw[hs]at hA ⊢
 refine Calls.callWith_builtin (by show(false || (backTo cpos (starEach es X.env)).any (·.1))=false;rw[hplain] <;> rfl) (Calls.evalArgs_plain ?_)
 exact thn hA λus s2 ⟨vs,H2,I2,r2,q2⟩=>hm pins s2 σ H2 x vs v us Q I2 r1 r2 q2
end
def MtM(X:Cx)(id:String)(r:V->List V->Hp->VK->Prop):Prop :=
 ∀(pins:List (Addr×Obj)) (s:Shared) (σ:St) (H:Hp) (x:V) (xs:List V) (v:Value) (us:List Value) (Q:VK),Inv X pins σ H s->RelV x v->Vals xs us->r x xs H Q ->
  wpAny (model X.prog X.w) X.A (call (.builtin id) (v::us)) (EP X pins σ Q) X.xe s
theorem Vals.one:∀{x:V} {us:List Value},Vals [x] us->∃u,us=[u]/\RelV x u
 |_,_,.cons r .nil=>⟨_,rfl,r⟩
theorem Vals.two:∀{x y:V} {us:List Value},Vals [x,y] us->∃u v,us=[u,v]/\RelV x u/\RelV y v
 |_,_,_,.cons r (.cons q .nil)=>⟨_,_,rfl,r,q⟩
theorem Vals.zero:∀{us:List Value},Vals [] us->us=[]
 |_,.nil=>rfl
theorem Vals.eraseIdx:∀{xs:List V} {us:List Value} (i:Nat),Vals xs us->Vals (xs.eraseIdx i) (us.eraseIdx i)
 |_,_,_,.nil=>.nil
 |_,_,0,.cons _ t=>t
 |_,_,i+1,.cons r t=>.cons r (Vals.eraseIdx i t)
theorem Vals.rep{xs:List V}{us:List Value}(h:Vals xs us):∀k:Nat,Vals (List.replicate k xs).flatten (List.replicate k us).flatten
 |0=>.nil
 |k+1=>by
  rw[aDH,aDH,aFL,aFL]
  exact Vals.append h (Vals.rep h k)
theorem wY{α:Type}:∀(l:List α) (i:Nat),(l.eraseIdx i).length<=l.length
 |[],_=>aAH _
 |_::_,0=>aGQ _
 |_::r,i+1=>Nat.succ_le_succ (wY r i)
theorem rM(its:List Value):∀(k:Nat) (acc:List Value),
  List.foldl (λx1 x2=>x1++x2) acc.toArray (List.replicate k its.toArray)=(acc++(List.replicate k its).flatten).toArray
 |0,acc=>by simp
 |k+1,acc=>by
  have e:acc.toArray++its.toArray=(acc++its).toArray:=by simp
  have e2:(acc++its)++(List.replicate k its).flatten=acc++(List.replicate (k+1) its).flatten:=by
   rw[aDH,aFL,aHB]
  rw[<- e2,<- rM its k (acc++its),<- e,aDH,aGG]
variable{σ:St}{l b:Addr}{ys zs:List V}
theorem Inv.lset{its':List Value}{f:Array Value->Array Value}(I:Inv X pins σ H s)(hH:H l=some (.lst xs))
  (e:s.heap.get? l=some {cls:=.type "list",data:=.seq its.toArray n})(hf:f its.toArray=its'.toArray)(hv:Vals ys its')(hz:ys.length<=sizeLine) :
  Inv X pins σ (upd H l (.lst ys)) {s with heap:=s.heap.update l (Obj.mapSeq f),toks:=t'}:=by
 have q:=PySem.IsL.update e f
 rw[hf]at q
 refine I.write (x:=l) (e:=l) (by rw[hH];exact trivial) (.inl rfl) (λb' u hb hu=>(Heap.get?_update_other s.heap (Obj.mapSeq f) (Ne.symm hb)).trans hu) ⟨_,q⟩ ?_
 exact⟨hz,its',_,hv,q⟩
theorem Inv.lnew(I:Inv X pins σ H s)(hv:Vals ys its)(hz:ys.length<=sizeLine) :
  Inv X pins σ (upd H s.heap.objs.size (.lst ys)) {s with heap:=s.heap.push {cls:=.type "list",data:=.seq its.toArray},toks:=t'} :=
 I.laid (λ_ _ q=>aAA _ q) (aAH _) ⟨hz,its,0,hv,aAE _ rfl⟩
theorem Inv.fresh(I:Inv X pins σ H s):H s.heap.objs.size=none:=I.hok.fresh (aAH _)
theorem Inv.lstM(I:Inv X pins σ H s)(hH:H l=some (.lst xs)):xs.length<=sizeLine/\∃(its:List Value) (n:Nat),Vals xs its/\xs.length=its.length/\s.heap.get? l=some {cls:=.type "list",data:=.seq its.toArray n}:=by
 obtain⟨z,its,n,r,e⟩:=I.hok l _ hH
 exact⟨z,its,n,r,r.length,e⟩
theorem notLongL(h:n<=sizeLine):Builtin.List.listTooLong n=false:=by
 unfold Builtin.List.listTooLong
 exact aBI (by lia)
def rAppend:V->List V->Hp->VK->Prop:=λx vs H Q=>∃l xs y,x=.ref l/\vs=[y]/\H l=some (.lst xs)/\xs.length < sizeLine/\Q .non (upd H l (.lst (xs++[y])))
theorem wP:MtM X "list.append" rAppend:=by
 intro pins s σ H x vs v us Q I rx rv h
 obtain⟨l,xs,y,rfl,rfl,hH,hz,q⟩:=h
 cases rx
 obtain⟨u,rfl,ru⟩:=rv.one
 obtain⟨z,its,n,r,hl,e⟩:=I.lstM hH
 refine aCT F.slot_list_append ⟨_,e,rfl⟩ F.entry_list_append (F.args_list_append_2 _ _) (PySem.list_append l its.toArray n u (by rw[aAK];lia)) ⟨e,?_⟩
 refine⟨.non,_,I.lset (its':=its++[u]) hH e (by simp) (r.append (.cons ru .nil)) ?_,rfl,q⟩
 rw[aAT,List.length_singleton]
 lia
def rPopAt:V->List V->Hp->VK->Prop:=λx vs H Q=>∃l xs i k y,x=.ref l/\vs=[.int i]/\H l=some (.lst xs) /\ -(2 ^ 63)<=i/\i < 2 ^ 63/\seqIndex? i xs.length=some k/\xs[k]?=some y/\Q y (upd H l (.lst (xs.eraseIdx k)))
theorem aMk:MtM X "list.pop" rPopAt:=by
 intro pins s σ H x vs v us Q I rx rv h
 obtain⟨l,xs,i,k,y,rfl,rfl,hH,h1,h2,hk,hy,q⟩:=h
 cases rx
 obtain⟨u,rfl,ru⟩:=rv.one
 obtain⟨t,rfl⟩:=ru
 obtain⟨z,its,n,r,hl,e⟩:=I.lstM hH
 obtain⟨w,hw,rw'⟩:=r.get hy
 refine aCT F.slot_list_pop ⟨_,e,rfl⟩ F.entry_list_pop (F.args_list_pop_2 _ _)
  (MeetsSeq.list_pop_at l its.toArray n i t k w (fitsIndex_both h1 h2) (by rw[aAK,<- hl];exact hk) (by rw[<- Array.getElem?_toList];exact hw) (by rw[aAK];lia)) ⟨e,?_⟩
 refine⟨y,_,I.lset (its':=its.eraseIdx k) hH e ?_ (r.eraseIdx k) ?_,rw',q⟩
 ·show its.toArray.eraseIdxIfInBounds k=(its.eraseIdx k).toArray
  rw[List.eraseIdxIfInBounds_toArray]
 ·have:=wY xs k
  lia
def rCat:R2:=λx y H Q=>∃l b xs zs,x=.ref l/\y=.ref b/\H l=some (.lst xs)/\H b=some (.lst zs)/\xs.length+zs.length<=sizeLine/\∀p,H p=none->Q (.ref p) (upd H p (.lst (xs++zs)))
theorem aTq:OpR X (binaryOp .Add) rCat:=by
 intro pins s σ H x y v u Q I rx ry h
 obtain⟨l,b,xs,zs,rfl,rfl,hH,hB,hz,q⟩:=h
 cases rx
 cases ry
 obtain⟨z,its,n,r,hl,e⟩:=I.lstM hH
 obtain⟨z2,its2,n2,r2,hl2,e2⟩:=I.lstM hB
 refine PySem.P.add_list e e2 ?_ (by rw[aAK,aAK];lia)
 have ea:its.toArray++its2.toArray=(its++its2).toArray:=by simp
 rw[ea]
 exact⟨.ref _,_,I.lnew (t':=s.toks) (r.append r2) (by rw[aAT];lia),rfl,q _ I.fresh⟩
def rRep:R2:=λx y H Q=>∃l k xs,x=.ref l/\y=.int k/\H l=some (.lst xs) /\ -(2 ^ 63)<=k/\k < 2 ^ 63/\xs.length*k.toNat<=sizeLine /\
 ∀p,H p=none->Q (.ref p) (upd H p (.lst (List.replicate k.toNat xs).flatten))
theorem zO(xs:List α)(k:Nat):(List.replicate k xs).flatten.length=k*xs.length:=by
 induction k with
 |zero=>simp
 |succ k ih=>rw[aDH,aFL,aAT,ih,Nat.succ_mul,Nat.add_comm]
theorem aQo:OpR X (binaryOp .Mult) rRep:=by
 intro pins s σ H x y v u Q I rx ry h
 obtain⟨l,k,xs,rfl,rfl,hH,h1,h2,hz,q⟩:=h
 cases rx
 obtain⟨t,rfl⟩:=ry
 obtain⟨z,its,n,r,hl,e⟩:=I.lstM hH
 have hlen:its.toArray.size*k.toNat<=sizeLine:=by rw[aAK,<- hl];exact hz
 have hcap:¬its.toArray.size*k.toNat > (2 ^ 63 - 1) / 8:=by
  have:(sizeLine:Nat)<=(2 ^ 63 - 1) / 8:=by decide
  lia
 have hfit:¬(!Builtin.List.listFitsIndex k)=true:=by
  rw[fitsIndex_both h1 h2]
  exact aBG
 have hlong:¬Builtin.List.listTooLong (its.toArray.size*k.toNat)=true:=by
  rw[notLongL hlen]
  exact aBG
 have hnew:List.foldl (λx1 x2=>x1++x2) #[] (List.replicate (if its.toArray.isEmpty=true then 0 else k.toNat) its.toArray)=(List.replicate k.toNat its).flatten.toArray:=by
  have f0:∀m:Nat,List.foldl (λx1 x2=>x1++x2) #[] (List.replicate m its.toArray)=(List.replicate m its).flatten.toArray:=λm=>by
   have:=rM its m []
   rw[aFZ]at this
   exact this
  rw[f0]
  cases its with
  |nil=>simp
  |cons a r'=>rw[aAI (by simp)]
 refine wpAny_binaryOp_repeat_ref (T:="list") (U:="int") (by decide) ⟨_,e,rfl⟩ (λs'=>aHE s' k t) noFill_list_mul F.fills_int_mul aGH repeat_list F.slot_int_index.lookup
  (aCT aGH (aHE s k t) F.entry_int_rmul (F.args_int_rmul_2 _ _) (int___rmul___int_list k t l its.toArray n)
   ⟨e,rfl,⟨_,e,rfl⟩,aCT F.slot_list_mul ⟨_,e,rfl⟩ F.entry_list_mul (F.args_list_mul_2 _ _) (AutoListH.list___mul___list_int_3 l its.toArray n k t hfit hcap hlong) ⟨e,?_⟩⟩)
 rw[hnew]
 exact⟨.ref _,_,I.lnew (t':=s.toks) (r.rep k.toNat) (by rw[zO,Nat.mul_comm];exact hz),rfl,q _ I.fresh⟩
variable{prog:Program}{E:Value->Shared->Prop}
end L2
end
namespace Att
open PySem PySem.W PySem.Calls PyProof.Rows
variable{P:Params}
theorem sI :∀(ns:List Int) (vs:List Value),WellAll P h vs (ns.map WData.int)->IntsAre vs ns:=by
 intro ns
 induction ns with
 |nil =>
  intro vs w
  rw[aDW]at w
  cases w
  exact .nil
 |cons n ns ih =>
  intro vs w
  rw[aBC]at w
  cases w with
  |cons a b =>
   cases a
   exact .cons _ _ (ih _ b)
variable{l:OpenLaw}{n:Nat}
theorem aGw(hn:l.most=some n){args:List WData}{vals:List Value}
  (hpre:l.row.toRowW.claim.pre args=true)(hwl:WellAll P h vals args) :
  ∃a vs ns,vals=[Value.ref a]/\args=[WData.list (ns.map WData.int)]/\h.get? a=some {cls:=.type "list",data:=.seq vs.toArray}/\IntsAre vs ns/\ns.length<=n:=by
 have hsh:WShape.hasAll [] args [.list .int]=true:=(pre_splitW hpre).1
 have hc:l.pre.holds [] {args:=args}=true:=(pre_splitW hpre).2
 obtain⟨d,r,rfl,h1,h2⟩:=hasAllW_cons hsh
 obtain rfl:=hasAllW_nil h2
 obtain⟨xs,rfl,h3⟩:=hasW_list h1
 obtain⟨ns,rfl⟩:=items_int h3
 have hlen:ns.length<=n:=by
  unfold OpenLaw.pre at hc
  have h4:(WTm.not (.lt (.lit (.int (n:Int))) (.len (.arg 0)))).holds [] {args:=[.list (ns.map .int)]}=true:=by
   have h4:=(holds_andW hc).1
   rw[hn]at h4
   exact h4
  have h5:=condW_of h4 (w_not (w_lt w_lit (w_len_list (w_arg rfl))))
  rw[aAL]at h5
  refine Nat.le_of_not_lt λq=>?_
  have q':(n:Int) < ((ns.length:Nat):Int):=by lia
  first
   |(rw[aGO q']at h5;exact absurd h5 (by decide))
   |(simp at h5;lia)
 cases hwl with
 |cons w1 w2 =>
  cases w2
  cases w1 with
  |list ho hall=>exact⟨_,_,ns,rfl,rfl,ho,sI ns _ hall,hlen⟩
theorem aGv(l:OpenLaw)(args:List WData):l.row.toRowW.claim.post args (.bool true) args=true :=
 postW_of (r:=l.row.toRowW) (X:=(true==true))
  (show WShape.has [] (.bool true) .bool=true by first|rfl|decide|simp[WShape.has,WShape.arms,WShape.armsAll])
  (show(WTm.eq .res (.lit (.bool true))).value [] {args:=args,res:=some (.bool true),after:=args}=some (.bool (true==true))from w_eq_bool (w_res rfl) w_lit) rfl
theorem attach_call{q:Program}{d:DefRec}
  (hn:l.most=some n)(hdf:d.params.defaults=[])
  (call:∀(w:World) (s₀ s₁:Shared) (mg mb:Str->Option Value) (fa:Addr) (o:Obj) (pm cd doc:Value) (a:Addr) (vs:List Value) (ns:List Int),
   Ground q loose [] XP w s₀ mg mb s₁.heap->YP w s₁.heap ->
   s₁.heap.get? fa=some o->o.data=.func (docDef d.name d.params d.body d.scope pm cd doc)->s₁.heap.CodeRec cd d.name->mg d.name=some (.ref fa) ->
   s₁.heap.get? a=some {cls:=.type "list",data:=.seq vs.toArray}->IntsAre vs ns->ns.length<=n->s₁.gens=#[] ->
   codeAny (model l.prog w) callerA (.call (.ref fa) ⟨[.ref a],[]⟩) (λr s'=>r=.ok (.ret (.bool true))/\OldK s₁.heap s'.heap/\s'.os=s₁.os/\AllBare s'.gens) s₁) :
  WalkO q loose XP YP l.row.toRowW d [] (λf vs=>PySem.call f vs):=by
 intro w s₀ s₁ mg mb G Y fa o pm cd doc dV kV ho hd hcd hD hmg hg args vals as hpre hlay hrd hwl hlo
 obtain rfl:dV=.none:=Dflts.none hD hdf
 obtain rfl:kV=.none:=Dflts.noKw hD
 obtain⟨a,vs,ns,rfl,rfl,hobj,hints,hlen⟩:=aGw hn hpre hwl
 refine enter_call (aGF (call w s₀ s₁ mg mb fa o pm cd doc a vs ns G Y ho (fd_plain hd) hcd hmg hobj hints hlen hg) λr s' hq=>?_)
 obtain⟨rfl,h2,h3,h4⟩:=hq
 exact⟨.inl ⟨.bool true,.bool true,[],rfl,λ_=>rfl,.bool true,aGv l _,λ_=>⟨List.Pairwise.nil,λ_ hm=>(nomatch hm)⟩⟩,h2,h3,h4⟩
variable{prog:Program}{E:Value->Shared->Prop}{K:Frag}
def ledger(h:Heap)(L d:Addr):List (Addr×Obj):=(List.range h.objs.size).filterMap λa=>if a=L\/a=d then none else(h.get? a).map λo=>(a,o)
end Att
section
open PySem PySem.Spec PyProof.Rows
namespace L2
theorem nV:∀{vs:List Value} {ns:List Int},IntsAre vs ns->Vals (ns.map V.int) vs
 |_,_,.nil=>.nil
 |_,_,.cons n t h=>.cons ⟨t,rfl⟩ (nV h)
def Only(H:Hp):Prop:=∀b,H b=none\/∃o xs,H b=some (.frz o (.lst xs))
theorem aJf{mb:Str->Option Value}{k:Nat}{fa:Addr}{x:Str}{s₁:Shared}{vs:List Value}
  (KX:K.In s₁.heap)(hns:s₁.heap.Ns mainGlobals mg)(hb:s₁.heap.Ns builtinsNs mb)(hbb:∀x:Str,x≠"__name__"->mb x=bootBuiltins x)(hlim:s₁.heap.NoLimit)(hg:s₁.gens=#[])
  (ha:s₁.heap.get? a=some {cls:=.type "list",data:=.seq vs.toArray})(hi:IntsAre vs ns)(hl:ns.length<=sizeLine)(hr:Room k callerA)
  (F:∀base:Heap,K.In base->base.Ns mainGlobals mg->FnOk P w K mg base CX k fa fd [x] sp)(hbind:∀(s:Shared) (u:Value),BindsTo s fd ⟨[u],[]⟩ [(x,u)])
  (hsp:∀H:Hp,Only H->SqL K H a (ns.map V.int)->sp [.ref a] H (λv _=>v=.bl true) λ_ _ _=>False)
  (hCX:∀H e s',CX [] H s₁ (λ_ _ _=>False) e s'->False) :
  codeAny (model P w) callerA (.call (.ref fa) ⟨[.ref a],[]⟩) (λr s'=>r=.ok (.ret (.bool true))/\OldK s₁.heap s'.heap/\s'.os=s₁.os/\AllBare s'.gens) s₁:=by
 have rv:=nV hi
 have lenV:=hi.length
 have core:∀H:Hp,Only H->SqL K H a (ns.map V.int)->HOk P w H s₁.heap->(∀b,H b≠none->b=a)->(H a≠none->K.lookup a=none) ->
   codeAny (model P w) callerA (.call (.ref fa) ⟨[.ref a],[]⟩) (λr s'=>r=.ok (.ret (.bool true))/\OldK s₁.heap s'.heap/\s'.os=s₁.os/\AllBare s'.gens) s₁:=by
  intro H hO hS hok hA hK
  have base_of:∀{b:Addr} {o:Obj},s₁.heap.get? b=some o->H b=none->(hidT s₁.heap H).get? b=some o:=λe n=>aKx e n
  have noA:∀{b:Addr} {o:Obj} {es:Array DictEntry} {ep:Nat},s₁.heap.get? b=some o->o.data=.dict es ep->H b=none:=λ{b o es ep} e d=>by
   cases q:H b with
   |none=>rfl
   |some u =>
    have e':b=a:=hA b (by rw[q];simp)
    subst e'
    rw[ha]at e;cases e
    have d':Data.seq vs.toArray _=Data.dict es ep:=d
    cases d'
  have nsK:∀{b:Addr} {m:Str->Option Value},s₁.heap.Ns b m->(hidT s₁.heap H).Ns b m:=λ{b m} ⟨o,es,ep,e,d,r⟩=>⟨o,es,ep,base_of e (noA e d),d,r⟩
  have hKb:K.In (hidT s₁.heap H):=λb o e=>base_of (KX b o e) (by
   cases q:H b with
   |none=>rfl
   |some u =>
    have e':b=a:=hA b (by rw[q];simp)
    subst e'
    rw[hK (by rw[q];simp)]at e;cases e)
  have hM:Mod K mg (hidT s₁.heap H):=⟨hKb,nsK hns,⟨mb,nsK hb,hbb⟩,let⟨mc,h1,h2⟩:=hlim;⟨mc,nsK h1,h2⟩⟩
  have e0:Env0 P w K mg (hidT s₁.heap H) callerA [] s₁ H:=⟨rfl,hM,λb o e=>aPg e,Nat.le_of_eq (aHt _ _),trivial,λb hb=>absurd (show b∈([]:List Addr)from hb) (by simp),hok,.of_eq hg⟩
  refine aGF ((F _ hKb (nsK hns)).run callerA [] s₁ H ⟨[.ref a],[]⟩ [.ref a] [.ref a] _ _ hr e0 (hbind s₁ (.ref a)) (.cons rfl .nil) (hsp H hO hS)) λr s' h=>?_
  cases r with
  |error e=>exact(hCX H e s' h).elim
  |ok fl =>
   cases fl with
   |next=>exact False.elim h
   |brk=>exact False.elim h
   |cont=>exact False.elim h
   |ret u =>
    obtain⟨v,H',os,bare,un,hok',r',q⟩:=h
    have q':v=.bl true:=q
    subst q'
    obtain rfl:u=Value.bool true:=r'
    refine⟨rfl,OldK.of_keep λb o e=>?_,os,bare⟩
    cases q:H b with
    |none=>exact un.keep b o e q (by intro z;exact absurd (show b∈([]:List Addr)from z) (by simp)) (by simp)
    |some u =>
     rcases hO b with z|⟨ob,xs,z⟩
     ·rw[q]at z;cases z
     ·have z2:=un.frzs b ob _ z
      obtain⟨e1,_⟩:=hok b _ z
      obtain⟨e2,_⟩:=hok' b _ z2
      rw[e]at e1;cases e1
      exact e2
 cases hk:K.lookup a with
 |some o =>
  have e:=KX a o hk
  rw[ha]at e
  cases e
  refine core (λ_=>none) (λ_=>.inl rfl) (.inr ⟨_,vs.toArray,_,hk,rfl,rfl,rfl,by rw[aAK,lenV];exact hl,by simpa using rv⟩) (λb u z=>by have z':(none:Option HO)=some u:=z;cases z') (λb z=>absurd rfl z) λz=>absurd rfl z
 |none =>
  refine core (λb=>if b=a then some (.frz {cls:=.type "list",data:=.seq vs.toArray} (.lst (ns.map V.int)))else none) (λb=>?_) (.inl (.inr ⟨{cls:=.type "list",data:=.seq vs.toArray},aAJ rfl⟩)) (λb u z=>?_) (λb z=>?_) λ_=>hk
  ·by_cases hb:b=a
   ·exact .inr ⟨_,_,aAJ hb⟩
   ·exact .inl (aAI hb)
  ·by_cases hb:b=a
   ·have z':=(aAJ hb).symm.trans z
    cases z'
    subst hb
    exact⟨ha,by rw[aAL];exact hl,vs,_,rv,ha⟩
   ·have z':=(aAI hb).symm.trans z
    cases z'
  ·by_cases hb:b=a
   ·exact hb
   ·exact absurd (aAI hb) z
abbrev KOf(_:K.In h):Frag:=K
theorem aFf{l:PySem.W.OpenLaw}{n k:Nat}{q:Program}{d:DefRec}{K:Params->Frag}{CX:World->CXT}{sp:World->Sp}
  (hn:l.most=some n)(hn2:n<=sizeLine)(hdf:d.params.defaults=[])(hr:Room k callerA)
  (hY:∀(w:World) (h:Heap),YP w h->(K w.params).In h)
  (F:∀(w:World) (mg:Str->Option Value) (fa:Addr) (h:Heap),(K w.params).In h->h.Ns mainGlobals mg->mg d.name=some (.ref fa) ->
   ∃fd:FuncData,(∀(s:Shared) (u:Value),BindsTo s fd ⟨[u],[]⟩ [(x,u)]) /\
    ∀base:Heap,(K w.params).In base->base.Ns mainGlobals mg->FnOk l.prog w (K w.params) mg base (CX w) k fa fd [x] (sp w))
  (hsp:∀(w:World) (H:Hp) (a:Addr) (ns:List Int),ns.length<=n->Only H->SqL (K w.params) H a (ns.map V.int)->sp w [.ref a] H (λv _=>v=.bl true) λ_ _ _=>False)
  (hCX:∀(w:World) (H:Hp) (s:Shared) (e:Value) (s':Shared),CX w [] H s (λ_ _ _=>False) e s'->False) :
  PySem.W.WalkO q loose XP YP l.row.toRowW d [] (λf vs=>PySem.call f vs):=by
 refine Att.attach_call hn hdf λw s₀ s₁ mg mb fa o pm cd doc a vs ns G Y ho hd hcd hmg hobj hints hlen hg=>?_
 have KX:=hY w _ Y
 obtain⟨fd,hb,hF⟩:=F w mg fa _ KX G.T.g hmg
 exact aJf KX G.T.g G.T.b G.T.builtins G.T.nolimit hg hobj hints (aBO hlen hn2) hr hF hb (λH hO hS=>hsp w H a ns hlen hO hS) λH e s'=>hCX w H s₁ e s'
def defArgs(s:Stmt):Arguments:=match s with
 |.FunctionDef _ a _ _ _ _ _ _ _ _=>a
 |_=>{posonlyargs:=[],args:=[],vararg:=none,kwonlyargs:=[],kw_defaults:=[],kwarg:=none,defaults:=[]}
def defBody(s:Stmt):List Stmt:=match s with
 |.FunctionDef _ _ b _ _ _ _ _ _ _=>b
 |_=>[]
def defScope(s:Stmt):Scope:=match s with
 |.FunctionDef _ _ _ _ _ _ sc _ _ _=>sc
 |_=>{kind:=.function,names:=[],isGenerator:=false,isCoroutine:=false}
abbrev CX0:CXT:=λ_ _ _ _ _ _=>False
abbrev E0:XK:=λ_ _ _=>False
theorem pass0:Passes CX0 X E0:=λ_ _ _ _ _ _ _ h=>h.elim
structure Fun(K:Frag)(x qual:Str)(st:Stmt)(f:Addr)(fd:FuncData):Prop where
 ex:∃(oc:Value) (od:Option Addr) (kV doc pm:Value) (an:Option Addr) (cdv ct:Value) (osl:Array (Option Value)),
  fd=fnOf x qual (defArgs st) (defBody st) (defScope st) .none kV doc pm an cdv ct/\K.lookup f=some ⟨oc,od,.func fd,osl⟩/\codeIn K cdv qual=true
 kp:keepIn K (.ref f)=true
variable{K:Frag}{f:Addr}
theorem Fun.ok{k:Nat}(F:Fun K x qual st f fd)(S:FnScope N ps (defScope st))(len:∀vs H Q E,sp vs H Q E->vs.length=ps.length)
  (hbody:∀(cdv:Value) (A:Around) (outer:List Env) (s:Shared) (H:Hp) (vs:List V) (Q:VK) (E:XK),Room k (A.deeper (envOfC qual (defScope st) s.heap.objs.size f cdv))->sp vs H Q E ->
   ∃t,PSs (cxOf CX0 P w K mg base N qual (defScope st) f cdv A outer s H E).nox (defBody st) t/\t {nx:=λ_ H'=>Q .non H',rt:=Q} (start N vs) H):FnOk P w K mg base CX0 (k+1) f fd ps sp:=by
 obtain⟨oc,od,kV,doc,pm,an,cdv,ct,osl,rfl,lk,hcd⟩:=F.ex
 refine aPu lk hcd S len λA outer s H vs Q E hr hsp=>?_
 obtain⟨t,h,q⟩:=hbody cdv A outer s H vs Q E hr hsp
 exact⟨t,h.nox,q⟩
theorem Fun.binds(F:Fun K x qual st f fd)
  (h:∀(kV doc pm:Value) (an:Option Addr) (cdv ct:Value) (us:List Value),us.length=ps.length->bindArgs (fnOf x qual (defArgs st) (defBody st) (defScope st) .none kV doc pm an cdv ct) ⟨us,[]⟩=pure (ps.zip us)):Binds K fd ps []:=by
 obtain⟨oc,od,kV,doc,pm,an,cdv,ct,osl,rfl,lk,hcd⟩:=F.ex
 exact .all (h kV doc pm an cdv ct)
theorem aL{oc:Value}{kV doc pm cdv ct:Value}(l:K.lookup f=some ⟨oc,od,.func (fnOf x qual (defArgs st) (defBody st) (defScope st) .none kV doc pm an cdv ct),osl⟩)
  (c:codeIn K cdv qual=true)(k:keepIn K (.ref f)=true):Fun K x qual st f (fnOf x qual (defArgs st) (defBody st) (defScope st) .none kV doc pm an cdv ct):=⟨⟨oc,od,kV,doc,pm,an,cdv,ct,osl,rfl,l,c⟩,k⟩
def Same(H H':Hp):Prop:=∀b o,H b=some o->H' b=some o
theorem Same.trans(a:Same H H1)(b:Same H1 H2):Same H H2:=λc o h=>b c o (a c o h)
theorem Same.free(e:Same H H'){l:Addr}(h:H' l=Option.none):H l=Option.none:=by
 cases q:H l with
 |none=>rfl
 |some o =>
  rw[e l o q]at h
  cases h
theorem Same.seq{xs:List V}(e:Same H H')(h:SqL K H a xs):SqL K H' a xs:=by
 rcases h with(h|⟨o,h⟩)|h
 ·exact .inl (.inl (e _ _ h))
 ·exact .inl (.inr ⟨o,e _ _ h⟩)
 ·exact .inr h
end L2
set_option maxHeartbeats 4000000
namespace L2
variable{tg:Expr}
def CDivW(_ j:Int):Prop:=0 < j/\j < 18446744073709551616
variable{n:Nat}
theorem aHl(h:n < 18446744073709551616):n.log2 < 9000:=by
 by_cases h0:n=0
 ·subst h0;decide
 ·have:n.log2 < 64:=(Nat.log2_lt h0).2 (by simpa using h)
  lia
theorem aKj:OpR X (binaryOp .FloorDiv) (rI CDivW λi j=>.int (i / j)):=opI λi j _ _ _ _ _ hc q=>by
 have h1:(0:Int) < j:=hc.1
 have h2:j < 18446744073709551616:=hc.2
 exact floordiv_int (by lia) (by rw[Int.fdiv_eq_ediv_of_nonneg i (by lia)];exact q) (.inl (PyProof.noPylong_of_log2 (aHl (by lia))))
def Itv(K:Frag)(a:Addr)(xs:List V):It :=
 ⟨λi H=>SqL K H a xs/\i < xs.length,λi H x H'=>H'=H/\xs[xs.length - 1 - i]?=some x,λi _=>xs.length<=i⟩
theorem aJw(a it:Addr)(xs:List V):Turn P w K tg (Itv K a xs) [it] it (λi h=>i<=xs.length/\h.IsRevIter it a ((xs.length:Int) - 1 - (i:Int)))where
 mem:=by simp
 obj:=λi h st b hb=>by
  have e:b=it:=by simpa using hb
  subst e
  obtain⟨o,e,c,d⟩:=st.2
  exact⟨o,e,λv z=>by rw[d]at z;cases z⟩
 keep:=λi h h' st k=>⟨st.1,st.2.at λo e=>k it (by simp) o e⟩
 item:=by
  intro X hP hw hK hc i pins s σ H E I hf st hg
  subst hP hw hK
  obtain⟨hq,hx⟩:=hg
  obtain⟨its,rv,p,hz⟩:=I.list hq
  have hlt:xs.length - 1 - i < xs.length:=by lia
  have hx':xs[xs.length - 1 - i]?=some xs[xs.length - 1 - i]:=aBB hlt
  obtain⟨u,hu,ru⟩:=rv.get hx'
  obtain⟨f0,f1,f2,f3,f4,f5⟩:=hf it (by simp)
  have st2:=st.2
  have e1:(xs.length:Int) - 1 - (i:Int)=((xs.length - 1 - i:Nat):Int):=by lia
  rw[e1]at st2
  refine wpAny_pyNext_rev_item st2 p.isList (x:=u) (by simpa using hu) λh' st' sb=>?_
  have I1:Inv X pins σ H {s with heap:=h'}:=I.turned (t':=s.toks) (λb o hb e=>(sb.2 b hb).trans e) f0 f1 f3 f4 f5
  have e2:((xs.length - 1 - i:Nat):Int) - 1=(xs.length:Int) - 1 - ((i+1:Nat):Int):=by lia
  rw[e2]at st'
  obtain⟨o,e,c,d⟩:=id st'
  exact⟨u,rfl,xU (s:={s with heap:=h'}) e c d (by decide) ⟨_,H,I1,ru,⟨rfl,hx'⟩,⟨hx,st'⟩,λb hb=>(hf b hb).1⟩⟩
 done:=by
  intro X hP hw hK hc i pins s σ H E I hf st hg
  subst hP hw hK
  have hx:xs.length<=i:=hg
  obtain⟨f0,f1,f2,f3,f4,f5⟩:=hf it (by simp)
  have st2:=st.2
  have h1:=st.1
  have e1:(xs.length:Int) - 1 - (i:Int) = -1:=by lia
  rw[e1]at st2
  exact wpAny_pyNext_rev_end (I.ok.hd hc) st2 λh' eb=>⟨rfl,I.turned (t':=s.toks) (λb o hb e=>eb b o hb e) f0 f1 f3 f4 f5⟩
 self:=λ_ _ _ _ _ st h=>wpAny_pyIter_revIter st.2 h
theorem aCk:bootBuiltins "reversed"=some (.type "reversed"):=by first|rfl|kernel_rfl
inductive IntsE:List Expr->List Int->Prop where
 |nil:IntsE [] []
 |cons {i:Int} {j:Nat} {p:Pos} {r:List Expr} {ns:List Int} (h:IntsE r ns):IntsE (.Constant (.int i) j p::r) (i::ns)
theorem aOd{es:List Expr}(h:IntsE es ns):PA X es (λ_ H Q=>Q (ns.map V.int) H):=by
 induction h with
 |nil=>exact fQ
 |cons h ih=>exact dC aMm ih
structure JE(X:Cx)(e:Expr)(t:TE):Prop where
 h:PE X e t
structure JS(X:Cx)(st:Stmt)(t:TS):Prop where
 h:PS X st t
structure JSs(X:Cx)(sts:List Stmt)(t:TS):Prop where
 h:PSs X sts t
theorem nS{env:Env}{f:Str×NameKind->List (Str×Addr)->Sem (ForInStep (List (Str×Addr)))}
  (hf:∀y acc c,y.2=NameKind.free->env.cells.lookup y.1=some c->f y acc=pure (.yield ((y.1,c)::acc)))(hf':∀y acc,y.2≠NameKind.free->f y acc=pure (.yield acc)) :
  ∀(names:List (Str×NameKind)) (acc:List (Str×Addr)),(∀y∈names,y.2=NameKind.free->∃c,env.cells.lookup y.1=some c)->(∀x c,acc.lookup x=some c->env.cells.lookup x=some c) ->
   ∃cl,forIn names acc f=(pure cl:Sem (List (Str×Addr)))/\(∀x c,cl.lookup x=some c->env.cells.lookup x=some c)/\(∀y∈names,y.2=NameKind.free->∃c,cl.lookup y.1=some c)/\(∀x c,acc.lookup x=some c->∃c',cl.lookup x=some c')
 |[],acc,_,ha=>⟨acc,rfl,ha,(λ_ h=>nomatch h),λx c h=>⟨c,h⟩⟩
 |y::r,acc,hn,ha=>by
  by_cases hy:y.2=NameKind.free
  ·obtain⟨c,hc⟩:=hn y aDM hy
   have ha':∀x d,((y.1,c)::acc).lookup x=some d->env.cells.lookup x=some d:=λx d h=>by
    rw[aCS]at h
    cases e:x==y.1 with
    |true =>
     rw[e]at h
     have:x=y.1:=by simpa using e
     subst this
     cases h
     exact hc
    |false=>rw[e]at h;exact ha x d h
   obtain⟨cl,h1,h2,h3,h4⟩:=nS hf hf' r _ (λz hz=>hn z (aCH _ hz)) ha'
   have hyl:∃c',cl.lookup y.1=some c':=h4 y.1 c (by rw[aCS];simp)
   refine⟨cl,?_,h2,λz hz hzf=>?_,λx d hx=>?_⟩
   ·rw[aEH,hf y acc c hy hc]
    exact h1
   ·rcases aAO.mp hz with rfl|hz
    ·exact hyl
    ·exact h3 z hz hzf
   ·by_cases e:x=y.1
    ·rw[e];exact hyl
    ·have e':(x==y.1)=false:=by simpa using e
     exact h4 x d (by rw[aCS,e'];exact hx)
  ·obtain⟨cl,h1,h2,h3,h4⟩:=nS hf hf' r acc (λz hz=>hn z (aCH _ hz)) ha
   refine⟨cl,?_,h2,λz hz hzf=>?_,h4⟩
   ·rw[aEH,hf' y acc hy]
    exact h1
   ·rcases aAO.mp hz with rfl|hz
    ·exact absurd hzf hy
    ·exact h3 z hz hzf
theorem oS{scope:Scope}(h:∀y∈scope.names,y.2=NameKind.free->∃c,env.cells.lookup y.1=some c) :
  ∃cl,closureFor scope env=pure cl/\(∀x c,cl.lookup x=some c->env.cells.lookup x=some c)/\(∀y∈scope.names,y.2=NameKind.free->∃c,cl.lookup y.1=some c):=by
 obtain⟨cl,h1,h2,h3,_⟩:=nS (env:=env) (f:=λx cs=>match x with
   |(name,kind)=>if(kind==NameKind.free)=true then do
     let a <- cellOf env name
     pure (ForInStep.yield ((name,a)::cs))
     else pure (ForInStep.yield cs)) (λy acc c hy hc=>by
    obtain⟨n,k⟩:=y
    simp only at hy hc
    subst hy
    simp only[beq_self_eq_true,aCQ,cellOf,hc]
    rfl) (λy acc hy=>by
    obtain⟨n,k⟩:=y
    simp only at hy
    have:(k==NameKind.free)=false:=by simpa using hy
    simp only[this,aBD,aDC]) scope.names [] h (λ_ _ z=>by simp at z)
 refine⟨cl,?_,h2,h3⟩
 show(forIn scope.names [] _ >>= λcs=>pure cs)=pure cl
 exact(congrArg (· >>= λcs=>(pure cs:Sem (List (Str×Addr)))) h1).trans rfl
theorem jJ{env:Env}(hk:env.scope.kind=.function):∀{names:List (Str×NameKind)} {x:Str},names.lookup x=some .free->env.kindOf x=some .cell ->
  (names.map λ(n,k)=>if(k==NameKind.free&&env.scope.kind==.function&&env.kindOf n==some .cell)then(n,NameKind.cell)else(n,k)).lookup x=some .cell
 |[],_,h,_=>by simp at h
 |(n,k)::r,x,h,hx=>by
  rw[aBC]
  rw[aCS]at h
  cases e:x==n with
  |true =>
   rw[e]at h
   have:x=n:=by simpa using e
   subst this
   cases h
   simp[hk,hx,aCS]
  |false =>
   rw[e]at h
   have ih:=jJ hk h hx
   simp only
   split <;> (rw[aCS,e];exact ih)
theorem iD{env:Env}:∀{names:List (Str×NameKind)} {x:Str} {k':NameKind},
  (names.map λ(n,k)=>if(k==NameKind.free&&env.scope.kind==.function&&env.kindOf n==some .cell)then(n,NameKind.cell)else(n,k)).lookup x=some k'->k'=.cell\/k'=.free ->
  ∃k,(x,k)∈names/\(k=.cell\/k=.free)
 |[],_,_,h,_=>by simp at h
 |(n,k)::r,x,k',h,hk=>by
  rw[aBC]at h
  simp only at h
  cases e:x==n with
  |true =>
   have:x=n:=by simpa using e
   subst this
   refine⟨k,aDM,?_⟩
   split at h
   ·rename_i hc
    simp only[aCO]at hc
    exact .inr (by simpa using hc.1.1)
   ·rw[aCS,e]at h
    cases h
    exact hk
  |false =>
   have h':(r.map λ(n,k)=>if(k==NameKind.free&&env.scope.kind==.function&&env.kindOf n==some .cell)then(n,NameKind.cell)else(n,k)).lookup x=some k':=by
    split at h <;> (rw[aCS,e]at h;exact h)
   obtain⟨k1,h1,h2⟩:=iD h' hk
   exact⟨k1,aCH _ h1,h2⟩
def compCx(X:Cx)(Nc:List Str)(scope:Scope)(cl:List (Str×Addr))(C:Addr)(fp:List Addr)(pins:List (Addr×Obj))(s₂:Shared)(H₂:Hp):Cx where
 prog:=X.prog
 w:=X.w
 K:=X.K
 mg:=X.mg
 base:=X.base
 A:=X.A
 N:=Nc
 s₀:=s₂
 H₀:=H₂
 env:=compEnvC scope cl C X.env
 outer:=X.stack
 stack:=X.stack
 ex:=fp
 fn:=λ_=>false
 calm:=true
 pn:=X.pn++pins
 xe:=λ_ _=>False
structure CompOk(N0:List Str)(sc0:Scope)(scope:Scope)(Nc:List Str)(js:List (Option Nat)):Prop where
 kind:scope.kind=.function
 nocell:∀y∈scope.names,y.2≠.cell
 names:∀y∈scope.names,y.2=.local->scope.names.lookup y.1=some .local
 free:∀y∈scope.names,y.2=.free->sc0.names.lookup y.1=some .cell
 len:js.length=Nc.length
 slots:∀p∈Nc.zip js,∀j∈p.2,N0[j]?=some p.1/\scope.names.lookup p.1=some .free/\sc0.names.lookup p.1=some .cell
def outσ(js:List (Option Nat))(σ:St):St:=js.map λo=>o.bind λj=>(σ[j]?).join
variable{σ:St}{H₂:Hp}{scope:Scope}{js:List (Option Nat)}
theorem aNk(I:Inv X pins σ H₂ s₂)(hc:X.calm=true)(T:CompOk X.N X.env.scope scope Nc js)(hcl:∀x c,cl.lookup x=some c->X.env.cells.lookup x=some c)(hfr:∀y∈scope.names,y.2=.free->∃c,cl.lookup y.1=some c)
  (hC:s₂.heap.objs.size<=C)(hf:∀b∈fp,FpOk X pins H₂ b)(ho:∀b∈fp,∃o,s₂.heap.get? b=some o):(compCx X Nc scope cl C fp pins s₂ H₂).Ok where
 mod:=I.ok.mod
 kind:=T.kind
 glob:=I.ok.glob
 blt:=I.ok.blt
 above:=hC
 inj:=λx y c h1 h2=>I.ok.inj x y c (hcl x c h1) (hcl y c h2)
 has:=λx hx=>by
  have hx':∃k',(relabel scope X.env).names.lookup x=some k'/\(k'=.cell\/k'=.free):=by
   rcases hx with h|h
   ·exact⟨_,h,.inl rfl⟩
   ·exact⟨_,h,.inr rfl⟩
  obtain⟨k',h1,h2⟩:=hx'
  obtain⟨k,h3,h4⟩:=iD h1 h2
  rcases h4 with rfl|rfl
  ·exact absurd rfl (T.nocell _ h3)
  ·exact hfr _ h3 rfl
 cab:=λx c h=>by cases h
 hd:=λ_=>I.ok.hd hc
 frames:=I.ok.frames
 stk:=.inl rfl
 exf:=λb hb=>by
  obtain⟨f0,f1,f2,f3,f4,f5⟩:=hf b hb
  obtain⟨o,e⟩:=ho b hb
  exact⟨aBJ (aAR (aAM e) hC),λx c h=>f4 x c (hcl x c h)⟩
 bs:=λb o e=>I.bs b o e
 bsz:=aBO I.ok.bsz I.sz
 noex:=λb o e hb=>by
  obtain⟨f0,f1,f2,f3,f4,f5⟩:=hf b hb
  rcases f3 with z|z
  ·exact I.ok.noex b o e z
  ·exact absurd (aAR (aAM (I.ok.bs b o e).1) z) (aDE _)
 exfs:=λb hb z=>by
  obtain⟨f0,f1,f2,f3,f4,f5⟩:=hf b hb
  rcases aAO.mp (I.stkSub b z)with q|q
  ·exact f1 q
  ·exact f2 q
 funs:=I.stack
 frf:=I.stkFree
theorem aEd(I:Inv X pins σ H₂ s₂)(hc:X.calm=true)(T:CompOk X.N X.env.scope scope Nc js)(hcl:∀x c,cl.lookup x=some c->X.env.cells.lookup x=some c)(hfr:∀y∈scope.names,y.2=.free->∃c,cl.lookup y.1=some c)
  (hf:∀b∈fp,FpOk X pins H₂ b)(ho:∀b∈fp,∃o,s₂.heap.get? b=some o){h₁:Heap}{m:Str->Option Value}{tk:Nat}(hC:C=s₂.heap.objs.size+1)(old:∀b u,s₂.heap.get? b=some u->h₁.get? b=some u)
  (hns:h₁.Ns C m)(hD:h₁.get? s₂.heap.objs.size=some {cls:=.type "list",data:=.seq #[] n}) :
  Inv (compCx X Nc scope cl C fp pins s₂ H₂) [] (outσ js σ) (upd H₂ s₂.heap.objs.size (.lst [])) {s₂ with heap:=h₁,toks:=tk}:=by
 have lt:∀b o,s₂.heap.get? b=some o->b < s₂.heap.objs.size:=λb o e=>aAM e
 have hle:s₂.heap.objs.size<=C:=by rw[hC];exact aGQ _
 have cellc:∀x c,cl.lookup x=some c->c < s₂.heap.objs.size:=λx c h=>by
  obtain⟨v,o,e,_⟩:=I.cell x c (hcl x c h)
  exact lt c o e
 have new:ObjOk X.prog X.w (upd H₂ s₂.heap.objs.size (.lst [])) h₁ s₂.heap.objs.size (.lst []):=⟨aFQ _,[],n,.nil,hD⟩
 refine⟨aNk I hc T hcl hfr hle hf ho,rfl,I.bare,?_,⟨m,hns,λi x v e1 e2 e3=>?_⟩,λx c h=>?_,?_,λx c h=>?_,λp hp=>?_,I.hok.laid old (aAH _) new,?_⟩
 ·exact Un.laid old (aAH _) (I.hok.fresh (aAH _))
 ·have e1:Nc[i]?=some x:=e1
  have e2':∃j,js[i]?=some (some j)/\σ[j]?=some (some v):=by
   unfold outσ at e2
   rw[aAV]at e2
   cases hj:js[i]? with
   |none=>rw[hj]at e2;cases e2
   |some o =>
    rw[hj]at e2
    cases o with
    |none=>cases e2
    |some j =>
     refine⟨j,rfl,?_⟩
     have e2:(σ[j]?).join=some v:=Option.some.inj e2
     cases hq:σ[j]? with
     |none=>rw[hq]at e2;cases e2
     |some o=>rw[hq]at e2;exact congrArg some e2
  obtain⟨j,hj,hv⟩:=e2'
  have hz:(x,some j)∈Nc.zip js:=by
   refine aAZ (i:=i) ?_
   rw[List.getElem?_zip_eq_some]
   exact⟨e1,hj⟩
  obtain⟨t1,t2,t3⟩:=T.slots _ hz j rfl
  obtain⟨m0,hn0,hl0⟩:=I.loc
  obtain⟨u,ru,lk⟩:=hl0 j x v t1 hv (.inr (.inl t3))
  refine⟨u,ru,.inr ⟨.inl (jJ I.ok.kind t2 t3),?_⟩⟩
  rcases lk with⟨k,_⟩|⟨_,c,hcc,hcell⟩
  ·have k:X.env.scope.names.lookup x=some .local:=k
   rw[t3]at k;cases k
  ·have hm:(x,NameKind.free)∈scope.names:=by
    have:∀(l:List (Str×NameKind)),l.lookup x=some .free->(x,NameKind.free)∈l:=λl=>by
     induction l with
     |nil=>intro h;simp at h
     |cons y r ih =>
      obtain⟨n',k'⟩:=y
      intro h
      rw[aCS]at h
      cases e:x==n' with
      |true =>
       rw[e]at h
       have:x=n':=by simpa using e
       subst this
       cases h
       exact aDM
      |false=>rw[e]at h;exact aCH _ (ih h)
    exact this _ t2
   obtain⟨c',hc'⟩:=hfr _ hm rfl
   have hc'':=hcl x c' hc'
   rw[hcc]at hc''
   cases hc''
   obtain⟨o,ho,hd⟩:=hcell
   exact⟨c,hc',o,old c o ho,hd⟩
 ·obtain⟨v,o,e,d⟩:=I.cell x c (hcl x c h)
  exact⟨v,o,old c o e,d⟩
 ·show upd H₂ _ _ C=none
  rw[bN (by rw[hC];exact aEN (aES _))]
  exact I.hok.fresh hle
 ·show upd H₂ _ _ c=none
  rw[bN (aBJ (cellc x c h))]
  exact I.freeC x c (hcl x c h)
 ·have hp:p∈X.pn++pins:=by
   have hp:p∈(X.pn++pins)++[]:=hp
   rwa[aEG]at hp
  obtain⟨e,n0,ne,nf,d⟩:=I.pin p hp
  have hlt:=lt _ _ e
  refine⟨old _ _ e,?_,?_,λz=>?_,d⟩
  ·show upd H₂ _ _ p.1=none
   rw[bN (aBJ hlt)];exact n0
  ·show p.1≠C
   exact aBJ (aAR hlt hle)
  ·rcases aAO.mp (I.stkSub _ z)with q|q
   ·exact ne q
   ·exact nf q
 ·show(outσ js σ).length=Nc.length
  unfold outσ
  rw[aAL]
  exact T.len
def tTurns(J:It)(g:TG)(ti:TT)(te:TE)(D:Addr)(σ0:St)(H0:Hp)(Q:Hp->Prop):Prop :=
 ∃W:Nat->Nat->St->Hp->Prop,(∃m,W 0 m σ0 H0)/\∀i m σ' H',W i m σ' H' ->
  (J.stop i H'/\Q H')\/(J.go i H'/\∃Nn:St->Hp->Prop,(∀σ'' H'',Nn σ'' H''->∃m',m' < m/\W (i+1) m' σ'' H'') /\
   ∀x H'',J.yld i H' x H''->g x σ' H'' λσ2 H2=>ti σ2 H2 λok H3=>if ok=true then te σ2 H3 λy H4=>∃ys,H4 D=some (.lst ys)/\ys.length < sizeLine/\Nn σ2 (upd H4 D (.lst (ys++[y])))else Nn σ2 H3)
def tComp(js:List (Option Nat))(wi:TI)(g:TG)(ti:TT)(te:TE):TE:=λσ H Q=>wi σ H λJ H1=>∀D,H1 D=none->tTurns J g ti te D (outσ js σ) (upd H1 D (.lst [])) λH'=>Q (.ref D) H'
def PIf(X:Cx)(ifs:List Expr)(ti:TT):Prop :=
 ∀(pins:List (Addr×Obj)) (s:Shared) (σ:St) (H:Hp) (Q:Bool->Hp->Prop),Inv X pins σ H s->ti σ H Q ->
  wpAny (model X.prog X.w) X.A (forIn ifs true λc r=>if r=true then do let ok <- isTrue c X.env (eval c X.env);pure (ForInStep.yield ok)else pure (ForInStep.yield r)) (TP X pins σ Q) X.xe s
def tYes:TT:=λ_ H Q=>Q true H
theorem aOg:PIf X [] tYes:=λ_ _ _ H _ I h=>wpAny_tests_nil ⟨H,I,h⟩
variable{E:Value->Shared->Prop}
theorem thnE{t:Sem α}{Q Q':α->Shared->Prop}{M:Model}{E0:Value->Shared->Prop}{s:Shared}(hE:∀e s,¬E0 e s)(h:wpAny M A t Q E0 s)(hQ:∀a s,Q a s->Q' a s):wpAny M A t Q' E s:=aDU h hQ λe s z=>(hE e s z).elim
variable{ifs:List Expr}{pos:Pos}{J:It}{g:TG}{ti:TT}{D:Addr}{σ0:St}{H0:Hp}{Q:Hp->Prop}
theorem aHq{Y:Cx}{iter elt:Expr}{fp:List Addr}{R:Result->Shared->Prop}{s:Shared}
  (hc:Y.calm=true)(hx:∀e s,¬Y.xe e s)(T:Turn Y.prog Y.w Y.K tg J fp it tn)(hg:PG Y tg g)(hi:PIf Y ifs ti)(he:PE Y elt te)
  (stat:∀H',(∀b∈fp,H' b=none)->∀b∈fp,FpOk Y [] H' b)(I0:Inv Y [] σ0 H0 s)(st0:tn 0 s.heap)(fr0:∀b∈fp,H0 b=none)(h:tTurns J g ti te D σ0 H0 Q)
  (hR:∀σ' H' s',Inv Y [] σ' H' s'->Q H'->R (.ok .next) s') :
  codeAny (model Y.prog Y.w) Y.A (.compLoop (.ListComp elt [⟨tg,iter,ifs,0⟩] scope pos) 0 (.ref it) (.ref D) Y.env) R s:=by
 obtain⟨W,⟨m0,w0⟩,turn⟩:=h
 refine codeAny_loop rfl (λn s'=>∃i σ' H',Inv Y [] σ' H' s'/\tn i s'.heap/\(∀b∈fp,H' b=none)/\W i n σ' H') (λn s' hI=>?_) m0 ⟨0,σ0,H0,I0,st0,fr0,w0⟩
 show wpAny _ Y.A ((compTurn (.ListComp elt [⟨tg,iter,ifs,0⟩] scope pos) 0 (.ref it) (.ref D) Y.env).onRaise (λx=>do noteFrame x Y.env;theTreesLotGoes x)) _ _ s'
 refine wpAny_noted ?_
 rw[compTurn_list]
 obtain⟨i,σ3,H3,I3,st3,fr3,w3⟩:=hI
 refine aAB (aEE (aAB ?_))
 rcases turn i n σ3 H3 w3 with⟨stop,qn⟩|⟨go,Nn,hN,step⟩
 ·refine aDU (T.done Y rfl rfl rfl hc i [] s' σ3 H3 _ I3 (stat H3 fr3) st3 stop) (λr s4 ⟨hr,I4⟩=>?_) (λ_ _ h=>h)
  subst hr
  exact aAF (hR σ3 H3 s4 I4 qn)
 ·refine aDU (T.item Y rfl rfl rfl hc i [] s' σ3 H3 _ I3 (stat H3 fr3) st3 go) (λr s4 ⟨u,hr,h4⟩=>?_) (λ_ _ h=>h)
  subst hr
  refine aAB (aDU h4 (λ_ s5 ⟨x,H5,I5,r5,y5,st5,fr5⟩=>?_) λ_ _ h=>h)
  have I5':=I5.pinned (stat H5 fr5) (T.obj _ _ st5)
  refine aAB (thnE hx (hg _ s5 σ3 H5 x u _ I5' r5 (step x H5 y5)) λ_ s6 ⟨σ6,H6,I6,q6⟩=>?_)
  refine aAB (thnE hx (hi _ s6 σ6 H6 _ I6 q6) λok s7 ⟨H7,I7,q7⟩=>?_)
  have again:∀{σ7:St} {H7:Hp} {s7:Shared},Inv Y ([]++pinsAt fp s5.heap) σ7 H7 s7->Nn σ7 H7->∃m,m < n/\∃i σ' H',Inv Y [] σ' H' s7/\tn i s7.heap/\(∀b∈fp,H' b=none)/\W i m σ' H':=λ{σ7 H7 s7} I7 n7=>by
   obtain⟨m',hm,w7⟩:=hN σ7 H7 n7
   refine⟨m',hm,i+1,σ7,H7,I7.unpinned,T.keep _ _ _ st5 λb hb o e=>(I7.pin (b,o) (aBX _ (aBX _ (mB hb e)))).1,λb hb=>?_,w7⟩
   obtain⟨o,e,d⟩:=T.obj _ _ st5 b hb
   exact(I7.pin (b,o) (aBX _ (aBX _ (mB hb e)))).2.1
  cases ok with
  |false=>exact aAF ⟨rfl,again I7 q7⟩
  |true =>
   refine aAB (aAB (thnE hx (he _ s7 σ6 H7 _ I7 q7) λy s8 ⟨yv,H8,I8,r8,ys,hD,hz,n8⟩=>aAB ?_))
   refine thnE hx (wP _ s8 σ6 H8 (.ref D) [yv] (.ref D) [y] (λ_ H9=>Nn σ6 H9) I8 rfl (.cons r8 .nil) ⟨D,ys,yv,rfl,rfl,hD,hz,n8⟩) λ_ s9 ⟨_,H9,I9,_,q9⟩=>?_
   exact aAF (aAF ⟨rfl,again I9 q9⟩)
variable{iter elt:Expr}{js:List (Option Nat)}{wi:TI}
structure CompEnd(X:Cx)(pins:List (Addr×Obj))(σ:St)(H':Hp)(C:Addr)(s':Shared):Prop where
 inv:Inv X pins σ H' s'
 ns:∃m,s'.heap.Ns C m
 no:H' C=none
 ne:C≠X.env.locals
 ge:X.s₀.heap.objs.size<=C
 nc:∀x c,X.env.cells.lookup x=some c->c≠C
 np:∀p∈X.pn++pins,p.1≠C
theorem CompEnd.go{σ':St}{t:Shared}(e:CompEnd X pins σ H' C s')(I:Inv X pins σ' H' t)(hs:Heap.SameBut C t.heap h'):Inv X pins σ' H' {t with heap:=h'} :=
 I.turned (t':=t.toks) (it:=C) (λb o hb q=>(hs.2 b hb).trans q) e.no e.ne (.inr e.ge) e.nc e.np
theorem uU{pins:List (Addr×Obj)}{H₂:Hp}{s₂:Shared}{fp:List Addr}{cl:List (Str×Addr)}{RR:Value->Addr->Result->Shared->Prop}{Q':Addr->Hp->Prop}
  (hc:X.calm=true)(T:CompOk X.N X.env.scope scope Nc js)(hcl:∀x c,cl.lookup x=some c->X.env.cells.lookup x=some c)(hfr:∀y∈scope.names,y.2=.free->∃c,cl.lookup y.1=some c)
  (hg:∀cl C fp pins s₂ H₂,PG (compCx X Nc scope cl C fp pins s₂ H₂) tg g)(hi:∀cl C fp pins s₂ H₂,PIf (compCx X Nc scope cl C fp pins s₂ H₂) ifs ti)(he:∀cl C fp pins s₂ H₂,PE (compCx X Nc scope cl C fp pins s₂ H₂) elt te)
  (I2:Inv X pins σ H₂ s₂)(Tn:Turn X.prog X.w X.K tg J fp it tn)(st2:tn 0 s₂.heap)(f2:∀b∈fp,FpOk X pins H₂ b)
  (q:∀D,H₂ D=none->tTurns J g ti te D (outσ js σ) (upd H₂ D (.lst [])) (Q' D))
  (hRR:∀D C H' s',CompEnd X pins σ H' C s'->Q' D H'->RR (.ref D) C (.ok .next) s') :
  wpAny (model X.prog X.w) X.A (newList []) (λacc s₃=>wpAny (model X.prog X.w) X.A (newFunctionEnv scope X.env.globals cl [] X.env.qual none .none (some X.env)) (λcenv s₄ =>
   codeAny (model X.prog X.w) X.A (.compStart (.ListComp elt [⟨tg,iter,ifs,0⟩] scope pos) 0 (.ref it) acc {cenv with scope:=relabel scope X.env}) (RR acc cenv.locals) s₄) E s₃) E s₂:=by
 refine aCC (wpAny_newFunctionEnv T.nocell (by intro y hy;simp at hy) (λh₁ hns₁ hsb₁=>?_) T.kind)
 dsimp only at hns₁ hsb₁ ⊢
 generalize hH2:s₂.heap.push {cls:=.type "list",dict:=none,data:=.seq ([]:List Value).toArray}=Hx at hns₁ hsb₁ ⊢
 have hC:Hx.objs.size=s₂.heap.objs.size+1:=by rw[<- hH2,aAX]
 have below:∀b,b < s₂.heap.objs.size->b≠Hx.objs.size:=λb hb=>by rw[hC];exact aBJ (aFM hb)
 have old:∀b o,s₂.heap.get? b=some o->h₁.get? b=some o:=λb o e=>hsb₁.extBut b o (below b (aAM e)) (aAA _ (hH2▸aAA _ e))
 have hD:h₁.get? s₂.heap.objs.size=some {cls:=.type "list",data:=.seq #[]}:=hsb₁.extBut _ _ (by rw[hC];exact aBJ (aES _)) (aAA _ (hH2▸aAE _ rfl))
 have ho:∀b∈fp,∃o,s₂.heap.get? b=some o:=λb hb=>let⟨o,e,_⟩:=Tn.obj _ _ st2 b hb;⟨o,e⟩
 have hDn:H₂ s₂.heap.objs.size=none:=I2.hok.fresh (aAH _)
 have hle:s₂.heap.objs.size<=Hx.objs.size:=by rw[hC];exact aGQ _
 have st1:tn 0 h₁:=Tn.keep _ _ _ st2 λb _ o e=>old b o e
 have fr1:∀b∈fp,upd H₂ s₂.heap.objs.size (.lst []) b=none:=λb hb=>by
  obtain⟨o,e⟩:=ho b hb
  rw[bN (aBJ (aAM e))]
  exact(f2 b hb).1
 have stat:∀H',(∀b∈fp,H' b=none)->∀b∈fp,FpOk (compCx X Nc scope cl Hx.objs.size fp pins s₂ H₂) [] H' b:=λH' hn b hb=>by
  obtain⟨g0,g1,g2,g3,g4,g5⟩:=f2 b hb
  obtain⟨o,e⟩:=ho b hb
  refine⟨hn b hb,below b (aAM e),λz=>?_,.inl hb,λx c h=>g4 x c (hcl x c h),λp hp=>g5 p ?_⟩
  ·rcases aAO.mp (I2.stkSub b z)with y|y
   ·exact g1 y
   ·exact g2 y
  ·have hp:p∈(X.pn++pins)++[]:=hp
   rwa[aEG]at hp
 have loop:∀tk,codeAny (model X.prog X.w) X.A (.compLoop (.ListComp elt [⟨tg,iter,ifs,0⟩] scope pos) 0 (.ref it) (.ref s₂.heap.objs.size) (compEnvC scope cl Hx.objs.size X.env)) (RR (.ref s₂.heap.objs.size) Hx.objs.size) {s₂ with heap:=h₁,toks:=tk}:=λtk=>by
  refine aHq (Y:=compCx X Nc scope cl Hx.objs.size fp pins s₂ H₂) rfl (λ_ _ z=>z) Tn (hg _ _ _ _ _ _) (hi _ _ _ _ _ _) (he _ _ _ _ _ _) stat
   (aEd (tk:=tk) I2 hc T hcl hfr f2 ho hC old hns₁ hD) st1 fr1 (q _ hDn) λσ' H' s' I' qQ=>?_
  obtain⟨m,hm,_⟩:=I'.loc
  refine hRR _ _ H' s' ⟨?_,⟨m,hm⟩,I'.free,aEN (aAR I2.lt hle),aBO I2.sz hle,λx c h=>?_,λp hp=>?_⟩ qQ
  ·exact I2.call' (ch:=fp) I'.os I'.base I'.hok I'.bare λb hb=>let⟨g0,g1,g2,g3,g4,g5⟩:=f2 b hb;⟨g3,g1,g4,g5⟩
  ·obtain⟨v,o,e,_⟩:=I2.cell x c h
   exact below c (aAM e)
  ·exact below _ (aAM (I2.pin p hp).1)
 exact codeAny_compStart_list (loop _) (Tn.self _ _ _ _ _ st1 (loop _))
theorem aOo(hc:X.calm=true)(T:CompOk X.N X.env.scope scope Nc js)(hit:PI X tg iter wi)
  (hg:∀cl C fp pins s₂ H₂,PG (compCx X Nc scope cl C fp pins s₂ H₂) tg g)(hi:∀cl C fp pins s₂ H₂,PIf (compCx X Nc scope cl C fp pins s₂ H₂) ifs ti)(he:∀cl C fp pins s₂ H₂,PE (compCx X Nc scope cl C fp pins s₂ H₂) elt te)
  (hs:∀x,foldedSetIterable iter X.env x=pure x:=by intro _;rfl):PE X (.ListComp elt [⟨tg,iter,ifs,0⟩] scope pos) (tComp js wi g ti te):=by
 intro pins s σ H Q I h
 rw[eval_ListComp]
 obtain⟨cl,hcl0,hcl,hfr⟩:=oS (scope:=scope) (env:=X.env) (λy hy hf=>I.ok.has y.1 (.inl (T.free y hy hf)))
 refine wpAny_comprehension_free (use:=none) rfl hs hcl0 T.kind T.names (thn (hit pins s σ H _ I h) λxv s1 h1=>thn h1 λitv s2 h2=>?_)
 obtain⟨it,fp,tn,J,H2,e,I2,Tn,st2,f2,q⟩:=h2
 subst e
 refine uU (RR:=λacc C=>compPost (model X.prog X.w) X.A X.xe none (EP X pins σ Q) acc C) hc T hcl hfr hg hi he I2 Tn st2 f2 q λD C H' s' ce qD=>?_
 obtain⟨m,hm⟩:=ce.ns
 exact⟨m,hm,λh' hs'=>⟨.ref D,H',ce.go ce.inv hs',rfl,qD⟩⟩
theorem aOq{spos:Pos}(hN:X.N.Nodup)(hyi:X.N[i]?=some y)(hy:X.env.scope.names.lookup y=some .local)(hc:X.calm=true)(T:CompOk X.N X.env.scope scope Nc js)(hit:PI X tg iter wi)
  (hg:∀cl C fp pins s₂ H₂,PG (compCx X Nc scope cl C fp pins s₂ H₂) tg g)(hi:∀cl C fp pins s₂ H₂,PIf (compCx X Nc scope cl C fp pins s₂ H₂) ifs ti)(he:∀cl C fp pins s₂ H₂,PE (compCx X Nc scope cl C fp pins s₂ H₂) elt te)
  (hsw:swapsWith (.ListComp elt [⟨tg,iter,ifs,0⟩] scope pos) (some (.Name y py)) spos.line X.env=pure true:=by rfl)
  (hs:∀x,foldedSetIterable iter X.env x=pure x:=by intro _;rfl):PS X (.Assign [.Name y py] (.ListComp elt [⟨tg,iter,ifs,0⟩] scope pos) spos) (tAsg (tComp js wi g ti te) (gName i)):=by
 intro pins s σ H D0 I h
 rw[exec_Assign_Name_used _ _ _ _ hsw]
 obtain⟨cl,hcl0,hcl,hfr⟩:=oS (scope:=scope) (env:=X.env) (λy hy hf=>I.ok.has y.1 (.inl (T.free y hy hf)))
 refine aAB (aEE (aAB ?_))
 show wpAny _ X.A (do let _ <- comprehension (.ListComp elt [⟨tg,iter,ifs,0⟩] scope pos) scope X.env _ (newList []) false (eval iter X.env) (some (assign (.Name y py) X.env))) _ _ s
 refine aAB (aDU (wpAny_comprehension_free (use:=some (assign (.Name y py) X.env)) (Q:=λ_ s'=>SP X pins D0 .next s') rfl hs hcl0 T.kind T.names
  (thn (hit pins s σ H _ I h) λxv s1 h1=>thn h1 λitv s2 h2=>?_)) (λ_ s' hq=>aAF (aAF hq)) λ_ _ e=>e)
 obtain⟨it,fp,tn,J,H2,e,I2,Tn,st2,f2,q⟩:=h2
 subst e
 refine uU (RR:=λacc C=>compPost (model X.prog X.w) X.A X.xe (some (assign (.Name y py) X.env)) (λ_ s'=>SP X pins D0 .next s') acc C) hc T hcl hfr hg hi he I2 Tn st2 f2 q λD C H' s' ce qD=>?_
 obtain⟨m,hm⟩:=ce.ns
 show wpAny _ _ (assign (.Name y py) X.env (.ref D)) _ _ _
 refine wpAny_assign_Name (xJ (v:=.ref D) ce.inv hN hyi (.inl hy) rfl (λs'' I'' ⟨a,sb,ha⟩=>?_) (.inr hy))
 have hCa:C≠a:=by
  rcases ha with rfl|ha
  ·exact ce.ne
  ·exact λz=>ce.nc y a ha z.symm
 exact⟨m,hm.sameBut sb hCa,λh' hs'=>⟨_,H',ce.go I'' hs',qD⟩⟩
def compOkB(N0:List Str)(sc0 scope:Scope)(Nc:List Str)(js:List (Option Nat)):Bool :=
 decide (scope.kind=.function)&&scope.names.all (λy=>y.2 != .cell)&&scope.names.all (λy=>y.2 != .local || scope.names.lookup y.1==some .local)&&scope.names.all (λy=>y.2 != .free || sc0.names.lookup y.1==some .cell) &&
  (js.length==Nc.length)&&(Nc.zip js).all (λp=>match p.2 with|none=>true|some j=>N0[j]?==some p.1&&scope.names.lookup p.1==some .free&&sc0.names.lookup p.1==some .cell)
theorem CompOk.of{N0:List Str}{sc0:Scope}(h:compOkB N0 sc0 scope Nc js=true):CompOk N0 sc0 scope Nc js:=by
 unfold compOkB at h
 simp only[aCO,List.all_eq_true,beq_iff_eq,aAU]at h
 obtain⟨⟨⟨⟨⟨h1,h2⟩,h3⟩,h4⟩,h5⟩,h6⟩:=h
 refine⟨h1,λy hy=>by simpa using h2 y hy,λy hy e=>?_,λy hy e=>?_,h5,λp hp j hj=>?_⟩
 ·have:=h3 y hy
  simpa[e]using this
 ·have:=h4 y hy
  simpa[e]using this
 ·have:=h6 p hp
  have hj:p.2=some j:=hj
  rw[hj]at this
  simpa[and_assoc]using this
section
variable{a b:Expr}{rest:List Expr}
theorem nF(r:Addr)(a b c:Int)(t u v:Tok)
  (hc0:¬(!(Builtin.Range.rangeFitsLong a&&Builtin.Range.rangeFitsLong b&&Builtin.Range.rangeFitsLong c&&Builtin.Range.rangeFitsLong (-c)&&Builtin.Range.rangeFitsLong (a - c)&&Builtin.Range.rangeFitsLong (Builtin.Range.rangeSize a b c)))=true) :
  Meets (Builtin.«range.__reversed__» ⟨[.ref r],[]⟩) (λ_ R s=>s.heap.get? r=some {cls:=.type "range",dict:=none,data:=.fields #[.int a t,.int b u,.int c v],slots:=#[]} /\
   R (.ok (.ret (Value.ref s.heap.objs.size))) {s with heap:=s.heap.push {cls:=Value.type "range_iterator",data:=Data.fields #[rawInt (a+(Builtin.Range.rangeSize a b c - 1)*c),rawInt (Builtin.Range.rangeSize a b c),rawInt (-c)]},toks:=s.toks}) :=
 .of_wp λprog w A R s h=>by
  obtain⟨hp,g,d,tk,os⟩:=s
  obtain⟨hl,h⟩:=h
  have e:(Builtin.Range.rangeFitsLong a&&Builtin.Range.rangeFitsLong b&&Builtin.Range.rangeFitsLong c&&Builtin.Range.rangeFitsLong (-c)&&Builtin.Range.rangeFitsLong (a - c)&&Builtin.Range.rangeFitsLong (Builtin.Range.rangeSize a b c))=true:=by
   cases z:(Builtin.Range.rangeFitsLong a&&Builtin.Range.rangeFitsLong b&&Builtin.Range.rangeFitsLong c&&Builtin.Range.rangeFitsLong (-c)&&Builtin.Range.rangeFitsLong (a - c)&&Builtin.Range.rangeFitsLong (Builtin.Range.rangeSize a b c))with
   |true=>rfl
   |false=>rw[z]at hc0;exact absurd rfl hc0
  wp_walk
  simp only[e,aCQ]
  exact⟨_,rfl,h⟩
end
theorem sL:isSubtype (.type "range_iterator") (.type "reversed")=pure false:=by rw[aEM];kernel_rfl
variable{prog:Program}
theorem fits62{a:Int}(h1 : -(2 ^ 62)<=a)(h2:a < 2 ^ 62):Builtin.Range.rangeFitsLong a=true:=by
 unfold Builtin.Range.rangeFitsLong
 simp only[aCO,aAU]
 lia
variable{n:Int}
theorem aKa(h0:0<=n):Builtin.Range.rangeSize 0 n 1=n:=by
 unfold Builtin.Range.rangeSize
 rw[aAJ (by decide)]
 split
 ·lia
 ·lia
variable{r:Addr}{u v:Tok}{Q:Value->Shared->Prop}
theorem oH{t:Tok}(hl:s.heap.get? r=some {cls:=.type "range",data:=.fields #[.int 0 t,.int n u,.int 1 v]})(h0:0<=n)(h1:n < 2 ^ 62)
  (h:Q (.ref s.heap.objs.size) {s with heap:=s.heap.push {cls:=.type "range_iterator",data:=.fields #[rawInt (n - 1),rawInt n,rawInt (-1)]}}):wpAny (model prog w) A (call (.builtin "range.__reversed__") [.ref r]) Q E s:=by
 have hT:s.TypeIs (.ref r) "range":=⟨_,hl,rfl⟩
 have hf:(Builtin.Range.rangeFitsLong 0&&Builtin.Range.rangeFitsLong n&&Builtin.Range.rangeFitsLong 1&&Builtin.Range.rangeFitsLong (-1)&&Builtin.Range.rangeFitsLong (0 - 1)&&Builtin.Range.rangeFitsLong (Builtin.Range.rangeSize 0 n 1))=true:=by
  rw[aKa h0,fits62 (a:=0) (by decide) (by decide),fits62 (a:=n) (by lia) h1,fits62 (a:=1) (by decide) (by decide),fits62 (a := -1) (by decide) (by decide),fits62 (a:=0 - 1) (by decide) (by decide)]
  all_goals rfl
 refine aCT aFW hT F.entry_range_reversed (F.args_range_reversed_1 _) (nF r 0 n 1 t u v (by rw[hf];simp)) ⟨hl,?_⟩
 rw[aKa h0,show(0:Int)+(n - 1)*1=n - 1 by lia]
 exact h
theorem oY{t:Tok}{Q₁:Value->Shared->Prop}(hl:s.heap.get? r=some {cls:=.type "range",data:=.fields #[.int 0 t,.int n u,.int 1 v]})(h0:0<=n)(h1:n < 2 ^ 62)
  (h:Q₁ (.ref s.heap.objs.size) {s with heap:=s.heap.push {cls:=.type "range_iterator",data:=.fields #[rawInt (n - 1),rawInt n,rawInt (-1)]}}) :
  codeAny (model prog w) A (.call (.builtin "reversed.__new__") ⟨[.type "reversed",.ref r],[]⟩) (wants Q₁ E) s:=by
 have hT:s.TypeIs (.ref r) "range":=⟨_,hl,rfl⟩
 refine codeAny_of_tree ?_
 show wpAny _ A.in1 (do checkBuiltinCall "reversed.__new__" ⟨[.type "reversed",.ref r],[]⟩;again (.builtin "reversed.__new__" ⟨[.type "reversed",.ref r],[]⟩)) _ _ s
 refine aAB (aCB (F.newCall_reversed_1 _) (aAF ⟨plainId_quiet F.plain_reversed_new _,codeAny_builtin F.entry_reversed_new ?_⟩))
 rw[Around.under_plainId F.plain_reversed_new _]
 unfold Builtin.«reversed.__new__»
 refine aAB (aCB (newClass_reversed _) ?_)
 try dsimp only
 refine aAB (aCB (a:=()) (by first|rfl|kernel_rfl) ?_)
 refine aAB (aCB (a:=()) (by first|rfl|kernel_rfl) ?_)
 try dsimp only
 refine aAB (aEW hT aFW.lookup ?_)
 try dsimp only
 refine aAB (aCB (aFW.bind _) ?_)
 try dsimp only
 first
 |rw[aAI (show ¬((Value.builtin "range.__reversed__"==Value.none)=true)from aBG)]
 |(show wpAny _ _ (if(Value.builtin "range.__reversed__"==Value.none)=true then _ else _) _ _ _;rw[aAI (show ¬((Value.builtin "range.__reversed__"==Value.none)=true)from aBG)])
 refine aAB (aDA ?_)
 refine aAB (m:=runValue (.call (.builtin "range.__reversed__") ⟨[.ref r],[]⟩)) (show wpAny _ _ (call (.builtin "range.__reversed__") [.ref r]) _ _ _ from oH hl h0 h1 ?_)
 first
 |exact aAF h
 |exact aAB (aAF (aAF h))
theorem oI{t:Tok}(hl:s.heap.get? r=some {cls:=.type "range",data:=.fields #[.int 0 t,.int n u,.int 1 v]})(h0:0<=n)(h1:n < 2 ^ 62)
  (h:Q (.ref s.heap.objs.size) {s with heap:=s.heap.push {cls:=.type "range_iterator",data:=.fields #[rawInt (n - 1),rawInt n,rawInt (-1)]}}):wpAny (model prog w) A (call (.type "reversed") [.ref r]) Q E s:=by
 refine callType_other (U:="range_iterator") (Q₁:=λobj s₁=>obj=.ref s.heap.objs.size/\s₁={s with heap:=s.heap.push {cls:=.type "range_iterator",data:=.fields #[rawInt (n - 1),rawInt n,rawInt (-1)]}}) (by decide +kernel) F.create_reversed ⟨_,_,F.mro_reversed⟩ F.made_reversed sL (F.typeCall_reversed_1 _) (oY hl h0 h1 ⟨rfl,rfl⟩) ?_
 rintro obj s₁ ⟨rfl,rfl⟩
 exact⟨⟨_,aAE _ rfl,rfl⟩,h⟩
theorem sG:CallR X (.type "range") (λxs H Q=>∃j,xs=[.int j]/\∀p,H p=none->Q (.ref p) (upd H p (.rng 0 j))):=by
 intro pins s σ H xs us Q I r h
 obtain⟨j,e,q⟩:=h
 subst e
 obtain⟨u,rfl,r1⟩:=vals1 r
 obtain⟨t,rfl⟩:=r1
 refine call_range_1 ⟨.ref s.heap.objs.size,upd H s.heap.objs.size (.rng 0 j),?_,rfl,q _ (I.hok.fresh (aAH _))⟩
 exact I.laid (λb u e=>aAA _ e) (aAH _) ⟨_,_,_,aAE _ rfl⟩
def Itd(n:Nat):It:=⟨λi _=>i < n,λi H x H'=>H'=H/\x=.int ((n:Int) - 1 - i),λi _=>n<=i⟩
theorem aHd(it:Addr)(n:Nat):Turn P w K tg (Itd n) [it] it (λi h=>IsRangeIter h it ((n:Int) - 1+(i:Nat)*(-1)) ((n:Int) - (i:Nat)) (-1))where
 mem:=by simp
 obj:=λi h st b hb=>by
  have e:b=it:=by simpa using hb
  subst e
  exact⟨_,st,λv z=>by
   have z':Data.fields _=Data.cell v:=z
   cases z'⟩
 keep:=λi h h' st k=>k it (by simp) _ st
 item:=by
  intro X hP hw hK hc i pins s σ H E I hf st hg
  subst hP hw hK
  obtain⟨f0,f1,f2,f3,f4,f5⟩:=hf it (by simp)
  have W:=Walks.range (prog:=X.prog) (w:=X.w) (I.ok.hd hc) it ((n:Int) - 1) (-1) n
  refine W.item i s _ _ hg st λv h' tk hv st' kk=>?_
  obtain⟨t,rfl⟩:=hv
  have I1:Inv X pins σ H {s with heap:=h',toks:=tk}:=I.turned (λb o hb e=>kk b o (by simpa using hb) e) f0 f1 f3 f4 f5
  refine⟨_,rfl,xU (s:={s with heap:=h',toks:=tk}) (n:="range_iterator") st' rfl rfl (by decide) ⟨.int ((n:Int) - 1 - i),H,I1,⟨t,?_⟩,⟨rfl,rfl⟩,st',λb hb=>(hf b hb).1⟩⟩
  rw[show(n:Int) - 1+(i:Int) * -1=(n:Int) - 1 - i by lia]
 done:=by
  intro X hP hw hK hc i pins s σ H E I hf st hg
  subst hP hw hK
  obtain⟨f0,f1,f2,f3,f4,f5⟩:=hf it (by simp)
  exact wpAny_pyNext_range_end (I.ok.hd hc) st (by have:n<=i:=hg;lia) λh' eb=>⟨rfl,I.turned (t':=s.toks) (λb o hb e=>eb b o hb e) f0 f1 f3 f4 f5⟩
 self:=λ_ _ _ _ _ st h=>aFO st h
def iRevR(ta:TA):TI:=λσ H R=>ta σ H λvs H1=>∃a j,vs=[.ref a]/\H1 a=some (.rng 0 j)/\0<=j/\j < 2 ^ 62/\R (Itd j.toNat) H1
theorem aMw{a:Expr}{ta:TA}(hg:Gl X "reversed")(hm:X.mg "reversed"=none)(ha:PA X [a] ta)(hs:starEach [a] X.env=[(false,eval a X.env)]:=by rfl):PI X tg (.Call (.Name "reversed" p) [a] [] pos) (iRevR ta):=by
 intro pins s σ H R I h
 refine Call_ (nJ I hg hm aCk (aCN (thn (ha pos pins s σ H _ I h) λus s1 ⟨vs,H1,I1,r1,q1⟩=>?_) hs rfl))
 obtain⟨b,j,e,hq,j0,j1,q⟩:=q1
 subst e
 cases r1 with
 |cons r rr =>
  cases rr
  cases r
  obtain⟨t,u,v,ho⟩:=(show ObjOk X.prog X.w H1 s1.heap b (.rng 0 j)from I1.hok b _ hq)
  have I2:Inv X pins σ H1 {s1 with heap:=s1.heap.push {cls:=.type "range_iterator",data:=.fields #[rawInt (j - 1),rawInt j,rawInt (-1)]}}:=I1.kept (t':=s1.toks) λb o e=>aAA _ e
  refine oI ho j0 j1 (aFO (aAE _ rfl) ?_)
  refine⟨s1.heap.objs.size,[s1.heap.objs.size],_,_,H1,rfl,I2,aHd _ j.toNat,?_,λc hb=>?_,q⟩
  ·show IsRangeIter _ _ (((j.toNat:Nat):Int) - 1+((0:Nat):Int)*(-1)) (((j.toNat:Nat):Int) - ((0:Nat):Int)) (-1)
   rw[show((j.toNat:Nat):Int) - 1+((0:Nat):Int)*(-1)=j - 1 by lia,show((j.toNat:Nat):Int) - ((0:Nat):Int)=j by lia]
   exact aAE _ rfl
  ·have e:c=s1.heap.objs.size:=by simpa using hb
   subst e
   exact I1.fpOk (aAH _) (I1.hok.fresh (aAH _))
section
variable{rest:List Stmt}{t u:TS}
end
theorem aDj:bootBuiltins "int"=some (.type "int"):=by decide +kernel
theorem aCu:bootBuiltins "max"=some (.builtin "max"):=by decide +kernel
theorem aRo:bootBuiltins "min"=some (.builtin "min"):=by decide +kernel
theorem hX:bootBuiltins "tuple"=some (.type "tuple"):=by decide +kernel
theorem aCn:bootBuiltins "str"=some (.type "str"):=by decide +kernel
theorem aRi:bootBuiltins "zip"=some (.type "zip"):=by decide +kernel
theorem yD:bootBuiltins "enumerate"=some (.type "enumerate"):=by decide +kernel
theorem aHn:bootBuiltins "sorted"=some (.builtin "sorted"):=by decide +kernel
end L2
end
namespace L2
open PySem
def SB(l:Addr)(H H':Hp):Prop:=∀x o,x≠l->H x=some o->H' x=some o
theorem SB.trans{l:Addr}(s:SB l H H1)(t:SB l H1 H2):SB l H H2:=λx u n e=>t x u n (s x u n e)
open PySem.Spec PyProof.Rows
end L2
namespace Com
open PySem L2
structure IW(n k high low past now:Int):Prop where
 h0:0<=high
 hb:high<=1000000
 l0:0<=low
 lb:low<=1000000
 g:Int.gcd high low=Int.gcd n (k % n)
 d1:n ∣ k*past - high
 d2:n ∣ k*now - low
structure PV(n k e told square left:Int):Prop where
 t0:0<=told
 t1:told < n
 s0:0<=square
 s1:square < n
 l0:0<=left
 eq:told*square ^ left.toNat % n=k ^ e.toNat % n
def bitsN:List Int->Nat
 |[]=>0
 |b::r=>b.toNat+2*bitsN r
structure DG(e0 e:Int)(ds:List Int):Prop where
 nn:0<=e
 bit:∀d∈ds,d=0\/d=1
 len:∃m:Nat,e.toNat < 2 ^ m/\ds.length+m=62
 val:∀r,bitsN r=e.toNat->bitsN (ds++r)=e0.toNat
def BoxAt(H:Hp)(b:Addr):Prop:=∃c s t:Int,H b=some (.lst [.int c,.int s,.int t])
def Keep(b:Addr)(H H':Hp):Prop:=(∀a o,a≠b->H a=some o->H' a=some o)/\BoxAt H' b
theorem Keep.trans{b:Addr}(x:Keep b H H1)(y:Keep b H1 H2):Keep b H H2:=⟨λa o n e=>y.1 a o n (x.1 a o n e),y.2⟩
end Com
section
open PySem PySem.Spec PyProof.Rows
namespace L2
variable{K:Frag}
section
variable{W:World}{Ar:Around}{Ex:Value->Shared->Prop}{hp:Heap}{gn:Array GenState}{dr:Drawn}{tk:Nat}{oz:OsState}{nm qn:Str}{N:Addr}{bs bmB:List Value}{hdct:Bool}{sn:List Str}{sub:List Value}{ab:Bool}{col:Option Bool}{dd:Option Addr}{k0 k1 k2 k3 k5:Option Value}{B newId initId:String}
end
def XRec(P:Addr->Prop)(H:Hp)(h:Heap)(e C:Addr)(d:Option Addr):Prop :=
 ∃vs sl,h.get? e=some ⟨.ref C,d,.fields vs,sl⟩/\1 < vs.size /\
  (vs[1]?=some .none\/∃T cT dT ts sT,vs[1]?=some (.ref T)/\P T/\H T=none/\h.get? T=some ⟨cT,dT,.fields ts,sT⟩/\3 < ts.size)
variable{M:Model}{E:Value->Shared->Prop}{L e:Addr}{P:Addr->Prop}{Q:Unit->Shared->Prop}
def XO(e C:Addr)(d:Option Addr):HO:=.ext λh=>∃vs sl,h.get? e=some ⟨.ref C,d,.fields vs,sl⟩
variable{P:Program}
theorem XO.ok{vs:Array Value}(q:h.get? e=some ⟨.ref C,d,.fields vs,sl⟩):ObjOk P w H h e (XO e C d) :=
 ⟨⟨vs,sl,q⟩,⟨_,q⟩,λh1 h2 ⟨vs,sl,z⟩ k=>⟨vs,sl,k _ z⟩⟩
theorem XO.at(x:HOk P w H h)(q:H e=some (XO e C d)):∃vs sl,h.get? e=some ⟨.ref C,d,.fields vs,sl⟩:=(x e _ q).1
def Free(X:Cx)(pins:List (Addr×Obj))(T:Addr):Prop:=X.s₀.heap.objs.size<=T/\T≠X.env.locals/\(∀x c,X.env.cells.lookup x=some c->c≠T)/\∀p∈X.pn++pins,p.1≠T
variable{σ:List (Option V)}
def XE(X:Cx)(pins:List (Addr×Obj))(σ:List (Option V))(R:Addr->Hp->Prop)(ev:Value)(s':Shared):Prop :=
 ∃a H' C d,ev=.ref a/\Inv X pins σ H' s'/\XRec (Free X pins) H' s'.heap a C d/\H' a=some (XO a C d)/\R a H'
structure Xz(X:Cx)(R:Addr->Hp->Prop):Prop where
 go:∀pins σ ev s',XE X pins σ R ev s'->X.xe ev s'
end L2
namespace L2
open PySem.W PySem.Calls Builtin Builtin.ObjectAttr
abbrev vb:List Value:=[.type "ValueError",.type "Exception",.type "BaseException",.type "object"]
variable{prog:Program}{E:Value->Shared->Prop}{K:Frag}{x:Addr}{vs:Array Value}{cd:ClassData}{v:Value}{K:Frag}
def xcB(K:Frag)(C:Addr)(bm0:List Value)(ini:Option Value):Bool:=match K.lookup C with
 |some ⟨.type "type",_,.cls cd,sl⟩=>(match cd.mro,sl.toList with
  |.ref C'::bm,[_,_,_,_,some (.builtin n),_]=>C'==C&&bm==bm0&&n=="ValueError.__new__"&&!cd.hasDel&&nsOkIn K cd.ns&&nsIn K cd.ns "__init__"==some ini
  |_,_=>false)
 |_=>false
structure Xc(K:Frag)(c:Str)(C LE:Addr):Prop where
 nm:nsIn K mainGlobals c=some (some (.ref C))
 cd:∃cd,clsIn K C=some cd/\cd.name=c/\cd.mro=.ref C::.ref LE::vb
 le:∃cl,clsIn K LE=some cl/\cl.name="LentError"
 leN:nsIn K mainGlobals "LentError"=some (some (.ref LE))
 ne:c≠"LentError"
 hd:hasDictIn K C=true
 ga:findIn K (.ref C) "__getattribute__"=some (some (.builtin "BaseException.__getattribute__"))
 gh:findIn K (.ref C) "__getattr__"=some none
 cl:findIn K (.ref C) "__class__"=some (some (.builtin "object.__class__"))
 ob:∃ini,xcB K C (.ref LE::vb) ini=true
 leO:xcB K LE vb none=true
structure XcO(h:Heap)(C:Addr)(bm:List Value)(ini:Option Value):Prop where
 ex:∃nm q N bs hdct sn sub ab col dd k0 k1 k2 k3 k5,h.get? C=some (excClassObj nm q C N bs bm hdct sn sub ab col dd k0 k1 k2 k3 k5 "ValueError.__new__")/\∃mN,h.Ns N mN/\mN "__init__"=ini
variable{M:Model}{ini:Option Value}{Q:Flow->Shared->Prop}
def XN(e C:Addr)(d:Option Addr):HO:=.ext λh=>∃vs sl t0,h.get? e=some ⟨.ref C,d,.fields vs,sl⟩/\vs[1]?=some .none/\vs[0]?=some (.ref t0)
variable{e:Addr}{o:HO}
theorem XN.ok{t0:Addr}(q:h.get? e=some ⟨.ref C,d,.fields vs,sl⟩)(q1:vs[1]?=some .none)(q0:vs[0]?=some (.ref t0)):ObjOk P w H h e (XN e C d) :=
 ⟨⟨vs,sl,t0,q,q1,q0⟩,⟨_,q⟩,λh1 h2 ⟨vs,sl,t0,z,z'⟩ k=>⟨vs,sl,t0,k _ z,z'⟩⟩
theorem XN.at(x:HOk P w H h)(q:H e=some (XN e C d)):∃vs sl t0,h.get? e=some ⟨.ref C,d,.fields vs,sl⟩/\vs[1]?=some .none/\vs[0]?=some (.ref t0):=(x e _ q).1
variable{σ:List (Option V)}
structure LeF(K:Frag)(LE:Addr):Prop where
 rd:readsIn K LE (.type "type")=true
 ga:specialIn K (.ref LE) "__getattribute__"=some (some (.builtin "type.__getattribute__"))
 ini:findCls K (.ref LE) (.type "type") "__init__"=some (.val (.builtin "ValueError.__init__"))
 tl:tailIn K vb (.ref LE::vb)=true
section
variable{fI:Addr}{e1 e2 o v:Expr}{t:TA}{to tv:TE}{p1 ap cp pos:Pos}{f:Str}
end
section
variable{k:Nat}{fI:Addr}{E:XK}{f x:Str}{pos:Pos}{e:Expr}{es:List Expr}{t:TA}{σ:St}{Q:VK}{vs:List V}
end
section
variable{g:Array GenState}{dr:Drawn}{t:Nat}{os:OsState}{D:Addr}{oe:Obj}{bmD:List Value}{iniD:Option Value}{Q:Bool->Shared->Prop}
end
def PEx(X:Cx)(e:Expr)(t:St->Hp->VK->(Addr->Hp->Prop)->Prop):Prop :=
 ∀(pins:List (Addr×Obj)) (s:Shared) (σ:St) (H:Hp) (Q:VK) (R:Addr->Hp->Prop),Inv X pins σ H s->t σ H Q R->wpAny (model X.prog X.w) X.A (eval e X.env) (EP X pins σ Q) (XE X pins σ R) s
def PBx(X:Cx)(b:List Stmt)(t:Ends->(Addr->Hp->Prop)->St->Hp->Prop):Prop :=
 ∀(pins:List (Addr×Obj)) (s:Shared) (σ:St) (H:Hp) (D:Ends) (R:Addr->Hp->Prop),Inv X pins σ H s->t D R σ H->wpAny (model X.prog X.w) X.A (execs b X.env) (SP X pins D) (XE X pins σ R) s
variable{σ:St}
structure XM(K:Frag)(C D:Addr):Prop where
 c:∃bm ini,xcB K C bm ini=true/\(Value.ref C::bm).contains (.ref D)=true
 d:∃bm ini,xcB K D bm ini=true/\bm.contains (.type "BaseException")=true
variable{b₀:Stmt}{suite:List Stmt}{cn:Str}{Dc:Addr}{np pos hpos:Pos}{tb:Ends->(Addr->Hp->Prop)->St->Hp->Prop}{ts:TS}{K:Frag}{c:Str}
def clV:V->Option Value
 |.ref a=>some (.ref a)
 |.ty n=>some (.type n)
 |_=>none
variable{σ:List (Option V)}
end L2
namespace EV
open L2
abbrev St:=L2.St
inductive D where
 |non|bl (b:Bool)|int (i:Int)|str (x:Str)|tup (xs:List D)|lst (xs:List D)|fz (xs:List D)
 |exn (c f:Str) (xs:List D)
inductive W where
 |d (x:D)|ref (i:Nat)
 |ob (c:Str) (i:Nat)|nest (js:List Nat)
abbrev Lc:=List (Option W)
abbrev Mm:=List (List D)
abbrev Exn:=D
inductive Oc(α:Type)where
 |ok (a:α) (M:Mm)|ex (x:Exn) (M:Mm)|bad
def Oc.bind(o:Oc α)(k:α->Mm->Oc β):Oc β:=match o with
 |.ok a M=>k a M
 |.ex x M=>.ex x M
 |.bad=>.bad
@[simp]theorem jK(a:α)(M:Mm)(k:α->Mm->Oc β):(Oc.ok a M).bind k=k a M:=rfl
@[simp]theorem aVh(x:Exn)(M:Mm)(k:α->Mm->Oc β):(Oc.ex x M:Oc α).bind k=.ex x M:=rfl
@[simp]theorem aVe(k:α->Mm->Oc β):(Oc.bad:Oc α).bind k=.bad:=rfl
section
variable(K:Frag)(μ:List Addr)(H:Hp)
def FzL(a:Addr)(vs:List V):Prop:=(∃o,H a=some (.frz o (.lst vs))) \/
 ∃(o:Obj) (its:Array Value) (n:Nat),K.lookup a=some o/\o.cls=.type "list"/\o.dict=none/\o.data=.seq its n/\its.size<=sizeLine/\Vals vs its.toList
def XFl(C:Addr)(f:Str)(d:Option Addr)(vs:List V):Prop:=(d=none/\vs=[])\/∃dx u,d=some dx/\vs=[u]/\H dx=some (.xd [(f,u)])/\PySem.W.findIn K (.ref C) f=some none
mutual
def Rp:D->V->Prop
 |.non,v=>v=.non
 |.bl b,v=>v=.bl b
 |.int i,v=>v=.int i
 |.str x,v=>v=.str x
 |.tup ds,v=>∃a vs,v=.ref a/\H a=some (.tup vs)/\Rps ds vs
 |.lst ds,v=>∃a vs,v=.ref a/\H a=some (.lst vs)/\a∉μ/\Rps ds vs
 |.fz ds,v=>∃a vs,v=.ref a/\FzL K H a vs/\Rps ds vs
 |.exn c f ds,v=>∃a vs C LE d,v=.ref a/\H a=some (XO a C d)/\Xc K c C LE/\XFl K H C f d vs/\Rps ds vs
def Rps:List D->List V->Prop
 |[],vs=>vs=[]
 |d::ds,vs=>∃v r,vs=v::r/\Rp d v/\Rps ds r
end
def IsL(H:Hp)(a:Addr):Prop:=∃vs,H a=some (.lst vs)
def IsO(c:Str)(H:Hp)(a:Addr):Prop:=(∃C dx fs,H a=some (.ins C dx fs)/\nsIn K mainGlobals c=some (some (.ref C)))\/(c="dict"/\∃kvs,H a=some (.dT kvs))
noncomputable def Rjs:List Nat->List V->Prop
 |[],vs=>vs=[]
 |j::js,vs=>∃a r,vs=.ref a::r/\μ[j]?=some a/\IsL H a/\Rjs js r
def Rw:W->V->Prop
 |.d x,v=>Rp K μ H x v
 |.ref i,v=>∃a,μ[i]?=some a/\v=.ref a/\IsL H a
 |.ob c i,v=>∃a,μ[i]?=some a/\v=.ref a/\IsO K c H a
 |.nest js,v=>∃a vs,v=.ref a/\H a=some (.lst vs)/\a∉μ/\Rjs μ H js vs
def Frs:List D->List (Str×V)->Prop
 |[],fs=>fs=[]
 |d::ds,fs=>∃f x v r,d=.tup [.str f,x]/\fs=(f,v)::r/\Rp K μ H x v/\Frs ds r
noncomputable def kyD:Key->D
 |.inl i=>.int i
 |.inr x=>.str x
def Krs:List D->List (List Key×V)->Prop
 |[],fs=>fs=[]
 |d::ds,fs=>∃k x v r,d=.tup [.tup (k.map kyD),x]/\fs=(k,v)::r/\Rp K μ H x v/\Krs ds r
def CelO:HO->List D->Prop
 |.lst vs,ds=>Rps K μ H ds vs
 |.ins _ _ fs,ds=>Frs K μ H ds fs
 |.dT kvs,ds=>Krs K μ H ds kvs
 |_,_=>False
def Rws:List W->List V->Prop
 |[],vs=>vs=[]
 |d::ds,vs=>∃v r,vs=v::r/\Rw K μ H d v/\Rws ds r
structure HR(M:Mm):Prop where
 len:μ.length=M.length
 nd:μ.Nodup
 ent:∀(i:Nat) (a:Addr) (ds:List D),μ[i]?=some a->M[i]?=some ds->∃o,H a=some o/\CelO K μ H o ds
structure LR(L:Lc)(σ:St):Prop where
 len:L.length=σ.length
 ent:∀(i:Nat) (w:W),L[i]?=some (some w)->∃v,σ[i]?=some (some v)/\Rw K μ H w v
end
structure SameK(o o':HO):Prop where
 l:∀vs,o=.lst vs->∃us,o'=.lst us
 i:∀C dx fs,o=.ins C dx fs->∃gs,o'=.ins C dx gs
 t:∀kvs,o=.dT kvs->∃ls,o'=.dT ls
variable{o:HO}
theorem SameK.refl:SameK o o:=⟨λ_ h=>⟨_,h⟩,λ_ _ _ h=>⟨_,h⟩,λ_ h=>⟨_,h⟩⟩
theorem SameK.trans{p q:HO}(a:SameK o p)(b:SameK p q):SameK o q:=⟨λ_ h=>let⟨_,h⟩:=a.l _ h;b.l _ h,λ_ _ _ h=>let⟨_,h⟩:=a.i _ _ _ h;b.i _ _ _ h,λ_ h=>let⟨_,h⟩:=a.t _ h;b.t _ h⟩
structure Ext(μ:List Addr)(H:Hp)(μ':List Addr)(H':Hp):Prop where
 keep:∀a o,a∉μ->H a=some o->H' a=some o
 new:∀a,a∈μ'->a∈μ\/H a=none
 pre:∀(i:Nat) (a:Addr),μ[i]?=some a->μ'[i]?=some a
 kin:∀a o,H a=some o->∃o',H' a=some o'/\SameK o o'
variable{K:Frag}{μ2:List Addr}{M:Mm}
theorem FzL.sq(h:FzL K H a vs):SqL K H a vs:=by
 rcases h with⟨o,h⟩|h
 ·exact .inl (.inr ⟨o,h⟩)
 ·exact .inr h
theorem Ext.refl:Ext μ H μ H:=⟨λ_ _ _ h=>h,λ_ h=>.inl h,λ_ _ h=>h,λ_ _ h=>⟨_,h,.refl⟩⟩
theorem Ext.out(e:Ext μ H μ1 H1)(h:H a=some o)(n:a∉μ):a∉μ1:=λz=>by
 rcases e.new a z with z|z
 ·exact n z
 ·rw[h]at z;cases z
theorem Ext.trans(e:Ext μ H μ1 H1)(f:Ext μ1 H1 μ2 H2):Ext μ H μ2 H2 where
 keep:=λa o n h=>f.keep a o (e.out h n) (e.keep a o n h)
 new:=λa h=>by
  rcases f.new a h with h|h
  ·exact e.new a h
  ·by_cases n:a∈μ
   ·exact .inl n
   ·cases q:H a with
    |none=>exact .inr rfl
    |some o=>rw[e.keep a o n q]at h;cases h
 pre:=λi a h=>f.pre i a (e.pre i a h)
 kin:=λa o h=>let⟨_,h1,k1⟩:=e.kin a o h;let⟨_,h2,k2⟩:=f.kin a _ h1;⟨_,h2,k1.trans k2⟩
def MutO:HO->Prop
 |.lst _=>True
 |.ins _ _ _=>True
 |.dT _=>True
 |_=>False
theorem CelO.mut{ds:List D}(h:CelO K μ H o ds):MutO o:=by cases o <;> first|exact h.elim|trivial
def Lsts(μ:List Addr)(H:Hp):Prop:=∀a∈μ,∃o,H a=some o/\MutO o
theorem HR.lsts(h:HR K μ H M):Lsts μ H:=λa ha=>by
 obtain⟨i,hi,e⟩:=aDT.mp ha
 have hM:i < M.length:=h.len▸hi
 obtain⟨vs,q,m⟩:=h.ent i a M[i] (by rw[aBB hi,e]) (by simp[hM])
 exact⟨vs,q,m.mut⟩
theorem Rd.ext{u:HO}(hu:¬MutO u)(l:Lsts μ H)(e:Ext μ H μ1 H1)(h:Rd H a u):Rd H1 a u:=by
 rcases h with h|⟨o,h⟩
 ·exact .inl (e.keep a _ (λz=>by obtain⟨vs,q,m⟩:=l a z;rw[h]at q;cases q;exact hu m) h)
 ·exact .inr ⟨o,e.keep a _ (λz=>by obtain⟨vs,q,m⟩:=l a z;rw[h]at q;cases q;exact m) h⟩
theorem SqT.ext{a:Addr}{vs:List V}(l:Lsts μ H)(e:Ext μ H μ1 H1)(h:SqT K H a vs):SqT K H1 a vs:=by
 rcases h with h|h
 ·exact .inl (Rd.ext (λz=>z) l e h)
 ·exact .inr h
theorem FzL.ext(l:Lsts μ H)(e:Ext μ H μ1 H1)(h:FzL K H a vs):FzL K H1 a vs:=by
 rcases h with⟨o,h⟩|h
 ·exact .inl ⟨o,e.keep a _ (λz=>by obtain⟨vs,q,m⟩:=l a z;rw[h]at q;cases q;exact m) h⟩
 ·exact .inr h
theorem XFl.ext{f:Str}(l:Lsts μ H)(e:Ext μ H μ1 H1)(h:XFl K H C f d vs):XFl K H1 C f d vs:=by
 rcases h with h|⟨dx,u,h1,h2,h3,h4⟩
 ·exact .inl h
 ·exact .inr ⟨dx,u,h1,h2,e.keep dx _ (λz=>by obtain⟨vs,q,m⟩:=l dx z;rw[h3]at q;cases q;exact m) h3,h4⟩
mutual
theorem Rp.ext(l:Lsts μ H)(e:Ext μ H μ1 H1):∀(d:D) (v:V),Rp K μ H d v->Rp K μ1 H1 d v
 |.non,v,h=>by simpa[Rp]using h
 |.bl b,v,h=>by simpa[Rp]using h
 |.int b,v,h=>by simpa[Rp]using h
 |.str b,v,h=>by simpa[Rp]using h
 |.tup ds,v,h=>by
  simp only[Rp]at h ⊢
  obtain⟨a,vs,e1,e2,e3⟩:=h
  exact⟨a,vs,e1,e.keep _ _ (λz=>by obtain⟨us,q,m⟩:=l a z;rw[e2]at q;cases q;exact m) e2,Rps.ext l e ds vs e3⟩
 |.lst ds,v,h=>by
  simp only[Rp]at h ⊢
  obtain⟨a,vs,e1,e2,n,e3⟩:=h
  exact⟨a,vs,e1,e.keep _ _ n e2,e.out e2 n,Rps.ext l e ds vs e3⟩
 |.fz ds,v,h=>by
  simp only[Rp]at h ⊢
  obtain⟨a,vs,e1,e2,e3⟩:=h
  exact⟨a,vs,e1,FzL.ext l e e2,Rps.ext l e ds vs e3⟩
 |.exn c f ds,v,h=>by
  simp only[Rp]at h ⊢
  obtain⟨a,vs,C,LE,d,e1,e2,e3,e4,e5⟩:=h
  exact⟨a,vs,C,LE,d,e1,e.keep _ _ (λz=>by obtain⟨us,q,m⟩:=l a z;rw[e2]at q;cases q;exact m) e2,e3,XFl.ext l e e4,Rps.ext l e ds vs e5⟩
theorem Rps.ext(l:Lsts μ H)(e:Ext μ H μ1 H1):∀(ds:List D) (vs:List V),Rps K μ H ds vs->Rps K μ1 H1 ds vs
 |[],vs,h=>by simpa[Rps]using h
 |d::ds,vs,h=>by
  simp only[Rps]at h ⊢
  obtain⟨v,r,e1,e2,e3⟩:=h
  exact⟨v,r,e1,Rp.ext l e d v e2,Rps.ext l e ds r e3⟩
end
theorem IsL.ext(e:Ext μ H μ1 H1)(h:IsL H a):IsL H1 a:=by
 obtain⟨vs,h⟩:=h
 obtain⟨o,h1,k⟩:=e.kin a _ h
 obtain⟨us,rfl⟩:=k.l _ rfl
 exact⟨us,h1⟩
theorem IsO.ext(e:Ext μ H μ1 H1){c:Str}(h:IsO K c H a):IsO K c H1 a:=by
 rcases h with⟨C,dx,fs,h,n⟩|⟨hc,kvs,h⟩
 ·obtain⟨o,h1,k⟩:=e.kin a _ h
  obtain⟨gs,rfl⟩:=k.i _ _ _ rfl
  exact .inl ⟨C,dx,gs,h1,n⟩
 ·obtain⟨o,h1,k⟩:=e.kin a _ h
  obtain⟨gs,rfl⟩:=k.t _ rfl
  exact .inr ⟨hc,gs,h1⟩
theorem Rjs.ext(e:Ext μ H μ1 H1):∀{js:List Nat} {vs:List V},Rjs μ H js vs->Rjs μ1 H1 js vs
 |[],_,h=>h
 |_::_,_,⟨a,r,e1,e2,e3,e4⟩=>⟨a,r,e1,e.pre _ _ e2,e3.ext e,Rjs.ext e e4⟩
theorem Frs.ext(l:Lsts μ H)(e:Ext μ H μ1 H1):∀{ds:List D} {fs:List (Str×V)},Frs K μ H ds fs->Frs K μ1 H1 ds fs
 |[],_,h=>h
 |_::_,_,⟨f,x,v,r,e1,e2,e3,e4⟩=>⟨f,x,v,r,e1,e2,Rp.ext l e _ _ e3,Frs.ext l e e4⟩
theorem Krs.ext(l:Lsts μ H)(e:Ext μ H μ1 H1):∀{ds:List D} {fs:List (List Key×V)},Krs K μ H ds fs->Krs K μ1 H1 ds fs
 |[],_,h=>h
 |_::_,_,⟨f,x,v,r,e1,e2,e3,e4⟩=>⟨f,x,v,r,e1,e2,Rp.ext l e _ _ e3,Krs.ext l e e4⟩
theorem CelO.ext(l:Lsts μ H)(e:Ext μ H μ1 H1){o:HO}{ds:List D}(h:CelO K μ H o ds):CelO K μ1 H1 o ds:=by
 cases o <;> first|exact h.elim|skip
 ·exact Rps.ext l e _ _ h
 ·exact Krs.ext l e h
 ·exact Frs.ext l e h
theorem Rw.ext(l:Lsts μ H)(e:Ext μ H μ1 H1){w:W}{v:V}(h:Rw K μ H w v):Rw K μ1 H1 w v:=by
 cases w with
 |d x=>exact Rp.ext l e x v h
 |ref i=>obtain⟨a,h1,h2,h3⟩:=h;exact⟨a,e.pre i a h1,h2,h3.ext e⟩
 |ob c i=>obtain⟨a,h1,h2,h3⟩:=h;exact⟨a,e.pre i a h1,h2,h3.ext e⟩
 |nest js=>obtain⟨a,vs,h1,h2,h3,h4⟩:=h;exact⟨a,vs,h1,e.keep _ _ h3 h2,e.out h2 h3,h4.ext e⟩
theorem Rws.ext(l:Lsts μ H)(e:Ext μ H μ1 H1):∀{ws:List W} {vs:List V},Rws K μ H ws vs->Rws K μ1 H1 ws vs
 |[],_,h=>h
 |_::_,_,⟨v,r,e1,e2,e3⟩=>⟨v,r,e1,Rw.ext l e e2,Rws.ext l e e3⟩
theorem LR.ext(l:Lsts μ H)(e:Ext μ H μ1 H1){L:Lc}{σ:St}(h:LR K μ H L σ):LR K μ1 H1 L σ :=
 ⟨h.len,λi w q=>let⟨v,q1,q2⟩:=h.ent i w q;⟨v,q1,Rw.ext l e q2⟩⟩
theorem Rps.length:∀{ds:List D} {vs:List V},Rps K μ H ds vs->ds.length=vs.length
 |[],_,h=>by simp only[Rps]at h;subst h;rfl
 |_::_,_,h=>by simp only[Rps]at h;obtain⟨v,r,e1,_,e3⟩:=h;subst e1;simp[Rps.length e3]
theorem Rps.get:∀{ds:List D} {vs:List V} {i:Nat} {d:D},Rps K μ H ds vs->ds[i]?=some d->∃v,vs[i]?=some v/\Rp K μ H d v
 |[],_,_,_,_,q=>by simp at q
 |_::_,_,0,_,h,q=>by simp only[Rps]at h;obtain⟨v,r,e1,e2,e3⟩:=h;simp at q;subst q e1;exact⟨v,rfl,e2⟩
 |_::_,_,i+1,_,h,q=>by
  simp only[Rps]at h;obtain⟨v,r,e1,e2,e3⟩:=h;subst e1
  obtain⟨u,q1,q2⟩:=Rps.get (i:=i) e3 (by simpa using q)
  exact⟨u,by simpa using q1,q2⟩
theorem Rps.nil:Rps K μ H [] []:=by simp[Rps]
theorem Rps.cons{d:D}{ds:List D}(h:Rp K μ H d v)(t:Rps K μ H ds vs):Rps K μ H (d::ds) (v::vs):=by simp only[Rps];exact⟨v,vs,rfl,h,t⟩
theorem Rps.append:∀{ds es:List D} {vs us:List V},Rps K μ H ds vs->Rps K μ H es us->Rps K μ H (ds++es) (vs++us)
 |[],_,_,_,h,t=>by simp only[Rps]at h;subst h;exact t
 |_::_,_,_,_,h,t=>by simp only[Rps]at h;obtain⟨v,r,e1,e2,e3⟩:=h;subst e1;exact .cons e2 (Rps.append e3 t)
theorem Rps.drop:∀{ds:List D} {vs:List V} (n:Nat),Rps K μ H ds vs->Rps K μ H (ds.drop n) (vs.drop n)
 |_,_,0,h=>by simpa using h
 |[],_,n+1,h=>by simp only[Rps]at h;subst h;exact .nil
 |_::_,_,n+1,h=>by simp only[Rps]at h;obtain⟨v,r,e1,e2,e3⟩:=h;subst e1;simpa using Rps.drop n e3
theorem Rps.take:∀{ds:List D} {vs:List V} (n:Nat),Rps K μ H ds vs->Rps K μ H (ds.take n) (vs.take n)
 |_,_,0,h=>by simpa using Rps.nil
 |[],_,n+1,h=>by simp only[Rps]at h;subst h;exact .nil
 |_::_,_,n+1,h=>by simp only[Rps]at h;obtain⟨v,r,e1,e2,e3⟩:=h;subst e1;simpa using Rps.cons e2 (Rps.take n e3)
theorem Rps.set{d:D}{v:V}(q:Rp K μ H d v):∀{ds:List D} {vs:List V} (n:Nat),Rps K μ H ds vs->Rps K μ H (ds.set n d) (vs.set n v)
 |[],_,n,h=>by simp only[Rps]at h;subst h;simpa using Rps.nil
 |_::_,_,0,h=>by simp only[Rps]at h;obtain⟨u,r,e1,e2,e3⟩:=h;subst e1;simpa using Rps.cons q e3
 |_::_,_,n+1,h=>by simp only[Rps]at h;obtain⟨u,r,e1,e2,e3⟩:=h;subst e1;simpa using Rps.cons e2 (Rps.set q n e3)
theorem Rps.eraseIdx:∀{ds:List D} {vs:List V} (n:Nat),Rps K μ H ds vs->Rps K μ H (ds.eraseIdx n) (vs.eraseIdx n)
 |[],_,n,h=>by simp only[Rps]at h;subst h;simpa using Rps.nil
 |_::_,_,0,h=>by simp only[Rps]at h;obtain⟨u,r,e1,e2,e3⟩:=h;subst e1;simpa using e3
 |_::_,_,n+1,h=>by simp only[Rps]at h;obtain⟨u,r,e1,e2,e3⟩:=h;subst e1;simpa using Rps.cons e2 (Rps.eraseIdx n e3)
theorem Rps.reverse{ds:List D}:∀{vs:List V},Rps K μ H ds vs->Rps K μ H ds.reverse vs.reverse:=by
 induction ds with
 |nil=>intro vs h;simp only[Rps]at h;subst h;exact .nil
 |cons d ds ih=>intro vs h;simp only[Rps]at h;obtain⟨u,r,e1,e2,e3⟩:=h;subst e1;simpa using(ih e3).append (.cons e2 .nil)
theorem Rps.rep{ds:List D}{vs:List V}(h:Rps K μ H ds vs):∀k:Nat,Rps K μ H (List.replicate k ds).flatten (List.replicate k vs).flatten
 |0=>by simpa using Rps.nil
 |k+1=>by simpa[aDH]using h.append (h.rep k)
theorem Rps.ints:Rps K μ H (ns.map D.int) (ns.map V.int):=by
 induction ns with
 |nil=>exact .nil
 |cons n r ih=>exact .cons (by simp[Rp]) ih
theorem Rws.length:∀{ws:List W} {vs:List V},Rws K μ H ws vs->ws.length=vs.length
 |[],_,h=>by cases h;rfl
 |_::_,_,⟨v,r,e1,_,e3⟩=>by subst e1;simp[Rws.length e3]
theorem Rws.get:∀{ws:List W} {vs:List V} {i:Nat} {w:W},Rws K μ H ws vs->ws[i]?=some w->∃v,vs[i]?=some v/\Rw K μ H w v
 |[],_,_,_,_,q=>by simp at q
 |_::_,_,0,_,⟨v,r,e1,e2,e3⟩,q=>by simp at q;subst q e1;exact⟨v,rfl,e2⟩
 |_::_,_,i+1,_,⟨v,r,e1,e2,e3⟩,q=>by
  subst e1
  obtain⟨u,q1,q2⟩:=Rws.get (i:=i) e3 (by simpa using q)
  exact⟨u,by simpa using q1,q2⟩
variable{p:Addr}
theorem HR.out(h:HR K μ H M)(hp:H p=none):p∉μ:=λz=>by
 obtain⟨vs,q,_⟩:=h.lsts p z
 rw[hp]at q;cases q
theorem jN(h:HR K μ H M)(hp:H p=none):Ext μ H μ (upd H p o) :=
 ⟨λa u n q=>by rw[bN (dU q hp)];exact q,λa q=>.inl q,λ_ _ q=>q,λa u q=>⟨u,by rw[bN (dU q hp)];exact q,.refl⟩⟩
theorem HR.lay(h:HR K μ H M)(hp:H p=none):HR K μ (upd H p o) M where
 len:=h.len
 nd:=h.nd
 ent:=λi a ds q1 q2=>by
  obtain⟨vs,q3,q4⟩:=h.ent i a ds q1 q2
  exact⟨vs,by rw[bN (dU q3 hp)];exact q3,CelO.ext h.lsts (jN h hp) q4⟩
theorem aBv(h:HR K μ H M)(hp:H p=none):Ext μ H (μ++[p]) (upd H p o)where
 keep:=λa u n q=>by rw[bN (dU q hp)];exact q
 new:=λa q=>by
  rcases aBN.mp q with q|q
  ·exact .inl q
  ·rw[aAQ]at q;subst q;exact .inr hp
 pre:=λi a q=>by
  rw[aBE (aAC.mp q).1];exact q
 kin:=λa u q=>⟨u,by rw[bN (dU q hp)];exact q,.refl⟩
theorem aFg(h:HR K μ H M)(hp:H p=none):Ext μ H (μ++[p]) (upd H p (.lst vs)):=aBv h hp
theorem HR.newO(h:HR K μ H M){ds:List D}(hp:H p=none)(r:CelO K μ H o ds):HR K (μ++[p]) (upd H p o) (M++[ds])where
 len:=by simp[h.len]
 nd:=List.nodup_append.mpr ⟨h.nd,by simp,λa ha b hb=>by rw[aAQ]at hb;subst hb;rintro rfl;exact h.out hp ha⟩
 ent:=λi a es q1 q2=>by
  have x:=aBv (o:=o) h hp
  by_cases hi:i < μ.length
  ·rw[aBE hi]at q1
   rw[aBE (by rw[<- h.len];exact hi)]at q2
   obtain⟨us,q3,q4⟩:=h.ent i a es q1 q2
   exact⟨us,by rw[bN (dU q3 hp)];exact q3,CelO.ext h.lsts x q4⟩
  ·have:i=μ.length:=by
    have:=(aAC.mp q1).1
    simp at this;lia
   subst this
   rw[aCE (aAH _)]at q1
   rw[h.len,aCE (aAH _)]at q2
   simp at q1 q2
   subst q1 q2
   exact⟨o,cQ,CelO.ext h.lsts x r⟩
theorem HR.new(h:HR K μ H M){ds:List D}(hp:H p=none)(r:Rps K μ H ds vs):HR K (μ++[p]) (upd H p (.lst vs)) (M++[ds]):=h.newO hp (o:=.lst vs) r
theorem aAl{o':HO}(q:μ[i]?=some a)(ho:H a=some o')(k:SameK o' o):Ext μ H μ (upd H a o) :=
 ⟨λb u n q'=>by rw[bN (λz=>n (by subst z;exact aAZ q))];exact q',λa q=>.inl q,λ_ _ q=>q,λb u q'=>by
  by_cases e:b=a
  ·subst e;rw[ho]at q';cases q';exact⟨o,cQ,k⟩
  ·exact⟨u,by rw[bN e];exact q',.refl⟩⟩
theorem SameK.lst{vs us:List V}:SameK (.lst vs) (.lst us):=⟨λ_ _=>⟨us,rfl⟩,λ_ _ _ h=>(nomatch h),λ_ h=>(nomatch h)⟩
theorem gZ(q:μ[i]?=some a)(hl:IsL H a:=by first|assumption|exact⟨_,by assumption⟩):Ext μ H μ (upd H a (.lst vs)):=let⟨_,h⟩:=hl;aAl q h .lst
theorem HR.setO(h:HR K μ H M){ds:List D}{o':HO}(q:μ[i]?=some a)(ho:H a=some o')(k:SameK o' o)(r:CelO K μ H o ds):HR K μ (upd H a o) (M.set i ds)where
 len:=by simp[h.len]
 nd:=h.nd
 ent:=λj b es q1 q2=>by
  have x:=aAl (H:=H) (o:=o) q ho k
  by_cases hj:i=j
  ·subst hj
   rw[q]at q1;cases q1
   have hlt:i < M.length:=by rw[<- h.len];exact(aAC.mp q).1
   rw[aBV hlt]at q2;cases q2
   exact⟨o,cQ,CelO.ext h.lsts x r⟩
  ·rw[aCF hj]at q2
   obtain⟨us,q3,q4⟩:=h.ent j b es q1 q2
   have hb:b≠a:=by
    rintro rfl
    have h1:=(aAC.mp q).1
    have h2:=(aAC.mp q1).1
    have e1:=(aAC.mp q).2
    have e2:=(aAC.mp q1).2
    have pw:=aCZ.mp h.nd
    rcases Nat.lt_or_gt_of_ne hj with l|l
    ·exact pw i j h1 h2 l (e1.trans e2.symm)
    ·exact pw j i h2 h1 l (e2.trans e1.symm)
   exact⟨us,by rw[bN hb];exact q3,CelO.ext h.lsts x q4⟩
theorem HR.set(h:HR K μ H M){i:Nat}{a:Addr}{ds:List D}{vs:List V}(q:μ[i]?=some a)(r:Rps K μ H ds vs)(hl:IsL H a:=by first|assumption|exact⟨_,by assumption⟩):HR K μ (upd H a (.lst vs)) (M.set i ds):=let⟨_,e⟩:=hl;h.setO q e .lst (o:=.lst vs) r
theorem HR.atO(h:HR K μ H M){ds:List D}(q:M[i]?=some ds):∃a o,μ[i]?=some a/\H a=some o/\CelO K μ H o ds:=by
 have hlt:i < μ.length:=by rw[h.len];exact(aAC.mp q).1
 obtain⟨vs,q1,q2⟩:=h.ent i μ[i] ds (by simp[hlt]) q
 exact⟨μ[i],vs,by simp[hlt],q1,q2⟩
theorem HR.at(h:HR K μ H M){i:Nat}{ds:List D}(q:M[i]?=some ds){a':Addr}(qa:μ[i]?=some a')(hl:IsL H a':=by assumption):∃a vs,μ[i]?=some a/\H a=some (.lst vs)/\Rps K μ H ds vs:=by
 obtain⟨a,o,q1,q2,q3⟩:=h.atO q
 rw[qa]at q1;cases q1
 obtain⟨vs,hl⟩:=hl
 rw[hl]at q2;cases q2
 exact⟨a',vs,qa,hl,q3⟩
structure Zt where
 z:Exn->Mm->List Addr->Hp->Prop
 mono:∀{x M μ H μ' H':_},Ext μ H μ' H'->z x M μ H->z x M μ' H'
def Z0:Zt:=⟨λ_ _ _ _=>False,λ_ h=>h⟩
def Pst(K:Frag)(Z:Zt)(μ:List Addr)(H:Hp)(o:Oc α)(Q:List Addr->Hp->Mm->α->Prop):Prop:=match o with
 |.ok a M'=>∀μ' H',Ext μ H μ' H'->HR K μ' H' M'->Q μ' H' M' a
 |.ex x M'=>Z.z x M' μ H
 |.bad=>False
variable{α β:Type}{K:Frag}{Z:Zt}{o:Oc α}{Q Q':List Addr->Hp->Mm->α->Prop}
theorem Pst.mono(e:Ext μ H μ1 H1)(h:Pst K Z μ H o Q):Pst K Z μ1 H1 o Q:=by
 cases o with
 |ok a M=>exact λμ' H' e' hr=>h μ' H' (e.trans e') hr
 |ex x M=>exact Z.mono e h
 |bad=>exact h
theorem Pst.imp(h:Pst K Z μ H o Q)(f:∀μ' H' M' a,Ext μ H μ' H'->HR K μ' H' M'->o=.ok a M'->Q μ' H' M' a->Q' μ' H' M' a):Pst K Z μ H o Q':=by
 cases o with
 |ok a M=>exact λμ' H' e' hr=>f μ' H' M a e' hr rfl (h μ' H' e' hr)
 |ex x M=>exact h
 |bad=>exact h
theorem Pst.bind{k:α->Mm->Oc β}{R:List Addr->Hp->Mm->β->Prop}(h:Pst K Z μ H (o.bind k) R):Pst K Z μ H o (λμ' H' M' a=>Pst K Z μ' H' (k a M') R):=by
 cases o with
 |ok a M=>exact λμ' H' e' hr=>Pst.mono e' h
 |ex x M=>exact h
 |bad=>exact h
abbrev FE:=Lc->Mm->Oc W
abbrev FT:=Lc->Mm->Oc Bool
abbrev FA:=Lc->Mm->Oc (List W)
inductive Out where
 |nx (L:Lc)|bk (L:Lc)|ct (L:Lc)|rt (w:W)
abbrev FS:=Lc->Mm->Oc Out
abbrev FG:=W->Lc->Mm->Oc Lc
abbrev FGs:=List D->Lc->Mm->Oc Lc
abbrev Fn:=List W->Mm->Oc W
section
variable(K:Frag)(Z:Zt)
def lift(f:FE):TE:=λσ H Q=>∃μ M L,HR K μ H M/\LR K μ H L σ/\Pst K Z μ H (f L M) λμ' H' _ w=>∀v,Rw K μ' H' w v->Q v H'
def liftT(f:FT):TT:=λσ H Q=>∃μ M L,HR K μ H M/\LR K μ H L σ/\Pst K Z μ H (f L M) λμ' H' M' b=>Q b H'
def liftA(f:FA):TA:=λσ H Q=>∃μ M L,HR K μ H M/\LR K μ H L σ/\Pst K Z μ H (f L M) λμ' H' _ ws=>∀vs,Rws K μ' H' ws vs->Q vs H'
end
section
variable(X:Cx)(K:Frag)(Z:Zt)
abbrev Sk(K:Frag)(E:Ends)(μ':List Addr)(H':Hp)(_:Mm)(o:Out):Prop:=match o with
 |.nx L'=>∀σ',LR K μ' H' L' σ'->E.nx σ' H'
 |.bk L'=>∀σ',LR K μ' H' L' σ'->E.bk σ' H'
 |.ct L'=>∀σ',LR K μ' H' L' σ'->E.ct σ' H'
 |.rt w=>∀v,Rw K μ' H' w v->E.rt v H'
def liftS(F:FS):TS:=λE σ H=>∃μ M L,HR K μ H M/\LR K μ H L σ/\Pst K Z μ H (F L M) (Sk K E)
def liftG(g:FG):TG:=λv σ H Q=>∃μ M L w,HR K μ H M/\LR K μ H L σ/\Rw K μ H w v/\Pst K Z μ H (g w L M) λμ' H' _ L'=>∀σ',LR K μ' H' L' σ'->Q σ' H'
def liftGs(g:FGs):TGs:=λvs σ H Q=>∃μ M L ds,HR K μ H M/\LR K μ H L σ/\Rps K μ H ds vs/\Pst K Z μ H (g ds L M) λμ' H' _ L'=>∀σ',LR K μ' H' L' σ'->Q σ' H'
structure Ev(e:Expr)(f:FE):Prop where
 k:X.K=K
 h:PE X e (lift K Z f)
structure Et(e:Expr)(f:FT):Prop where
 k:X.K=K
 h:PT X e (liftT K Z f)
structure Ew(e:Expr)(f:FT):Prop where
 k:X.K=K
 h:PW X e (liftT K Z f)
structure Ea(es:List Expr)(f:FA):Prop where
 k:X.K=K
 h:PA X es (liftA K Z f)
structure Es(st:Stmt)(F:FS):Prop where
 k:X.K=K
 h:PS X st (liftS K Z F)
structure Ess(st:List Stmt)(F:FS):Prop where
 k:X.K=K
 h:PSs X st (liftS K Z F)
structure Eg(tg:Expr)(g:FG):Prop where
 k:X.K=K
 h:PG X tg (liftG K Z g)
structure Egs(tg:List Expr)(g:FGs):Prop where
 k:X.K=K
 h:PGs X tg (liftGs K Z g)
end
section
variable{K:Frag}{e a b:Expr}{es:List Expr}{pos:Pos}{f fa fb fc:FE}{t ta tb:FT}{fs:FA}
theorem cqE{t t':TE}(h:PE X e t)(i:∀σ H Q,t' σ H Q->t σ H Q):PE X e t':=λpins s σ H Q I q=>h pins s σ H Q I (i _ _ _ q)
theorem cqT{t t':TT}(h:PT X e t)(i:∀σ H Q,t' σ H Q->t σ H Q):PT X e t':=λpins s σ H Q I q=>h pins s σ H Q I (i _ _ _ q)
theorem cqW{t t':TT}(h:PW X e t)(i:∀σ H Q,t' σ H Q->t σ H Q):PW X e t':=λwh pins s σ H Q I q=>h wh pins s σ H Q I (i _ _ _ q)
theorem cqA{t t':TA}(h:PA X es t)(i:∀σ H Q,t' σ H Q->t σ H Q):PA X es t':=λp pins s σ H Q I q=>h p pins s σ H Q I (i _ _ _ q)
theorem cqS{t t':TS}(h:PS X st t)(i:∀E σ H,t' E σ H->t E σ H):PS X st t':=λpins s σ H E I q=>h pins s σ H E I (i _ _ _ q)
theorem cqSs{st:List Stmt}{t t':TS}(h:PSs X st t)(i:∀E σ H,t' E σ H->t E σ H):PSs X st t':=λpins s σ H E I q=>h pins s σ H E I (i _ _ _ q)
theorem cqG{t t':TG}(h:PG X e t)(i:∀v σ H Q,t' v σ H Q->t v σ H Q):PG X e t':=λpins s σ H v u Q I r q=>h pins s σ H v u Q I r (i _ _ _ _ q)
theorem cqGs{t t':TGs}(h:PGs X es t)(i:∀v σ H Q,t' v σ H Q->t v σ H Q):PGs X es t':=λpins s σ H v u Q I r q=>h pins s σ H v u Q I r (i _ _ _ _ q)
noncomputable def eV(i:Nat):FE:=λL M=>match L[i]? with
 |some (some w)=>.ok w M
 |_=>.bad
noncomputable def eC(d:D):FE:=λ_ M=>.ok (.d d) M
theorem aD(i:Nat)(hN:X.N[i]?=some x:=by rfl)(hk:X.K=K:=by rfl)(hv:Vis X.env.scope x:=by first|exact Or.inl rfl|exact Or.inr (Or.inl rfl)|exact Or.inr (Or.inr rfl))
  (hd:(x==("__debug__":Str))=false:=by decide)(hcd:(x==("__classdict__":Str))=false:=by decide):Ev X K Z (.Name x pos) (eV i) :=
 ⟨hk,cqE (aSj hN hv hd hcd) λσ H Q ⟨μ,M,L,hr,lr,p⟩=>by
  unfold eV at p
  cases q:L[i]? with
  |none=>rw[q]at p;exact p.elim
  |some o =>
   cases o with
   |none=>rw[q]at p;exact p.elim
   |some w =>
    rw[q]at p
    obtain⟨v,q1,q2⟩:=lr.ent i w q
    exact⟨v,q1,p μ H .refl hr v q2⟩⟩
theorem aGn{d:D}(hd:∀K μ H,Rp K μ H d v)(hk:X.K=K)(h:PE X e (tC v)):Ev X K Z e (eC d) :=
 ⟨hk,cqE h λσ H Q ⟨μ,M,L,hr,lr,p⟩=>p μ H .refl hr v (hd K μ H)⟩
theorem aF{i:Int}(hk:X.K=K:=by rfl):Ev X K Z (.Constant (.int i) j pos) (eC (.int i)):=aGn (λ_ _ _=>by simp[Rp]) hk aMm
theorem iC{i:Bool}(hk:X.K=K:=by rfl):Ev X K Z (.Constant (.bool i) j pos) (eC (.bl i)):=aGn (λ_ _ _=>by simp[Rp]) hk aUo
theorem dD(hk:X.K=K:=by rfl):Ev X K Z (.Constant .none j pos) (eC .non):=aGn (λ_ _ _=>by simp[Rp]) hk aRm
theorem aM(hk:X.K=K:=by rfl):Ev X K Z (.Constant (.str x) j pos) (eC (.str x)):=aGn (λ_ _ _=>by simp[Rp]) hk aJh
noncomputable def e1(g:W->Mm->Oc W)(f:FE):FE:=λL M=>(f L M).bind g
noncomputable def e2(g:W->W->Mm->Oc W)(f1 f2:FE):FE:=λL M=>(f1 L M).bind λx M1=>(f2 L M1).bind λy M2=>g x y M2
abbrev Wk(K:Frag)(Q:VK):List Addr->Hp->Mm->W->Prop:=λμ' H' _ w=>∀v,Rw K μ' H' w v->Q v H'
def Op2(K:Frag)(Z:Zt)(r:R2)(g:W->W->Mm->Oc W):Prop :=
 ∀(μ:List Addr) (H:Hp) (M:Mm) (x y:W) (v u:V) (Q:VK),HR K μ H M->Rw K μ H x v->Rw K μ H y u->Pst K Z μ H (g x y M) (Wk K Q)->r v u H Q
def OpG(X:Cx)(K:Frag)(Z:Zt)(f:Value->Value->Sem Value)(g:W->W->Mm->Oc W):Prop:=X.K=K->∃r,OpR X f r/\Op2 K Z r g
theorem lift2{r:R2}{g:W->W->Mm->Oc W}(hg:Op2 K Z r g):∀σ H Q,lift K Z (e2 g fa fb) σ H Q->tOp r (lift K Z fa) (lift K Z fb) σ H Q:=by
 rintro σ H Q ⟨μ,M,L,hr,lr,p⟩
 refine⟨μ,M,L,hr,lr,p.bind.imp λμ1 H1 M1 x e1 hr1 _ p1 v rx=>?_⟩
 refine⟨μ1,M1,L,hr1,lr.ext hr.lsts e1,p1.bind.imp λμ2 H2 M2 y e2 hr2 _ p2 u ry=>?_⟩
 exact hg μ2 H2 M2 x y v u Q hr2 (rx.ext hr1.lsts e2) ry p2
theorem aS{op:Operator}{g:W->W->Mm->Oc W}(ho:OpG X K Z (binaryOp op) g)(ha:Ev X K Z a fa)(hb:Ev X K Z b fb):Ev X K Z (.BinOp a op b pos) (e2 g fa fb):=by
 obtain⟨r,h1,h2⟩:=ho ha.k
 exact⟨ha.k,cqE (aTs h1 ha.h hb.h) (lift2 h2)⟩
theorem mD{g:W->W->Mm->Oc W}(ho:OpG X K Z (compareOp op) g)(ha:Ev X K Z a fa)(hb:Ev X K Z b fb)(hm:behindInMarks op b=false):Ev X K Z (.Compare a [op] [b] pos) (e2 g fa fb):=by
 obtain⟨r,h1,h2⟩:=ho ha.k
 exact⟨ha.k,cqE (aNe h1 ha.h hb.h hm) (lift2 h2)⟩
noncomputable def tB(f:FE):FT:=λL M=>(f L M).bind λw M1=>match w with
 |.d (.bl b)=>.ok b M1
 |_=>.bad
theorem aO{g:W->W->Mm->Oc W}(ho:OpG X K Z (compareOp op) g)(ha:Ev X K Z a fa)(hb:Ev X K Z b fb)(hm:behindInMarks op b=false):Et X K Z (.Compare a [op] [b] pos) (tB (e2 g fa fb)):=by
 obtain⟨r,h1,h2⟩:=ho ha.k
 refine⟨ha.k,cqT (aMt h1 ha.h hb.h hm) ?_⟩
 rintro σ H Q ⟨μ,M,L,hr,lr,p⟩
 refine lift2 h2 σ H _ ⟨μ,M,L,hr,lr,p.bind.imp λμ1 H1 M1 x e1 hr1 _ p1 v rx=>?_⟩
 cases x with
 |d y=>cases y with
  |bl c=>exact⟨c,by simpa[Rw,Rp]using rx,p1 μ1 H1 .refl hr1⟩
  |_=>exact p1.elim
 |ref i=>exact p1.elim
 |ob _ _=>exact p1.elim
 |nest _=>exact p1.elim
noncomputable def e3c(g g':W->W->Mm->Oc W)(f1 f2 f3:FE):FE:=λL M=>(f1 L M).bind λx M1=>(f2 L M1).bind λy M2=>(g x y M2).bind λw M3=>match w with
 |.d (.bl true)=>(f3 L M3).bind λz M4=>g' y z M4
 |.d (.bl false)=>.ok (.d (.bl false)) M3
 |_=>.bad
noncomputable def tru(M:Mm):W->Option Bool
 |.d .non=>some false
 |.d (.bl b)=>some b
 |.d (.int i)=>some (i != 0)
 |.d (.str x)=>if x.length<=16777216 then some (x.length != 0)else none
 |.d (.tup xs)=>some (!xs.isEmpty)
 |.d (.lst xs)=>some (!xs.isEmpty)
 |.d (.fz xs)=>some (!xs.isEmpty)
 |.d (.exn _ _ _)=>none
 |.ref i=>(M[i]?).map λxs=>!xs.isEmpty
 |.ob _ _=>none
 |.nest _=>none
def tV(f:FE):FT:=λL M=>(f L M).bind λw M1=>match tru M1 w with
 |some b=>.ok b M1
 |none=>.bad
theorem emp{ds:List D}(r:Rps K μ H ds vs):(!ds.isEmpty)=!vs.isEmpty:=by
 have:=r.length
 cases ds <;> cases vs <;> simp_all
theorem aUc{w:W}{b:Bool}(hr:HR K μ H M)(r:Rw K μ H w v)(h:tru M w=some b):TruV K v H b:=by
 cases w with
 |ref i =>
  obtain⟨a,q,rfl,il⟩:=r
  simp only[tru,aAN]at h
  obtain⟨xs,h1,rfl⟩:=h
  obtain⟨a',vs,q1,q2,q3⟩:=hr.at h1 q
  rw[q]at q1;cases q1
  exact .inl ⟨vs,SqL.of q2,emp q3⟩
 |ob _ _=>simp[tru]at h
 |nest _=>simp[tru]at h
 |d x =>
  cases x with
  |non=>simp only[Rw,Rp]at r;subst r;simp only[tru,aAP]at h;exact h.symm
  |bl c=>simp only[Rw,Rp]at r;subst r;simp only[tru,aAP]at h;exact h.symm
  |int i=>simp only[Rw,Rp]at r;subst r;simp only[tru,aAP]at h;exact h.symm
  |str z =>
   simp only[Rw,Rp]at r;subst r
   simp only[tru]at h
   split at h
   ·rename_i hz
    cases h
    refine⟨by rw[aBF];exact hz,?_⟩
    rw[Bool.eq_iff_iff];simp
   ·cases h
  |tup xs=>simp only[Rw,Rp]at r;obtain⟨a,vs,rfl,q1,q2⟩:=r;simp only[tru,aAP]at h;subst h;exact .inr (.inl ⟨vs,SqT.of q1,emp q2⟩)
  |lst xs=>simp only[Rw,Rp]at r;obtain⟨a,vs,rfl,q1,_,q2⟩:=r;simp only[tru,aAP]at h;subst h;exact .inl ⟨vs,SqL.of q1,emp q2⟩
  |fz xs=>simp only[Rw,Rp]at r;obtain⟨a,vs,rfl,q1,q2⟩:=r;simp only[tru,aAP]at h;subst h;exact .inl ⟨vs,q1.sq,emp q2⟩
  |exn c f xs=>simp[tru]at h
theorem jE(ha:Ev X K Z a f)(he:∀whole,isTrue a X.env whole=(do let v <- whole;standAt a.pos;holding [v] (truthy v)):=by intro _;rfl):Et X K Z a (tV f):=by
 refine⟨ha.k,cqT (aKq ha.h he) ?_⟩
 rintro σ H Q ⟨μ,M,L,hr,lr,p⟩
 refine⟨μ,M,L,hr,lr,p.bind.imp λμ1 H1 M1 x e1 hr1 _ p1 v rx=>?_⟩
 cases q:tru M1 x with
 |none=>rw[q]at p1;exact p1.elim
 |some k=>rw[q]at p1;exact⟨k,by rw[ha.k];exact aUc hr1 rx q,p1 μ1 H1 .refl hr1⟩
noncomputable def tNot(t:FT):FT:=λL M=>(t L M).bind λb M1=>.ok (!b) M1
noncomputable def tAnd(t u:FT):FT:=λL M=>(t L M).bind λb M1=>if b=true then u L M1 else .ok false M1
noncomputable def tOr(t u:FT):FT:=λL M=>(t L M).bind λb M1=>if b=true then .ok true M1 else u L M1
theorem pF(ha:Et X K Z a ta):Et X K Z (.UnaryOp .Not a pos) (tNot ta):=by
 refine⟨ha.k,cqT (aQr ha.h) ?_⟩
 rintro σ H Q ⟨μ,M,L,hr,lr,p⟩
 exact⟨μ,M,L,hr,lr,p.bind.imp λμ1 H1 M1 x e1 hr1 _ p1=>p1 μ1 H1 .refl hr1⟩
variable{rest:List Expr}
theorem oF(ha:Et X K Z a ta):Ew X K Z (.BoolOp .And [a] pos) ta:=⟨ha.k,aPl ha.h⟩
theorem iO(ha:Et X K Z a ta):Ew X K Z (.BoolOp .Or [a] pos) ta:=⟨ha.k,aSi ha.h⟩
theorem rD(ha:Et X K Z a ta)(hb:Ew X K Z (.BoolOp .And (b::rest) pos) tb):Ew X K Z (.BoolOp .And (a::b::rest) pos) (tAnd ta tb):=by
 refine⟨ha.k,cqW (aQl ha.h hb.h) ?_⟩
 rintro σ H Q ⟨μ,M,L,hr,lr,p⟩
 refine⟨μ,M,L,hr,lr,p.bind.imp λμ1 H1 M1 x e1 hr1 _ p1=>?_⟩
 cases x with
 |true=>exact⟨μ1,M1,L,hr1,lr.ext hr.lsts e1,p1⟩
 |false=>exact p1 μ1 H1 .refl hr1
theorem jI(ha:Et X K Z a ta)(hb:Ew X K Z (.BoolOp .Or (b::rest) pos) tb):Ew X K Z (.BoolOp .Or (a::b::rest) pos) (tOr ta tb):=by
 refine⟨ha.k,cqW (aUg ha.h hb.h) ?_⟩
 rintro σ H Q ⟨μ,M,L,hr,lr,p⟩
 refine⟨μ,M,L,hr,lr,p.bind.imp λμ1 H1 M1 x e1 hr1 _ p1=>?_⟩
 cases x with
 |true=>exact p1 μ1 H1 .refl hr1
 |false=>exact⟨μ1,M1,L,hr1,lr.ext hr.lsts e1,p1⟩
theorem mJ(h:Ew X K Z a ta):Et X K Z a ta:=⟨h.k,h.h.pt⟩
theorem qN{op':CmpOp}{c:Expr}{g g':W->W->Mm->Oc W}(ho:OpG X K Z (compareOp op) g)(ho':OpG X K Z (compareOp op') g')(ha:Ev X K Z a fa)(hb:Ev X K Z b fb)(hc:Ev X K Z c fc)
  (hm:lastMarks [op,op'] [b,c]=false:=by with_unfolding_all rfl):Et X K Z (.Compare a [op,op'] [b,c] pos) (tB (e3c g g' fa fb fc)):=by
 obtain⟨r,h1,h2⟩:=ho ha.k
 obtain⟨r',h1',h2'⟩:=ho' ha.k
 refine⟨ha.k,cqT (aKp h1 h1' ha.h hb.h hc.h hm) ?_⟩
 rintro σ H Q ⟨μ,M,L,hr,lr,p⟩
 have p:=p.bind.bind
 refine⟨μ,M,L,hr,lr,p.imp λμ1 H1 M1 x e1 hr1 _ p1 v rx=>?_⟩
 refine⟨μ1,M1,L,hr1,lr.ext hr.lsts e1,p1.bind.imp λμ2 H2 M2 y e2 hr2 _ p2 u ry=>?_⟩
 refine h2 μ2 H2 M2 x y v u _ hr2 (rx.ext hr1.lsts e2) ry (p2.bind.imp λμ3 H3 M3 w e3 hr3 _ p3 vw rw'=>?_)
 cases w with
 |ref i=>exact p3.elim
 |ob _ _=>exact p3.elim
 |nest _=>exact p3.elim
 |d z=>cases z with
  |bl k =>
   refine⟨k,by simpa[Rw,Rp]using rw',?_⟩
   cases k with
   |false=>exact⟨false,rfl,p3 μ3 H3 .refl hr3 μ3 H3 .refl hr3⟩
   |true =>
    refine⟨μ3,M3,L,hr3,lr.ext hr.lsts ((e1.trans e2).trans e3),p3.bind.imp λμ4 H4 M4 z e4 hr4 _ p4 v4 rz=>?_⟩
    refine h2' μ4 H4 M4 y z u v4 _ hr4 (ry.ext hr2.lsts (e3.trans e4)) rz (p4.imp λμ5 H5 M5 q e5 hr5 _ p5 v5 rq=>?_)
    cases q with
    |ref i=>exact p5.elim
    |ob _ _=>exact p5.elim
    |nest _=>exact p5.elim
    |d z=>cases z with
     |bl c=>exact⟨c,by simpa[Rw,Rp]using rq,p5 μ5 H5 .refl hr5⟩
     |_=>exact p5.elim
  |_=>exact p3.elim
end
noncomputable def lv(M:Mm):W->Option (List D)
 |.d (.lst xs)=>some xs
 |.ref i=>M[i]?
 |_=>none
def lr(M:Mm):W->Option (List D)
 |.d (.fz xs)=>some xs
 |w=>lv M w
def sv(M:Mm):W->Option (List D)
 |.d (.tup xs)=>some xs
 |w=>lr M w
noncomputable def okD(d:D)(M:Mm):Oc W:=.ok (.d d) M
@[simp]theorem aVj(d:D)(M:Mm):okD d M=.ok (.d d) M:=rfl
variable{K:Frag}{e a b:Expr}{es:List Expr}{pos:Pos}{f fa fb:FE}{fs:FA}{F:Value->Value->Sem Value}
theorem OpR.or{r r':R2}(h:OpR X F r)(h':OpR X F r'):OpR X F (λx y H Q=>r x y H Q\/r' x y H Q):=by
 intro pins s σ H x y v u Q I rx ry q
 rcases q with q|q
 ·exact h pins s σ H x y v u Q I rx ry q
 ·exact h' pins s σ H x y v u Q I rx ry q
theorem aBj{w:W}{ds:List D}(hr:HR K μ H M)(r:Rw K μ H w v)(h:lv M w=some ds):∃a vs,v=.ref a/\H a=some (.lst vs)/\Rps K μ H ds vs:=by
 cases w with
 |ref i =>
  obtain⟨a,q,rfl,il⟩:=r
  obtain⟨a',vs,q1,q2,q3⟩:=hr.at h q
  rw[q]at q1;cases q1
  exact⟨a,vs,rfl,q2,q3⟩
 |ob _ _=>simp[lv]at h
 |nest _=>simp[lv]at h
 |d x =>
  cases x with
  |lst xs=>simp only[lv,aAP]at h;subst h;simp only[Rw,Rp]at r;obtain⟨a,vs,e,q1,_,q2⟩:=r;exact⟨a,vs,e,q1,q2⟩
  |_=>simp[lv]at h
theorem uH{w:W}{ds:List D}(hr:HR K μ H M)(r:Rw K μ H w v)(h:lr M w=some ds):∃a vs,v=.ref a/\SqL K H a vs/\Rps K μ H ds vs:=by
 by_cases hf:∃xs,w=.d (.fz xs)
 ·obtain⟨xs,rfl⟩:=hf
  simp only[lr,aAP]at h;subst h
  simp only[Rw,Rp]at r;obtain⟨a,vs,e,q1,q2⟩:=r
  exact⟨a,vs,e,q1.sq,q2⟩
 ·have:lr M w=lv M w:=by
   cases w with
   |ref i=>rfl
   |ob _ _=>rfl
   |nest _=>rfl
   |d x=>cases x <;> first|rfl|exact(hf ⟨_,rfl⟩).elim
  rw[this]at h
  obtain⟨a,vs,e,q1,q2⟩:=aBj hr r h
  exact⟨a,vs,e,SqL.of q1,q2⟩
theorem tW{w:W}{ds:List D}(hr:HR K μ H M)(r:Rw K μ H w v)(h:sv M w=some ds):∃a vs,v=.ref a/\(SqL K H a vs\/SqT K H a vs)/\Rps K μ H ds vs:=by
 by_cases hf:∃xs,w=.d (.tup xs)
 ·obtain⟨xs,rfl⟩:=hf
  simp only[sv,aAP]at h;subst h
  simp only[Rw,Rp]at r;obtain⟨a,vs,e,q1,q2⟩:=r
  exact⟨a,vs,e,.inr (SqT.of q1),q2⟩
 ·have:sv M w=lr M w:=by
   cases w with
   |ref i=>rfl
   |ob _ _=>rfl
   |nest _=>rfl
   |d x=>cases x <;> first|rfl|exact(hf ⟨_,rfl⟩).elim
  rw[this]at h
  obtain⟨a,vs,e,q1,q2⟩:=uH hr r h
  exact⟨a,vs,e,.inl q1,q2⟩
variable{Q:VK}
theorem qR{ds:List D}(hr:HR K μ H M)(r:Rps K μ H ds vs)(p:Pst K Z μ H (okD (.tup ds) M) (Wk K Q)):∀q,H q=none->Q (.ref q) (upd H q (.tup vs)):=λq hq =>
 p μ _ (jN hr hq) (hr.lay hq) (.ref q) (by simp only[Rw,Rp];exact⟨q,vs,rfl,cQ,Rps.ext hr.lsts (jN hr hq) _ _ r⟩)
theorem kR{ds:List D}(hr:HR K μ H M)(r:Rps K μ H ds vs)(p:Pst K Z μ H (okD (.lst ds) M) (Wk K Q)):∀q,H q=none->Q (.ref q) (upd H q (.lst vs)):=λq hq =>
 p μ _ (jN hr hq) (hr.lay hq) (.ref q) (by simp only[Rw,Rp];exact⟨q,vs,rfl,cQ,hr.out hq,Rps.ext hr.lsts (jN hr hq) _ _ r⟩)
theorem aGb{ds:List D}(hr:HR K μ H M)(r:Rps K μ H ds vs)(p:Pst K Z μ H (.ok (.ref M.length) (M++[ds])) (Wk K Q)):∀q,H q=none->Q (.ref q) (upd H q (.lst vs)):=λq hq =>
 p _ _ (aFg hr hq) (hr.new hq r) (.ref q) ⟨q,by rw[<- hr.len];simp,rfl,_,cQ⟩
def rCatA(K:Frag):R2:=λx y H Q=>∃a b xs ys,x=.ref a/\y=.ref b/\SqT K H a xs/\SqT K H b ys/\xs.length+ys.length<=sizeLine /\
 (xs=[]->Q (.ref b) H)/\(ys=[]->Q (.ref a) H)/\(∀p,H p=none->Q (.ref p) (upd H p (.tup (xs++ys))))
theorem aOy:OpR X (binaryOp .Add) (rCatA X.K):=by
 intro pins s σ H x y v u Q I rx ry h
 obtain⟨a,b,xs,ys,rfl,rfl,ha,hb,hz,q0,q1,q2⟩:=h
 by_cases hx:xs=[]
 ·subst hx
  cases rx
  cases ry
  obtain⟨its,r1,p1,_⟩:=I.tuple ha
  obtain⟨its2,r2,p2,_⟩:=I.tuple hb
  have hv:its=[]:=r1.nil_iff.mpr rfl
  subst hv
  obtain⟨⟨cls,dd,data,sl⟩,ho,hc,n,hd⟩:=id p1
  obtain⟨⟨cls2,dd2,data2,sl2⟩,ho2,hc2,n2,hd2⟩:=id p2
  simp only at hc hd hc2 hd2
  subst hc hd hc2 hd2
  exact concat_meets ⟨_,ho,rfl⟩ ⟨_,ho2,rfl⟩ noFill_tuple_add seq_tuple_add aFN aFJ (aFA _ _)
   (tuple_addW0 a b _ its2.toArray n n2 dd dd2 sl sl2 (by simp)) ⟨ho,ho2,⟨.ref b,H,I,rfl,q0 rfl⟩⟩
 ·exact aOv pins s σ H _ _ v u Q I rx ry ⟨a,b,xs,ys,rfl,rfl,ha,hb,hx,hz,q1,λ_=>q2⟩
def pAdd(x y:W)(M:Mm):Oc W:=match x,y with
 |.d (.int i),.d (.int j)=>.ok (.d (.int (i+j))) M
 |.d (.tup xs),.d (.tup ys)=>if xs.length+ys.length<=16777216 then .ok (.d (.tup (xs++ys))) M else .bad
 |.d (.str i),.d (.str j)=>if i.length+j.length<=16777216 then .ok (.d (.str (i++j))) M else .bad
 |x,y=>match lv M x,lv M y with
  |some xs,some ys=>if xs.length+ys.length<=16777216 then .ok (.d (.lst (xs++ys))) M else .bad
  |_,_=>.bad
variable{u:V}
theorem aCr{x y:W}(hr:HR K μ H M)(rx:Rw K μ H x v)(ry:Rw K μ H y u)(p:Pst K Z μ H (match lv M x,lv M y with
  |some xs,some ys=>if xs.length+ys.length<=16777216 then .ok (.d (.lst (xs++ys))) M else .bad
  |_,_=>.bad) (Wk K Q)):rCat v u H Q:=by
 cases q1:lv M x with
 |none=>rw[q1]at p;exact p.elim
 |some xs =>
  cases q2:lv M y with
  |none=>rw[q1,q2]at p;exact p.elim
  |some ys =>
   rw[q1,q2]at p
   simp only at p
   split at p
   ·rename_i hz
    obtain⟨a,vs,rfl,h1,r1⟩:=aBj hr rx q1
    obtain⟨b,us,rfl,h2,r2⟩:=aBj hr ry q2
    exact⟨a,b,vs,us,rfl,rfl,h1,h2,by rw[<- r1.length,<- r2.length,aBF];exact hz,kR hr (r1.append r2) p⟩
   ·exact p.elim
theorem opAdd:OpG X K Z (binaryOp .Add) pAdd:=λhk=>by
 refine⟨_,OpR.or (OpR.or aRg (hk▸aOy)) (OpR.or aTq aDk),?_⟩
 intro μ H M x y v u Q hr rx ry p
 have gen:=λp=>aCr (Q:=Q) (K:=K) (Z:=Z) hr rx ry p
 cases x with
 |ref i=>exact .inr (.inl (gen p))
 |ob _ _=>exact .inr (.inl (gen p))
 |nest _=>exact .inr (.inl (gen p))
 |d x =>
  cases y with
  |ref j=>exact .inr (.inl (gen (by cases x <;> exact p)))
  |ob _ _=>exact .inr (.inl (gen (by cases x <;> exact p)))
  |nest _=>exact .inr (.inl (gen (by cases x <;> exact p)))
  |d y =>
   cases x <;> cases y <;> first
    |exact .inr (.inl (gen p))
    |skip
   ·simp only[Rw,Rp]at rx ry;exact .inl (.inl ⟨_,_,rx,ry,p μ H .refl hr _ (by simp[Rw,Rp])⟩)
   ·simp only[Rw,Rp]at rx ry
    simp only[pAdd]at p
    split at p
    ·rename_i hz
     exact .inr (.inr ⟨_,_,rx,ry,by rw[aBF];exact hz,p μ H .refl hr _ (by simp[Rw,Rp])⟩)
    ·exact p.elim
   ·rename_i xs ys
    have rx':=rx
    have ry':=ry
    simp only[Rw,Rp]at rx ry
    obtain⟨a,vs,rfl,h1,r1⟩:=rx
    obtain⟨b,us,rfl,h2,r2⟩:=ry
    simp only[pAdd]at p
    split at p
    ·rename_i hz
     refine .inl (.inr ⟨a,b,vs,us,rfl,rfl,SqT.of h1,SqT.of h2,by rw[<- r1.length,<- r2.length,aBF];exact hz,λe=>?_,λe=>?_,qR hr (r1.append r2) p⟩)
     ·subst e
      have:xs=[]:=by have:=r1.length;simpa using this
      subst this
      exact p μ H .refl hr _ (by simpa using ry')
     ·subst e
      have:ys=[]:=by have:=r2.length;simpa using this
      subst this
      exact p μ H .refl hr _ (by simpa using rx')
    ·exact p.elim
def pI(c:Int->Int->Bool)(g:Int->Int->D)(x y:W)(M:Mm):Oc W:=match x,y with
 |.d (.int i),.d (.int j)=>if c i j=true then .ok (.d (g i j)) M else .bad
 |_,_=>.bad
variable{gv:Int->Int->V}
theorem opI{C:Int->Int->Prop}{c:Int->Int->Bool}{g:Int->Int->D}(h:OpR X F (rI C gv))(hc:∀i j,c i j=true->C i j)(hg:∀K μ H i j,Rp K μ H (g i j) (gv i j)) :
  OpG X K Z F (pI c g):=λhk=>⟨_,h,by
 intro μ H M x y v u Q hr rx ry p
 cases x with
 |ref i=>exact p.elim
 |ob _ _=>exact p.elim
 |nest _=>exact p.elim
 |d x=>cases y with
  |ref j=>cases x <;> exact p.elim
  |ob _ _=>cases x <;> exact p.elim
  |nest _=>cases x <;> exact p.elim
  |d y=>cases x <;> cases y <;> first
   |exact p.elim
   |(simp only[Rw,Rp]at rx ry
     simp only[pI]at p
     split at p
     ·rename_i hz;exact⟨_,_,rx,ry,hc _ _ hz,p μ H .refl hr _ (hg K μ H _ _)⟩
     ·exact p.elim)⟩
theorem opI0{g:Int->Int->D}(h:OpR X F (rI0 gv))(hg:∀K μ H i j,Rp K μ H (g i j) (gv i j)):OpG X K Z F (pI (λ_ _=>true) g):=λhk=>⟨_,h,by
 intro μ H M x y v u Q hr rx ry p
 cases x with
 |ref i=>exact p.elim
 |ob _ _=>exact p.elim
 |nest _=>exact p.elim
 |d x=>cases y with
  |ref j=>cases x <;> exact p.elim
  |ob _ _=>cases x <;> exact p.elim
  |nest _=>cases x <;> exact p.elim
  |d y=>cases x <;> cases y <;> first
   |exact p.elim
   |(simp only[Rw,Rp]at rx ry
     exact⟨_,_,rx,ry,p μ H .refl hr _ (hg K μ H _ _)⟩)⟩
abbrev pSub:=pI (λ_ _=>true) λi j=>.int (i - j)
abbrev pLt:=pI (λ_ _=>true) λi j=>.bl (decide (i < j))
abbrev pLe:=pI (λ_ _=>true) λi j=>.bl (decide (i<=j))
abbrev pGt:=pI (λ_ _=>true) λi j=>.bl (decide (j < i))
abbrev pGe:=pI (λ_ _=>true) λi j=>.bl (decide (j<=i))
abbrev pMod:=pI (λ_ j=>decide (0 < j)) λi j=>.int (i % j)
abbrev pDiv:=pI (λ_ j=>decide (0 < j/\j < 18446744073709551616)) λi j=>.int (i / j)
abbrev pPow:=pI (λi j=>decide (0<=j/\j<=1000000/\i.natAbs < 18446744073709551616)) λi j=>.int (i ^ j.toNat)
theorem opSub:OpG X K Z (binaryOp .Sub) pSub:=opI0 aTg λ_ _ _ _ _=>by simp[Rp]
theorem opLt:OpG X K Z (compareOp .Lt) pLt:=opI0 aUp λ_ _ _ _ _=>by simp[Rp]
theorem opLe:OpG X K Z (compareOp .LtE) pLe:=opI0 aUh λ_ _ _ _ _=>by simp[Rp]
theorem opGt:OpG X K Z (compareOp .Gt) pGt:=opI0 aUw λ_ _ _ _ _=>by simp[Rp]
theorem opGe:OpG X K Z (compareOp .GtE) pGe:=opI0 aTv λ_ _ _ _ _=>by simp[Rp]
theorem opMod:OpG X K Z (binaryOp .Mod) pMod:=opI aRx (λ_ _ h=>aDD h) λ_ _ _ _ _=>by simp[Rp]
theorem opDiv:OpG X K Z (binaryOp .FloorDiv) pDiv:=opI aKj (λ_ _ h=>by simp only[aAU]at h;exact h) λ_ _ _ _ _=>by simp[Rp]
theorem opPow:OpG X K Z (binaryOp .Pow) pPow:=opI aRc (λ_ _ h=>by simp only[aAU]at h;exact h) λ_ _ _ _ _=>by simp[Rp]
noncomputable def isN:W->Bool
 |.d .non=>true
 |_=>false
def pIs(x y:W)(M:Mm):Oc W:=match y with
 |.d .non=>.ok (.d (.bl (isN x))) M
 |_=>.bad
def pIsNot(x y:W)(M:Mm):Oc W:=match y with
 |.d .non=>.ok (.d (.bl (!isN x))) M
 |_=>.bad
theorem aPq{x:W}(r:Rw K μ H x v):decide (v=.non)=isN x:=by
 cases x with
 |ref i=>obtain⟨a,_,rfl,_⟩:=r;simp[isN]
 |ob c i=>obtain⟨a,_,rfl,_⟩:=r;simp[isN]
 |nest c=>obtain⟨a,_,rfl,_⟩:=r;simp[isN]
 |d x=>cases x with
  |non=>simp only[Rw,Rp]at r;subst r;simp[isN]
  |bl b=>simp only[Rw,Rp]at r;subst r;simp[isN]
  |int b=>simp only[Rw,Rp]at r;subst r;simp[isN]
  |str b=>simp only[Rw,Rp]at r;subst r;simp[isN]
  |tup b=>simp only[Rw,Rp]at r;obtain⟨a,vs,rfl,_⟩:=r;simp[isN]
  |lst b=>simp only[Rw,Rp]at r;obtain⟨a,vs,rfl,_⟩:=r;simp[isN]
  |fz b=>simp only[Rw,Rp]at r;obtain⟨a,vs,rfl,_⟩:=r;simp[isN]
  |exn c f b=>simp only[Rw,Rp]at r;obtain⟨a,vs,_,_,_,rfl,_⟩:=r;simp[isN]
theorem opIs:OpG X K Z (compareOp .Is) pIs:=λhk=>⟨_,aRa,by
 intro μ H M x y v u Q hr rx ry p
 cases y with
 |ref j=>exact p.elim
 |ob _ _=>exact p.elim
 |nest _=>exact p.elim
 |d y=>cases y with
  |non=>simp only[Rw,Rp]at ry;exact⟨ry,p μ H .refl hr _ (by simp only[Rw,Rp];rw[aPq rx])⟩
  |_=>exact p.elim⟩
theorem opIsNot:OpG X K Z (compareOp .IsNot) pIsNot:=λhk=>⟨_,aNu,by
 intro μ H M x y v u Q hr rx ry p
 cases y with
 |ref j=>exact p.elim
 |ob _ _=>exact p.elim
 |nest _=>exact p.elim
 |d y=>cases y with
  |non=>simp only[Rw,Rp]at ry;exact⟨ry,p μ H .refl hr _ (by simp only[Rw,Rp];rw[aPq rx])⟩
  |_=>exact p.elim⟩
variable{K:Frag}
mutual
def eqD:D->D->Bool
 |.non,.non=>true
 |.bl a,.bl b=>a==b
 |.bl a,.int b=>(if a then 1 else 0)==b
 |.int a,.bl b=>a==(if b then 1 else 0)
 |.int a,.int b=>a==b
 |.str a,.str b=>a==b
 |.tup xs,.tup ys=>eqDs xs ys
 |.lst xs,.lst ys=>eqDs xs ys
 |.lst xs,.fz ys=>eqDs xs ys
 |.fz xs,.lst ys=>eqDs xs ys
 |.fz xs,.fz ys=>eqDs xs ys
 |.exn c f xs,.exn c' f' ys=>c==c'&&f==f'&&eqDs xs ys
 |_,_=>false
def eqDs:List D->List D->Bool
 |[],[]=>true
 |x::xs,y::ys=>eqD x y&&eqDs xs ys
 |_,_=>false
end
mutual
def dep:D->Nat
 |.tup xs=>deps xs+1
 |.lst xs=>deps xs+1
 |.fz xs=>deps xs+1
 |.exn _ _ _=>1000
 |_=>0
def deps:List D->Nat
 |[]=>0
 |x::xs=>max (dep x) (deps xs)
end
theorem aBz:∀{xs:List D} {i:Nat} {x:D},xs[i]?=some x->dep x<=deps xs
 |[],_,_,h=>by simp at h
 |y::xs,0,x,h=>by simp at h;subst h;simp only[deps];lia
 |y::xs,i+1,x,h=>by
  have:=aBz (xs:=xs) (i:=i) (x:=x) (by simpa using h)
  simp only[deps];lia
theorem pK:∀(xs ys:List D),eqDs xs ys=((List.range (min xs.length ys.length)).all (λi=>eqD (xs.getD i .non) (ys.getD i .non))&&xs.length==ys.length)
 |[],[]=>rfl
 |[],y::ys=>by simp[eqDs]
 |x::xs,[]=>by simp[eqDs]
 |x::xs,y::ys=>by
  simp only[eqDs]
  rw[pK xs ys]
  have:min (x::xs).length (y::ys).length=min xs.length ys.length+1:=by simp
  rw[this,aEJ,aEC]
  simp only[List.getD_cons_zero,List.all_map,Bool.and_assoc,aBA]
  congr 1
  congr 1
  rw[Bool.eq_iff_iff];simp
variable{σ:L2.St}
theorem aFa{ds:List D}(r:Rps K μ H ds vs)(rv:Vals vs its)(h:i < its.toArray.size):∃d v,ds[i]?=some d/\Rp K μ H d v/\RelV v its.toArray[i]:=by
 have h1:i < its.length:=by simpa using h
 have h2:i < vs.length:=by rw[rv.length];exact h1
 have h3:i < ds.length:=by rw[r.length];exact h2
 obtain⟨v,q1,q2⟩:=r.get (i:=i) (d:=ds[i]) (by simp[h3])
 obtain⟨u,q3,q4⟩:=rv.get q1
 refine⟨ds[i],v,by simp[h3],q2,?_⟩
 rw[aBB h1]at q3
 cases q3
 simpa using q4
theorem aFp{ds:List D}{d:D}(h:ds[i]?=some d):ds.getD i .non=d:=by rw[List.getD_eq_getElem?_getD,h];rfl
abbrev Eqs(K:Frag)(μ:List Addr)(H:Hp)(s:Shared)(A:Around)(xs:List D):Prop :=
 ∀(j:Nat) (d:D),xs[j]?=some d->∀(d2:D) (v1 v2:V) (u1 u2:Value),dep d2<=100->Rp K μ H d v1->Rp K μ H d2 v2->RelV v1 u1->RelV v2 u2->SeqAt.EqAt A s u1 u2 (eqD d d2)
variable{us:List V}
theorem qA{xs ys:List D}{its its2:List Value}(r1:Rps K μ H xs vs)(r2:Rps K μ H ys us)(q1:Vals vs its)(q2:Vals us its2)(n2:deps ys<=100)(ih:Eqs K μ H s A xs) :
  ∀j (h1:j < its.toArray.size) (h2:j < its2.toArray.size),SeqAt.EqAt A s its.toArray[j] its2.toArray[j] ((λi=>eqD (xs.getD i .non) (ys.getD i .non)) j):=by
 intro j h1 h2
 obtain⟨d,v,e1,e2,e3⟩:=aFa r1 q1 h1
 obtain⟨d',v',e1',e2',e3'⟩:=aFa r2 q2 h2
 simp only[aFp e1,aFp e1']
 exact ih j d e1 d' v v' _ _ (aBO (aBz e1') n2) e2 e2' e3 e3'
theorem qW{xs ys:List D}{its2:List Value}(r1:Rps K μ H xs vs)(r2:Rps K μ H ys us)(q1:Vals vs its)(q2:Vals us its2):its.toArray.size=xs.length/\its2.toArray.size=ys.length:=by
 simp[r1.length,r2.length,q1.length,q2.length]
theorem aQf{xs ys:List D}{a b:Addr}(I:Inv X pins σ H s)(h1:SqT X.K H a vs)(h2:SqT X.K H b us)(r1:Rps K μ H xs vs)(r2:Rps K μ H ys us)(hu:A.units < cLine)(n2:deps ys<=100)(ih:Eqs K μ H s A.in1 xs) :
  SeqAt.RcAt A s (.ref a) (.ref b) (eqDs xs ys):=by
 obtain⟨its,q1,p1,_⟩:=I.tuple h1
 obtain⟨its2,q2,p2,_⟩:=I.tuple h2
 have:=SeqAt.RcAt.tuples p1 p2 hu (qA r1 r2 q1 q2 n2 ih)
 obtain⟨e1,e2⟩:=qW r1 r2 q1 q2
 rw[e1,e2]at this
 rw[pK];exact this
theorem aMg{xs ys:List D}{a b:Addr}(I:Inv X pins σ H s)(h1:SqT X.K H a vs)(h2:SqT X.K H b us)(r1:Rps K μ H xs vs)(r2:Rps K μ H ys us)(hu:A.units < cLine)(n2:deps ys<=100)(ih:Eqs K μ H s A.in1 xs) :
  SeqAt.RcNeAt A s (.ref a) (.ref b) (!eqDs xs ys):=by
 obtain⟨its,q1,p1,_⟩:=I.tuple h1
 obtain⟨its2,q2,p2,_⟩:=I.tuple h2
 have:=SeqAt.RcNeAt.tuples p1 p2 hu (qA r1 r2 q1 q2 n2 ih)
 obtain⟨e1,e2⟩:=qW r1 r2 q1 q2
 rw[e1,e2]at this
 rw[pK];exact this
theorem aBn{xs ys:List D}(h:xs.length≠ys.length):eqDs xs ys=false:=by
 rw[pK]
 have:(xs.length==ys.length)=false:=by simpa using h
 rw[this,Bool.and_false]
theorem xC{xs ys:List D}(h:xs.length=ys.length):eqDs xs ys=(List.range xs.length).all (λi=>eqD (xs.getD i .non) (ys.getD i .non)):=by
 rw[pK,<- h];simp
theorem yR{xs ys:List D}{a b:Addr}(I:Inv X pins σ H s)(h1:SqL X.K H a vs)(h2:SqL X.K H b us)(r1:Rps K μ H xs vs)(r2:Rps K μ H ys us)(hu:A.units < cLine)(n2:deps ys<=100)(ih:Eqs K μ H s A.in1 xs) :
  SeqAt.RcAt A s (.ref a) (.ref b) (eqDs xs ys):=by
 obtain⟨its,q1,p1,_⟩:=I.list h1
 obtain⟨its2,q2,p2,_⟩:=I.list h2
 obtain⟨e1,e2⟩:=qW r1 r2 q1 q2
 by_cases hl:xs.length=ys.length
 ·have:=SeqAt.RcAt.lists p1.isList p2.isList (by rw[e1,e2,hl]) hu (qA r1 r2 q1 q2 n2 ih)
  rw[e1]at this
  rw[xC hl];exact this
 ·rw[aBn hl]
  exact SeqAt.RcAt.lists_lengths p1.isList p2.isList (by rw[e1,e2];simpa using hl) hu
theorem qF{xs ys:List D}{a b:Addr}(I:Inv X pins σ H s)(h1:SqL X.K H a vs)(h2:SqL X.K H b us)(r1:Rps K μ H xs vs)(r2:Rps K μ H ys us)(hu:A.units < cLine)(n2:deps ys<=100)(ih:Eqs K μ H s A.in1 xs) :
  SeqAt.RcNeAt A s (.ref a) (.ref b) (!eqDs xs ys):=by
 obtain⟨its,q1,p1,_⟩:=I.list h1
 obtain⟨its2,q2,p2,_⟩:=I.list h2
 obtain⟨e1,e2⟩:=qW r1 r2 q1 q2
 by_cases hl:xs.length=ys.length
 ·have:=SeqAt.RcNeAt.lists p1.isList p2.isList (by rw[e1,e2,hl]) hu (qA r1 r2 q1 q2 n2 ih)
  rw[e1]at this
  rw[xC hl];exact this
 ·rw[aBn hl]
  exact SeqAt.RcNeAt.lists_lengths p1.isList p2.isList (by rw[e1,e2];simpa using hl) hu
def fv:D->Option V
 |.non=>some .non
 |.bl b=>some (.bl b)
 |.int i=>some (.int i)
 |.str x=>some (.str x)
 |_=>none
theorem wS{d:D}(h:fv d=some u)(r:Rp K μ H d v):v=u/\flatV u=true:=by
 cases d <;> simp only[fv,aAP,reduceCtorEq]at h <;> (simp only[Rp]at r;subst h;exact⟨r,rfl⟩)
variable{w:V}
theorem aMi{d e:D}(h:fv d=some u)(h':fv e=some w):eqV u w=eqD d e:=by
 cases d <;> simp only[fv,aAP,reduceCtorEq]at h <;> (cases e <;> simp only[fv,aAP,reduceCtorEq]at h' <;> (subst h;subst h';simp[eqV,eqD]))
theorem aVb{d:D}(r:Rp K μ H d v)(h:flatV v=true):fv d=some v:=by
 cases d with
 |non=>simp only[Rp]at r;subst r;rfl
 |bl b=>simp only[Rp]at r;subst r;rfl
 |int b=>simp only[Rp]at r;subst r;rfl
 |str b=>simp only[Rp]at r;subst r;rfl
 |tup b=>simp only[Rp]at r;obtain⟨a,vs,rfl,_⟩:=r;cases h
 |lst b=>simp only[Rp]at r;obtain⟨a,vs,rfl,_⟩:=r;cases h
 |fz b=>simp only[Rp]at r;obtain⟨a,vs,rfl,_⟩:=r;cases h
 |exn c f b=>simp only[Rp]at r;obtain⟨a,vs,_,_,_,rfl,_⟩:=r;cases h
theorem aKu(h:flatV v=true):eqV v v=true:=by cases v <;> first|(cases h;done)|rfl|(simp[eqV];done)
theorem qU{d d':D}(hf:fv d=some u)(h:Rp K μ H d v)(h':Rp K μ H d' v):eqD d d'=true:=by
 obtain⟨rfl,fl⟩:=wS hf h
 rw[<- aMi hf (aVb h' fl)]
 exact aKu fl
inductive At(K:Frag)(μ:List Addr)(H:Hp):D->Addr->List D->Bool->Prop where
 |tup {a vs ds:_}:SqT K H a vs->Rps K μ H ds vs->At K μ H (.tup ds) a ds true
 |lst {a vs ds:_}:SqL K H a vs->Rps K μ H ds vs->At K μ H (.lst ds) a ds false
 |fz {a vs ds:_}:SqL K H a vs->Rps K μ H ds vs->At K μ H (.fz ds) a ds false
theorem sR{a:Addr}(I:Inv X pins σ H s)(h1:SqT X.K H a vs)(h2:SqL X.K H a us):False:=by
 obtain⟨its,q1,p1,_⟩:=I.tuple h1
 obtain⟨its2,q2,p2,_⟩:=I.list h2
 exact SeqAt.ne_of_list_tuple p2.isList p1 rfl
mutual
theorem aIv(I:Inv X pins σ H s)(hk:X.K=K):∀(d d':D) (v:V),dep d<=100->dep d'<=100->Rp K μ H d v->Rp K μ H d' v->eqD d d'=true
 |.non,d',v,n,n',h,h'=>qU rfl h h'
 |.bl x,d',v,n,n',h,h'=>qU rfl h h'
 |.int x,d',v,n,n',h,h'=>qU rfl h h'
 |.str x,d',v,n,n',h,h'=>qU rfl h h'
 |.tup xs,d',v,n,n',h,h'=>by
  simp only[Rp]at h
  obtain⟨a,vs,rfl,h1,r1⟩:=h
  cases d' with
  |tup ys =>
   simp only[Rp]at h'
   obtain⟨b,us,e,h2,r2⟩:=h'
   cases e
   cases I.tuple_inj (SqT.of (K:=X.K) h1) (SqT.of h2)
   simp only[eqD]
   exact oB I hk xs ys vs (by simp only[dep]at n;lia) (by simp only[dep]at n';lia) r1 r2
  |lst ys=>simp only[Rp]at h';obtain⟨b,us,e,h2,_,r2⟩:=h';cases e;exact(sR I (SqT.of h1) (SqL.of h2)).elim
  |fz ys=>simp only[Rp]at h';obtain⟨b,us,e,h2,r2⟩:=h';cases e;exact(sR I (SqT.of h1) (hk▸h2.sq)).elim
  |exn c f ys=>simp[dep]at n'
  |_=>simp only[Rp]at h';cases h'
 |.lst xs,d',v,n,n',h,h'=>by
  simp only[Rp]at h
  obtain⟨a,vs,rfl,h1,_,r1⟩:=h
  cases d' with
  |tup ys=>simp only[Rp]at h';obtain⟨b,us,e,h2,r2⟩:=h';cases e;exact(sR I (SqT.of h2) (SqL.of h1)).elim
  |lst ys =>
   simp only[Rp]at h';obtain⟨b,us,e,h2,_,r2⟩:=h';cases e
   cases I.list_inj (SqL.of h1) (SqL.of h2)
   simp only[eqD]
   exact oB I hk xs ys vs (by simp only[dep]at n;lia) (by simp only[dep]at n';lia) r1 r2
  |fz ys =>
   simp only[Rp]at h';obtain⟨b,us,e,h2,r2⟩:=h';cases e
   cases I.list_inj (SqL.of h1) (hk▸h2.sq)
   simp only[eqD]
   exact oB I hk xs ys vs (by simp only[dep]at n;lia) (by simp only[dep]at n';lia) r1 r2
  |exn c f ys=>simp[dep]at n'
  |_=>simp only[Rp]at h';cases h'
 |.fz xs,d',v,n,n',h,h'=>by
  simp only[Rp]at h
  obtain⟨a,vs,rfl,h1,r1⟩:=h
  cases d' with
  |tup ys=>simp only[Rp]at h';obtain⟨b,us,e,h2,r2⟩:=h';cases e;exact(sR I (SqT.of h2) (hk▸h1.sq)).elim
  |lst ys =>
   simp only[Rp]at h';obtain⟨b,us,e,h2,_,r2⟩:=h';cases e
   cases I.list_inj (hk▸h1.sq) (SqL.of h2)
   simp only[eqD]
   exact oB I hk xs ys vs (by simp only[dep]at n;lia) (by simp only[dep]at n';lia) r1 r2
  |fz ys =>
   simp only[Rp]at h';obtain⟨b,us,e,h2,r2⟩:=h';cases e
   cases I.list_inj (hk▸h1.sq) (hk▸h2.sq)
   simp only[eqD]
   exact oB I hk xs ys vs (by simp only[dep]at n;lia) (by simp only[dep]at n';lia) r1 r2
  |exn c f ys=>simp[dep]at n'
  |_=>simp only[Rp]at h';cases h'
 |.exn c f xs,d',v,n,n',h,h'=>by simp[dep]at n
theorem oB(I:Inv X pins σ H s)(hk:X.K=K):∀(xs ys:List D) (vs:List V),deps xs<=100->deps ys<=100->Rps K μ H xs vs->Rps K μ H ys vs->eqDs xs ys=true
 |[],ys,vs,n,n',h,h'=>by simp only[Rps]at h;subst h;cases ys with|nil=>rfl|cons y ys=>simp only[Rps]at h';obtain⟨_,_,e,_⟩:=h';cases e
 |x::xs,ys,vs,n,n',h,h'=>by
  simp only[Rps]at h
  obtain⟨v,r,rfl,e2,e3⟩:=h
  cases ys with
  |nil=>simp only[Rps]at h';cases h'
  |cons y ys =>
   simp only[Rps]at h'
   obtain⟨v',r',e,e2',e3'⟩:=h'
   cases e
   simp only[deps]at n n'
   simp only[eqDs,aIv I hk x y v (by lia) (by lia) e2 e2',oB I hk xs ys r (by lia) (by lia) e3 e3',Bool.and_self]
end
theorem oD{d:D}(h:fv d=none)(n:dep d<=100)(r:Rp K μ H d v):∃a ds k,v=.ref a/\At K μ H d a ds k:=by
 cases d with
 |tup xs=>simp only[Rp]at r;obtain⟨a,vs,e,q1,q2⟩:=r;exact⟨a,xs,true,e,.tup (SqT.of q1) q2⟩
 |lst xs=>simp only[Rp]at r;obtain⟨a,vs,e,q1,_,q2⟩:=r;exact⟨a,xs,false,e,.lst (SqL.of q1) q2⟩
 |fz xs=>simp only[Rp]at r;obtain⟨a,vs,e,q1,q2⟩:=r;exact⟨a,xs,false,e,.fz q1.sq q2⟩
 |exn c f xs=>simp[dep]at n
 |_=>simp[fv]at h
variable{v1 v2 w2:V}{u1:Value}
theorem aNl{d d2:D}(n1:fv d=some w)(n2:fv d2=some w2)(h1:Rp K μ H d v1)(h2:Rp K μ H d2 v2)(q1:RelV v1 u1)(q2:RelV v2 u2) :
  (SeqAt.RcAt A s u1 u2 (eqD d d2)/\SeqAt.RcNeAt A s u1 u2 (!eqD d d2)):=by
 cases d with
 |non =>
  simp only[Rp]at h1;subst h1;cases q1
  cases d2 with
  |non=>simp only[Rp]at h2;subst h2;cases q2;simp only[eqD];exact⟨SeqAt.RcAt.none_none,SeqAt.RcNeAt.none_none⟩
  |bl y=>simp only[Rp]at h2;subst h2;cases q2;simp only[eqD];exact⟨SeqAt.RcAt.none_bool y,SeqAt.RcNeAt.none_bool y⟩
  |int y=>simp only[Rp]at h2;subst h2;obtain⟨t2,rfl⟩:=q2;simp only[eqD];exact⟨SeqAt.RcAt.none_int y t2,SeqAt.RcNeAt.none_int y t2⟩
  |str y=>simp only[Rp]at h2;subst h2;obtain⟨t2,rfl⟩:=q2;simp only[eqD];exact⟨SeqAt.RcAt.none_str y t2,SeqAt.RcNeAt.none_str y t2⟩
  |_=>simp[fv]at n2
 |bl x =>
  simp only[Rp]at h1;subst h1;cases q1
  cases d2 with
  |non=>simp only[Rp]at h2;subst h2;cases q2;simp only[eqD];exact⟨SeqAt.RcAt.bool_none x,SeqAt.RcNeAt.bool_none x⟩
  |bl y=>simp only[Rp]at h2;subst h2;cases q2;simp only[eqD];exact⟨SeqAt.RcAt.bool_bool x y,SeqAt.RcNeAt.bool_bool x y⟩
  |int y=>simp only[Rp]at h2;subst h2;obtain⟨t2,rfl⟩:=q2;simp only[eqD];exact⟨SeqAt.RcAt.bool_int x y t2,SeqAt.RcNeAt.bool_int x y t2⟩
  |str y=>simp only[Rp]at h2;subst h2;obtain⟨t2,rfl⟩:=q2;simp only[eqD];exact⟨SeqAt.RcAt.bool_str x y t2,SeqAt.RcNeAt.bool_str x y t2⟩
  |_=>simp[fv]at n2
 |int x =>
  simp only[Rp]at h1;subst h1;obtain⟨t,rfl⟩:=q1
  cases d2 with
  |non=>simp only[Rp]at h2;subst h2;cases q2;simp only[eqD];exact⟨SeqAt.RcAt.int_none x t,SeqAt.RcNeAt.int_none x t⟩
  |bl y=>simp only[Rp]at h2;subst h2;cases q2;simp only[eqD];exact⟨SeqAt.RcAt.int_bool x t y,SeqAt.RcNeAt.int_bool x t y⟩
  |int y=>simp only[Rp]at h2;subst h2;obtain⟨t2,rfl⟩:=q2;simp only[eqD];exact⟨SeqAt.RcAt.int_int x t y t2,SeqAt.RcNeAt.int_int x t y t2⟩
  |str y=>simp only[Rp]at h2;subst h2;obtain⟨t2,rfl⟩:=q2;simp only[eqD];exact⟨SeqAt.RcAt.int_str x t y t2,SeqAt.RcNeAt.int_str x t y t2⟩
  |_=>simp[fv]at n2
 |str x =>
  simp only[Rp]at h1;subst h1;obtain⟨t,rfl⟩:=q1
  cases d2 with
  |non=>simp only[Rp]at h2;subst h2;cases q2;simp only[eqD];exact⟨SeqAt.RcAt.str_none x t,SeqAt.RcNeAt.str_none x t⟩
  |bl y=>simp only[Rp]at h2;subst h2;cases q2;simp only[eqD];exact⟨SeqAt.RcAt.str_bool x t y,SeqAt.RcNeAt.str_bool x t y⟩
  |int y=>simp only[Rp]at h2;subst h2;obtain⟨t2,rfl⟩:=q2;simp only[eqD];exact⟨SeqAt.RcAt.str_int x t y t2,SeqAt.RcNeAt.str_int x t y t2⟩
  |str y=>simp only[Rp]at h2;subst h2;obtain⟨t2,rfl⟩:=q2;simp only[eqD];exact⟨SeqAt.RcAt.str_str x t y t2,SeqAt.RcNeAt.str_str x t y t2⟩
  |_=>simp[fv]at n2
 |_=>simp[fv]at n1
variable{its:Array Value}
theorem aCo{d2:D}{a:Addr}(pl:s.heap.IsTuple a its)(hu:A.units < cLine)(n2:fv d2=some w2)(h2:Rp K μ H d2 v2)(q2:RelV v2 u2) :
  SeqAt.EqAt A s (.ref a) u2 false/\SeqAt.EqAt A s u2 (.ref a) false/\SeqAt.RcAt A s (.ref a) u2 false/\SeqAt.RcNeAt A s (.ref a) u2 true/\SeqAt.RcAt A s u2 (.ref a) false/\SeqAt.RcNeAt A s u2 (.ref a) true:=by
 cases d2 with
 |non=>simp only[Rp]at h2;subst h2;cases q2;exact⟨SeqAt.EqAt.tuple_none pl hu,SeqAt.EqAt.none_tuple pl hu,SeqAt.RcAt.tuple_none pl hu,SeqAt.RcNeAt.tuple_none pl hu,SeqAt.RcAt.none_tuple pl hu,SeqAt.RcNeAt.none_tuple pl hu⟩
 |bl y=>simp only[Rp]at h2;subst h2;cases q2;exact⟨SeqAt.EqAt.tuple_bool y pl hu,SeqAt.EqAt.bool_tuple y pl hu,SeqAt.RcAt.tuple_bool y pl hu,SeqAt.RcNeAt.tuple_bool y pl hu,SeqAt.RcAt.bool_tuple y pl hu,SeqAt.RcNeAt.bool_tuple y pl hu⟩
 |int y=>simp only[Rp]at h2;subst h2;obtain⟨t2,rfl⟩:=q2;exact⟨SeqAt.EqAt.tuple_int y t2 pl hu,SeqAt.EqAt.int_tuple y t2 pl hu,SeqAt.RcAt.tuple_int y t2 pl hu,SeqAt.RcNeAt.tuple_int y t2 pl hu,SeqAt.RcAt.int_tuple y t2 pl hu,SeqAt.RcNeAt.int_tuple y t2 pl hu⟩
 |str y=>simp only[Rp]at h2;subst h2;obtain⟨t2,rfl⟩:=q2;exact⟨SeqAt.EqAt.tuple_str y t2 pl hu,SeqAt.EqAt.str_tuple y t2 pl hu,SeqAt.RcAt.tuple_str y t2 pl hu,SeqAt.RcNeAt.tuple_str y t2 pl hu,SeqAt.RcAt.str_tuple y t2 pl hu,SeqAt.RcNeAt.str_tuple y t2 pl hu⟩
 |_=>simp[fv]at n2
theorem xB{d2:D}{a:Addr}(pl:s.heap.IsList a its)(hu:A.units < cLine)(n2:fv d2=some w2)(h2:Rp K μ H d2 v2)(q2:RelV v2 u2) :
  SeqAt.EqAt A s (.ref a) u2 false/\SeqAt.EqAt A s u2 (.ref a) false/\SeqAt.RcAt A s (.ref a) u2 false/\SeqAt.RcNeAt A s (.ref a) u2 true/\SeqAt.RcAt A s u2 (.ref a) false/\SeqAt.RcNeAt A s u2 (.ref a) true:=by
 cases d2 with
 |non=>simp only[Rp]at h2;subst h2;cases q2;exact⟨SeqAt.EqAt.list_none pl hu,SeqAt.EqAt.none_list pl hu,SeqAt.RcAt.list_none pl hu,SeqAt.RcNeAt.list_none pl hu,SeqAt.RcAt.none_list pl hu,SeqAt.RcNeAt.none_list pl hu⟩
 |bl y=>simp only[Rp]at h2;subst h2;cases q2;exact⟨SeqAt.EqAt.list_bool y pl hu,SeqAt.EqAt.bool_list y pl hu,SeqAt.RcAt.list_bool y pl hu,SeqAt.RcNeAt.list_bool y pl hu,SeqAt.RcAt.bool_list y pl hu,SeqAt.RcNeAt.bool_list y pl hu⟩
 |int y=>simp only[Rp]at h2;subst h2;obtain⟨t2,rfl⟩:=q2;exact⟨SeqAt.EqAt.list_int y t2 pl hu,SeqAt.EqAt.int_list y t2 pl hu,SeqAt.RcAt.list_int y t2 pl hu,SeqAt.RcNeAt.list_int y t2 pl hu,SeqAt.RcAt.int_list y t2 pl hu,SeqAt.RcNeAt.int_list y t2 pl hu⟩
 |str y=>simp only[Rp]at h2;subst h2;obtain⟨t2,rfl⟩:=q2;exact⟨SeqAt.EqAt.list_str y t2 pl hu,SeqAt.EqAt.str_list y t2 pl hu,SeqAt.RcAt.list_str y t2 pl hu,SeqAt.RcNeAt.list_str y t2 pl hu,SeqAt.RcAt.str_list y t2 pl hu,SeqAt.RcNeAt.str_list y t2 pl hu⟩
 |_=>simp[fv]at n2
variable{k:Bool}
theorem sQ{d d2:D}{a:Addr}{xs:List D}(I:Inv X pins σ H s)(hk:X.K=K)(hu:A.units < cLine)(h1:At K μ H d a xs k)(n2:fv d2=some w2)(h2:Rp K μ H d2 v2)(q2:RelV v2 u2) :
  SeqAt.EqAt A s (.ref a) u2 false/\SeqAt.EqAt A s u2 (.ref a) false/\SeqAt.RcAt A s (.ref a) u2 false/\SeqAt.RcNeAt A s (.ref a) u2 true/\SeqAt.RcAt A s u2 (.ref a) false/\SeqAt.RcNeAt A s u2 (.ref a) true:=by
 cases h1 with
 |tup h r=>obtain⟨its,r',pl,_⟩:=I.tuple (hk▸h);exact aCo pl hu n2 h2 q2
 |lst h r=>obtain⟨its,r',pl,_⟩:=I.list (hk▸h);exact xB pl.isList hu n2 h2 q2
 |fz h r=>obtain⟨its,r',pl,_⟩:=I.list (hk▸h);exact xB pl.isList hu n2 h2 q2
theorem lZ{d d2:D}(n1:fv d=none)(n2:fv d2=some w):eqD d d2=false/\eqD d2 d=false:=by
 cases d <;> simp only[fv,reduceCtorEq]at n1 <;> (cases d2 <;> simp only[fv,reduceCtorEq]at n2 <;> exact⟨rfl,rfl⟩)
theorem aPo{d d2:D}{a b:Addr}{xs ys:List D}{k2:Bool}(I:Inv X pins σ H s)(hk:X.K=K)(hu:A.units < cLine)(h1:At K μ H d a xs k)(h2:At K μ H d2 b ys k2)(n2:dep d2<=100)(ih:Eqs K μ H s A.in1 xs) :
  SeqAt.RcAt A s (.ref a) (.ref b) (eqD d d2)/\SeqAt.RcNeAt A s (.ref a) (.ref b) (!eqD d d2):=by
 cases h1 with
 |tup h r=>cases h2 with
  |tup h' r'=>exact⟨aQf I (hk▸h) (hk▸h') r r' hu (by simp only[dep]at n2;lia) ih,aMg I (hk▸h) (hk▸h') r r' hu (by simp only[dep]at n2;lia) ih⟩
  |lst h' r' =>
   obtain⟨_,_,pl,_⟩:=I.tuple (hk▸h);obtain⟨_,_,pl',_⟩:=I.list (hk▸h')
   exact⟨.tuple_list pl pl'.isList hu,.tuple_list pl pl'.isList hu⟩
  |fz h' r' =>
   obtain⟨_,_,pl,_⟩:=I.tuple (hk▸h);obtain⟨_,_,pl',_⟩:=I.list (hk▸h')
   exact⟨.tuple_list pl pl'.isList hu,.tuple_list pl pl'.isList hu⟩
 |lst h r=>cases h2 with
  |tup h' r' =>
   obtain⟨_,_,pl,_⟩:=I.list (hk▸h);obtain⟨_,_,pl',_⟩:=I.tuple (hk▸h')
   exact⟨.list_tuple pl.isList pl' hu,.list_tuple pl.isList pl' hu⟩
  |lst h' r'=>exact⟨yR I (hk▸h) (hk▸h') r r' hu (by simp only[dep]at n2;lia) ih,qF I (hk▸h) (hk▸h') r r' hu (by simp only[dep]at n2;lia) ih⟩
  |fz h' r'=>exact⟨yR I (hk▸h) (hk▸h') r r' hu (by simp only[dep]at n2;lia) ih,qF I (hk▸h) (hk▸h') r r' hu (by simp only[dep]at n2;lia) ih⟩
 |fz h r=>cases h2 with
  |tup h' r' =>
   obtain⟨_,_,pl,_⟩:=I.list (hk▸h);obtain⟨_,_,pl',_⟩:=I.tuple (hk▸h')
   exact⟨.list_tuple pl.isList pl' hu,.list_tuple pl.isList pl' hu⟩
  |lst h' r'=>exact⟨yR I (hk▸h) (hk▸h') r r' hu (by simp only[dep]at n2;lia) ih,qF I (hk▸h) (hk▸h') r r' hu (by simp only[dep]at n2;lia) ih⟩
  |fz h' r'=>exact⟨yR I (hk▸h) (hk▸h') r r' hu (by simp only[dep]at n2;lia) ih,qF I (hk▸h) (hk▸h') r r' hu (by simp only[dep]at n2;lia) ih⟩
theorem mK{d d2:D}(I:Inv X pins σ H s)(hk:X.K=K)(hu:A.units < cLine)(h1:Rp K μ H d v1)(h2:Rp K μ H d2 v2)(q1:RelV v1 u1)(q2:RelV v2 u2)(m1:dep d<=100)(m2:dep d2<=100)
  (ih:∀a xs k,At K μ H d a xs k->Eqs K μ H s A.in1 xs):SeqAt.EqAt A s u1 u2 (eqD d d2):=by
 cases n1:fv d with
 |some w =>
  cases n2:fv d2 with
  |some w2 =>
   obtain⟨rfl,f1⟩:=wS n1 h1
   obtain⟨rfl,f2⟩:=wS n2 h2
   rw[<- aMi n1 n2]
   exact aLo q1 q2 f1 f2
  |none =>
   obtain⟨a,ds,k,rfl,at2⟩:=oD n2 m2 h2
   cases q2
   rw[(lZ n2 n1).2]
   exact(sQ I hk hu at2 n1 h1 q1).2.1
 |none =>
  cases n2:fv d2 with
  |some w2 =>
   obtain⟨a,ds,k,rfl,at1⟩:=oD n1 m1 h1
   cases q1
   rw[(lZ n1 n2).1]
   exact(sQ I hk hu at1 n2 h2 q2).1
  |none =>
   obtain⟨a,xs,k,rfl,at1⟩:=oD n1 m1 h1
   obtain⟨b,ys,k2,rfl,at2⟩:=oD n2 m2 h2
   cases q1
   cases q2
   by_cases hab:a=b
   ·subst hab
    rw[aIv I hk d d2 _ m1 m2 h1 h2]
    exact .same _
   ·exact .of_refs hab (aPo I hk hu at1 at2 m2 (ih a xs k at1)).1
mutual
theorem aJb(I:Inv X pins σ H s)(hk:X.K=K):∀(d:D) (A:Around) (d2:D) (v1 v2:V) (u1 u2:Value),A.units+dep d < cLine->dep d<=100->dep d2<=100->Rp K μ H d v1->Rp K μ H d2 v2->RelV v1 u1->RelV v2 u2->SeqAt.EqAt A s u1 u2 (eqD d d2)
 |.non,A,d2,v1,v2,u1,u2,hu,m1,m2,h1,h2,q1,q2=>mK I hk (by lia) h1 h2 q1 q2 m1 m2 λa xs k z=>nomatch z
 |.bl x,A,d2,v1,v2,u1,u2,hu,m1,m2,h1,h2,q1,q2=>mK I hk (by lia) h1 h2 q1 q2 m1 m2 λa xs k z=>nomatch z
 |.int x,A,d2,v1,v2,u1,u2,hu,m1,m2,h1,h2,q1,q2=>mK I hk (by lia) h1 h2 q1 q2 m1 m2 λa xs k z=>nomatch z
 |.str x,A,d2,v1,v2,u1,u2,hu,m1,m2,h1,h2,q1,q2=>mK I hk (by lia) h1 h2 q1 q2 m1 m2 λa xs k z=>nomatch z
 |.tup xs,A,d2,v1,v2,u1,u2,hu,m1,m2,h1,h2,q1,q2=>mK I hk (by lia) h1 h2 q1 q2 m1 m2 λa ys k z=>by
  have e:xs=ys:=by cases z;rfl
  subst e
  exact pO I hk xs A.in1 (by simp only[dep]at hu;show A.units+1+deps xs < cLine;lia) (by simp only[dep]at m1;lia)
 |.lst xs,A,d2,v1,v2,u1,u2,hu,m1,m2,h1,h2,q1,q2=>mK I hk (by lia) h1 h2 q1 q2 m1 m2 λa ys k z=>by
  have e:xs=ys:=by cases z;rfl
  subst e
  exact pO I hk xs A.in1 (by simp only[dep]at hu;show A.units+1+deps xs < cLine;lia) (by simp only[dep]at m1;lia)
 |.fz xs,A,d2,v1,v2,u1,u2,hu,m1,m2,h1,h2,q1,q2=>mK I hk (by lia) h1 h2 q1 q2 m1 m2 λa ys k z=>by
  have e:xs=ys:=by cases z;rfl
  subst e
  exact pO I hk xs A.in1 (by simp only[dep]at hu;show A.units+1+deps xs < cLine;lia) (by simp only[dep]at m1;lia)
 |.exn c f xs,A,d2,v1,v2,u1,u2,hu,m1,m2,h1,h2,q1,q2=>by simp[dep]at m1
theorem pO(I:Inv X pins σ H s)(hk:X.K=K):∀(xs:List D) (A:Around),A.units+deps xs < cLine->deps xs<=100->Eqs K μ H s A xs
 |[],A,hu,m=>λj d h=>by simp at h
 |x::xs,A,hu,m=>λj d h=>match j,h with
  |0,h=>λd2 v1 v2 u1 u2 m2 r1 r2 q1 q2=>by
   have e:d=x:=by simpa using h.symm
   rw[e]at r1 ⊢
   exact aJb I hk x A d2 v1 v2 u1 u2 (by simp only[deps]at hu;lia) (by simp only[deps]at m;lia) m2 r1 r2 q1 q2
  |j+1,h=>λd2 v1 v2 u1 u2 m2 r1 r2 q1 q2=>pO I hk xs A (by simp only[deps]at hu;lia) (by simp only[deps]at m;lia) j d (by simpa using h) d2 v1 v2 u1 u2 m2 r1 r2 q1 q2
end
noncomputable def wd(M:Mm):W->Option D
 |.d x=>some x
 |.ref i=>(M[i]?).map D.lst
 |_=>none
def Rq(K:Frag)(μ:List Addr)(H:Hp)(d:D)(v:V):Prop:=Rp K μ H d v\/∃a ds vs,d=.lst ds/\v=.ref a/\H a=some (.lst vs)/\Rps K μ H ds vs
theorem aFr{w:W}{d:D}(hr:HR K μ H M)(r:Rw K μ H w v)(h:wd M w=some d):Rq K μ H d v:=by
 cases w with
 |d x=>simp only[wd,aAP]at h;subst h;exact .inl r
 |ref i =>
  simp only[wd,aAN]at h
  obtain⟨ds,h1,rfl⟩:=h
  obtain⟨a,q,rfl,il⟩:=r
  obtain⟨a',vs,q1,q2,q3⟩:=hr.at h1 q
  rw[q]at q1;cases q1
  exact .inr ⟨a,ds,vs,rfl,rfl,q2,q3⟩
 |ob _ _=>simp[wd]at h
 |nest _=>simp[wd]at h
theorem zZ{d:D}(n:fv d=none)(m:dep d<=100)(h:Rq K μ H d v):∃a ds k,v=.ref a/\At K μ H d a ds k:=by
 rcases h with h|⟨a,ds,vs,rfl,rfl,q1,q2⟩
 ·exact oD n m h
 ·exact⟨a,ds,false,rfl,.lst (SqL.of q1) q2⟩
theorem aJl{d:D}(n:fv d=some w)(h:Rq K μ H d v):Rp K μ H d v:=by
 rcases h with h|⟨a,ds,vs,rfl,rfl,q1,q2⟩
 ·exact h
 ·cases n
theorem aRr{d:D}{a:Addr}{xs:List D}(h:At K μ H d a xs k):dep d=deps xs+1:=by cases h <;> rfl
def pEq(x y:W)(M:Mm):Oc W:=match wd M x,wd M y with
 |some d,some e=>if dep d<=100/\dep e<=100 then .ok (.d (.bl (eqD d e))) M else .bad
 |_,_=>.bad
def pNe(x y:W)(M:Mm):Oc W:=match wd M x,wd M y with
 |some d,some e=>if dep d<=100/\dep e<=100 then .ok (.d (.bl (!eqD d e))) M else .bad
 |_,_=>.bad
def rEqD(K:Frag)(neg:Bool):R2:=λv u H Q=>∃μ d e,Rq K μ H d v/\Rq K μ H e u/\(dep d<=100/\dep e<=100)/\Q (.bl (if neg=true then !eqD d e else eqD d e)) H
theorem aUq(I:Inv X pins σ H s)(hk:X.K=K){d d2:D}(hu:A.units+dep d+1 < cLine)(m1:dep d<=100)(m2:dep d2<=100)(h1:Rq K μ H d v1)(h2:Rq K μ H d2 v2)(q1:RelV v1 u1)(q2:RelV v2 u2) :
  (SeqAt.RcAt A s u1 u2 (eqD d d2)/\SeqAt.RcNeAt A s u1 u2 (!eqD d d2)):=by
 have hu0:A.units < cLine:=by lia
 cases n1:fv d with
 |some w =>
  have h1:=aJl n1 h1
  cases n2:fv d2 with
  |some w2=>exact aNl n1 n2 h1 (aJl n2 h2) q1 q2
  |none =>
   obtain⟨b,ys,k2,rfl,at2⟩:=zZ n2 m2 h2
   cases q2
   rw[(lZ n2 n1).2]
   obtain⟨_,_,_,_,x,y⟩:=sQ I hk hu0 at2 n1 h1 q1
   exact⟨x,y⟩
 |none =>
  obtain⟨a,xs,k,rfl,at1⟩:=zZ n1 m1 h1
  cases q1
  cases n2:fv d2 with
  |some w2 =>
   rw[(lZ n1 n2).1]
   obtain⟨_,_,x,y,_⟩:=sQ I hk hu0 at1 n2 (aJl n2 h2) q2
   exact⟨x,y⟩
  |none =>
   obtain⟨b,ys,k2,rfl,at2⟩:=zZ n2 m2 h2
   cases q2
   have:=aRr at1
   exact aPo I hk hu0 at1 at2 m2 (pO I hk xs A.in1 (by show A.units+1+deps xs < cLine;lia) (by lia))
theorem aSw(hu:X.A.units+101 < cLine):OpR X (compareOp .Eq) (rEqD X.K false):=by
 intro pins s σ H x y v u Q I rx ry h
 obtain⟨μ,d,e,h1,h2,h3,q⟩:=h
 exact(aUq I rfl (A:=X.A) (by lia) h3.1 h3.2 h1 h2 rx ry).1 _ _ _ _ ⟨.bl _,H,I,rfl,q⟩
theorem aSu(hu:X.A.units+101 < cLine):OpR X (compareOp .NotEq) (rEqD X.K true):=by
 intro pins s σ H x y v u Q I rx ry h
 obtain⟨μ,d,e,h1,h2,h3,q⟩:=h
 exact(aUq I rfl (A:=X.A) (by lia) h3.1 h3.2 h1 h2 rx ry).2 _ _ _ _ ⟨.bl _,H,I,rfl,q⟩
theorem opEq(hu:X.A.units+101 < cLine):OpG X K Z (compareOp .Eq) pEq:=λhk=>⟨_,hk▸aSw hu,by
 intro μ H M x y v u Q hr rx ry p
 unfold pEq at p
 cases q1:wd M x with
 |none=>rw[q1]at p;exact p.elim
 |some d=>cases q2:wd M y with
  |none=>rw[q1,q2]at p;exact p.elim
  |some e =>
   rw[q1,q2]at p
   simp only at p
   split at p
   ·exact⟨μ,d,e,aFr hr rx q1,aFr hr ry q2,by assumption,p μ H .refl hr _ (by simp[Rw,Rp])⟩
   ·exact p.elim⟩
theorem opNe(hu:X.A.units+101 < cLine):OpG X K Z (compareOp .NotEq) pNe:=λhk=>⟨_,hk▸aSu hu,by
 intro μ H M x y v u Q hr rx ry p
 unfold pNe at p
 cases q1:wd M x with
 |none=>rw[q1]at p;exact p.elim
 |some d=>cases q2:wd M y with
  |none=>rw[q1,q2]at p;exact p.elim
  |some e =>
   rw[q1,q2]at p
   simp only at p
   split at p
   ·exact⟨μ,d,e,aFr hr rx q1,aFr hr ry q2,by assumption,p μ H .refl hr _ (by simp[Rw,Rp])⟩
   ·exact p.elim⟩
section
variable{K:Frag}{o:Expr}{fo:FE}
@[irreducible] def lid:Nat:=2 ^ 4096
variable{i:Int}
theorem aBw(h:i.natAbs < lid):Builtin.Int.intBits i<=4096:=by unfold lid at h;exact intBits_le_iff.mpr h
theorem aQb(h:i.natAbs < 2 ^ m)(hm:m<=4096):i.natAbs < lid:=by unfold lid;exact aAR h (aCG (by lia) hm)
def mulOk(i j:Int):Bool:=decide ((-18446744073709551616 < i/\i < 18446744073709551616)\/(-18446744073709551616 < j/\j < 18446744073709551616)\/(i.natAbs < lid/\j.natAbs < lid))
theorem aOi:OpR X (binaryOp .Mult) (rI (λi j=>CMul i j\/(i.natAbs < lid/\j.natAbs < lid)) λi j=>.int (i*j)):=L2.opI λ_ _ _ _ _ _ _ hc q=>mul_int q (by
 rcases hc with hc|⟨h1,h2⟩
 ·exact hc.ok
 ·exact mulOk_of_bits (aBw h1) (aBw h2) (by lia))
def pMul(x y:W)(M:Mm):Oc W:=match x,y with
 |.d (.int i),.d (.int j)=>if mulOk i j=true then .ok (.d (.int (i*j))) M else .bad
 |x,.d (.int k)=>match lv M x with
  |some xs=>if xs.length*k.toNat<=16777216/\k < 9223372036854775808 /\ -9223372036854775808<=k then .ok (.d (.lst (List.replicate k.toNat xs).flatten)) M else .bad
  |none=>.bad
 |_,_=>.bad
theorem pZ{x:W}{k:Int}(hr:HR K μ H M)(rx:Rw K μ H x v)(p:Pst K Z μ H (match lv M x with
  |some xs=>if xs.length*k.toNat<=16777216/\k < 9223372036854775808 /\ -9223372036854775808<=k then .ok (.d (.lst (List.replicate k.toNat xs).flatten)) M else .bad
  |none=>.bad) (Wk K Q)):rRep v (.int k) H Q:=by
 cases q1:lv M x with
 |none=>rw[q1]at p;exact p.elim
 |some xs =>
  rw[q1]at p
  simp only at p
  split at p
  ·rename_i hz
   obtain⟨a,vs,rfl,h1,r1⟩:=aBj hr rx q1
   exact⟨a,k,vs,rfl,rfl,h1,hz.2.2,hz.2.1,by rw[<- r1.length,aBF];exact hz.1,kR hr (r1.rep k.toNat) p⟩
  ·exact p.elim
theorem opMul:OpG X K Z (binaryOp .Mult) pMul:=λhk=>by
 refine⟨_,OpR.or aOi aQo,?_⟩
 intro μ H M x y v u Q hr rx ry p
 cases y with
 |ref j=>cases x with
  |d x=>cases x <;> exact p.elim
  |_=>exact p.elim
 |ob _ _=>cases x with
  |d x=>cases x <;> exact p.elim
  |_=>exact p.elim
 |nest _=>cases x with
  |d x=>cases x <;> exact p.elim
  |_=>exact p.elim
 |d y=>cases y with
  |int k =>
   have ry':u=.int k:=by simpa only[Rw,Rp]using ry
   subst ry'
   cases x with
   |ref i=>exact .inr (pZ hr rx p)
   |ob _ _=>exact .inr (pZ hr rx p)
   |nest _=>exact .inr (pZ hr rx p)
   |d x=>cases x with
    |int i =>
     simp only[pMul]at p
     simp only[Rw,Rp]at rx
     split at p
     ·rename_i hz
      refine .inl ⟨i,k,rx,rfl,?_,p μ H .refl hr _ (by simp[Rw,Rp])⟩
      simp only[mulOk,aAU]at hz
      rcases hz with hz|hz|hz
      ·exact .inl (.inl hz)
      ·exact .inl (.inr hz)
      ·exact .inr hz
     ·exact p.elim
    |_=>exact .inr (pZ hr rx p)
  |_=>cases x with
   |ref i=>exact p.elim
   |ob _ _=>exact p.elim
   |nest _=>exact p.elim
   |d x=>cases x <;> exact p.elim
noncomputable def pNeg(x:W)(M:Mm):Oc W:=match x with
 |.d (.int i)=>.ok (.d (.int (-i))) M
 |_=>.bad
theorem aLh(ha:Ev X K Z a fa):Ev X K Z (.UnaryOp .USub a pos) (e1 pNeg fa):=by
 refine⟨ha.k,cqE (aVg aRu ha.h) ?_⟩
 rintro σ H Q ⟨μ,M,L,hr,lr,p⟩
 refine⟨μ,M,L,hr,lr,p.bind.imp λμ1 H1 M1 x e1 hr1 _ p1 v rx=>?_⟩
 cases x with
 |ref i=>exact p1.elim
 |ob _ _=>exact p1.elim
 |nest _=>exact p1.elim
 |d x=>cases x with
  |int i=>simp only[Rw,Rp]at rx;exact⟨i,rx,p1 μ1 H1 .refl hr1 _ (by simp[Rw,Rp])⟩
  |_=>exact p1.elim
noncomputable def eAnd(f g:FE):FE:=λL M=>(f L M).bind λx M1=>match x with
 |.d (.bl true)=>g L M1
 |.d (.bl false)=>.ok (.d (.bl false)) M1
 |_=>.bad
variable{rest:List Expr}
theorem aKl{op}(ha:Ev X K Z a fa):Ev X K Z (.BoolOp op [a] pos) fa:=⟨ha.k,aQa ha.h⟩
theorem aDp(ha:Ev X K Z a fa)(hb:Ev X K Z (.BoolOp .And (b::rest) pos) fb):Ev X K Z (.BoolOp .And (a::b::rest) pos) (eAnd fa fb):=by
 refine⟨ha.k,cqE (aTj ha.h hb.h) ?_⟩
 rintro σ H Q ⟨μ,M,L,hr,lr,p⟩
 refine⟨μ,M,L,hr,lr,p.bind.imp λμ1 H1 M1 x e1 hr1 _ p1 v rx=>?_⟩
 cases x with
 |ref i=>exact p1.elim
 |ob _ _=>exact p1.elim
 |nest _=>exact p1.elim
 |d x=>cases x with
  |bl i =>
   simp only[Rw,Rp]at rx
   refine⟨i,rx,?_⟩
   cases i with
   |true=>exact⟨μ1,M1,L,hr1,lr.ext hr.lsts e1,p1⟩
   |false=>exact p1 μ1 H1 .refl hr1 _ (by simp[Rw,Rp])
  |_=>exact p1.elim
noncomputable def eIf(t:FT)(f g:FE):FE:=λL M=>(t L M).bind λc M1=>if c=true then f L M1 else g L M1
theorem aLm{c:Expr}{t:FT}(hc:Et X K Z c t)(ha:Ev X K Z a fa)(hb:Ev X K Z b fb):Ev X K Z (.IfExp c a b pos) (eIf t fa fb):=by
 refine⟨ha.k,cqE (aIs hc.h ha.h hb.h) ?_⟩
 rintro σ H Q ⟨μ,M,L,hr,lr,p⟩
 refine⟨μ,M,L,hr,lr,p.bind.imp λμ1 H1 M1 x e1 hr1 _ p1=>?_⟩
 cases x with
 |true=>exact⟨μ1,M1,L,hr1,lr.ext hr.lsts e1,p1⟩
 |false=>exact⟨μ1,M1,L,hr1,lr.ext hr.lsts e1,p1⟩
def pIx(x y:W)(M:Mm):Oc W:=match y with
 |.d (.int i)=>match x with
  |.d (.str z)=>match atI z.cps.toList i with
   |some c=>if z.length<=16777216 then .ok (.d (.str ⟨#[c]⟩)) M else .bad
   |none=>.bad
  |x=>match sv M x with
   |some xs=>match atI xs i with
    |some d=>.ok (.d d) M
    |none=>.bad
   |none=>.bad
 |_=>.bad
theorem aQe{ds:List D}{d:D}(r:Rps K μ H ds vs)(h:atI ds i=some d):∃v,atI vs i=some v/\Rp K μ H d v:=by
 unfold atI at h ⊢
 rw[r.length]at h
 cases q:ixN vs.length i with
 |none=>rw[q]at h;cases h
 |some j=>rw[q]at h;exact r.get h
theorem sZ{x:W}(hr:HR K μ H M)(rx:Rw K μ H x v)(p:Pst K Z μ H (match sv M x with
   |some xs=>match atI xs i with
    |some d=>Oc.ok (.d d) M
    |none=>.bad
   |none=>.bad) (Wk K Q)):rIx K v (.int i) H Q:=by
 cases q1:sv M x with
 |none=>rw[q1]at p;exact p.elim
 |some xs =>
  rw[q1]at p
  cases q2:atI xs i with
  |none=>simp only[q2]at p;exact p.elim
  |some d =>
   simp only[q2]at p
   obtain⟨a,vs,rfl,h1,r1⟩:=tW hr rx q1
   obtain⟨v,h2,r2⟩:=aQe r1 q2
   have q:=p μ H .refl hr v r2
   rcases h1 with h1|h1
   ·exact .inl ⟨a,vs,i,v,rfl,rfl,h1,h2,q⟩
   ·exact .inr (.inl ⟨a,vs,i,v,rfl,rfl,h1,h2,q⟩)
theorem aSq:Op2 K Z (rIx K) pIx:=by
 intro μ H M x y v u Q hr rx ry p
 cases y with
 |ref j=>exact p.elim
 |ob _ _=>exact p.elim
 |nest _=>exact p.elim
 |d y=>cases y with
  |int i =>
   have:u=.int i:=by simpa only[Rw,Rp]using ry
   subst this
   cases x with
   |ref j=>exact sZ hr rx p
   |ob _ _=>exact sZ hr rx p
   |nest _=>exact sZ hr rx p
   |d x=>cases x with
    |str z =>
     simp only[Rw,Rp]at rx
     simp only[pIx]at p
     cases q:atI z.cps.toList i with
     |none=>simp only[q]at p;exact p.elim
     |some c =>
      simp only[q]at p
      split at p
      ·exact .inr (.inr ⟨z,i,c,rx,rfl,by rw[aBF];assumption,q,p μ H .refl hr _ (by simp[Rw,Rp])⟩)
      ·exact p.elim
    |_=>exact sZ hr rx p
  |_=>exact p.elim
theorem aJ(ha:Ev X K Z a fa)(hb:Ev X K Z b fb)(hs:PlainIx b:=by intro _ _;rfl):Ev X K Z (.Subscript a b pos) (e2 pIx fa fb):=by
 have h:=aTt (pos:=pos) (aRk (X:=X)) ha.h hb.h hs
 rw[ha.k]at h
 exact⟨ha.k,cqE h (lift2 aSq)⟩
noncomputable def aNil:FA:=λ_ M=>.ok [] M
noncomputable def aCons(f:FE)(g:FA):FA:=λL M=>(f L M).bind λw M1=>(g L M1).bind λws M2=>.ok (w::ws) M2
theorem aG(hk:X.K=K:=by rfl):Ea X K Z [] aNil:=⟨hk,cqA fQ λσ H Q ⟨μ,M,L,hr,lr,p⟩=>p μ H .refl hr [] rfl⟩
theorem aC(ha:Ev X K Z e fa)(hr:Ea X K Z es fs)(hs:starEach (e::es) X.env=(false,eval e X.env)::starEach es X.env:=by rfl):Ea X K Z (e::es) (aCons fa fs):=by
 refine⟨ha.k,cqA (dC ha.h hr.h hs) ?_⟩
 rintro σ H Q ⟨μ,M,L,hr,lr,p⟩
 refine⟨μ,M,L,hr,lr,p.bind.imp λμ1 H1 M1 x e1 hr1 _ p1 v rx=>?_⟩
 refine⟨μ1,M1,L,hr1,lr.ext hr.lsts e1,p1.bind.imp λμ2 H2 M2 y e2 hr2 _ p2 us ry=>?_⟩
 exact p2 μ2 H2 .refl hr2 (v::us) ⟨v,us,rfl,rx.ext hr1.lsts e2,ry⟩
noncomputable def allD:List W->Option (List D)
 |[]=>some []
 |.d x::ws=>(allD ws).map (x::·)
 |_::_=>none
theorem pL:∀{ws:List W} {vs:List V} {ds:List D},Rws K μ H ws vs->allD ws=some ds->Rps K μ H ds vs
 |[],_,_,h,q=>by cases h;simp only[allD,aAP]at q;subst q;exact .nil
 |.d x::ws,_,_,⟨v,r,e1,e2,e3⟩,q=>by
  simp only[allD,aAN]at q
  obtain⟨ds,q1,rfl⟩:=q
  subst e1
  exact .cons e2 (pL e3 q1)
 |.ref i::ws,_,_,_,q=>by simp[allD]at q
 |.ob _ i::ws,_,_,_,q=>by simp[allD]at q
 |.nest i::ws,_,_,_,q=>by simp[allD]at q
def mkT(ws:List W)(M:Mm):Oc W:=match allD ws with
 |some ds=>if ds.length<=16777216 then okD (.tup ds) M else .bad
 |none=>.bad
def mkL(ws:List W)(M:Mm):Oc W:=match allD ws with
 |some ds=>if ds.length<=16777216 then okD (.lst ds) M else .bad
 |none=>.bad
def mkR(ws:List W)(M:Mm):Oc W:=match allD ws with
 |some ds=>if ds.length<=16777216 then .ok (.ref M.length) (M++[ds])else .bad
 |none=>.bad
noncomputable def eA(g:List W->Mm->Oc W)(fs:FA):FE:=λL M=>(fs L M).bind g
theorem aV{x1}(h:Ea X K Z es fs):Ev X K Z (.Tuple es x1 pos) (eA mkT fs):=by
 refine⟨h.k,cqE (aMa h.h) ?_⟩
 rintro σ H Q ⟨μ,M,L,hr,lr,p⟩
 refine⟨μ,M,L,hr,lr,p.bind.imp λμ1 H1 M1 ws e1 hr1 _ p1 vs rx=>?_⟩
 unfold mkT at p1
 cases q:allD ws with
 |none=>rw[q]at p1;exact p1.elim
 |some ds =>
  rw[q]at p1
  simp only at p1
  split at p1
  ·have r:=pL rx q
   exact⟨by rw[<- r.length,aBF];assumption,qR hr1 r p1⟩
  ·exact p1.elim
theorem nG(h:Ea X K Z es fs):Ev X K Z (.List es pos) (eA mkL fs):=by
 refine⟨h.k,cqE (aDv h.h) ?_⟩
 rintro σ H Q ⟨μ,M,L,hr,lr,p⟩
 refine⟨μ,M,L,hr,lr,p.bind.imp λμ1 H1 M1 ws e1 hr1 _ p1 vs rx=>?_⟩
 unfold mkL at p1
 cases q:allD ws with
 |none=>rw[q]at p1;exact p1.elim
 |some ds =>
  rw[q]at p1
  simp only at p1
  split at p1
  ·have r:=pL rx q
   exact⟨by rw[<- r.length,aBF];assumption,kR hr1 r p1⟩
  ·exact p1.elim
theorem qO(h:Ea X K Z es fs):Ev X K Z (.List es pos) (eA mkR fs):=by
 refine⟨h.k,cqE (aDv h.h) ?_⟩
 rintro σ H Q ⟨μ,M,L,hr,lr,p⟩
 refine⟨μ,M,L,hr,lr,p.bind.imp λμ1 H1 M1 ws e1 hr1 _ p1 vs rx=>?_⟩
 unfold mkR at p1
 cases q:allD ws with
 |none=>rw[q]at p1;exact p1.elim
 |some ds =>
  rw[q]at p1
  simp only at p1
  split at p1
  ·have r:=pL rx q
   exact⟨by rw[<- r.length,aBF];assumption,aGb hr1 r p1⟩
  ·exact p1.elim
noncomputable def eInts(ns:List Int):FE:=λ_ M=>.ok (.d (.lst (ns.map D.int))) M
theorem aNg(h:IntsE es ns)(hn:ns.length<=16777216:=by decide)(hk:X.K=K:=by rfl):Ev X K Z (.List es pos) (eInts ns):=by
 refine⟨hk,cqE (aDv (aOd h)) ?_⟩
 rintro σ H Q ⟨μ,M,L,hr,lr,p⟩
 exact⟨by rw[aAL,aBF];exact hn,kR hr Rps.ints p⟩
def Cl(K:Frag)(Z:Zt)(r:List V->Hp->VK->Prop)(g:List W->Mm->Oc W):Prop :=
 ∀(μ:List Addr) (H:Hp) (M:Mm) (ws:List W) (vs:List V) (Q:VK),HR K μ H M->Rws K μ H ws vs->Pst K Z μ H (g ws M) (Wk K Q)->r vs H Q
def ClG(X:Cx)(K:Frag)(Z:Zt)(f:Value)(g:List W->Mm->Oc W):Prop:=X.K=K->∃r,CallR X f r/\Cl K Z r g
theorem liftC{g:List W->Mm->Oc W}(h:Cl K Z r g):∀σ H Q,lift K Z (eA g fs) σ H Q->tCB r (liftA K Z fs) σ H Q:=by
 rintro σ H Q ⟨μ,M,L,hr,lr,p⟩
 exact⟨μ,M,L,hr,lr,p.bind.imp λμ1 H1 M1 ws e1 hr1 _ p1 vs rx=>h μ1 H1 M1 ws vs Q hr1 rx p1⟩
variable{p:Pos}
theorem bB{id:String}{g:List W->Mm->Oc W}(hc:ClG X K Z (.builtin id) g)(hg:Gl X x)(hm:X.mg x=none)(hv:bootBuiltins x=some (.builtin id))(ha:Ea X K Z (e::es) fs)
  (hn:x≠"__name__":=by decide)(hdb:(x==("__debug__":Str))=false:=by decide)(he:starEach (e::es) X.env=(false,eval e X.env)::starEach es X.env:=by rfl)
  (hpl:(backTo pos (starEach es X.env)).any (·.1)=false:=by rfl):Ev X K Z (.Call (.Name x p) (e::es) [] pos) (eA g fs):=by
 obtain⟨r,h1,h2⟩:=hc ha.k
 exact⟨ha.k,cqE (aKd h1 hg hm hv ha.h hn hdb he hpl) (liftC h2)⟩
theorem dW{T:String}{g:List W->Mm->Oc W}(hc:ClG X K Z (.type T) g)(hg:Gl X x)(hm:X.mg x=none)(hv:bootBuiltins x=some (.type T))(ha:Ea X K Z (e::es) fs)
  (hn:x≠"__name__":=by decide)(hdb:(x==("__debug__":Str))=false:=by decide)(he:starEach (e::es) X.env=(false,eval e X.env)::starEach es X.env:=by rfl)
  (hpl:(backTo pos (starEach es X.env)).any (·.1)=false:=by rfl):Ev X K Z (.Call (.Name x p) (e::es) [] pos) (eA g fs):=by
 obtain⟨r,h1,h2⟩:=hc ha.k
 exact⟨ha.k,cqE (nW h1 hg hm hv ha.h hn hdb he hpl) (liftC h2)⟩
def cLen(ws:List W)(M:Mm):Oc W:=match ws with
 |[.d (.str z)]=>if z.length<=16777216 then .ok (.d (.int z.length)) M else .bad
 |[w]=>match sv M w with
  |some xs=>.ok (.d (.int xs.length)) M
  |none=>.bad
 |_=>.bad
theorem qZ{w:W}(hr:HR K μ H M)(rx:Rw K μ H w v)(p:Pst K Z μ H (match sv M w with
  |some xs=>Oc.ok (.d (.int xs.length)) M
  |none=>.bad) (Wk K Q)):∃p ys,[v]=[V.ref p]/\(SqL K H p ys\/SqT K H p ys)/\Q (.int ys.length) H:=by
 cases q1:sv M w with
 |none=>rw[q1]at p;exact p.elim
 |some xs =>
  rw[q1]at p
  obtain⟨a,vs,rfl,h1,r1⟩:=tW hr rx q1
  exact⟨a,vs,rfl,h1,p μ H .refl hr _ (by simp[Rw,Rp,r1.length])⟩
theorem callLen:ClG X K Z (.builtin "len") cLen:=λhk=>by
 refine⟨_,CallR.or (hk▸yY) yQ,?_⟩
 intro μ H M ws vs Q hr rx p
 match ws,rx,p with
 |[],_,p=>exact p.elim
 |.ref i::[],⟨v,r,e1,e2,e3⟩,p=>cases e3;subst e1;exact .inl (qZ hr e2 p)
 |.ob _ i::[],⟨v,r,e1,e2,e3⟩,p=>cases e3;subst e1;exact .inl (qZ hr e2 p)
 |.nest i::[],⟨v,r,e1,e2,e3⟩,p=>cases e3;subst e1;exact .inl (qZ hr e2 p)
 |.d x::[],⟨v,r,e1,e2,e3⟩,p =>
  cases e3;subst e1
  cases x with
  |str z =>
   simp only[cLen]at p
   simp only[Rw,Rp]at e2
   subst e2
   split at p
   ·exact .inr ⟨z,rfl,by rw[aBF];assumption,p μ H .refl hr _ (by simp[Rw,Rp])⟩
   ·exact p.elim
  |_=>exact .inl (qZ hr e2 p)
 |.ref i::_::_,_,p=>exact p.elim
 |.ob _ i::_::_,_,p=>exact p.elim
 |.nest i::_::_,_,p=>exact p.elim
 |.d x::_::_,_,p=>cases x <;> exact p.elim
noncomputable def cInt(ws:List W)(M:Mm):Oc W:=match ws with
 |[.d (.int i)]=>.ok (.d (.int i)) M
 |[.d (.bl k)]=>.ok (.d (.int (if k=true then 1 else 0))) M
 |_=>.bad
theorem callInt:ClG X K Z (.type "int") cInt:=λhk=>by
 refine⟨_,aHp,?_⟩
 intro μ H M ws vs Q hr rx p
 match ws,rx,p with
 |[],_,p=>exact p.elim
 |.ref i::_,_,p=>exact p.elim
 |.ob _ i::_,_,p=>exact p.elim
 |.nest i::_,_,p=>exact p.elim
 |.d x::[],⟨v,r,e1,e2,e3⟩,p =>
  cases e3;subst e1
  cases x with
  |int i=>simp only[Rw,Rp]at e2;subst e2;exact .inl ⟨i,rfl,p μ H .refl hr _ (by simp[Rw,Rp])⟩
  |bl k=>simp only[Rw,Rp]at e2;subst e2;exact .inr ⟨k,rfl,p μ H .refl hr _ (by simp[Rw,Rp])⟩
  |_=>exact p.elim
 |.d x::_::_,_,p=>cases x <;> exact p.elim
noncomputable def cMax2(ws:List W)(M:Mm):Oc W:=match ws with
 |[.d (.int i),.d (.int j)]=>.ok (.d (.int (if j > i then j else i))) M
 |_=>.bad
noncomputable def cMin2(ws:List W)(M:Mm):Oc W:=match ws with
 |[.d (.int i),.d (.int j)]=>.ok (.d (.int (if j < i then j else i))) M
 |_=>.bad
theorem callMax2(hc:X.calm=true):ClG X K Z (.builtin "max") cMax2:=λhk=>by
 refine⟨_,aGo hc,?_⟩
 intro μ H M ws vs Q hr rx p
 unfold cMax2 at p
 split at p
 ·obtain⟨v,r,e1,e2,v',r',e1',e2',e3⟩:=rx
  simp only[Rw,Rp]at e2 e2'
  cases e3;subst e1' e1 e2 e2'
  exact⟨_,_,rfl,p μ H .refl hr _ (by simp[Rw,Rp])⟩
 ·exact p.elim
theorem callMin2(hc:X.calm=true):ClG X K Z (.builtin "min") cMin2:=λhk=>by
 refine⟨_,aHw hc,?_⟩
 intro μ H M ws vs Q hr rx p
 unfold cMin2 at p
 split at p
 ·obtain⟨v,r,e1,e2,v',r',e1',e2',e3⟩:=rx
  simp only[Rw,Rp]at e2 e2'
  cases e3;subst e1' e1 e2 e2'
  exact⟨_,_,rfl,p μ H .refl hr _ (by simp[Rw,Rp])⟩
 ·exact p.elim
def cTup(ws:List W)(M:Mm):Oc W:=match ws with
 |[w]=>match sv M w with
  |some xs=>okD (.tup xs) M
  |none=>.bad
 |_=>.bad
theorem aPm{g:List D->Oc W}{ws:List W}{Q:List Addr->Hp->Mm->W->Prop}(hr:HR K μ H M)(rx:Rws K μ H ws vs)(p:Pst K Z μ H (match ws with
 |[w]=>match sv M w with
  |some xs=>g xs
  |none=>.bad
 |_=>.bad) Q):∃w a us xs,ws=[w]/\vs=[.ref a]/\sv M w=some xs/\Rw K μ H w (.ref a)/\(SqL K H a us\/SqT K H a us)/\Rps K μ H xs us/\Pst K Z μ H (g xs) Q:=by
 match ws,rx,p with
 |[],_,p=>exact p.elim
 |[w],⟨v,r,e1,e2,e3⟩,p =>
  cases e3;subst e1
  simp only at p
  cases q:sv M w with
  |none=>rw[q]at p;exact p.elim
  |some xs =>
   rw[q]at p
   obtain⟨a,us,rfl,h1,r1⟩:=tW hr e2 q
   exact⟨w,a,us,xs,rfl,rfl,q,e2,h1,r1,p⟩
 |_::_::_,_,p=>exact p.elim
theorem callTup:ClG X K Z (.type "tuple") cTup:=λhk=>by
 refine⟨_,hk▸vK,?_⟩
 intro μ H M ws vs Q hr rx p
 obtain⟨w,a,us,xs,rfl,rfl,q,e2,h1,r1,p⟩:=aPm hr rx p
 by_cases hw:∃ys,w=.d (.tup ys)
 ·obtain⟨ys,rfl⟩:=hw
  simp only[sv,aAP]at q
  subst q
  have e2':=e2
  simp only[Rw,Rp]at e2
  obtain⟨a',vs',ea,h1',r1'⟩:=e2
  cases ea
  exact⟨a,vs',rfl,.inr ⟨SqT.of h1',p μ H .refl hr _ e2'⟩⟩
 ·have hl:lr M w=some xs:=by
   cases w with
   |ref i=>exact q
   |ob _ _=>exact q
   |nest _=>exact q
   |d x=>cases x <;> first|exact q|exact(hw ⟨_,rfl⟩).elim
  obtain⟨a',vs',ea,h1',r1'⟩:=uH hr e2 hl
  cases ea
  exact⟨a,vs',rfl,.inl ⟨h1',qR hr r1' p⟩⟩
end
section
variable{K:Frag}{o:Expr}{fo:FE}{rest:List Stmt}{F G:FS}
def sNil:FS:=λL M=>.ok (.nx L) M
def sSeq(F G:FS):FS:=λL M=>(F L M).bind λo M1=>match o with
 |.nx L1=>G L1 M1
 |.bk L1=>.ok (.bk L1) M1
 |.ct L1=>.ok (.ct L1) M1
 |.rt w=>.ok (.rt w) M1
theorem aN(hk:X.K=K:=by rfl):Ess X K Z [] sNil:=⟨hk,cqSs aNm λE σ H ⟨μ,M,L,hr,lr,p⟩=>p μ H .refl hr σ lr⟩
theorem aE(h1:Es X K Z st F)(h2:Ess X K Z rest G):Ess X K Z (st::rest) (sSeq F G):=by
 refine⟨h1.k,cqSs (aMl h1.h h2.h) ?_⟩
 rintro E σ H ⟨μ,M,L,hr,lr,p⟩
 refine⟨μ,M,L,hr,lr,p.bind.imp λμ1 H1 M1 o e1 hr1 _ p1=>?_⟩
 cases o with
 |nx L1=>exact λσ' lr'=>⟨μ1,M1,L1,hr1,lr',p1⟩
 |bk L1=>exact p1 μ1 H1 .refl hr1
 |ct L1=>exact p1 μ1 H1 .refl hr1
 |rt w=>exact p1 μ1 H1 .refl hr1
theorem aH(h1:Es X K Z st F):Ess X K Z [st] F:=⟨h1.k,aOa h1.h⟩
def sEx(f:FE):FS:=λL M=>(f L M).bind λ_ M1=>.ok (.nx L) M1
theorem aFm(h:Ev X K Z e f)(hs:swapsWith e none pos.line X.env=pure false:=by rfl):Es X K Z (.Expr e pos) (sEx f):=by
 refine⟨h.k,cqS (aOf h.h hs) ?_⟩
 rintro E σ H ⟨μ,M,L,hr,lr,p⟩
 exact⟨μ,M,L,hr,lr,p.bind.imp λμ1 H1 M1 x e1 hr1 _ p1 v rx=>p1 μ1 H1 .refl hr1 σ (lr.ext hr.lsts e1)⟩
noncomputable def sRt(f:FE):FS:=λL M=>(f L M).bind λw M1=>.ok (.rt w) M1
theorem aK(h:Ev X K Z e f):Es X K Z (.Return (some e) pos) (sRt f):=by
 refine⟨h.k,cqS (aTc h.h) ?_⟩
 rintro E σ H ⟨μ,M,L,hr,lr,p⟩
 exact⟨μ,M,L,hr,lr,p.bind.imp λμ1 H1 M1 x e1 hr1 _ p1 v rx=>p1 μ1 H1 .refl hr1 v rx⟩
noncomputable def sIf(t:FT)(F G:FS):FS:=λL M=>(t L M).bind λb M1=>if b=true then F L M1 else G L M1
theorem aY{c:Expr}{p q:List Stmt}{t:FT}(hc:Et X K Z c t)(ha:Ess X K Z p F)(hb:Ess X K Z q G):Es X K Z (.If c p q pos) (sIf t F G):=by
 refine⟨hc.k,cqS (aUj hc.h ha.h hb.h) ?_⟩
 rintro E σ H ⟨μ,M,L,hr,lr,p⟩
 refine⟨μ,M,L,hr,lr,p.bind.imp λμ1 H1 M1 x e1 hr1 _ p1=>?_⟩
 cases x with
 |true=>exact⟨μ1,M1,L,hr1,lr.ext hr.lsts e1,p1⟩
 |false=>exact⟨μ1,M1,L,hr1,lr.ext hr.lsts e1,p1⟩
noncomputable def gN(i:Nat):FG:=λw L M=>.ok (L.set i (some w)) M
theorem LR.set{L:Lc}{σ:St}{i:Nat}{w:W}{v:V}(h:LR K μ H L σ)(r:Rw K μ H w v):LR K μ H (L.set i (some w)) (σ.set i (some v))where
 len:=by simp[h.len]
 ent:=λj u q=>by
  by_cases hj:i=j
  ·subst hj
   have hl:i < L.length:=by
    by_cases hl:i < L.length
    ·exact hl
    ·rw[List.set_eq_of_length_le (by lia)]at q
     rw[aCL (by lia)]at q;cases q
   rw[aBV hl]at q
   cases q
   exact⟨v,by rw[aBV (by rw[<- h.len];exact hl)],r⟩
  ·rw[aCF hj]at q
   obtain⟨x,q1,q2⟩:=h.ent j u q
   exact⟨x,by rw[aCF hj];exact q1,q2⟩
theorem aP(hN:X.N.Nodup)(hi:X.N[i]?=some x:=by rfl)(hx:Loc X.env.scope x:=by first|exact Or.inl rfl|exact Or.inr rfl)(hk:X.K=K:=by rfl)(hf:X.fn x=true\/X.env.scope.names.lookup x=some .local:=by first|exact .inl rfl|exact .inr rfl|assumption) :
  Eg X K Z (.Name x pos) (gN i):=⟨hk,cqG (sX hN hi hx hf) λv σ H Q ⟨μ,M,L,w,hr,lr,rx,p⟩=>p μ H .refl hr _ (lr.set rx)⟩
noncomputable def gsNil:FGs:=λds L M=>match ds with
 |[]=>.ok L M
 |_=>.bad
noncomputable def gsCons(g:FG)(gs:FGs):FGs:=λds L M=>match ds with
 |d::r=>(g (.d d) L M).bind λL1 M1=>gs r L1 M1
 |[]=>.bad
theorem cS(hk:X.K=K:=by rfl):Egs X K Z [] gsNil:=⟨hk,cqGs aFv λvs σ H Q ⟨μ,M,L,ds,hr,lr,rx,p⟩=>by
 cases ds with
 |nil=>simp only[Rps]at rx;exact⟨rx,p μ H .refl hr σ lr⟩
 |cons d r=>exact p.elim⟩
variable{gs:FGs}
theorem aW{g:FG}(h1:Eg X K Z e g)(h2:Egs X K Z es gs)(hs:(assignEach (e::es) X.env).map (·.2)=assign e X.env::(assignEach es X.env).map (·.2):=by rfl):Egs X K Z (e::es) (gsCons g gs) :=
 ⟨h1.k,cqGs (pM h1.h h2.h hs) λvs σ H Q ⟨μ,M,L,ds,hr,lr,rx,p⟩=>by
  cases ds with
  |nil=>exact p.elim
  |cons d r =>
   simp only[Rps]at rx
   obtain⟨v,vr,e1,rd,rr⟩:=rx
   refine⟨v,vr,e1,μ,M,L,.d d,hr,lr,rd,p.bind.imp λμ1 H1 M1 L1 e1 hr1 _ p1 σ1 lr1=>?_⟩
   exact⟨μ1,M1,L1,r,hr1,lr1,Rps.ext hr.lsts e1 _ _ rr,p1⟩⟩
noncomputable def gT(n:Nat)(gs:FGs):FG:=λw L M=>match w with
 |.d (.tup xs)=>if xs.length=n then gs xs L M else .bad
 |_=>.bad
theorem eY{k n:Nat}(hc:X.calm=true)(h:Egs X K Z es gs)(hn:(assignEach es X.env).length=n:=by rfl)(hst:(assignEach es X.env).findIdx? (·.1)=none:=by rfl):Eg X K Z (.Tuple es k pos) (gT n gs):=by
 have h':=aJk (k:=k) (pos:=pos) hc h.h hn hst
 rw[h.k]at h'
 refine⟨h.k,cqG h' λv σ H Q ⟨μ,M,L,w,hr,lr,rx,p⟩=>?_⟩
 cases w with
 |ref i=>exact p.elim
 |ob _ _=>exact p.elim
 |nest _=>exact p.elim
 |d x=>cases x with
  |tup xs =>
   simp only[gT]at p
   split at p
   ·simp only[Rw,Rp]at rx
    obtain⟨a,vs,e1,q1,r1⟩:=rx
    exact⟨a,vs,e1,SqT.of q1,by rw[<- r1.length];assumption,μ,M,L,xs,hr,lr,r1,p⟩
   ·exact p.elim
  |_=>exact p.elim
def gS(fo fi:FE):FG:=λw L M=>(fo L M).bind λo M1=>(fi L M1).bind λi M2=>match o,i,w with
 |.ref k,.d (.int j),.d x=>match M2[k]? with
  |some xs=>match ixN xs.length j with
   |some t=>.ok L (M2.set k (xs.set t x))
   |none=>.bad
  |none=>.bad
 |_,_,_=>.bad
theorem aDg{i:Expr}{fi:FE}(ho:Ev X K Z o fo)(hi:Ev X K Z i fi)(ha:∀v,assign (.Subscript o i pos) X.env v=(do
   let ov <- holding [v] (eval o X.env)
   let iv <- holding [v,ov] (eval i X.env)
   standAt pos
   holding [v,ov,iv] (setItem ov iv v)
   release [v,ov,iv] []):=by intro _;rfl):Eg X K Z (.Subscript o i pos) (gS fo fi):=by
 refine⟨ho.k,cqG (aQs ho.h hi.h aLy ha) λv σ H Q ⟨μ,M,L,w,hr,lr,rx,p⟩=>?_⟩
 refine⟨μ,M,L,hr,lr,p.bind.imp λμ1 H1 M1 x e1 hr1 _ p1 vo ro=>?_⟩
 refine⟨μ1,M1,L,hr1,lr.ext hr.lsts e1,p1.bind.imp λμ2 H2 M2 y e2 hr2 _ p2 vi ri=>?_⟩
 cases x with
 |d x=>exact p2.elim
 |ob _ _=>exact p2.elim
 |nest _=>exact p2.elim
 |ref k=>cases y with
  |ref j=>exact p2.elim
  |ob _ _=>exact p2.elim
  |nest _=>exact p2.elim
  |d y=>cases y with
   |int j=>cases w with
    |ref q=>exact p2.elim
    |ob _ _=>exact p2.elim
    |nest _=>exact p2.elim
    |d z =>
     simp only at p2
     cases q1:M2[k]? with
     |none=>simp only[q1]at p2;exact p2.elim
     |some xs =>
      simp only[q1]at p2
      cases q2:ixN xs.length j with
      |none=>simp only[q2]at p2;exact p2.elim
      |some t =>
       simp only[q2]at p2
       have ro:=ro.ext hr1.lsts e2
       obtain⟨a,qa,rfl,il⟩:=ro
       obtain⟨a',vs,qa',h1,r1⟩:=hr2.at q1 qa
       rw[qa]at qa';cases qa'
       simp only[Rw,Rp]at ri
       subst ri
       have rz:=Rw.ext hr1.lsts e2 (Rw.ext hr.lsts e1 rx)
       refine⟨a,vs,j,t,rfl,rfl,h1,by rw[<- r1.length];exact q2,?_⟩
       exact p2 μ2 _ (gZ qa) (hr2.set qa (Rps.set rz t r1)) σ ((lr.ext hr.lsts (e1.trans e2)).ext hr2.lsts (gZ qa))
   |_=>exact p2.elim
def sAs(f:FE)(g:FG):FS:=λL M=>(f L M).bind λw M1=>(g w L M1).bind λL1 M2=>.ok (.nx L1) M2
theorem eN{tg:Expr}{g:FG}(he:Ev X K Z e f)(hg:Eg X K Z tg g)(hs:swapsWithSole [tg] e pos.line X.env=pure false:=by rfl)(hw:swappedStores [tg] e X.env=pure none:=by rfl)
  (h1:(assignEach [tg] X.env).map (·.2)=[assign tg X.env]:=by rfl):Es X K Z (.Assign [tg] e pos) (sAs f g):=by
 refine⟨he.k,cqS (aIl he.h hg.h hs hw h1) ?_⟩
 rintro E σ H ⟨μ,M,L,hr,lr,p⟩
 refine⟨μ,M,L,hr,lr,p.bind.imp λμ1 H1 M1 x e1 hr1 _ p1 v rx=>?_⟩
 exact⟨μ1,M1,L,x,hr1,lr.ext hr.lsts e1,rx,p1.bind.imp λμ2 H2 M2 L2 e2 hr2 _ p2 σ2 lr2=>p2 μ2 H2 .refl hr2 σ2 lr2⟩
theorem aR(hN:X.N.Nodup)(he:Ev X K Z e f)(hi:X.N[i]?=some x:=by rfl)(hx:Loc X.env.scope x:=by first|exact Or.inl rfl|exact Or.inr rfl)(hs:swapsWith e (some (.Name x pos')) pos.line X.env=pure false:=by rfl)
  (hf:X.fn x=true\/X.env.scope.names.lookup x=some .local:=by first|exact .inl rfl|exact .inr rfl|assumption):Es X K Z (.Assign [.Name x pos'] e pos) (sAs f (gN i)):=by
 refine⟨he.k,cqS (aRj hN hi hx he.h hs hf) ?_⟩
 rintro E σ H ⟨μ,M,L,hr,lr,p⟩
 refine⟨μ,M,L,hr,lr,p.bind.imp λμ1 H1 M1 x e1 hr1 _ p1 v rx=>?_⟩
 exact p1 μ1 H1 .refl hr1 _ (LR.set (lr.ext hr.lsts e1) rx)
def sPar(i j:Nat)(fs:FA):FS:=λL M=>(fs L M).bind λws M1=>match ws with
 |[v,w]=>.ok (.nx ((L.set i (some v)).set j (some w))) M1
 |_=>.bad
end
section
variable{K:Frag}{o:Expr}{fo:FE}{rest:List Stmt}{F G:FS}
theorem lE{px pt:Pos}{kt k2 pt2}(hc:X.calm=true)(hN:X.N.Nodup)(ha:Ea X K Z [a,b] fs)(hi:X.N[i]?=some x:=by rfl)(hj:X.N[j]?=some y:=by rfl)(hij:i≠j:=by decide)
  (hx:X.env.scope.names.lookup x=some .local:=by rfl)(hy:X.env.scope.names.lookup y=some .local:=by rfl)
  (hw:swappedStores [.Tuple [.Name x px,.Name y py] kt pt] (.Tuple [a,b] k2 pt2) X.env=pure (some [x,y]):=by rfl)
  (hs:swapsWithSole [.Tuple [.Name x px,.Name y py] kt pt] (.Tuple [a,b] k2 pt2) pos.line X.env=pure false:=by rfl) :
  Es X K Z (.Assign [.Tuple [.Name x px,.Name y py] kt pt] (.Tuple [a,b] k2 pt2) pos) (sPar i j fs):=by
 refine⟨ha.k,cqS (aTn hc hN hi hj hij hx hy ha.h hw hs) ?_⟩
 rintro E σ H ⟨μ,M,L,hr,lr,p⟩
 refine⟨μ,M,L,hr,lr,p.bind.imp λμ1 H1 M1 ws e1 hr1 _ p1 vs rx=>?_⟩
 match ws,rx,p1 with
 |[],_,p1=>exact p1.elim
 |[_],_,p1=>exact p1.elim
 |[v,w],⟨v1,r,q1,q2,v2,r',q1',q2',q3⟩,p1 =>
  cases q3;subst q1' q1
  exact⟨v1,v2,rfl,p1 μ1 H1 .refl hr1 _ (LR.set (LR.set (lr.ext hr.lsts e1) q2) q2')⟩
 |_::_::_::_,_,p1=>exact p1.elim
def sAug(g:W->W->Mm->Oc W)(i:Nat)(f:FE):FS:=λL M=>(eV i L M).bind λx _=>(f L M).bind λy M1=>(g x y M1).bind λz M2=>.ok (.nx (L.set i (some z))) M2
theorem yI{i:Nat}{op:Operator}{g:Int->Int->Int}(hN:X.N.Nodup)(ho:PIp X op (ipI g))(he:Ev X K Z e f)(hi:X.N[i]?=some x:=by rfl)(hx:Loc X.env.scope x:=by first|exact Or.inl rfl|exact Or.inr rfl)
  (hf:X.fn x=true\/X.env.scope.names.lookup x=some .local:=by first|exact .inl rfl|exact .inr rfl|assumption):Es X K Z (.AugAssign (.Name x pos') op e pos) (sAug (pI (λ_ _=>true) λi j=>.int (g i j)) i f):=by
 refine⟨he.k,cqS (aLx hN hi hx he.h ho hf) ?_⟩
 rintro E σ H ⟨μ,M,L,hr,lr,p⟩
 unfold sAug eV at p
 cases q:L[i]? with
 |none=>rw[q]at p;exact p.elim
 |some o =>
  cases o with
  |none=>rw[q]at p;exact p.elim
  |some w =>
   rw[q]at p
   obtain⟨v,q1,q2⟩:=lr.ent i w q
   refine⟨v,q1,μ,M,L,hr,lr,(show Pst K Z μ H ((f L M).bind _) _ from p).bind.imp λμ1 H1 M1 y e1 hr1 _ p1 u ru=>?_⟩
   cases w with
   |ref i=>exact p1.elim
   |ob _ _=>exact p1.elim
   |nest _=>exact p1.elim
   |d w=>cases y with
    |ref j=>cases w <;> exact p1.elim
    |ob _ _=>cases w <;> exact p1.elim
    |nest _=>cases w <;> exact p1.elim
    |d y=>cases w <;> cases y <;> first
     |exact p1.elim
     |(simp only[Rw,Rp]at q2 ru
       exact⟨_,_,q2,ru,p1 μ1 H1 .refl hr1 _ (LR.set (lr.ext hr.lsts e1) (by simp[Rw,Rp]))⟩)
noncomputable def pAppend(x y:W)(M:Mm):Oc W:=match x,y with
 |.ref k,.d d=>match M[k]? with
  |some xs=>if xs.length < 16777216 then .ok (.d .non) (M.set k (xs++[d]))else .bad
  |none=>.bad
 |_,_=>.bad
theorem aLl{k:Nat}(hr:HR K μ H M)(r:Rw K μ H (.ref k) v):tyV K "list" v H:=by
 obtain⟨a,q,rfl,il⟩:=r
 obtain⟨vs,h⟩:=il
 exact .inl ⟨rfl,vs,SqL.of h⟩
noncomputable def eM1(g:W->W->Mm->Oc W)(fo fe:FE):FE:=λL M=>(fo L M).bind λx M1=>match x with
 |.ref k=>(fe L M1).bind λy M2=>g (.ref k) y M2
 |_=>.bad
theorem wX(ho:Ev X K Z o fo)(he:Ev X K Z e fa)(hbase:attributeBase o "append" X.env (eval o X.env)=eval o X.env:=by rfl)
  (hfew:((backTo cpos (starEach [e] X.env)).all (λx=>!x.1)&&(backToKw cpos (keywordEach [] X.env)).all (λx=>x.1.isSome)&&decide ([e].length+([]:List Keyword).length+(if([]:List Keyword).isEmpty then 0 else 1) < 30))=true:=by rfl)
  (hline:(apos.endLine==cpos.line)=true:=by rfl)(hs:starEach [e] X.env=(false,eval e X.env)::starEach [] X.env:=by rfl)(hplain:(backTo cpos (starEach [] X.env)).any (·.1)=false:=by rfl) :
  Ev X K Z (.Call (.Attribute o "append" apos) [e] [] cpos) (eM1 pAppend fo fa):=by
 have h:=wT aFI PySem.F.slot_list_append PySem.F.type_list_append wP ho.h (dC he.h fQ hs) hbase hfew hline hs hplain
 rw[ho.k]at h
 refine⟨ho.k,cqE h ?_⟩
 rintro σ H Q ⟨μ,M,L,hr,lr,p⟩
 refine⟨μ,M,L,hr,lr,p.bind.imp λμ1 H1 M1 x e1 hr1 _ p1 v rx=>?_⟩
 cases x with
 |d x=>exact p1.elim
 |ob _ _=>exact p1.elim
 |nest _=>exact p1.elim
 |ref k =>
  refine⟨aLl hr1 rx,μ1,M1,L,hr1,lr.ext hr.lsts e1,p1.bind.imp λμ2 H2 M2 y e2 hr2 _ p2 u ry=>?_⟩
  cases y with
  |ref j=>exact p2.elim
  |ob _ _=>exact p2.elim
  |nest _=>exact p2.elim
  |d d =>
   simp only[pAppend]at p2
   cases q1:M2[k]? with
   |none=>simp only[q1]at p2;exact p2.elim
   |some xs =>
    simp only[q1]at p2
    split at p2
    ·rename_i hz
     obtain⟨a,qa,rfl,il⟩:=rx.ext hr1.lsts e2
     obtain⟨a',vs,qa',h1,r1⟩:=hr2.at q1 qa
     rw[qa]at qa';cases qa'
     refine⟨a,vs,u,rfl,rfl,h1,by rw[<- r1.length,aBF];exact hz,?_⟩
     exact p2 μ2 _ (gZ qa) (hr2.set qa (r1.append (.cons ry .nil))) _ (by simp[Rw,Rp])
    ·exact p2.elim
noncomputable def pPopAt(x y:W)(M:Mm):Oc W:=match x,y with
 |.ref k,.d (.int i)=>match M[k]? with
  |some xs=>match seqIndex? i xs.length with
   |some j=>match xs[j]? with
    |some d=>if -9223372036854775808<=i/\i < 9223372036854775808 then .ok (.d d) (M.set k (xs.eraseIdx j))else .bad
    |none=>.bad
   |none=>.bad
  |none=>.bad
 |_,_=>.bad
theorem aIi(ho:Ev X K Z o fo)(he:Ev X K Z e fa)(hbase:attributeBase o "pop" X.env (eval o X.env)=eval o X.env:=by rfl)
  (hfew:((backTo cpos (starEach [e] X.env)).all (λx=>!x.1)&&(backToKw cpos (keywordEach [] X.env)).all (λx=>x.1.isSome)&&decide ([e].length+([]:List Keyword).length+(if([]:List Keyword).isEmpty then 0 else 1) < 30))=true:=by rfl)
  (hline:(apos.endLine==cpos.line)=true:=by rfl)(hs:starEach [e] X.env=(false,eval e X.env)::starEach [] X.env:=by rfl)(hplain:(backTo cpos (starEach [] X.env)).any (·.1)=false:=by rfl) :
  Ev X K Z (.Call (.Attribute o "pop" apos) [e] [] cpos) (eM1 pPopAt fo fa):=by
 have h:=wT aFI PySem.F.slot_list_pop PySem.F.type_list_pop aMk ho.h (dC he.h fQ hs) hbase hfew hline hs hplain
 rw[ho.k]at h
 refine⟨ho.k,cqE h ?_⟩
 rintro σ H Q ⟨μ,M,L,hr,lr,p⟩
 refine⟨μ,M,L,hr,lr,p.bind.imp λμ1 H1 M1 x e1 hr1 _ p1 v rx=>?_⟩
 cases x with
 |d x=>exact p1.elim
 |ob _ _=>exact p1.elim
 |nest _=>exact p1.elim
 |ref k =>
  refine⟨aLl hr1 rx,μ1,M1,L,hr1,lr.ext hr.lsts e1,p1.bind.imp λμ2 H2 M2 y e2 hr2 _ p2 u ry=>?_⟩
  cases y with
  |ref j=>exact p2.elim
  |ob _ _=>exact p2.elim
  |nest _=>exact p2.elim
  |d y=>cases y with
   |int i =>
    simp only[Rw,Rp]at ry
    subst ry
    simp only[pPopAt]at p2
    cases q1:M2[k]? with
    |none=>simp only[q1]at p2;exact p2.elim
    |some xs =>
     simp only[q1]at p2
     cases q2:seqIndex? i xs.length with
     |none=>simp only[q2]at p2;exact p2.elim
     |some j =>
      simp only[q2]at p2
      cases q3:xs[j]? with
      |none=>simp only[q3]at p2;exact p2.elim
      |some d =>
       simp only[q3]at p2
       split at p2
       ·rename_i hz
        obtain⟨a,qa,rfl,il⟩:=rx.ext hr1.lsts e2
        obtain⟨a',vs,qa',h1,r1⟩:=hr2.at q1 qa
        rw[qa]at qa';cases qa'
        obtain⟨w,q4,q5⟩:=r1.get q3
        refine⟨a,vs,i,j,w,rfl,rfl,h1,hz.1,hz.2,by rw[<- r1.length];exact q2,q4,?_⟩
        exact p2 μ2 _ (gZ qa) (hr2.set qa (r1.eraseIdx j)) w (Rp.ext hr2.lsts (gZ qa) _ _ q5)
       ·exact p2.elim
   |_=>exact p2.elim
abbrev FO:=Lc->Mm->Oc (Option Int)
def liftO(K:Frag)(Z:Zt)(f:FO):TO:=λσ H Q=>∃μ M L,HR K μ H M/\LR K μ H L σ/\Pst K Z μ H (f L M) λμ' H' _ w=>Q w H'
structure Eo(X:Cx)(K:Frag)(Z:Zt)(e:Option Expr)(f:FO):Prop where
 k:X.K=K
 h:PO X e (liftO K Z f)
noncomputable def oNo:FO:=λ_ M=>.ok none M
noncomputable def oAt(f:FE):FO:=λL M=>(f L M).bind λw M1=>match w with
 |.d (.int i)=>.ok (some i) M1
 |_=>.bad
theorem cqO{oe:Option Expr}{t t':TO}(h:PO X oe t)(i:∀σ H Q,t' σ H Q->t σ H Q):PO X oe t':=λpins s σ H Q I q=>h pins s σ H Q I (i _ _ _ q)
theorem lU(hk:X.K=K:=by rfl):Eo X K Z none oNo:=⟨hk,cqO aMv λσ H Q ⟨μ,M,L,hr,lr,p⟩=>p μ H .refl hr⟩
theorem dB(h:Ev X K Z e f):Eo X K Z (some e) (oAt f):=by
 refine⟨h.k,cqO (aPj h.h) ?_⟩
 rintro σ H Q ⟨μ,M,L,hr,lr,p⟩
 refine⟨μ,M,L,hr,lr,p.bind.imp λμ1 H1 M1 x e1 hr1 _ p1 v rx=>?_⟩
 cases x with
 |ref i=>exact p1.elim
 |ob _ _=>exact p1.elim
 |nest _=>exact p1.elim
 |d x=>cases x with
  |int i=>simp only[Rw,Rp]at rx;exact⟨i,rx,p1 μ1 H1 .refl hr1⟩
  |_=>exact p1.elim
def cut(xs:List α)(lo hi:Option Int):List α:=(xs.drop (HT.sIx xs.length 0 lo)).take (HT.sIx xs.length xs.length hi - HT.sIx xs.length 0 lo)
def pSl(x:W)(lo hi:Option Int)(M:Mm):Oc W:=match x with
 |.d (.tup xs)=>okD (.tup (cut xs lo hi)) M
 |x=>match lr M x with
  |some xs=>okD (.lst (cut xs lo hi)) M
  |none=>.bad
theorem aGd{ds:List D}(r:Rps K μ H ds vs):Rps K μ H (cut ds lo hi) (cutV vs lo hi):=by
 unfold cut cutV
 rw[r.length]
 exact(r.drop _).take _
end
theorem rY:fillsNumberSlot (.type "tuple") "mul"=pure false :=
 PySem.fillsNumberSlot_seq (id:="tuple.__mul__") (r:=some (.builtin "tuple.__rmul__")) aEU.lookup (by decide +kernel) F.slot_tuple_rmul.lookup (by decide +kernel)
theorem zB:seqRepeat? (.type "tuple")=pure (some (.builtin "tuple.__mul__")):=by
 unfold seqRepeat?
 rw[PySem.seqSlot_of (T:="tuple") (name:="__mul__") (id:="tuple.__mul__") aEU.lookup (by decide +kernel),PySem.seqSlot_of (T:="tuple") (name:="__rmul__") (id:="tuple.__rmul__") F.slot_tuple_rmul.lookup (by decide +kernel)]
 rfl
theorem tK(a:Int)(t:Tok)(l:Addr)(items:Array Value)(n:Nat)(dd:Option Addr)(sl:Array (Option Value)) :
  Meets (Builtin.«int.__rmul__» ⟨[.int a t,.ref l],[]⟩) (λ_ R s=>s.heap.get? l=some {cls:=.type "tuple",dict:=dd,data:=.seq items n,slots:=sl}/\R (.ok (.ret Value.notImplemented)) s) :=
 .of_wp λprog w A R s h=>by obtain⟨hp,g,d,tk,os⟩:=s;obtain⟨hl,h⟩:=h;wp_walk using aBS hl;exact⟨_,rfl,h⟩
theorem aDc(l:Addr)(items:Array Value)(n:Nat)(dd:Option Addr)(sl:Array (Option Value))(x:Int)(u:Tok)(h1:(decide (x < -(2 ^ 63)) || decide (x>=2 ^ 63))=false)(h2:(items.isEmpty || x==1)=true) :
  Meets (Builtin.«tuple.__mul__» ⟨[.ref l,.int x u],[]⟩) (λ_ R s=>s.heap.get? l=some {cls:=.type "tuple",dict:=dd,data:=.seq items n,slots:=sl}/\R (.ok (.ret (Value.ref l))) s) :=
 .of_wp λprog w A R s h=>by
  obtain⟨hp,g,d,tk,os⟩:=s;obtain⟨hl,h⟩:=h
  have f1:=AutoSeq1.idx_int
  wp_walk using aBS hl
  refine aGJ (by rw[h1];rfl) ?_
  wp_walk using aBS hl
  exact⟨_,rfl,h⟩
theorem aDw(l:Addr)(items:Array Value)(n:Nat)(dd:Option Addr)(sl:Array (Option Value))(x:Int)(u:Tok)(h1:(decide (x < -(2 ^ 63)) || decide (x>=2 ^ 63))=false)(h2:(items.isEmpty || x==1)=false)(h3:(decide (x<=0) || items.isEmpty)=true) :
  Meets (Builtin.«tuple.__mul__» ⟨[.ref l,.int x u],[]⟩) (λ_ R s=>s.heap.get? l=some {cls:=.type "tuple",dict:=dd,data:=.seq items n,slots:=sl}/\R (.ok (.ret (Value.ref s.heap.objs.size))) {s with heap:=s.heap.push {cls:=Value.type "tuple",data:=Data.seq #[]},toks:=s.toks}) :=
 .of_wp λprog w A R s h=>by
  obtain⟨hp,g,d,tk,os⟩:=s;obtain⟨hl,h⟩:=h
  have f1:=AutoSeq1.idx_int
  wp_walk using aBS hl
  refine aGJ (by rw[h1];rfl) ?_
  wp_walk using aBS hl
  exact⟨_,rfl,h⟩
theorem aDz(l:Addr)(items:Array Value)(n:Nat)(dd:Option Addr)(sl:Array (Option Value))(x:Int)(u:Tok)(h1:(decide (x < -(2 ^ 63)) || decide (x>=2 ^ 63))=false)(h2:(items.isEmpty || x==1)=false)(h3:(decide (x<=0) || items.isEmpty)=false)
  (h4:¬((items.size:Int)*x > (2 ^ 63 - 1) / 8))(h5:¬Builtin.Tuple.tupleTooMany (items.size*x)=true)(hsz:(List.foldl (λx1 x2=>x1++x2) #[] (List.replicate x.toNat items)).size<=sizeLine) :
  Meets (Builtin.«tuple.__mul__» ⟨[.ref l,.int x u],[]⟩) (λ_ R s=>s.heap.get? l=some {cls:=.type "tuple",dict:=dd,data:=.seq items n,slots:=sl}/\R (.ok (.ret (Value.ref s.heap.objs.size))) {s with heap:=s.heap.push {cls:=Value.type "tuple",data:=Data.seq (List.foldl (λx1 x2=>x1++x2) #[] (List.replicate x.toNat items))},toks:=s.toks}) :=
 .of_wp λprog w A R s h=>by
  obtain⟨hp,g,d,tk,os⟩:=s;obtain⟨hl,h⟩:=h
  have f1:=AutoSeq1.idx_int
  wp_walk using aBS hl
  refine aGJ (by rw[h1];rfl) ?_
  wp_walk using aBS hl
  refine aGJ (aBI h4) ?_
  wp_walk using aBS hl
  exact⟨_,rfl,h⟩
variable{K:Frag}
def rRepT(K:Frag):R2:=λx y H Q=>∃a k xs,x=.ref a/\y=.int k/\SqT K H a xs /\ -(2 ^ 63)<=k/\k < 2 ^ 63/\xs.length*k.toNat<=sizeLine /\
 ((xs=[]\/k=1)->Q (.ref a) H)/\∀p,H p=none->Q (.ref p) (upd H p (.tup (List.replicate k.toNat xs).flatten))
theorem tU(its:List Value)(m:Nat):List.foldl (λx1 x2=>x1++x2) #[] (List.replicate m its.toArray)=(List.replicate m its).flatten.toArray:=by
 have:=rM its m []
 rw[aFZ]at this
 exact this
theorem aNs:OpR X (binaryOp .Mult) (rRepT X.K):=by
 intro pins s σ H x y v u Q I rx ry h
 obtain⟨l,k,xs,rfl,rfl,hH,h1,h2,hz,qs,q⟩:=h
 cases rx
 obtain⟨t,rfl⟩:=ry
 obtain⟨its,r,pl,hsz⟩:=I.tuple hH
 obtain⟨⟨cls,dd,data,sl⟩,ho,hc,n,hd⟩:=id pl
 simp only at hc hd
 subst hc hd
 have hl:=r.length
 have b1:(decide (k < -(2 ^ 63)) || decide (k>=2 ^ 63))=false:=by
  rw[aGC];exact⟨aBI (by lia),aBI (by lia)⟩
 refine wpAny_binaryOp_repeat_ref (T:="tuple") (U:="int") (by decide) ⟨_,ho,rfl⟩ (λs'=>aHE s' k t) rY F.fills_int_mul aGH zB F.slot_int_index.lookup
  (aCT aGH (aHE s k t) F.entry_int_rmul (F.args_int_rmul_2 _ _) (tK k t l its.toArray n dd sl) ⟨ho,rfl,⟨_,ho,rfl⟩,?_⟩)
 by_cases hs:xs=[]\/k=1
 ·refine aCT aEU ⟨_,ho,rfl⟩ aHC (aGV _ _) (aDc l its.toArray n dd sl k t b1 ?_) ⟨ho,⟨.ref l,H,I,rfl,qs hs⟩⟩
  rcases hs with hs|hs
  ·subst hs
   have:its=[]:=by simpa using hl.symm
   simp[this]
  ·simp[hs]
 ·have hne:its≠[]:=λz=>hs (.inl (by subst z;simpa using hl))
  have hn1:(its.toArray.isEmpty || k==1)=false:=by
   rw[aGC];exact⟨by simpa using hne,by simp;exact λz=>hs (.inr z)⟩
  by_cases h0:k<=0
  ·refine aCT aEU ⟨_,ho,rfl⟩ aHC (aGV _ _) (aDw l its.toArray n dd sl k t b1 hn1 (by simp[h0])) ⟨ho,?_⟩
   have e:(List.replicate k.toNat xs).flatten=[]:=by rw[show k.toNat=0 by lia];rfl
   have q:=q s.heap.objs.size I.fresh
   rw[e]at q
   refine⟨.ref s.heap.objs.size,_,I.laid (t':=s.toks) (o:=.tup []) (λb ob q=>aAA _ q) (aAH _) ?_,rfl,q⟩
   exact⟨aFQ _,[],.nil,IsTup.new _ _⟩
  ·have hk:((k.toNat:Nat):Int)=k:=by lia
   have hz':its.length*k.toNat<=sizeLine:=by rw[<- hl];exact hz
   have hcast:((its.toArray.size:Nat):Int)*k=((its.length*k.toNat:Nat):Int):=by
    rw[aAK,Int.natCast_mul,hk]
   have hs24:(sizeLine:Nat)=16777216:=aBF
   refine aCT aEU ⟨_,ho,rfl⟩ aHC (aGV _ _) (aDz l its.toArray n dd sl k t b1 hn1 ?_ ?_ ?_ ?_) ⟨ho,?_⟩
   ·rw[aGC];exact⟨aBI h0,by simpa using hne⟩
   ·rw[hcast];lia
   ·unfold Builtin.Tuple.tupleTooMany
    rw[hcast]
    intro z
    have z:=aDD z
    lia
   ·rw[tU,aAK,zO,Nat.mul_comm];exact hz'
   ·rw[tU]
    refine⟨.ref s.heap.objs.size,_,I.laid (t':=s.toks) (o:=.tup (List.replicate k.toNat xs).flatten) (λb ob q=>aAA _ q) (aAH _) ?_,rfl,q _ I.fresh⟩
    exact⟨by rw[zO,Nat.mul_comm];exact hz,_,r.rep k.toNat,IsTup.new _ _⟩
def pMulA(x y:W)(M:Mm):Oc W:=match x,y with
 |.d (.tup xs),.d (.int k)=>if xs.length*k.toNat<=16777216/\k < 9223372036854775808 /\ -9223372036854775808<=k then okD (.tup (List.replicate k.toNat xs).flatten) M else .bad
 |x,y=>pMul x y M
theorem opMulA:OpG X K Z (binaryOp .Mult) pMulA:=λhk=>by
 obtain⟨r,h1,h2⟩:=(opMul (X:=X) (K:=K) (Z:=Z)) hk
 refine⟨_,OpR.or (hk▸aNs) h1,?_⟩
 intro μ H M x y v u Q hr rx ry p
 have gen:=λp=>(Or.inr (h2 μ H M x y v u Q hr rx ry p):rRepT K v u H Q\/r v u H Q)
 cases x with
 |ref i=>exact gen (by cases y with|ref j=>exact p|ob _ _=>exact p|nest _=>exact p|d y=>cases y <;> exact p)
 |ob _ _=>exact gen (by cases y with|ref j=>exact p|ob _ _=>exact p|nest _=>exact p|d y=>cases y <;> exact p)
 |nest _=>exact gen (by cases y with|ref j=>exact p|ob _ _=>exact p|nest _=>exact p|d y=>cases y <;> exact p)
 |d x=>cases x with
  |tup xs=>cases y with
   |ref j=>exact gen p
   |ob _ _=>exact gen p
   |nest _=>exact gen p
   |d y=>cases y with
    |int k =>
     simp only[pMulA]at p
     split at p
     ·rename_i hz
      have rx':=rx
      simp only[Rw,Rp]at rx ry
      obtain⟨a,vs,rfl,q1,r1⟩:=rx
      refine .inl ⟨a,k,vs,rfl,ry,SqT.of q1,hz.2.2,hz.2.1,by rw[<- r1.length,aBF];exact hz.1,λe=>?_,qR hr (r1.rep k.toNat) p⟩
      refine p μ H .refl hr _ ?_
      have:(List.replicate k.toNat xs).flatten=xs:=by
       rcases e with e|e
       ·subst e
        have:xs=[]:=by have:=r1.length;simpa using this
        subst this;simp
       ·subst e;simp[List.replicate]
      rw[this];exact rx'
     ·exact p.elim
    |_=>exact gen p
  |_=>exact gen (by cases y with|ref j=>exact p|ob _ _=>exact p|nest _=>exact p|d y=>cases y <;> exact p)
end EV
end
variable{M:EV.Mm}{f fa fb fc fo fi:EV.FE}{L:EV.Lc}{Z:EV.Zt}{F:EV.FS}{QS:EV.Out->EV.Mm->Prop}{QG:EV.Lc->EV.Mm->Prop}{QO:Option Int->EV.Mm->Prop}{EX:EV.Exn->EV.Mm->Prop}
section
open PySem PySem.Spec PyProof.Rows
namespace HT
variable{prog:Program}{E:Value->Shared->Prop}
theorem getItem_tuple_whole{t sl:Addr}{vl vu:Value}(ht:IsTup s.heap t items)(hs:s.heap.IsSliceOf sl vl vu .none)(pl:IsPart vl lo)(pu:IsPart vu hi)
  (hw:sIx items.size 0 lo=0/\sIx items.size items.size hi=items.size)(h:Q (.ref t) s):wpAny (model prog w) A (getItem (.ref t) (.ref sl)) Q E s:=by
 obtain⟨os,hos,hcs,hds⟩:=id hs
 have hTs:s.TypeIs (.ref sl) "slice":=⟨os,hos,hcs⟩
 unfold getItem
 try with_reducible refine aBT ?_
 first|refine aAB (aAF ?_)|skip
 refine aAB (wpAny_sequenceKey ht.typeIs (by decide) ?_)
 refine aAB (aBR (name:=Str.ofString "__getitem__") ht.typeIs aCD
  (aBY aCD ht.typeIs entry_tuple_getitem ?_ (args_tuple_getitem _ _)))
 show wpAny _ _ (Builtin.Tuple.tupleItemsOf (.ref t) >>= _) _ _ s
 refine aAB (tupleItemsOf_ ht ?_)
 refine aAB (wpAny_typeOf hTs ?_)
 rw[aAJ (by decide)]
 refine aAB (lT hs pl pu ?_)
 have hyes:((((sIx items.size 0 lo:Nat):Int)==0&&(1:Int)==1&&(sIx items.size items.size hi - sIx items.size 0 lo)==items.size)=true):=by
  rw[hw.1,hw.2];simp
 show wpAny _ _ (if(((sIx items.size 0 lo:Nat):Int)==0&&(1:Int)==1&&(sIx items.size items.size hi - sIx items.size 0 lo)==items.size)=true then _ else _) _ _ s
 rw[aAJ hyes]
 refine aAB (m:=Builtin.Tuple.tupleIsExact _) ?_
 unfold Builtin.Tuple.tupleIsExact
 refine aAB (wpAny_typeOf ht.typeIs (aAF ?_))
 show wpAny _ _ (if((Value.type "tuple"==Value.type "tuple")=true)then _ else _) _ _ s
 rw[aAJ (by decide)]
 first
  |exact aAB (aDA (aAF ⟨_,rfl,aAF h⟩))
  |exact aAB (aDA (aAB (aAF ⟨_,rfl,aAF h⟩)))
  |exact aAB (aDA (aAB (aAF (aAF ⟨_,rfl,aAF h⟩))))
end HT
namespace EV
open L2
section
variable{K:Frag}{e a b o:Expr}{es:List Expr}{pos:Pos}{fs:FA}{rest:List Stmt}{G:FS}
def rSlA(K:Frag):V->Option Int->Option Int->Hp->VK->Prop:=λx lo hi H Q=>∃a xs,x=.ref a/\SqT K H a xs /\
 ((HT.sIx xs.length 0 lo=0/\HT.sIx xs.length xs.length hi=xs.length)->Q (.ref a) H)/\∀p,H p=none->Q (.ref p) (upd H p (.tup (cutV xs lo hi)))
theorem aOx:SlR X (rSlA X.K):=by
 intro pins s σ H x v vl vu lo hi sl Q I rx hs pl pu h
 obtain⟨a,xs,rfl,hx,q1,q2⟩:=h
 by_cases hw:HT.sIx xs.length 0 lo=0/\HT.sIx xs.length xs.length hi=xs.length
 ·cases rx
  obtain⟨its,r,ht,hz⟩:=I.tuple hx
  have hlen:its.toArray.size=xs.length:=by rw[aAK];exact r.length.symm
  refine⟨"tuple",_,aCD.lookup,ht.typeIs,?_⟩
  exact HT.getItem_tuple_whole ht hs pl pu (by rw[hlen];exact hw) ⟨.ref a,H,I,rfl,q1 hw⟩
 ·exact aSm pins s σ H _ v vl vu lo hi sl Q I rx hs pl pu ⟨a,xs,rfl,hx,hw,q2⟩
theorem aGq{xs:List D}(h:HT.sIx xs.length 0 lo=0/\HT.sIx xs.length xs.length hi=xs.length):cut xs lo hi=xs:=by
 unfold cut;rw[h.1,h.2];simp
theorem qC{x:W}{Q:VK}(hr:HR K μ H M)(rx:Rw K μ H x v)(p:Pst K Z μ H (match lr M x with
  |some xs=>okD (.lst (cut xs lo hi)) M
  |none=>.bad) (Wk K Q)):rSlL K v lo hi H Q:=by
 cases q1:lr M x with
 |none=>rw[q1]at p;exact p.elim
 |some xs =>
  rw[q1]at p
  obtain⟨a,vs,rfl,h1,r1⟩:=uH hr rx q1
  exact⟨a,vs,rfl,h1,kR hr (aGd r1) p⟩
structure KitT(T:String):Prop where
 non:∀K,PySem.W.kitOne K (.type "NoneType") (.type T)=some false
 bl:∀K,PySem.W.kitOne K (.type "bool") (.type T)=some (T=="bool" || T=="int")
 int:∀K,PySem.W.kitOne K (.type "int") (.type T)=some (T=="int")
 str:∀K,PySem.W.kitOne K (.type "str") (.type T)=some (T=="str")
 tup:∀K,PySem.W.kitOne K (.type "tuple") (.type T)=some (T=="tuple")
 lst:∀K,PySem.W.kitOne K (.type "list") (.type T)=some (T=="list")
def flatD(d:D):Bool:=(fv d).isSome
def pInG(neg:Bool)(x y:W)(M:Mm):Oc W:=match x,sv M y with
 |.d d,some xs=>if flatD d=true/\xs.all flatD=true then .ok (.d (.bl (if neg then !(xs.any λy=>eqD y d)else xs.any λy=>eqD y d))) M else .bad
 |_,_=>.bad
theorem aFs:∀{xs:List D} {vs:List V} {d:D} {v:V},Rps K μ H xs vs->xs.all flatD=true->Rp K μ H d v->flatD d=true->vs.all flatV=true/\inV v vs=xs.any (λy=>eqD y d)
 |[],_,_,_,h,_,_,_=>by simp only[Rps]at h;subst h;exact⟨rfl,rfl⟩
 |x::xs,_,d,v,h,hf,hd,hfd=>by
  simp only[Rps]at h
  obtain⟨u,r,rfl,e2,e3⟩:=h
  rw[aEC,aCO]at hf
  obtain⟨i1,i2⟩:=aFs e3 hf.2 hd hfd
  obtain⟨w,hw⟩:=aDX.mp hf.1
  obtain⟨w2,hw2⟩:=aDX.mp hfd
  obtain⟨rfl,f1⟩:=wS hw e2
  obtain⟨rfl,f2⟩:=wS hw2 hd
  refine⟨by rw[aEC,f1,i1];rfl,?_⟩
  show(eqV u v || inV v r)=_
  rw[i2,aMi hw hw2,aDQ]
theorem aLs(neg:Bool):Op2 K Z (rIn K neg) (pInG neg):=by
 intro μ H M x y v u Q hr rx ry p
 cases x with
 |ref i=>exact p.elim
 |ob _ _=>exact p.elim
 |nest _=>exact p.elim
 |d d =>
  simp only[pInG]at p
  cases q:sv M y with
  |none=>rw[q]at p;exact p.elim
  |some xs =>
   rw[q]at p
   simp only at p
   split at p
   ·rename_i hz
    obtain⟨a,vs,rfl,h1,r1⟩:=tW hr ry q
    obtain⟨i1,i2⟩:=aFs r1 hz.2 rx hz.1
    obtain⟨w,hw⟩:=aDX.mp hz.1
    obtain⟨rfl,f1⟩:=wS hw rx
    refine⟨a,vs,rfl,h1,f1,i1,p μ H .refl hr _ ?_⟩
    simp only[Rw,Rp]
    cases neg <;> simp[i2]
   ·exact p.elim
abbrev pIn:=pInG false
abbrev pNotIn:=pInG true
theorem opIn:OpG X K Z (compareOp .In) pIn:=λhk=>⟨_,hk▸aGp,aLs false⟩
theorem opNotIn:OpG X K Z (compareOp .NotIn) pNotIn:=λhk=>⟨_,hk▸zJ,aLs true⟩
end
def whileD(t:FT)(B:FS):Nat->FS
 |0=>λ_ _=>.bad
 |n+1=>λL M=>(t L M).bind λb M1=>if b=true then(B L M1).bind λo M2=>match o with
   |.nx L2=>whileD t B n L2 M2
   |.ct L2=>whileD t B n L2 M2
   |.bk L2=>.ok (.nx L2) M2
   |.rt w=>.ok (.rt w) M2
  else .ok (.nx L) M1
inductive Ck
 |one (t:Nat)
 |two (t:Nat) (ys:List D)
instance:Coe Nat Ck:=⟨.one⟩
def Ck.ok(ds:List D)(M:Mm):Ck->Prop
 |.one t=>M[t]?=some ds
 |.two t ys=>M[t]?=some ys
structure Src where
 ds:List D
 k:Option Ck
abbrev FI:=Lc->Mm->Oc Src
def Chk(s:Src)(M:Mm):Prop:=∀t,s.k=some t->t.ok s.ds M
open Classical in
def forD(s:Src)(g:FG)(B:FS):List D->FS
 |[]=>λL M=>if Chk s M then .ok (.nx L) M else .bad
 |d::r=>λL M=>if Chk s M then(g (.d d) L M).bind λL1 M1=>(B L1 M1).bind λo M2=>match o with
   |.nx L2=>forD s g B r L2 M2
   |.ct L2=>forD s g B r L2 M2
   |.bk L2=>.ok (.nx L2) M2
   |.rt w=>.ok (.rt w) M2
  else .bad
def sFor(fi:FI)(g:FG)(B:FS):FS:=λL M=>(fi L M).bind λs M1=>forD s g B s.ds L M1
def ItOk(K:Frag)(μ:List Addr)(H:Hp)(s:Src)(J:It):Prop :=
 ∃S:List Addr->Hp->Prop,S μ H/\(∀μ1 H1 μ2 H2,Lsts μ1 H1->S μ1 H1->Ext μ1 H1 μ2 H2->S μ2 H2) /\
  ∀μ1 H1 M1 i,HR K μ1 H1 M1->S μ1 H1->Chk s M1 ->
   (∀d,s.ds[i]?=some d->J.go i H1/\∀x H2,J.yld i H1 x H2->Ext μ1 H1 μ1 H2/\HR K μ1 H2 M1/\Rp K μ1 H2 d x)/\(s.ds.length<=i->J.stop i H1)
def liftI(K:Frag)(Z:Zt)(fi:FI):TI:=λσ H R=>∃μ M L,HR K μ H M/\LR K μ H L σ/\Pst K Z μ H (fi L M) λμ' H' _ s=>∀J,ItOk K μ' H' s J->R J H'
structure Ei(X:Cx)(K:Frag)(Z:Zt)(tg iter:Expr)(fi:FI):Prop where
 k:X.K=K
 h:PI X tg iter (liftI K Z fi)
variable{tg iter:Expr}
theorem cqI{t t':TI}(h:PI X tg iter t)(i:∀σ H Q,t' σ H Q->t σ H Q):PI X tg iter t':=λpins s σ H Q I q=>h pins s σ H Q I (i _ _ _ q)
section
variable{K:Frag}{e a b o:Expr}{es:List Expr}{pos:Pos}{fs:FA}{rest:List Stmt}{G:FS}{B:FS}
theorem uO{c:Expr}{t:FT}(n:Nat)(hp:PassesOwn (model X.prog X.w) X.A X.env X.xe)(hc:Et X K Z c t)(hb:Ess X K Z body B):Es X K Z (.While c body [] pos) (whileD t B n):=by
 refine⟨hc.k,cqS (aMo hp hc.h hb.h) ?_⟩
 rintro E σ H ⟨μ,M,L,hr,lr,p⟩
 refine⟨λm σ H=>∃μ M L,HR K μ H M/\LR K μ H L σ/\Pst K Z μ H (whileD t B m L M) (Sk K E),⟨n,μ,M,L,hr,lr,p⟩,?_⟩
 rintro m σ H ⟨μ,M,L,hr,lr,p⟩
 cases m with
 |zero=>exact p.elim
 |succ m =>
  refine⟨μ,M,L,hr,lr,(show Pst K Z μ H ((t L M).bind _) _ from p).bind.imp λμ1 H1 M1 b e1 hr1 _ p1=>?_⟩
  cases b with
  |false=>exact p1 μ1 H1 .refl hr1 σ (lr.ext hr.lsts e1)
  |true =>
   refine⟨λσ' H'=>∃μ M L,HR K μ H' M/\LR K μ H' L σ'/\Pst K Z μ H' (whileD t B m L M) (Sk K E),λσ' H' q=>⟨m,aES m,q⟩,?_⟩
   refine⟨μ1,M1,L,hr1,lr.ext hr.lsts e1,(show Pst K Z μ1 H1 ((B L M1).bind _) _ from p1).bind.imp λμ2 H2 M2 o e2 hr2 _ p2=>?_⟩
   cases o with
   |nx L2=>exact λσ' lr'=>⟨μ2,M2,L2,hr2,lr',p2⟩
   |ct L2=>exact λσ' lr'=>⟨μ2,M2,L2,hr2,lr',p2⟩
   |bk L2=>exact p2 μ2 H2 .refl hr2
   |rt w=>exact p2 μ2 H2 .refl hr2
theorem lF{fi:FI}{g:FG}(hp:PassesOwn (model X.prog X.w) X.A X.env X.xe)(hc:X.calm=true)(hi:Ei X K Z tg iter fi)(hg:Eg X K Z tg g)(hb:Ess X K Z body B)
  (hs:∀x,foldedSetIterable iter X.env x=pure x:=by intro _;rfl):Es X K Z (.For tg iter body [] pos) (sFor fi g B):=by
 refine⟨hi.k,cqS (aPz hp hc hi.h hg.h hb.h hs) ?_⟩
 rintro E σ H ⟨μ,M,L,hr,lr,p⟩
 refine⟨μ,M,L,hr,lr,p.bind.imp λμ1 H1 M1 s e1 hr1 _ p1 J hJ=>?_⟩
 obtain⟨S,s0,sx,step⟩:=hJ
 refine⟨λi m σ H=>m=s.ds.length - i/\i<=s.ds.length/\∃μ M L,HR K μ H M/\LR K μ H L σ/\S μ H/\Pst K Z μ H (forD s g B (s.ds.drop i) L M) (Sk K E),⟨s.ds.length,by simp,aFQ _,μ1,M1,L,hr1,lr.ext hr.lsts e1,s0,by simpa using p1⟩,?_⟩
 rintro i m σ H ⟨rfl,hi,μ,M,L,hr,lr,sS,p⟩
 by_cases hlt:i < s.ds.length
 ·rw[aCJ hlt]at p
  unfold forD at p
  split at p
  ·rename_i hch
   obtain⟨go,yl⟩:=(step μ H M i hr sS hch).1 s.ds[i] (by simp[hlt])
   refine .inr ⟨go,λσ' H'=>i+1<=s.ds.length/\∃μ M L,HR K μ H' M/\LR K μ H' L σ'/\S μ H'/\Pst K Z μ H' (forD s g B (s.ds.drop (i+1)) L M) (Sk K E),λσ' H' q=>⟨s.ds.length - (i+1),by lia,rfl,q.1,q.2⟩,λx H2 y=>?_⟩
   obtain⟨e2,hr2,rx⟩:=yl x H2 y
   have lr2:=lr.ext hr.lsts e2
   have s2:=sx _ _ _ _ hr.lsts sS e2
   refine⟨μ,M,L,.d s.ds[i],hr2,lr2,rx,(Pst.mono e2 p).bind.imp λμ3 H3 M3 L3 e3 hr3 _ p3 σ3 lr3=>?_⟩
   refine⟨μ3,M3,L3,hr3,lr3,p3.bind.imp λμ4 H4 M4 o e4 hr4 _ p4=>?_⟩
   have s4:=sx _ _ _ _ hr3.lsts (sx _ _ _ _ hr2.lsts s2 e3) e4
   cases o with
   |nx L4=>exact λσ' lr'=>⟨hlt,μ4,M4,L4,hr4,lr',s4,p4⟩
   |ct L4=>exact λσ' lr'=>⟨hlt,μ4,M4,L4,hr4,lr',s4,p4⟩
   |bk L4=>exact p4 μ4 H4 .refl hr4
   |rt w=>exact p4 μ4 H4 .refl hr4
  ·exact p.elim
 ·have e:i=s.ds.length:=by lia
  subst e
  rw[aCI (aAH _)]at p
  unfold forD at p
  split at p
  ·rename_i hch
   exact .inl ⟨(step μ H M _ hr sS hch).2 (aAH _),p μ H .refl hr σ lr⟩
  ·exact p.elim
theorem aIm{ds:List D}:Chk ⟨ds,none⟩ M:=λt h=>by cases h
@[simp]theorem aMs{ds:List D}:Chk ⟨ds,none⟩ M ↔ True:=⟨λ_=>trivial,λ_=>aIm⟩
@[simp]theorem aOb{ds:List D}{t:Nat}:Chk ⟨ds,some t⟩ M ↔ M[t]?=some ds:=⟨λh=>h t rfl,λh t' e=>by cases e;exact h⟩
def iSq(K:Frag)(tl:TE):TI:=λσ H R=>tl σ H λx H1=>∃a,x=.ref a/\(((∃xs,SqL K H1 a xs)/\R (Itl K a) H1)\/((∃xs,SqT K H1 a xs)/\R (Itt K a) H1))
theorem aTu{l:Expr}{tl:TE}(hl:PE X l tl):PI X tg l (iSq X.K tl):=by
 intro pins s σ H R I h
 refine thn (hl pins s σ H _ I h) λv s1 ⟨x,H1,I1,r1,q1⟩=>?_
 obtain⟨a,e,⟨⟨xs,hq⟩,q⟩|⟨⟨xs,hq⟩,q⟩⟩:=q1
 ·subst e
  cases r1
  obtain⟨its,rv,p,hz⟩:=I1.list hq
  refine aCR p.isList ?_
  refine⟨s1.heap.objs.size,[s1.heap.objs.size],_,_,H1,rfl,I1.kept (t':=s1.toks) λb o e=>aAA _ e,aHf a _,⟨_,aAE _ rfl,rfl,rfl⟩,λb hb=>?_,q⟩
  have e:b=s1.heap.objs.size:=by simpa using hb
  subst e
  exact I1.fpOk (aAH _) (I1.hok.fresh (aAH _))
 ·subst e
  cases r1
  obtain⟨its,rv,p,hz⟩:=I1.tuple hq
  refine aDK (show s1.heap.IsTuple a its.toArray from p) ?_
  refine⟨s1.heap.objs.size,[s1.heap.objs.size],_,_,H1,rfl,I1.kept (t':=s1.toks) λb o e=>aAA _ e,aEl a _,⟨_,aAE _ rfl,rfl,rfl⟩,λb hb=>?_,q⟩
  have e:b=s1.heap.objs.size:=by simpa using hb
  subst e
  exact I1.fpOk (aAH _) (I1.hok.fresh (aAH _))
def srcOf(M:Mm):W->Option Src
 |.d (.tup xs)=>some ⟨xs,none⟩
 |.d (.lst xs)=>some ⟨xs,none⟩
 |.d (.fz xs)=>some ⟨xs,none⟩
 |.ref t=>(M[t]?).map λxs=>⟨xs,some t⟩
 |_=>none
def iE(f:FE):FI:=λL M=>(f L M).bind λw M1=>match srcOf M1 w with
 |some s=>.ok s M1
 |none=>.bad
variable{s:Src}
theorem aDd{a:Addr}(S:List Addr->Hp->Prop)(s0:S μ H)(sx:∀μ1 H1 μ2 H2,Lsts μ1 H1->S μ1 H1->Ext μ1 H1 μ2 H2->S μ2 H2)
  (rd:∀μ1 H1 M1,HR K μ1 H1 M1->S μ1 H1->Chk s M1->∃vs,SqL K H1 a vs/\Rps K μ1 H1 s.ds vs):ItOk K μ H s (Itl K a):=by
 refine⟨S,s0,sx,λμ1 H1 M1 i hr hS hc=>?_⟩
 obtain⟨vs,h1,r1⟩:=rd μ1 H1 M1 hr hS hc
 refine⟨λd hd=>?_,λhl=>⟨vs,h1,by rw[<- r1.length];exact hl⟩⟩
 obtain⟨v,q1,q2⟩:=r1.get hd
 refine⟨⟨vs,v,h1,q1⟩,λx H2 y=>?_⟩
 obtain⟨rfl,y⟩:=y
 have:=y vs h1
 rw[q1]at this
 cases this
 exact⟨.refl,hr,q2⟩
theorem aSl{a:Addr}(S:List Addr->Hp->Prop)(s0:S μ H)(sx:∀μ1 H1 μ2 H2,Lsts μ1 H1->S μ1 H1->Ext μ1 H1 μ2 H2->S μ2 H2)
  (rd:∀μ1 H1 M1,HR K μ1 H1 M1->S μ1 H1->Chk s M1->∃vs,SqT K H1 a vs/\Rps K μ1 H1 s.ds vs):ItOk K μ H s (Itt K a):=by
 refine⟨S,s0,sx,λμ1 H1 M1 i hr hS hc=>?_⟩
 obtain⟨vs,h1,r1⟩:=rd μ1 H1 M1 hr hS hc
 refine⟨λd hd=>?_,λhl=>⟨vs,h1,by rw[<- r1.length];exact hl⟩⟩
 obtain⟨v,q1,q2⟩:=r1.get hd
 refine⟨⟨vs,v,h1,q1⟩,λx H2 y=>?_⟩
 obtain⟨rfl,y⟩:=y
 have:=y vs h1
 rw[q1]at this
 cases this
 exact⟨.refl,hr,q2⟩
theorem oV{d:D}:∀μ1 H1 μ2 H2,Lsts μ1 H1->Rp K μ1 H1 d v->Ext μ1 H1 μ2 H2->Rp K μ2 H2 d v:=λμ1 H1 μ2 H2 l h e=>Rp.ext l e d v h
theorem pX(h:Ev X K Z e f):Ei X K Z tg e (iE f):=by
 have h':=aTu (tg:=tg) h.h
 rw[h.k]at h'
 refine⟨h.k,cqI h' ?_⟩
 rintro σ H R ⟨μ,M,L,hr,lr,p⟩
 refine⟨μ,M,L,hr,lr,p.bind.imp λμ1 H1 M1 w e1 hr1 _ p1 v rw'=>?_⟩
 cases w with
 |ref t =>
  simp only[srcOf]at p1
  cases q:M1[t]? with
  |none=>simp only[q,Option.map_none]at p1;exact p1.elim
  |some xs =>
   simp only[q,aEZ]at p1
   obtain⟨a,qa,rfl,il⟩:=rw'
   obtain⟨a',vs,qa',h1,r1⟩:=hr1.at q qa
   rw[qa]at qa';cases qa'
   refine⟨a,rfl,.inl ⟨⟨vs,SqL.of h1⟩,p1 μ1 H1 .refl hr1 _ ?_⟩⟩
   refine aDd (λμ2 H2=>μ2[t]?=some a/\IsL H2 a) ⟨qa,il⟩ (λμ1 H1 μ2 H2 _ z e=>⟨e.pre _ _ z.1,z.2.ext e⟩) λμ2 H2 M2 hr2 z c=>?_
   obtain⟨a',vs,qa',h1,r1⟩:=hr2.at (c t rfl) z.1 z.2
   rw[z.1]at qa';cases qa'
   exact⟨vs,SqL.of h1,r1⟩
 |ob _ _=>exact p1.elim
 |nest _=>exact p1.elim
 |d x =>
  cases x with
  |tup xs =>
   have rw2:=rw'
   simp only[Rw,Rp]at rw'
   obtain⟨a,vs,rfl,h1,r1⟩:=rw'
   refine⟨a,rfl,.inr ⟨⟨vs,SqT.of h1⟩,p1 μ1 H1 .refl hr1 _ ?_⟩⟩
   refine aSl (λμ2 H2=>Rp K μ2 H2 (.tup xs) (.ref a)) rw2 oV λμ2 H2 M2 hr2 z c=>?_
   simp only[Rp]at z
   obtain⟨a',vs,e,h1,r1⟩:=z
   cases e
   exact⟨vs,SqT.of h1,r1⟩
  |lst xs =>
   have rw2:=rw'
   simp only[Rw,Rp]at rw'
   obtain⟨a,vs,rfl,h1,_,r1⟩:=rw'
   refine⟨a,rfl,.inl ⟨⟨vs,SqL.of h1⟩,p1 μ1 H1 .refl hr1 _ ?_⟩⟩
   refine aDd (λμ2 H2=>Rp K μ2 H2 (.lst xs) (.ref a)) rw2 oV λμ2 H2 M2 hr2 z c=>?_
   simp only[Rp]at z
   obtain⟨a',vs,e,h1,_,r1⟩:=z
   cases e
   exact⟨vs,SqL.of h1,r1⟩
  |fz xs =>
   have rw2:=rw'
   simp only[Rw,Rp]at rw'
   obtain⟨a,vs,rfl,h1,r1⟩:=rw'
   refine⟨a,rfl,.inl ⟨⟨vs,h1.sq⟩,p1 μ1 H1 .refl hr1 _ ?_⟩⟩
   refine aDd (λμ2 H2=>Rp K μ2 H2 (.fz xs) (.ref a)) rw2 oV λμ2 H2 M2 hr2 z c=>?_
   simp only[Rp]at z
   obtain⟨a',vs,e,h1,r1⟩:=z
   cases e
   exact⟨vs,h1.sq,r1⟩
  |_=>exact p1.elim
def rngD(lo:Int)(n:Nat):List D:=(List.range n).map λk=>D.int (lo+(k:Nat))
variable{lo:Int}{n:Nat}
theorem lW{d:D}(h:(rngD lo n)[i]?=some d):i < n/\d=.int (lo+i):=by
 unfold rngD at h
 rw[aAV]at h
 by_cases hi:i < n
 ·rw[List.getElem?_range hi]at h;simp at h;exact⟨hi,h.symm⟩
 ·rw[aCL (by simpa using hi)]at h;cases h
theorem aKw :ItOk K μ H ⟨rngD lo n,none⟩ (Itr lo n):=by
 refine⟨λ_ _=>True,trivial,λ_ _ _ _ _ _ _=>trivial,λμ1 H1 M1 i hr _ _=>⟨λd hd=>?_,λhl=>by simp only[rngD,aAL,aCK]at hl;exact hl⟩⟩
 obtain⟨hi,rfl⟩:=lW hd
 refine⟨hi,λx H2 y=>?_⟩
 obtain⟨rfl,rfl⟩:=y
 exact⟨.refl,hr,by simp[Rp]⟩
noncomputable def in62(i:Int):Bool:=decide (-4611686018427387904<=i/\i < 4611686018427387904)
def iR1(f:FE):FI:=λL M=>(f L M).bind λw M1=>match w with
 |.d (.int j)=>if in62 j=true then .ok ⟨rngD 0 j.toNat,none⟩ M1 else .bad
 |_=>.bad
def iR2(f g:FE):FI:=λL M=>(f L M).bind λw M1=>(g L M1).bind λu M2=>match w,u with
 |.d (.int i),.d (.int j)=>if in62 i=true/\in62 j=true then .ok ⟨rngD i (j - i).toNat,none⟩ M2 else .bad
 |_,_=>.bad
theorem jS(hm:X.mg "range"=none)(ha:Ev X K Z a f)(hg:Gl X "range":=by rfl)(hs:starEach [a] X.env=[(false,eval a X.env)]:=by rfl):Ei X K Z tg (.Call (.Name "range" p) [a] [] pos) (iR1 f):=by
 refine⟨ha.k,cqI (aGs hg hm (dC ha.h fQ hs) hs) ?_⟩
 rintro σ H R ⟨μ,M,L,hr,lr,p⟩
 refine⟨μ,M,L,hr,lr,p.bind.imp λμ1 H1 M1 w e1 hr1 _ p1 v rw'=>?_⟩
 cases w with
 |ref i=>exact p1.elim
 |ob _ _=>exact p1.elim
 |nest _=>exact p1.elim
 |d x=>cases x with
  |int j =>
   simp only at p1
   split at p1
   ·rename_i hz
    simp only[in62,aAU]at hz
    simp only[Rw,Rp]at rw'
    subst rw'
    exact⟨j,rfl,hz.1,hz.2,p1 μ1 H1 .refl hr1 _ aKw⟩
   ·exact p1.elim
  |_=>exact p1.elim
theorem aHi(hm:X.mg "range"=none)(ha:Ev X K Z a fa)(hb:Ev X K Z b fb)(hg:Gl X "range":=by rfl)(hs:starEach [a,b] X.env=[(false,eval a X.env),(false,eval b X.env)]:=by rfl)(hs2:starEach [b] X.env=[(false,eval b X.env)]:=by rfl) :
  Ei X K Z tg (.Call (.Name "range" p) [a,b] [] pos) (iR2 fa fb):=by
 refine⟨ha.k,cqI (aIf hg hm (dC ha.h (dC hb.h fQ hs2) (by rw[hs,hs2])) hs hs2) ?_⟩
 rintro σ H R ⟨μ,M,L,hr,lr,p⟩
 refine⟨μ,M,L,hr,lr,p.bind.imp λμ1 H1 M1 w e1 hr1 _ p1 v rw'=>?_⟩
 refine⟨μ1,M1,L,hr1,lr.ext hr.lsts e1,p1.bind.imp λμ2 H2 M2 u e2 hr2 _ p2 v2 ru=>?_⟩
 have rw':=rw'.ext hr1.lsts e2
 cases w with
 |ref i=>exact p2.elim
 |ob _ _=>exact p2.elim
 |nest _=>exact p2.elim
 |d x=>cases x with
  |int i=>cases u with
   |ref j=>exact p2.elim
   |ob _ _=>exact p2.elim
   |nest _=>exact p2.elim
   |d y=>cases y with
    |int j =>
     simp only at p2
     split at p2
     ·rename_i hz
      simp only[in62,aAU]at hz
      simp only[Rw,Rp]at rw' ru
      subst rw' ru
      exact⟨i,j,rfl,⟨hz.1.1,hz.1.2,hz.2.1,hz.2.2⟩,p2 μ2 H2 .refl hr2 _ aKw⟩
     ·exact p2.elim
    |_=>exact p2.elim
  |_=>exact p2.elim
end
section
variable{K:Frag}{μ2:List Addr}{M2:Mm}
theorem Ext.back(e:Ext μ H μ2 H2):Ext μ H μ H2:=⟨e.keep,λa h=>.inl h,λ_ _ h=>h,e.kin⟩
theorem Ext.take(e:Ext μ H μ2 H2):μ2.take μ.length=μ:=by
 apply aHD
 intro i
 rw[aFE]
 split
 ·rename_i hi
  have:=e.pre i μ[i] (by simp[hi])
  rw[this];simp[hi]
 ·rename_i hi
  rw[aCL (by lia)]
mutual
theorem Rp.sub(hs:∀a,a∈μ1->a∈μ):∀(d:D) (v:V),Rp K μ H d v->Rp K μ1 H d v
 |.non,v,h=>by simpa[Rp]using h
 |.bl b,v,h=>by simpa[Rp]using h
 |.int b,v,h=>by simpa[Rp]using h
 |.str b,v,h=>by simpa[Rp]using h
 |.tup ds,v,h=>by simp only[Rp]at h ⊢;obtain⟨a,vs,e1,e2,e3⟩:=h;exact⟨a,vs,e1,e2,Rps.sub hs ds vs e3⟩
 |.lst ds,v,h=>by simp only[Rp]at h ⊢;obtain⟨a,vs,e1,e2,n,e3⟩:=h;exact⟨a,vs,e1,e2,λz=>n (hs a z),Rps.sub hs ds vs e3⟩
 |.fz ds,v,h=>by simp only[Rp]at h ⊢;obtain⟨a,vs,e1,e2,e3⟩:=h;exact⟨a,vs,e1,e2,Rps.sub hs ds vs e3⟩
 |.exn c f ds,v,h=>by simp only[Rp]at h ⊢;obtain⟨a,vs,C,LE,d,e1,e2,e3,e4,e5⟩:=h;exact⟨a,vs,C,LE,d,e1,e2,e3,e4,Rps.sub hs ds vs e5⟩
theorem Rps.sub(hs:∀a,a∈μ1->a∈μ):∀(ds:List D) (vs:List V),Rps K μ H ds vs->Rps K μ1 H ds vs
 |[],vs,h=>by simpa[Rps]using h
 |d::ds,vs,h=>by simp only[Rps]at h ⊢;obtain⟨v,r,e1,e2,e3⟩:=h;exact⟨v,r,e1,Rp.sub hs d v e2,Rps.sub hs ds r e3⟩
end
theorem Frs.sub(hs:∀a,a∈μ1->a∈μ):∀{ds:List D} {fs:List (Str×V)},Frs K μ H ds fs->Frs K μ1 H ds fs
 |[],_,h=>h
 |_::_,_,⟨f,x,v,r,e1,e2,e3,e4⟩=>⟨f,x,v,r,e1,e2,Rp.sub hs _ _ e3,Frs.sub hs e4⟩
theorem Krs.sub(hs:∀a,a∈μ1->a∈μ):∀{ds:List D} {fs:List (List Key×V)},Krs K μ H ds fs->Krs K μ1 H ds fs
 |[],_,h=>h
 |_::_,_,⟨f,x,v,r,e1,e2,e3,e4⟩=>⟨f,x,v,r,e1,e2,Rp.sub hs _ _ e3,Krs.sub hs e4⟩
theorem CelO.sub(hs:∀a,a∈μ1->a∈μ){o:HO}{ds:List D}(h:CelO K μ H o ds):CelO K μ1 H o ds:=by
 cases o <;> first|exact h.elim|skip
 ·exact Rps.sub hs _ _ h
 ·exact Krs.sub hs h
 ·exact Frs.sub hs h
theorem HR.back(h:HR K μ2 H2 M2)(e:Ext μ H μ2 H2):HR K μ H2 (M2.take μ.length):=by
 have ht:=e.take
 have hsub:∀a,a∈μ->a∈μ2:=λa ha=>by rw[<- ht]at ha;exact aCP ha
 have hlen:μ.length<=μ2.length:=by have:=congrArg List.length ht;simp at this;lia
 refine⟨by rw[aDY,<- h.len];lia,by rw[<- ht];exact h.nd.sublist (List.take_sublist _ _),λi a ds q1 q2=>?_⟩
 rw[aFE]at q2
 split at q2
 ·obtain⟨vs,q3,q4⟩:=h.ent i a ds (e.pre i a q1) q2
  exact⟨vs,q3,CelO.sub hsub q4⟩
 ·cases q2
def nestD(n:Nat)(M:Mm):List Nat->Option (List D)
 |[]=>some []
 |j::js=>if j < n then none else match M[j]?,nestD n M js with
  |some xs,some r=>some (.lst xs::r)
  |_,_=>none
def retc(n:Nat)(w:W)(M:Mm):Oc W:=match w with
 |.d x=>.ok (.d x) (M.take n)
 |.ref i=>if i < n then .ok (.ref i) (M.take n)else match M[i]? with
  |some ds=>.ok (.d (.lst ds)) (M.take n)
  |none=>.bad
 |.ob c i=>if i < n then .ok (.ob c i) (M.take n)else .bad
 |.nest js=>match nestD n M js with
  |some ds=>.ok (.d (.lst ds)) (M.take n)
  |none=>.bad
theorem HR.fresh(hr1:HR K μ2 H2 M2)(e1:Ext μ H μ2 H2)(qa:μ2[i]?=some a)(hi:¬i < μ.length):a∉μ:=λha=>by
 obtain⟨j,hj,ej⟩:=aDT.mp ha
 have h2:=e1.pre j a (by rw[<- ej];simp[hj])
 have l1:=(aAC.mp qa).1
 have l2:=(aAC.mp h2).1
 have g1:=(aAC.mp qa).2
 have g2:=(aAC.mp h2).2
 have pw:=aCZ.mp hr1.nd
 exact pw j i l2 l1 (by lia) (g2.trans g1.symm)
theorem xH{n:Nat}(hn:n=μ.length)(e1:Ext μ H μ2 H2)(hr1:HR K μ2 H2 M2)(hsub:∀a,a∈μ->a∈μ2):∀{js:List Nat} {vs:List V} {ds:List D},Rjs μ2 H2 js vs->nestD n M2 js=some ds->Rps K μ H2 ds vs
 |[],vs,ds,h,q=>by cases h;simp only[nestD,aAP]at q;subst q;exact .nil
 |j::js,vs,ds,⟨a,r,e1',e2,e3,e4⟩,q=>by
  subst e1'
  simp only[nestD]at q
  split at q
  ·cases q
  ·rename_i hj
   cases q1:M2[j]? with
   |none=>rw[q1]at q;cases q
   |some xs =>
    cases q2:nestD n M2 js with
    |none=>rw[q1,q2]at q;cases q
    |some r' =>
     rw[q1,q2]at q;cases q
     obtain⟨a',us,qa',h1,r1⟩:=hr1.at q1 e2 e3
     rw[e2]at qa';cases qa'
     refine .cons ?_ (xH hn e1 hr1 hsub e4 q2)
     simp only[Rp]
     exact⟨a,us,rfl,h1,hr1.fresh e1 e2 (by lia),Rps.sub hsub _ _ r1⟩
theorem oA{w:W}{Q:VK}(hr:HR K μ H M)(e1:Ext μ H μ2 H2)(hr1:HR K μ2 H2 M2)(hw:(∃c i,w=.ob c i)\/∃js,w=.nest js)(rv:Rw K μ2 H2 w v)(p:Pst K Z μ H (retc M.length w M2) (Wk K Q)):Q v H2:=by
 have hb:=hr1.back e1
 rw[hr.len]at hb
 have hsub:∀a,a∈μ->a∈μ2:=λa ha=>by rw[<- e1.take]at ha;exact aCP ha
 rcases hw with⟨c,i,rfl⟩|⟨js,rfl⟩
 ·simp only[retc]at p
  split at p
  ·rename_i hi
   obtain⟨a,qa,rfl,il⟩:=rv
   refine p μ H2 e1.back hb _ ⟨a,?_,rfl,il⟩
   rw[<- hr.len]at hi
   have:=e1.pre i μ[i] (by simp[hi])
   rw[qa]at this;cases this
   simp[hi]
  ·exact p.elim
 ·simp only[retc]at p
  cases q:nestD M.length M2 js with
  |none=>rw[q]at p;exact p.elim
  |some ds =>
   rw[q]at p
   obtain⟨a,vs,rfl,h1,hna,hj⟩:=rv
   refine p μ H2 e1.back hb _ ?_
   simp only[Rw,Rp]
   exact⟨a,vs,rfl,h1,λz=>hna (hsub a z),xH hr.len.symm e1 hr1 hsub hj q⟩
end
def outL(js:List (Option Nat))(L:Lc):Lc:=js.map λo=>o.bind λj=>(L[j]?).join
open Classical in
def compD(t:Nat)(s:Src)(g:FG)(c:FT)(f:FE):List D->Lc->Mm->Oc Unit
 |[]=>λ_ M=>if Chk s M then .ok () M else .bad
 |d::r=>λL M=>if Chk s M then(g (.d d) L M).bind λL1 M1=>(c L1 M1).bind λb M2=>if b=true then(f L1 M2).bind λw M3=>match w,M3[t]? with
   |.d x,some acc=>if acc.length < 16777216 then compD t s g c f r L1 (M3.set t (acc++[x]))else .bad
   |_,_=>.bad
   else compD t s g c f r L1 M2
  else .bad
def compT(js:List (Option Nat))(fi:FI)(g:FG)(c:FT)(f:FE)(L:Lc)(M:Mm):Oc (List D):=(fi L M).bind λs M1=>match compD M1.length s g c f s.ds (outL js L) (M1++[[]])with
 |.ok _ M2=>match M2[M1.length]? with
  |some acc=>.ok acc (M2.take M1.length)
  |none=>.bad
 |_=>.bad
def eComp(js:List (Option Nat))(fi:FI)(g:FG)(c:FT)(f:FE):FE:=λL M=>(compT js fi g c f L M).bind λacc M1=>.ok (.d (.lst acc)) M1
noncomputable def tYes:FT:=λ_ M=>.ok true M
structure Eif(X:Cx)(K:Frag)(Z:Zt)(ifs:List Expr)(t:FT):Prop where
 k:X.K=K
 h:PIf X ifs (liftT K Z t)
section
variable{K:Frag}{e a b o:Expr}{es:List Expr}{pos:Pos}{fs:FA}{rest:List Stmt}{G:FS}
theorem eW(hk:X.K=K:=by rfl):Eif X K Z [] tYes:=⟨hk,λpins s σ H Q I ⟨μ,M,L,hr,lr,p⟩=>aOg pins s σ H Q I (p μ H .refl hr)⟩
variable{σ:St}
theorem LR.out(h:LR K μ H L σ):LR K μ H (outL js L) (outσ js σ)where
 len:=by simp[outL,outσ]
 ent:=λi w q=>by
  unfold outL at q
  unfold outσ
  rw[aAV]at q ⊢
  cases e:js[i]? with
  |none=>rw[e]at q;cases q
  |some oj =>
   rw[e]at q
   cases oj with
   |none=>simp at q
   |some j =>
    simp only[aEZ,Option.bind_some,aAP]at q ⊢
    cases e2:L[j]? with
    |none=>rw[e2]at q;cases q
    |some ow =>
     rw[e2]at q
     simp at q
     subst q
     obtain⟨v,q1,q2⟩:=h.ent j w e2
     exact⟨v,by rw[q1];rfl,q2⟩
variable{c:FT}
theorem aLq{Zi:Zt}{s:Src}{g:FG}{J:It}{Dt:Addr}{Q:Hp->Prop}(n:Nat)(μ0:List Addr)(H0:Hp)(e0:Ext μ0 H0 μ H)(hn:μ0.length=n)(hD:μ[n]?=some Dt)(hIL:IsL H Dt)
  (hr:HR K μ H M)(lr:LR K μ H L σ)(hJ:ItOk K μ H s J)
  (p:match compD n s g c f s.ds L M with
   |.ok _ M2=>∀μ2 H2,Ext μ H μ2 H2->HR K μ2 H2 M2->Q H2
   |.ex z M2=>Zi.z z M2 μ H
   |.bad=>False):tTurns J (liftG K Zi g) (liftT K Zi c) (lift K Zi f) Dt σ H Q:=by
 obtain⟨S,s0,sx,step⟩:=hJ
 let R:List Addr->Hp->Lc->Mm->List D->Prop:=λμ1 H1 L M rest=>match compD n s g c f rest L M with
   |.ok _ M2=>∀μ2 H2,Ext μ1 H1 μ2 H2->HR K μ2 H2 M2->Q H2
   |.ex z M2=>Zi.z z M2 μ1 H1
   |.bad=>False
 refine⟨λi m σ H1=>m=s.ds.length - i/\i<=s.ds.length/\∃μ1 M L,Ext μ0 H0 μ1 H1/\(μ1[n]?=some Dt/\IsL H1 Dt)/\HR K μ1 H1 M/\LR K μ1 H1 L σ/\S μ1 H1/\R μ1 H1 L M (s.ds.drop i),⟨s.ds.length,by simp,aFQ _,μ,M,L,e0,⟨hD,hIL⟩,hr,lr,s0,by simpa[R]using p⟩,?_⟩
 rintro i m σ H1 ⟨rfl,hi,μ1,M,L,e1,⟨hD1,hI1⟩,hr,lr,sS,p⟩
 by_cases hlt:i < s.ds.length
 ·simp only[R]at p
  rw[aCJ hlt]at p
  unfold compD at p
  by_cases hch:Chk s M
  ·rw[aAJ hch]at p
   obtain⟨go,yl⟩:=(step μ1 H1 M i hr sS hch).1 s.ds[i] (by simp[hlt])
   refine .inr ⟨go,λσ' H'=>i+1<=s.ds.length/\∃μ1 M L,Ext μ0 H0 μ1 H'/\(μ1[n]?=some Dt/\IsL H' Dt)/\HR K μ1 H' M/\LR K μ1 H' L σ'/\S μ1 H'/\R μ1 H' L M (s.ds.drop (i+1)),λσ' H' q=>⟨s.ds.length - (i+1),by lia,rfl,q.1,q.2⟩,λx H2 y=>?_⟩
   obtain⟨e2,hr2,rx⟩:=yl x H2 y
   have lr2:=lr.ext hr.lsts e2
   have s2:=sx _ _ _ _ hr.lsts sS e2
   refine⟨μ1,M,L,.d s.ds[i],hr2,lr2,rx,?_⟩
   cases q3:g (.d s.ds[i]) L M with
   |bad=>rw[q3]at p;exact p.elim
   |ex z M2=>rw[q3]at p;exact Zi.mono e2 p
   |ok L3 M3 =>
    rw[q3]at p
    intro μ3 H3 e3 hr3 σ3 lr3
    refine⟨μ3,M3,L3,hr3,lr3,?_⟩
    simp only[jK]at p
    have s3:=sx _ _ _ _ hr2.lsts s2 e3
    cases q4:c L3 M3 with
    |bad=>rw[q4]at p;exact p.elim
    |ex z M2=>rw[q4]at p;exact Zi.mono (e2.trans e3) p
    |ok b M4 =>
     rw[q4]at p
     intro μ4 H4 e4 hr4
     simp only[jK]at p
     have s4:=sx _ _ _ _ hr3.lsts s3 e4
     have lr4:=lr3.ext hr3.lsts e4
     have E4:=((e1.trans e2).trans e3).trans e4
     have D4:=e4.pre _ _ (e3.pre _ _ (e2.pre _ _ hD1))
     cases b with
     |false =>
      refine⟨hlt,μ4,M4,L3,E4,⟨D4,hI1.ext ((e2.trans e3).trans e4)⟩,hr4,lr4,s4,?_⟩
      simp only[R]
      simp only[aBD,aDC]at p
      cases q5:compD n s g c f (s.ds.drop (i+1)) L3 M4 with
      |ok u M5=>rw[q5]at p;exact λμ5 H5 e5 hr5=>p μ5 H5 (((e2.trans e3).trans e4).trans e5) hr5
      |ex z M5=>rw[q5]at p;exact Zi.mono ((e2.trans e3).trans e4) p
      |bad=>rw[q5]at p;exact p
     |true =>
      simp only[aCQ]at p
      refine⟨μ4,M4,L3,hr4,lr4,?_⟩
      cases q5:f L3 M4 with
      |bad=>rw[q5]at p;exact p.elim
      |ex z M2=>rw[q5]at p;exact Zi.mono ((e2.trans e3).trans e4) p
      |ok w M5 =>
       rw[q5]at p
       intro μ5 H5 e5 hr5 v rw'
       simp only[jK]at p
       cases w with
       |ref k=>exact p.elim
       |ob _ _=>exact p.elim
       |nest _=>exact p.elim
       |d x =>
        cases q6:M5[n]? with
        |none=>rw[q6]at p;exact p.elim
        |some acc =>
         rw[q6]at p
         simp only at p
         by_cases hz:acc.length < 16777216
         ·rw[aAJ hz]at p
          have D5:=e5.pre _ _ D4
          have I5:=hI1.ext (((e2.trans e3).trans e4).trans e5)
          obtain⟨a',vs,qa',h1,r1⟩:=hr5.at q6 D5
          rw[D5]at qa';cases qa'
          refine⟨vs,h1,by rw[<- r1.length,aBF];exact hz,hlt,μ5,M5.set n (acc++[x]),L3,(E4.trans e5).trans (gZ D5),⟨D5,_,cQ⟩,hr5.set D5 (r1.append (.cons rw' .nil)),?_,?_,?_⟩
          ·exact(lr4.ext hr4.lsts e5).ext hr5.lsts (gZ D5)
          ·exact sx _ _ _ _ hr5.lsts (sx _ _ _ _ hr4.lsts s4 e5) (gZ D5)
          ·simp only[R]
           cases q7:compD n s g c f (s.ds.drop (i+1)) L3 (M5.set n (acc++[x]))with
           |ok u M6=>rw[q7]at p;exact λμ6 H6 e6 hr6=>p μ6 H6 (((((e2.trans e3).trans e4).trans e5).trans (gZ D5)).trans e6) hr6
           |ex z M6=>rw[q7]at p;exact Zi.mono ((((e2.trans e3).trans e4).trans e5).trans (gZ D5)) p
           |bad=>rw[q7]at p;exact p
         ·rw[aAI hz]at p;exact p.elim
  ·rw[aAI hch]at p;exact p.elim
 ·have e:i=s.ds.length:=by lia
  subst e
  simp only[R]at p
  rw[aCI (aAH _)]at p
  unfold compD at p
  by_cases hch:Chk s M
  ·rw[aAJ hch]at p
   exact .inl ⟨(step μ1 H1 M _ hr sS hch).2 (aAH _),p μ1 H1 .refl hr⟩
  ·rw[aAI hch]at p;exact p.elim
variable{fi:FI}
theorem aLc{g:FG}{Q:VK}(h:∃μ M L,HR K μ H M/\LR K μ H L σ/\Pst K Z μ H (compT js fi g c f L M) λμ' H' M' acc=>∀q vs,H' q=some (.lst vs)->q∉μ'->Rps K μ' H' acc vs->Q (.ref q) H') :
  tComp js (liftI K Z fi) (liftG K Z0 g) (liftT K Z0 c) (lift K Z0 f) σ H Q:=by
 obtain⟨μ,M,L,hr,lr,p⟩:=h
 refine⟨μ,M,L,hr,lr,p.bind.imp λμ1 H1 M1 s e1 hr1 _ p1 J hJ Dt hDt=>?_⟩
 have x:=aFg (vs:=[]) hr1 hDt
 have hlen:=hr1.len
 obtain⟨S,s0,sx,step⟩:=hJ
 refine aLq (M:=M1++[[]]) M1.length μ1 H1 x hr1.len (by rw[<- hlen];simp) ⟨_,cQ⟩ (hr1.new hDt .nil) (LR.out ((lr.ext hr.lsts e1).ext hr1.lsts x)) ⟨S,sx _ _ _ _ hr1.lsts s0 x,sx,step⟩ ?_
 cases q:compD M1.length s g c f s.ds (outL js L) (M1++[[]])with
 |bad=>simp only[q]at p1;exact p1.elim
 |ex z M2=>simp only[q]at p1;exact p1.elim
 |ok u M2 =>
  simp only[q]at p1
  intro μ2 H2 e2 hr2
  cases q2:M2[M1.length]? with
  |none=>simp only[q2]at p1;exact p1.elim
  |some acc =>
   simp only[q2]at p1
   have E:=x.trans e2
   have hb:=hr2.back E
   rw[hlen]at hb
   have hD2:μ2[M1.length]?=some Dt:=e2.pre _ _ (by rw[<- hlen];simp)
   obtain⟨a',vs,qa',h1,r1⟩:=hr2.at q2 hD2 (IsL.ext e2 ⟨_,cQ⟩)
   rw[hD2]at qa';cases qa'
   exact p1 μ1 H2 E.back hb Dt vs h1 (hr1.out hDt) (Rps.sub (λa ha=>by rw[<- E.take]at ha;exact aCP ha) _ _ r1)
theorem aAw{g:FG} :∀σ H Q,lift K Z (eComp js fi g c f) σ H Q->tComp js (liftI K Z fi) (liftG K Z0 g) (liftT K Z0 c) (lift K Z0 f) σ H Q:=by
 rintro σ H Q ⟨μ,M,L,hr,lr,p⟩
 refine aLc ⟨μ,M,L,hr,lr,p.bind.imp λμ1 H1 M1 acc e1 hr1 _ p1 q vs h1 h2 h3=>?_⟩
 exact p1 μ1 H1 .refl hr1 _ (by simp only[Rw,Rp];exact⟨q,vs,rfl,h1,h2,h3⟩)
variable{ifs:List Expr}{scope:Scope}
theorem gX{elt:Expr}{g:FG}(hc:X.calm=true)(T:CompOk X.N X.env.scope scope Nc js)(hit:Ei X K Z tg iter fi)
  (hg:∀cl C fp pins s₂ H₂,Eg (compCx X Nc scope cl C fp pins s₂ H₂) K Z0 tg g)(hi:∀cl C fp pins s₂ H₂,Eif (compCx X Nc scope cl C fp pins s₂ H₂) K Z0 ifs c)(he:∀cl C fp pins s₂ H₂,Ev (compCx X Nc scope cl C fp pins s₂ H₂) K Z0 elt f)
  (hs:∀x,foldedSetIterable iter X.env x=pure x:=by intro _;rfl):Ev X K Z (.ListComp elt [⟨tg,iter,ifs,0⟩] scope pos) (eComp js fi g c f) :=
 ⟨hit.k,cqE (aOo hc T hit.h (λ_ _ _ _ _ _=>(hg _ _ _ _ _ _).h) (λ_ _ _ _ _ _=>(hi _ _ _ _ _ _).h) (λ_ _ _ _ _ _=>(he _ _ _ _ _ _).h) hs) aAw⟩
theorem sP{elt:Expr}{g:FG}{spos:Pos}(hN:X.N.Nodup)(hc:X.calm=true)(T:CompOk X.N X.env.scope scope Nc js)(hit:Ei X K Z tg iter fi)
  (hg:∀cl C fp pins s₂ H₂,Eg (compCx X Nc scope cl C fp pins s₂ H₂) K Z0 tg g)(hi:∀cl C fp pins s₂ H₂,Eif (compCx X Nc scope cl C fp pins s₂ H₂) K Z0 ifs c)(he:∀cl C fp pins s₂ H₂,Ev (compCx X Nc scope cl C fp pins s₂ H₂) K Z0 elt f)
  (hyi:X.N[i]?=some y:=by rfl)(hy:X.env.scope.names.lookup y=some .local:=by rfl)
  (hsw:swapsWith (.ListComp elt [⟨tg,iter,ifs,0⟩] scope pos) (some (.Name y py)) spos.line X.env=pure true:=by rfl)
  (hs:∀x,foldedSetIterable iter X.env x=pure x:=by intro _;rfl):Es X K Z (.Assign [.Name y py] (.ListComp elt [⟨tg,iter,ifs,0⟩] scope pos) spos) (sAs (eComp js fi g c f) (gN i)):=by
 refine⟨hit.k,cqS (aOq hN hyi hy hc T hit.h (λ_ _ _ _ _ _=>(hg _ _ _ _ _ _).h) (λ_ _ _ _ _ _=>(hi _ _ _ _ _ _).h) (λ_ _ _ _ _ _=>(he _ _ _ _ _ _).h) hsw hs) ?_⟩
 rintro E σ H ⟨μ,M,L,hr,lr,p⟩
 refine aAw _ _ _ ⟨μ,M,L,hr,lr,p.bind.imp λμ1 H1 M1 x e1 hr1 _ p1 v rx=>?_⟩
 exact p1 μ1 H1 .refl hr1 _ (LR.set (lr.ext hr.lsts e1) rx)
def fnD(m n:Nat)(F:FS):Fn:=λws M=>if ws.length=m then(F (ws.map some++List.replicate (n - ws.length) none) M).bind λo M'=>match o with
  |.rt w=>retc M.length w M'
  |.nx _=>.ok (.d .non) (M'.take M.length)
  |_=>.bad
 else .bad
noncomputable def fnR(m n:Nat)(F:FS):Fn:=λws M=>if ws.length=m then(F (ws.map some++List.replicate (n - ws.length) none) M).bind λo M'=>match o with
  |.rt (.ref i)=>if M.length<=i then(match M'[i]? with
   |some ds=>.ok (.ref M.length) (M'.take M.length++[ds])
   |none=>.bad)else .bad
  |_=>.bad
 else .bad
def spF(K:Frag)(Z:Zt)(m:Nat)(Fm:Fn):Sp:=λvs H Q E=>vs.length=m/\∃μ M ws,HR K μ H M/\Rws K μ H ws vs/\Pst K Z μ H (Fm ws M) (Wk K Q)
theorem tM{ws:List W}(r:Rws K μ H ws vs):LR K μ H (ws.map some++List.replicate (N.length - ws.length) none) (L2.start N vs):=by
 have hl:=r.length
 refine⟨by simp[L2.start,hl],λi w q=>?_⟩
 by_cases hi:i < ws.length
 ·rw[aBE (by simpa using hi),aAV]at q
  cases e:ws[i]? with
  |none=>rw[e]at q;cases q
  |some w' =>
   rw[e]at q;cases q
   obtain⟨v,q1,q2⟩:=r.get e
   refine⟨v,?_,q2⟩
   unfold L2.start
   rw[aBE (by simp;lia),aAV,q1];rfl
 ·rw[aCE (by simpa using hi),List.getElem?_replicate]at q
  split at q <;> cases q
variable{k:Nat}
theorem bI{fa:Addr}(hf:Fun K x qual st fa fd)(S:FnScope N ps (defScope st))
  (hb:∀(cdv:Value) (A:Around) (outer:List Env) (s:Shared) (H:Hp) (E:XK),Room k (A.deeper (envOfC qual (defScope st) s.heap.objs.size fa cdv))->Ess (cxOf CX0 P w K mg base N qual (defScope st) fa cdv A outer s H E).nox K Z0 (defBody st) F) :
  FnOk P w K mg base CX0 (k+1) fa fd ps (spF K Z0 ps.length (fnD ps.length N.length F)):=by
 refine hf.ok S (λvs H Q E h=>h.1) λcdv A outer s H vs Q E hr hsp=>⟨_,(hb cdv A outer s H E hr).h,?_⟩
 obtain⟨hv,μ,M,ws,hr,rx,p⟩:=hsp
 refine⟨μ,M,_,hr,tM rx,?_⟩
 unfold fnD at p
 rw[aAJ (by rw[rx.length];exact hv)]at p
 cases q:F (ws.map some++List.replicate (N.length - ws.length) none) M with
 |bad=>rw[q]at p;exact p
 |ex z M'=>rw[q]at p;exact p
 |ok o M' =>
  rw[q]at p
  simp only[jK]at p
  intro μ1 H1 e1 hr1
  have hb:=hr1.back e1
  rw[hr.len]at hb
  cases o with
  |nx L'=>exact λσ' lr'=>p μ H1 e1.back hb _ (by simp[Rw,Rp])
  |bk L'=>exact p.elim
  |ct L'=>exact p.elim
  |rt w =>
   intro v rv
   have hsub:∀a,a∈μ->a∈μ1:=λa ha=>by rw[<- e1.take]at ha;exact aCP ha
   cases w with
   |ob c i=>exact oA hr e1 hr1 (.inl ⟨_,_,rfl⟩) rv p
   |nest c=>exact oA hr e1 hr1 (.inr ⟨_,rfl⟩) rv p
   |d x=>exact p μ H1 e1.back hb v (Rp.sub hsub x v rv)
   |ref i =>
    simp only[retc]at p
    split at p
    ·rename_i hi
     obtain⟨a,qa,rfl,il⟩:=rv
     refine p μ H1 e1.back hb _ ⟨a,?_,rfl,il⟩
     rw[<- hr.len]at hi
     have:=e1.pre i μ[i] (by simp[hi])
     rw[qa]at this;cases this
     simp[hi]
    ·rename_i hi
     cases q2:M'[i]? with
     |none=>simp only[q2]at p;exact p.elim
     |some ds =>
      simp only[q2]at p
      obtain⟨a,qa,rfl,il⟩:=rv
      obtain⟨a',vs',qa',h1,r1⟩:=hr1.at q2 qa
      rw[qa]at qa';cases qa'
      refine p μ H1 e1.back hb _ ?_
      simp only[Rw,Rp]
      refine⟨a,vs',rfl,h1,λha=>?_,Rps.sub hsub _ _ r1⟩
      obtain⟨j,hj,ej⟩:=aDT.mp ha
      have h2:=e1.pre j a (by rw[<- ej];simp[hj])
      have l1:=(aAC.mp qa).1
      have l2:=(aAC.mp h2).1
      have g1:=(aAC.mp qa).2
      have g2:=(aAC.mp h2).2
      have pw:=aCZ.mp hr1.nd
      rw[hr.len]at hj
      exact pw j i l2 l1 (by lia) (g2.trans g1.symm)
theorem aSv{fa:Addr}(hf:Fun K x qual st fa fd)(S:FnScope N ps (defScope st))
  (hb:∀(cdv:Value) (A:Around) (outer:List Env) (s:Shared) (H:Hp) (E:XK),Room k (A.deeper (envOfC qual (defScope st) s.heap.objs.size fa cdv))->Ess (cxOf CX0 P w K mg base N qual (defScope st) fa cdv A outer s H E).nox K Z0 (defBody st) F) :
  FnOk P w K mg base CX0 (k+1) fa fd ps (spF K Z0 ps.length (fnR ps.length N.length F)):=by
 refine hf.ok S (λvs H Q E h=>h.1) λcdv A outer s H vs Q E hr hsp=>⟨_,(hb cdv A outer s H E hr).h,?_⟩
 obtain⟨hv,μ,M,ws,hr,rx,p⟩:=hsp
 refine⟨μ,M,_,hr,tM rx,?_⟩
 unfold fnR at p
 rw[aAJ (by rw[rx.length];exact hv)]at p
 cases q:F (ws.map some++List.replicate (N.length - ws.length) none) M with
 |bad=>rw[q]at p;exact p
 |ex z M'=>rw[q]at p;exact p
 |ok o M' =>
  rw[q]at p
  simp only[jK]at p
  intro μ1 H1 e1 hr1
  have hb:=hr1.back e1
  rw[hr.len]at hb
  cases o with
  |nx L'=>exact p.elim
  |bk L'=>exact p.elim
  |ct L'=>exact p.elim
  |rt w =>
   intro v rv
   have hsub:∀a,a∈μ->a∈μ1:=λa ha=>by rw[<- e1.take]at ha;exact aCP ha
   cases w with
   |d x=>exact p.elim
   |ob _ _=>exact p.elim
   |nest _=>exact p.elim
   |ref i =>
    simp only at p
    split at p
    ·rename_i hi
     cases q2:M'[i]? with
     |none=>simp only[q2]at p;exact p.elim
     |some ds =>
      simp only[q2]at p
      obtain⟨a,qa,rfl,il⟩:=rv
      obtain⟨a',vs',qa',h1,r1⟩:=hr1.at q2 qa
      rw[qa]at qa';cases qa'
      have hna:a∉μ:=λha=>by
       obtain⟨j,hj,ej⟩:=aDT.mp ha
       have h2:=e1.pre j a (by rw[<- ej];simp[hj])
       have l1:=(aAC.mp qa).1
       have l2:=(aAC.mp h2).1
       have g1:=(aAC.mp qa).2
       have g2:=(aAC.mp h2).2
       have pw:=aCZ.mp hr1.nd
       rw[hr.len]at hj
       exact pw j i l2 l1 (by lia) (g2.trans g1.symm)
      have hsub2:∀b,b∈μ++[a]->b∈μ1:=λb hb=>by
       rcases aBN.mp hb with hb|hb
       ·exact hsub b hb
       ·rw[aAQ]at hb;subst hb;exact aAZ qa
      refine p (μ++[a]) H1 ⟨e1.keep,λb hb=>e1.new b (hsub2 b hb),λj b hj=>by rw[aBE (aAC.mp hj).1];exact hj,e1.kin⟩ ?_ _ ⟨a,by rw[<- hr.len];simp,rfl,_,h1⟩
      refine⟨by simp[hb.len],List.nodup_append.mpr ⟨hb.nd,by simp,λb hb' c hc=>by rw[aAQ]at hc;subst hc;rintro rfl;exact hna hb'⟩,λj b es q1 q3=>?_⟩
      by_cases hj:j < μ.length
      ·rw[aBE hj]at q1
       rw[aBE (by rw[<- hb.len];exact hj),aFE]at q3
       split at q3
       ·obtain⟨us,q4,q5⟩:=hr1.ent j b es (e1.pre j b q1) q3
        exact⟨us,q4,CelO.sub hsub2 q5⟩
       ·cases q3
      ·have hj':j=μ.length:=by have:=(aAC.mp q1).1;simp at this;lia
       subst hj'
       rw[aCE (aAH _)]at q1
       rw[hb.len,aCE (aAH _)]at q3
       simp at q1 q3
       subst q1 q3
       exact⟨_,h1,Rps.sub hsub2 _ _ r1⟩
    ·exact p.elim
variable{Fm:Fn}
theorem aI{fa:Addr}(Gf:FnOk X.prog X.w X.K X.mg X.base CX0 k fa fd ps (spF K Z0 m Fm))(hr:Room k X.A)(hm:X.mg x=some (.ref fa))(hk:keepIn X.K (.ref fa)=true)(hb:Binds X.K fd ps [])
  (ha:Ea X K Z0 (e::es) fs)(hl:ps.length=m:=by rfl)(hg:Gl X x:=by rfl)(hdb:(x==("__debug__":Str))=false:=by decide)(he:starEach (e::es) X.env=(false,eval e X.env)::starEach es X.env:=by rfl)(hpl:(backTo pos (starEach es X.env)).any (·.1)=false:=by rfl)
  (hlen:∀ws M,ws.length≠m->Fm ws M=.bad:=by intro ws M h;first|exact aAI h|rfl):Ev X K Z0 (.Call (.Name x p) (e::es) [] pos) (eA Fm fs):=by
 refine⟨ha.k,cqE (aGc Gf hr hg hm hk hb .nil pass0 ha.h hdb he hpl) ?_⟩
 rintro σ H Q ⟨μ,M,L,hr,lr,p⟩
 refine⟨μ,M,L,hr,lr,p.bind.imp λμ1 H1 M1 ws e1 hr1 _ p1 vs rx=>?_⟩
 show spF K Z0 m Fm (vs++[]) H1 Q E0
 rw[aEG]
 refine⟨?_,μ1,M1,ws,hr1,rx,p1⟩
 by_cases hw:ws.length=m
 ·rw[<- rx.length];exact hw
 ·rw[hlen ws M1 hw]at p1;exact p1.elim
theorem aRe{a:Addr}(hO:Only H)(hS:SqL K H a (ns.map V.int))(h:∃M',Fm [.d (.fz (ns.map D.int))] []=.ok (.d (.bl true)) M'):spF K Z0 1 Fm [.ref a] H (λv _=>v=.bl true) λ_ _ _=>False:=by
 obtain⟨M',h⟩:=h
 refine⟨rfl,[],[],[.d (.fz (ns.map D.int))],⟨rfl,List.nodup_nil,λi a ds q=>by simp at q⟩,⟨.ref a,[],rfl,?_,rfl⟩,?_⟩
 ·simp only[Rw,Rp]
  refine⟨a,ns.map V.int,rfl,?_,Rps.ints⟩
  rcases hS with(z|z)|z
  ·rcases hO a with q|⟨o,xs,q⟩ <;> rw[z]at q <;> cases q
  ·exact .inl z
  ·exact .inr z
 ·rw[h]
  intro μ' H' _ _ v rv
  simpa only[Rw,Rp]using rv
end
@[irreducible] def NW:Nat:=18446744073709551616
theorem aKr:NW=18446744073709551616:=by unfold NW;rfl
variable{k:Nat}
theorem aT(hr:Room k A):A.units+101 < cLine:=by have:=hr.un;lia
theorem gP{f:Addr}(hl:ps.length=m):FnOk P w K mg base CX k f fd ps (spF K Z m (λ_ _=>.bad)) :=
 ⟨λvs H Q E h=>by rw[h.1,hl],λA outer s H args us vs Q E _ _ _ _ h=>by obtain⟨_,μ,M,ws,_,_,p⟩:=h;exact p.elim⟩
section
variable{K:Frag}{e a b o:Expr}{es:List Expr}{pos:Pos}{fs:FA}{rest:List Stmt}{G:FS}
end
end EV
namespace ZP
variable{prog:Program}{E:Value->Shared->Prop}{x:Value}
theorem qM{l:Addr}(hit:s.heap.IsTupleIter it l i)
  (hl:s.heap.IsTuple l items)(hx:items[i]?=some x)
  (hQ:∀h',h'.IsTupleIter it l (i+1)->Heap.SameBut it s.heap h'->Q x {s with heap:=h'}) :
  wpAny (model prog w) A (Builtin.SmallTypes.nextOf (.ref it)) Q E s:=by
 obtain⟨o,ho,hc,hd⟩:=id hit
 obtain⟨ol,hol,_,nl,hdl⟩:=hl
 unfold Builtin.SmallTypes.nextOf
 refine aAB (aBR (name:=Str.ofString "__next__") hit.typeIs aDR
  (aBY aDR hit.typeIs F.entry_tuple_iterator_next ?_ (F.args_tuple_iterator_next_1 _)))
 show wpAny _ _ (field (.ref it) 0 >>= _) _ _ s
 refine aAB (aBH ho hd (x:=.ref l) rfl ?_)
 show wpAny _ _ (if(Value.ref l==Value.none)=true then _ else _) _ _ s
 rw[aAI (show ¬((Value.ref l==Value.none)=true)from aBG)]
 show wpAny _ _ (field (.ref it) 1 >>= _) _ _ s
 refine aAB (aBH ho hd (x:=.int i 0) rfl ?_)
 show wpAny _ _ (seqItems? (.ref l) >>= _) _ _ s
 refine aAB (aDI hol hdl ?_)
 simp only[aBP,hx]
 refine aAB (aFH ho hd (by simp) (aAF ⟨x,rfl,aAF (hQ _ ?_ (aEA ..))⟩))
 exact⟨_,aEP _ ho (aFU (aDL hd _)),(Obj.cls_mapFields ..).trans hc,by
  rw[aDL hd];simp[rawInt]⟩
theorem rQ{l:Addr}(hh:A.handled=none)
  (hit:s.heap.IsTupleIter it l i)(hl:s.heap.IsTuple l items)(hx:items[i]?=none)
  (hE:∀h' e,Heap.ExtBut it s.heap h'->(∃o,h'.get? e=some o/\o.cls=.type "StopIteration")->E (.ref e) {s with heap:=h'}) :
  wpAny (model prog w) A (Builtin.SmallTypes.nextOf (.ref it)) Q E s:=by
 obtain⟨o,ho,hc,hd⟩:=id hit
 obtain⟨ol,hol,_,nl,hdl⟩:=hl
 unfold Builtin.SmallTypes.nextOf
 refine aAB (aBR (name:=Str.ofString "__next__") hit.typeIs aDR
  (aBY aDR hit.typeIs F.entry_tuple_iterator_next ?_ (F.args_tuple_iterator_next_1 _)))
 show wpAny _ _ (field (.ref it) 0 >>= _) _ _ s
 refine aAB (aBH ho hd (x:=.ref l) rfl ?_)
 show wpAny _ _ (if(Value.ref l==Value.none)=true then _ else _) _ _ s
 rw[aAI (show ¬((Value.ref l==Value.none)=true)from aBG)]
 show wpAny _ _ (field (.ref it) 1 >>= _) _ _ s
 refine aAB (aBH ho hd (x:=.int i 0) rfl ?_)
 show wpAny _ _ (seqItems? (.ref l) >>= _) _ _ s
 refine aAB (aDI hol hdl ?_)
 simp only[aBP,hx]
 refine aAB (aDA (aAB (aFH ho hd (by simp) ?_)))
 show wpAny _ _ (newExc (.type "StopIteration") [] >>= _) _ _ _
 refine aAB ?_
 simp only[newExc,newTuple]
 refine aAB (aCC ?_ (by size_fits))
 refine aAB (m:=firstArgMember _ _) (aCB (a:=Value.none) (by first|rfl|(simp only[firstArgMember];rfl)) ?_)
 refine aCC ?_ (by size_fits)
 simp only[raiseNew]
 refine aAB (wpAny_handled ?_)
 first|rw[show A.in1.handled=none from hh]|rw[hh]
 refine aAB (aAF (wpAny_throw ?_))
 exact hE _ _ (((aEA ..).extBut.push _).push _) ⟨_,aAE _ rfl,rfl⟩
def It1(h:Heap)(it src:Addr)(i:Nat)(xs:Array Value):Prop:=(h.IsListIter it src i/\h.IsList src xs)\/(h.IsTupleIter it src i/\h.IsTuple src xs)
theorem It1.at{h h':Heap}{it src:Addr}{i:Nat}{xs:Array Value}(x:It1 h it src i xs)(k1:∀o,h.get? it=some o->h'.get? it=some o)(k2:∀o,h.get? src=some o->h'.get? src=some o):It1 h' it src i xs:=by
 rcases x with⟨a,b⟩|⟨a,b⟩
 ·exact .inl ⟨a.at k1,b.at k2⟩
 ·refine .inr ⟨a.at k1,?_⟩
  obtain⟨o,ho,r⟩:=b
  exact⟨o,k2 o ho,r⟩
theorem It1.ne(x:It1 h it src i xs):src≠it:=by
 rintro rfl
 rcases x with⟨⟨o,e,c,_⟩,⟨o',e',c',_⟩⟩|⟨⟨o,e,c,_⟩,⟨o',e',c',_⟩⟩ <;> (rw[e]at e';cases e';rw[c]at c';simp at c')
theorem It1.next(h:It1 s.heap it src i xs)(hx:xs[i]?=some x)(hQ:∀h',It1 h' it src (i+1) xs->Heap.SameBut it s.heap h'->Q x {s with heap:=h'}) :
  wpAny (model prog w) A (Builtin.SmallTypes.nextOf (.ref it)) Q E s:=by
 have hn:=h.ne
 rcases h with⟨a,b⟩|⟨a,b⟩
 ·exact wpAny_nextOf_list_item a b hx λh' a' sb=>hQ h' (.inl ⟨a',b.extBut sb.extBut hn⟩) sb
 ·exact qM a b hx λh' a' sb=>hQ h' (.inr ⟨a',b.extBut sb.extBut hn⟩) sb
theorem It1.stop(hh:A.handled=none)(h:It1 s.heap it src i xs)(hx:xs[i]?=none)
  (hE:∀h' e,Heap.ExtBut it s.heap h'->(∃o,h'.get? e=some o/\o.cls=.type "StopIteration")->E (.ref e) {s with heap:=h'}):wpAny (model prog w) A (Builtin.SmallTypes.nextOf (.ref it)) Q E s:=by
 rcases h with⟨a,b⟩|⟨a,b⟩
 ·exact wpAny_nextOf_list_end hh a b hx hE
 ·exact rQ hh a b hx hE
theorem loadAlive{Q:Option Obj->Shared->Prop}(h:Q (s.heap.get? a) s):wpAny (model prog w) A (loadIfAlive a) Q E s:=by
 intro Γ p hΓ
 show Sem.wp _ _ (Sem.loadIfAlive a _) _ _ _ _
 rw[Sem.wp_loadIfAlive]
 simpa using h
abbrev zobj(TI TO:Addr)(f0 f1:Value):Obj:={cls:=.type "zip",dict:=none,data:=.fields #[f0,f1,.bool false,.ref TI,.ref TO],slots:=#[]}
structure Ap(z TI TO i1 i2 l1 l2:Addr):Prop where
 TIz:TI≠z
 TOz:TO≠z
 i1z:i1≠z
 i2z:i2≠z
 TITO:TI≠TO
 TIi1:TI≠i1
 TIi2:TI≠i2
 TOi1:TO≠i1
 TOi2:TO≠i2
 i12:i1≠i2
 l1z:l1≠z
 l1TO:l1≠TO
 l1i1:l1≠i1
 l1i2:l1≠i2
 l2z:l2≠z
 l2TO:l2≠TO
 l2i1:l2≠i1
 l2i2:l2≠i2
structure Zs(h:Heap)(z TI TO i1 i2 l1 l2:Addr)(i:Nat)(xs ys:Array Value):Prop where
 z:∃f0 f1,h.get? z=some (zobj TI TO f0 f1)/\(f0=.none\/∃T:Nat,f0=rawInt T)
 ti:IsPair h TI (.ref i1) (.ref i2)
 to:∃a b,IsPair h TO a b
 a:It1 h i1 l1 i xs
 b:It1 h i2 l2 i ys
theorem aFe{z TI TO:Addr}{f0 f1:Value}{Q:Bool->Shared->Prop}(hz:s.heap.get? z=some (zobj TI TO f0 f1))(hf:f0=.none\/∃T:Nat,f0=rawInt T)(h1:Q true s)(h2:∀h' f1',h'.get? z=some (zobj TI TO f0 f1')->Heap.SameBut z s.heap h'->Q false {s with heap:=h'}) :
  wpAny (model prog w) A (Builtin.SmallTypes.ownedTupleIsFree (.ref z)) Q E s:=by
 unfold Builtin.SmallTypes.ownedTupleIsFree
 refine aAB (aBH hz rfl (x:=f0) rfl ?_)
 rcases hf with rfl|⟨T,rfl⟩
 ·exact aAF h1
 ·show wpAny _ _ (loadIfAlive _ >>= _) _ _ _
  refine aAB (loadAlive ?_)
  cases q:s.heap.get? ((T:Int).toNat)with
  |none=>exact aAF h1
  |some o =>
   show wpAny _ _ (field (.ref z) 1 >>= _) _ _ _
   refine aAB (aBH hz rfl (x:=f1) rfl ?_)
   by_cases hb:(f1 != .bool true)=true
   ·rw[aAJ hb]
    refine aAB (aBQ hz (by simp) λh1 hz1 hs1=>aAF (h2 h1 _ hz1 hs1))
   ·rw[aAI hb]
    exact aAF (h2 s.heap f1 hz ⟨rfl,λ_ _=>rfl⟩)
variable{k:Nat}
theorem zip_next_item{z TI TO i1 i2:Addr}{y:Value}(D:Ap z TI TO i1 i2 l1 l2)(Z:Zs s.heap z TI TO i1 i2 l1 l2 k xs ys)(hx:xs[k]?=some x)(hy:ys[k]?=some y)
  (hQ:∀h' T,Zs h' z TI TO i1 i2 l1 l2 (k+1) xs ys->IsPair h' T x y->s.heap.objs.size<=T->(∀c o,c≠z->c≠TO->c≠i1->c≠i2->s.heap.get? c=some o->h'.get? c=some o)->Q (.ref T) {s with heap:=h'}) :
  wpAny (model prog w) A (Builtin.«zip.__next__» ⟨[.ref z],[]⟩) (λfin s'=>∃v,fin=.done (.ret v)/\Q v s') E s:=by
 obtain⟨⟨f0,f1,hz,hf⟩,hTI,⟨a,b,hTO⟩,h1,h2⟩:=Z
 show wpAny _ _ (field (.ref z) 2 >>= _) _ _ _
 refine aAB (aBH hz rfl (x:=.bool false) rfl ?_)
 show wpAny _ _ (field (.ref z) 3 >>= _) _ _ _
 refine aAB (aBH hz rfl (x:=.ref TI) rfl ?_)
 refine aAB (aDI hTI rfl ?_)
 show wpAny _ _ (Builtin.SmallTypes.ownedTupleIsFree (.ref z) >>= _) _ _ _
 refine aAB (aFe hz hf ?_ λh₁ f1' hz₁ hs₁=>?_)
 ·simp only[aCQ]
  refine aAB (aDA ?_)
  refine aAB (aBH hz rfl (x:=.ref TO) rfl ?_)
  refine aAB (aBQ hz (by simp) λh₁ hz₁ hs₁=>?_)
  replace hz₁:h₁.get? z=some (zobj TI TO .ellipsis f1):=hz₁
  refine aAB ?_
  simp only[List.zipIdx_cons,List.zipIdx_nil,aEH,aGM]
  refine aAB (aAB (aGY ?_))
  show wpAny _ _ (Builtin.SmallTypes.nextOf (.ref i1) >>= _) _ _ _
  refine aAB (It1.next (h1.at (λo e=>hs₁.extBut _ _ D.i1z e) λo e=>hs₁.extBut _ _ D.l1z e) hx λh₂ h1₂ hs₂=>aAF ?_)
  have hTO₂:IsPair h₂ TO a b:=hs₂.extBut _ _ D.TOi1 (hs₁.extBut _ _ D.TOz hTO)
  refine aAB (aDI hTO₂ rfl ?_)
  refine aAB (aGK hTO₂ λh₃ hTO₃ hs₃=>?_)
  replace hTO₃:IsPair h₃ TO x b:=hTO₃
  refine aAB (wpAny_letGo (aAF ?_))
  refine aAB (aAB (aGY ?_))
  show wpAny _ _ (Builtin.SmallTypes.nextOf (.ref i2) >>= _) _ _ _
  refine aAB (It1.next (h2.at (λo e=>hs₃.extBut _ _ D.TOi2.symm (hs₂.extBut _ _ D.i12.symm (hs₁.extBut _ _ D.i2z e))) λo e=>hs₃.extBut _ _ D.l2TO (hs₂.extBut _ _ D.l2i1 (hs₁.extBut _ _ D.l2z e))) hy λh₄ h2₄ hs₄=>aAF ?_)
  have hTO₄:IsPair h₄ TO x b:=hs₄.extBut _ _ D.TOi2 hTO₃
  refine aAB (aDI hTO₄ rfl ?_)
  refine aAB (aGK hTO₄ λh₅ hTO₅ hs₅=>?_)
  replace hTO₅:IsPair h₅ TO x y:=hTO₅
  refine aAB (wpAny_letGo (aAF (aAF ?_)))
  refine aAB (aDI hTO₅ rfl ?_)
  refine aAB (wpAny_newTuple ?_)
  have hsz:h₅.objs.size=s.heap.objs.size:=by rw[hs₅.1,hs₄.1,hs₃.1,hs₂.1,hs₁.1]
  have hz₅:h₅.get? z=some (zobj TI TO .ellipsis f1):=hs₅.extBut _ _ D.TOz.symm (hs₄.extBut _ _ D.i2z.symm (hs₃.extBut _ _ D.TOz.symm (hs₂.extBut _ _ D.i1z.symm hz₁)))
  have hk₅:∀c o,c≠z->c≠TO->c≠i1->c≠i2->s.heap.get? c=some o->h₅.get? c=some o:=λc o c1 c2 c3 c4 e =>
   hs₅.extBut _ _ c2 (hs₄.extBut _ _ c4 (hs₃.extBut _ _ c2 (hs₂.extBut _ _ c3 (hs₁.extBut _ _ c1 e))))
  have h1₅:It1 h₅ i1 l1 (k+1) xs:=h1₂.at (λo e=>hs₅.extBut _ _ D.TOi1.symm (hs₄.extBut _ _ D.i12 (hs₃.extBut _ _ D.TOi1.symm e))) λo e=>hs₅.extBut _ _ D.l1TO (hs₄.extBut _ _ D.l1i2 (hs₃.extBut _ _ D.l1TO e))
  have h2₅:It1 h₅ i2 l2 (k+1) ys:=h2₄.at (λo e=>hs₅.extBut _ _ D.TOi2.symm e) λo e=>hs₅.extBut _ _ D.l2TO e
  have hzlt:z < h₅.objs.size:=aAM hz₅
  show wpAny _ _ (Builtin.SmallTypes.ownedTupleHandOut (.ref z) (.ref h₅.objs.size) >>= _) _ _ _
  refine aAB ?_
  unfold Builtin.SmallTypes.ownedTupleHandOut
  have hz₆:(h₅.push {cls:=.type "tuple",data:=.seq #[x,y]}).get? z=some (zobj TI TO .ellipsis f1):=aAA _ hz₅
  refine aAB (aBQ hz₆ (by simp) λh₇ hz₇ hs₇=>?_)
  replace hz₇:h₇.get? z=some (zobj TI TO (rawInt h₅.objs.size) f1):=hz₇
  refine aBQ hz₇ (by simp) λh₈ hz₈ hs₈=>?_
  replace hz₈:h₈.get? z=some (zobj TI TO (rawInt h₅.objs.size) (.bool false)):=hz₈
  have up:∀c o,c≠z->h₅.get? c=some o->h₈.get? c=some o:=λc o c1 e=>hs₈.extBut _ _ c1 (hs₇.extBut _ _ c1 (aAA _ e))
  have hT₈:IsPair h₈ h₅.objs.size x y:=hs₈.extBut _ _ (aEN hzlt) (hs₇.extBut _ _ (aEN hzlt) (aAE _ rfl))
  refine aAF ⟨_,rfl,hQ h₈ h₅.objs.size ⟨⟨_,_,hz₈,.inr ⟨_,rfl⟩⟩,up _ _ D.TIz (hk₅ _ _ D.TIz D.TITO D.TIi1 D.TIi2 hTI),⟨_,_,up _ _ D.TOz hTO₅⟩,h1₅.at (λo e=>up _ o D.i1z e) λo e=>up _ o D.l1z e,h2₅.at (λo e=>up _ o D.i2z e) λo e=>up _ o D.l2z e⟩ hT₈ (by rw[hsz];exact aAH _) λc o c1 c2 c3 c4 e=>up c o c1 (hk₅ c o c1 c2 c3 c4 e)⟩
 ·simp only[aBD,aDC]
  refine aAB ?_
  simp only[List.forIn_toArray,aEH,aGM]
  refine aAB (aAB (aBT ?_))
  show wpAny _ _ (Builtin.SmallTypes.nextOf (.ref i1) >>= _) _ _ _
  refine aAB (It1.next (h1.at (λo e=>hs₁.extBut _ _ D.i1z e) λo e=>hs₁.extBut _ _ D.l1z e) hx λh₂ h1₂ hs₂=>aAF (aAF ?_))
  refine aAB (aAB (aBT ?_))
  show wpAny _ _ (Builtin.SmallTypes.nextOf (.ref i2) >>= _) _ _ _
  refine aAB (It1.next (h2.at (λo e=>hs₂.extBut _ _ D.i12.symm (hs₁.extBut _ _ D.i2z e)) λo e=>hs₂.extBut _ _ D.l2i1 (hs₁.extBut _ _ D.l2z e)) hy λh₃ h2₃ hs₃=>aAF (aAF (aAF ?_)))
  show wpAny _ _ (newTuple [x,y] >>= _) _ _ _
  refine aAB (wpAny_newTuple ?_)
  have hsz:h₃.objs.size=s.heap.objs.size:=by rw[hs₃.1,hs₂.1,hs₁.1]
  have kp:∀c o,c≠z->c≠i1->c≠i2->s.heap.get? c=some o->(h₃.push {cls:=.type "tuple",data:=.seq #[x,y]}).get? c=some o:=λc o c1 c2 c3 e=>aAA _ (hs₃.extBut _ _ c3 (hs₂.extBut _ _ c2 (hs₁.extBut _ _ c1 e)))
  refine aAF ⟨_,rfl,hQ _ h₃.objs.size ⟨⟨f0,f1',aAA _ (hs₃.extBut _ _ D.i2z.symm (hs₂.extBut _ _ D.i1z.symm hz₁)),hf⟩,kp _ _ D.TIz D.TIi1 D.TIi2 hTI,⟨_,_,kp _ _ D.TOz D.TOi1 D.TOi2 hTO⟩,?_,?_⟩ (aAE _ rfl) (by rw[hsz];exact aAH _) λc o c1 c2 c3 c4 e=>kp c o c1 c3 c4 e⟩
  ·exact h1₂.at (λo e=>aAA _ (hs₃.extBut _ _ D.i12 e)) λo e=>aAA _ (hs₃.extBut _ _ D.l1i2 e)
  ·exact h2₃.at (λo e=>aAA _ e) λo e=>aAA _ e
theorem zip_next_end{z TI TO i1 i2:Addr}{Q:Fin->Shared->Prop}(hh:A.handled=none)(D:Ap z TI TO i1 i2 l1 l2)(Z:Zs s.heap z TI TO i1 i2 l1 l2 k xs ys)(hend:xs[k]?=none\/ys[k]?=none)
  (hE:∀h' e,(∀c o,c≠z->c≠TO->c≠i1->c≠i2->s.heap.get? c=some o->h'.get? c=some o)->(∃o,h'.get? e=some o/\o.cls=.type "StopIteration")->E (.ref e) {s with heap:=h'}) :
  wpAny (model prog w) A (Builtin.«zip.__next__» ⟨[.ref z],[]⟩) Q E s:=by
 obtain⟨⟨f0,f1,hz,hf⟩,hTI,⟨a,b,hTO⟩,h1,h2⟩:=Z
 show wpAny _ _ (field (.ref z) 2 >>= _) _ _ _
 refine aAB (aBH hz rfl (x:=.bool false) rfl ?_)
 show wpAny _ _ (field (.ref z) 3 >>= _) _ _ _
 refine aAB (aBH hz rfl (x:=.ref TI) rfl ?_)
 refine aAB (aDI hTI rfl ?_)
 show wpAny _ _ (Builtin.SmallTypes.ownedTupleIsFree (.ref z) >>= _) _ _ _
 refine aAB (aFe hz hf ?_ λh₁ f1' hz₁ hs₁=>?_)
 ·simp only[aCQ]
  refine aAB (aDA ?_)
  refine aAB (aBH hz rfl (x:=.ref TO) rfl ?_)
  refine aAB (aBQ hz (by simp) λh₁ hz₁ hs₁=>?_)
  replace hz₁:h₁.get? z=some (zobj TI TO .ellipsis f1):=hz₁
  refine aAB ?_
  simp only[List.zipIdx_cons,List.zipIdx_nil,aEH,aGM]
  refine aAB (aAB (aGY ?_))
  show wpAny _ _ (Builtin.SmallTypes.nextOf (.ref i1) >>= _) _ _ _
  have h1':=h1.at (h':=h₁) (λo e=>hs₁.extBut _ _ D.i1z e) λo e=>hs₁.extBut _ _ D.l1z e
  cases hx:xs[k]? with
  |none =>
   refine aAB (It1.stop hh h1' hx λh₂ e hs₂ he=>?_)
   obtain⟨oe,hoe,hce⟩:=he
   have hz₂:h₂.get? z=some (zobj TI TO .ellipsis f1):=hs₂ _ _ D.i1z.symm hz₁
   have hez:e≠z:=λx=>by subst x;rw[hz₂]at hoe;cases hoe;simp at hce
   exact aBQ hz₂ (by simp) λh₃ _ hs₃=>hE h₃ e (λc o c1 _ c3 _ x=>hs₃.extBut _ _ c1 (hs₂ _ _ c3 (hs₁.extBut _ _ c1 x))) ⟨oe,hs₃.extBut _ _ hez hoe,hce⟩
  |some x =>
   have hy:ys[k]?=none:=by rcases hend with h|h;rw[hx]at h;cases h;exact h
   refine aAB (It1.next h1' hx λh₂ h1₂ hs₂=>aAF ?_)
   have hTO₂:IsPair h₂ TO a b:=hs₂.extBut _ _ D.TOi1 (hs₁.extBut _ _ D.TOz hTO)
   refine aAB (aDI hTO₂ rfl ?_)
   refine aAB (aGK hTO₂ λh₃ hTO₃ hs₃=>?_)
   refine aAB (wpAny_letGo (aAF ?_))
   refine aAB (aAB (aGY ?_))
   show wpAny _ _ (Builtin.SmallTypes.nextOf (.ref i2) >>= _) _ _ _
   refine aAB (It1.stop hh (h2.at (λo e=>hs₃.extBut _ _ D.TOi2.symm (hs₂.extBut _ _ D.i12.symm (hs₁.extBut _ _ D.i2z e))) λo e=>hs₃.extBut _ _ D.l2TO (hs₂.extBut _ _ D.l2i1 (hs₁.extBut _ _ D.l2z e))) hy λh₄ e hs₄ he=>?_)
   obtain⟨oe,hoe,hce⟩:=he
   have hz₄:h₄.get? z=some (zobj TI TO .ellipsis f1):=hs₄ _ _ D.i2z.symm (hs₃.extBut _ _ D.TOz.symm (hs₂.extBut _ _ D.i1z.symm hz₁))
   have hez:e≠z:=λx=>by subst x;rw[hz₄]at hoe;cases hoe;simp at hce
   exact aBQ hz₄ (by simp) λh₅ _ hs₅=>hE h₅ e (λc o c1 c2 c3 c4 x=>hs₅.extBut _ _ c1 (hs₄ _ _ c4 (hs₃.extBut _ _ c2 (hs₂.extBut _ _ c3 (hs₁.extBut _ _ c1 x))))) ⟨oe,hs₅.extBut _ _ hez hoe,hce⟩
 ·simp only[aBD,aDC]
  refine aAB ?_
  simp only[List.forIn_toArray,aEH,aGM]
  refine aAB (aAB (aBT ?_))
  show wpAny _ _ (Builtin.SmallTypes.nextOf (.ref i1) >>= _) _ _ _
  have h1':=h1.at (h':=h₁) (λo e=>hs₁.extBut _ _ D.i1z e) λo e=>hs₁.extBut _ _ D.l1z e
  cases hx:xs[k]? with
  |none=>exact aAB (It1.stop hh h1' hx λh₂ e hs₂ he=>hE h₂ e (λc o c1 _ c3 _ x=>hs₂ _ _ c3 (hs₁.extBut _ _ c1 x)) he)
  |some x =>
   have hy:ys[k]?=none:=by rcases hend with h|h;rw[hx]at h;cases h;exact h
   refine aAB (It1.next h1' hx λh₂ h1₂ hs₂=>aAF (aAF ?_))
   refine aAB (aAB (aBT ?_))
   show wpAny _ _ (Builtin.SmallTypes.nextOf (.ref i2) >>= _) _ _ _
   exact aAB (It1.stop hh (h2.at (λo e=>hs₂.extBut _ _ D.i12.symm (hs₁.extBut _ _ D.i2z e)) λo e=>hs₂.extBut _ _ D.l2i1 (hs₁.extBut _ _ D.l2z e)) hy λh₃ e hs₃ he=>hE h₃ e (λc o c1 _ c3 c4 x=>hs₃ _ _ c4 (hs₂.extBut _ _ c3 (hs₁.extBut _ _ c1 x))) he)
abbrev zH1LL(h:Heap)(l1:Addr):Heap:=h.push {cls:=.type "list_iterator",data:=.fields #[.ref l1,.int 0 0]}
abbrev zH2LL(h:Heap)(l1 l2:Addr):Heap:=(zH1LL h l1).push {cls:=.type "list_iterator",data:=.fields #[.ref l2,.int 0 0]}
abbrev zH3LL(h:Heap)(l1 l2:Addr):Heap:=(zH2LL h l1 l2).push {cls:=.type "tuple",data:=.seq #[.ref h.objs.size,.ref (zH1LL h l1).objs.size]}
abbrev zH4LL(h:Heap)(l1 l2:Addr):Heap:=(zH3LL h l1 l2).push {cls:=.type "tuple",data:=.seq #[.none,.none]}
abbrev zH5LL(h:Heap)(l1 l2:Addr):Heap:=(zH4LL h l1 l2).push {cls:=.type "zip",data:=.fields #[.none,.bool false,.bool false,.ref (zH2LL h l1 l2).objs.size,.ref (zH3LL h l1 l2).objs.size]}
theorem aBq(l1 l2:Addr)(xs ys:Array Value) :
  Meets (Builtin.«zip.__new__» ⟨[.type "zip",.ref l1,.ref l2],[]⟩) (λ_ R s=>s.heap.IsList l1 xs/\s.heap.IsList l2 ys /\
   R (.ok (.ret (.ref (zH4LL s.heap l1 l2).objs.size))) {s with heap:=zH5LL s.heap l1 l2}) :=
 .of_wp λprog w A R s h=>by
  obtain⟨hp,g,d,tk,os⟩:=s;obtain⟨hl1,hl2,h⟩:=h
  have hsub:=sub_zip
  have hL1:Heap.IsList (Shared.heap ⟨hp,g,d,tk,os⟩) l1 xs:=hl1
  have hL2:Heap.IsList (Shared.heap ⟨hp.push {cls:=.type "list_iterator",data:=.fields #[.ref l1,.int 0 0]},g,d,tk,os⟩) l2 ys:=by
   obtain⟨o,ho,r⟩:=hl2
   exact⟨o,aAA _ ho,r⟩
  wp_walk using aCR hL1,aCR hL2
  exact⟨_,rfl,h⟩
theorem aDo(hl1:s.heap.IsList l1 xs)(hl2:s.heap.IsList l2 ys)
  (h:∀h',Zs h' (s.heap.objs.size+4) (s.heap.objs.size+2) (s.heap.objs.size+3) s.heap.objs.size (s.heap.objs.size+1) l1 l2 0 xs ys->h'.objs.size=s.heap.objs.size+5 ->
   (∀c o,s.heap.get? c=some o->h'.get? c=some o)->Q (.ref (s.heap.objs.size+4)) {s with heap:=h'}) :
  wpAny (model prog w) A (call (.type "zip") [.ref l1,.ref l2]) Q E s:=by
 refine aGA F.called_zip (by decide) (aFS _ _) (aGE _ _) (λobj=>aEV obj _ _) aGD
  (aBq l1 l2 xs ys) ⟨hl1,hl2,?_⟩
 have z1:(zH1LL s.heap l1).objs.size=s.heap.objs.size+1:=aAX ..
 have z2:(zH2LL s.heap l1 l2).objs.size=s.heap.objs.size+2:=by rw[aAX,z1]
 have z3:(zH3LL s.heap l1 l2).objs.size=s.heap.objs.size+3:=by rw[aAX,z2]
 have z4:(zH4LL s.heap l1 l2).objs.size=s.heap.objs.size+4:=by rw[aAX,z3]
 have z5:(zH5LL s.heap l1 l2).objs.size=s.heap.objs.size+5:=by rw[aAX,z4]
 have g5:(zH5LL s.heap l1 l2).get? (zH4LL s.heap l1 l2).objs.size=some _:=aAE _ rfl
 have g4:(zH5LL s.heap l1 l2).get? (zH3LL s.heap l1 l2).objs.size=some _:=aAA _ (aAE _ rfl)
 have g3:(zH5LL s.heap l1 l2).get? (zH2LL s.heap l1 l2).objs.size=some _:=aAA _ (aAA _ (aAE _ rfl))
 have g2:(zH5LL s.heap l1 l2).get? (zH1LL s.heap l1).objs.size=some _:=aAA _ (aAA _ (aAA _ (aAE _ rfl)))
 have g1:(zH5LL s.heap l1 l2).get? s.heap.objs.size=some _:=aAA _ (aAA _ (aAA _ (aAA _ (aAE _ rfl))))
 have kp:∀c o,s.heap.get? c=some o->(zH5LL s.heap l1 l2).get? c=some o:=λc o x =>
  aAA _ (aAA _ (aAA _ (aAA _ (aAA _ x))))
 show _/\_
 rw[z2,z3,z4]at g5
 rw[z1,z2]at g3
 rw[z3]at g4
 rw[z1]at g2
 rw[z4]
 refine⟨⟨_,g5,rfl⟩,h _ ⟨⟨_,_,g5,.inl rfl⟩,g3,⟨_,_,g4⟩,.inl ⟨⟨_,g1,rfl,rfl⟩,?_⟩,.inl ⟨⟨_,g2,rfl,rfl⟩,?_⟩⟩ z5 kp⟩
 ·obtain⟨o,ho,r⟩:=hl1;exact⟨o,kp _ _ ho,r⟩
 ·obtain⟨o,ho,r⟩:=hl2;exact⟨o,kp _ _ ho,r⟩
abbrev zH1LT(h:Heap)(l1:Addr):Heap:=h.push {cls:=.type "list_iterator",data:=.fields #[.ref l1,.int 0 0]}
abbrev zH2LT(h:Heap)(l1 l2:Addr):Heap:=(zH1LT h l1).push {cls:=.type "tuple_iterator",data:=.fields #[.ref l2,.int 0 0]}
abbrev zH3LT(h:Heap)(l1 l2:Addr):Heap:=(zH2LT h l1 l2).push {cls:=.type "tuple",data:=.seq #[.ref h.objs.size,.ref (zH1LT h l1).objs.size]}
abbrev zH4LT(h:Heap)(l1 l2:Addr):Heap:=(zH3LT h l1 l2).push {cls:=.type "tuple",data:=.seq #[.none,.none]}
abbrev zH5LT(h:Heap)(l1 l2:Addr):Heap:=(zH4LT h l1 l2).push {cls:=.type "zip",data:=.fields #[.none,.bool false,.bool false,.ref (zH2LT h l1 l2).objs.size,.ref (zH3LT h l1 l2).objs.size]}
theorem aCe(l1 l2:Addr)(xs ys:Array Value) :
  Meets (Builtin.«zip.__new__» ⟨[.type "zip",.ref l1,.ref l2],[]⟩) (λ_ R s=>s.heap.IsList l1 xs/\s.heap.IsTuple l2 ys /\
   R (.ok (.ret (.ref (zH4LT s.heap l1 l2).objs.size))) {s with heap:=zH5LT s.heap l1 l2}) :=
 .of_wp λprog w A R s h=>by
  obtain⟨hp,g,d,tk,os⟩:=s;obtain⟨hl1,hl2,h⟩:=h
  have hsub:=sub_zip
  have hL1:Heap.IsList (Shared.heap ⟨hp,g,d,tk,os⟩) l1 xs:=hl1
  have hL2:Heap.IsTuple (Shared.heap ⟨hp.push {cls:=.type "list_iterator",data:=.fields #[.ref l1,.int 0 0]},g,d,tk,os⟩) l2 ys:=by
   obtain⟨o,ho,r⟩:=hl2
   exact⟨o,aAA _ ho,r⟩
  wp_walk using aCR hL1,aDK hL2
  exact⟨_,rfl,h⟩
theorem aEi(hl1:s.heap.IsList l1 xs)(hl2:s.heap.IsTuple l2 ys)
  (h:∀h',Zs h' (s.heap.objs.size+4) (s.heap.objs.size+2) (s.heap.objs.size+3) s.heap.objs.size (s.heap.objs.size+1) l1 l2 0 xs ys->h'.objs.size=s.heap.objs.size+5 ->
   (∀c o,s.heap.get? c=some o->h'.get? c=some o)->Q (.ref (s.heap.objs.size+4)) {s with heap:=h'}) :
  wpAny (model prog w) A (call (.type "zip") [.ref l1,.ref l2]) Q E s:=by
 refine aGA F.called_zip (by decide) (aFS _ _) (aGE _ _) (λobj=>aEV obj _ _) aGD
  (aCe l1 l2 xs ys) ⟨hl1,hl2,?_⟩
 have z1:(zH1LT s.heap l1).objs.size=s.heap.objs.size+1:=aAX ..
 have z2:(zH2LT s.heap l1 l2).objs.size=s.heap.objs.size+2:=by rw[aAX,z1]
 have z3:(zH3LT s.heap l1 l2).objs.size=s.heap.objs.size+3:=by rw[aAX,z2]
 have z4:(zH4LT s.heap l1 l2).objs.size=s.heap.objs.size+4:=by rw[aAX,z3]
 have z5:(zH5LT s.heap l1 l2).objs.size=s.heap.objs.size+5:=by rw[aAX,z4]
 have g5:(zH5LT s.heap l1 l2).get? (zH4LT s.heap l1 l2).objs.size=some _:=aAE _ rfl
 have g4:(zH5LT s.heap l1 l2).get? (zH3LT s.heap l1 l2).objs.size=some _:=aAA _ (aAE _ rfl)
 have g3:(zH5LT s.heap l1 l2).get? (zH2LT s.heap l1 l2).objs.size=some _:=aAA _ (aAA _ (aAE _ rfl))
 have g2:(zH5LT s.heap l1 l2).get? (zH1LT s.heap l1).objs.size=some _:=aAA _ (aAA _ (aAA _ (aAE _ rfl)))
 have g1:(zH5LT s.heap l1 l2).get? s.heap.objs.size=some _:=aAA _ (aAA _ (aAA _ (aAA _ (aAE _ rfl))))
 have kp:∀c o,s.heap.get? c=some o->(zH5LT s.heap l1 l2).get? c=some o:=λc o x =>
  aAA _ (aAA _ (aAA _ (aAA _ (aAA _ x))))
 show _/\_
 rw[z2,z3,z4]at g5
 rw[z1,z2]at g3
 rw[z3]at g4
 rw[z1]at g2
 rw[z4]
 refine⟨⟨_,g5,rfl⟩,h _ ⟨⟨_,_,g5,.inl rfl⟩,g3,⟨_,_,g4⟩,.inl ⟨⟨_,g1,rfl,rfl⟩,?_⟩,.inr ⟨⟨_,g2,rfl,rfl⟩,?_⟩⟩ z5 kp⟩
 ·obtain⟨o,ho,r⟩:=hl1;exact⟨o,kp _ _ ho,r⟩
 ·obtain⟨o,ho,r⟩:=hl2;exact⟨o,kp _ _ ho,r⟩
abbrev zH1TL(h:Heap)(l1:Addr):Heap:=h.push {cls:=.type "tuple_iterator",data:=.fields #[.ref l1,.int 0 0]}
abbrev zH2TL(h:Heap)(l1 l2:Addr):Heap:=(zH1TL h l1).push {cls:=.type "list_iterator",data:=.fields #[.ref l2,.int 0 0]}
abbrev zH3TL(h:Heap)(l1 l2:Addr):Heap:=(zH2TL h l1 l2).push {cls:=.type "tuple",data:=.seq #[.ref h.objs.size,.ref (zH1TL h l1).objs.size]}
abbrev zH4TL(h:Heap)(l1 l2:Addr):Heap:=(zH3TL h l1 l2).push {cls:=.type "tuple",data:=.seq #[.none,.none]}
abbrev zH5TL(h:Heap)(l1 l2:Addr):Heap:=(zH4TL h l1 l2).push {cls:=.type "zip",data:=.fields #[.none,.bool false,.bool false,.ref (zH2TL h l1 l2).objs.size,.ref (zH3TL h l1 l2).objs.size]}
theorem aAm(l1 l2:Addr)(xs ys:Array Value) :
  Meets (Builtin.«zip.__new__» ⟨[.type "zip",.ref l1,.ref l2],[]⟩) (λ_ R s=>s.heap.IsTuple l1 xs/\s.heap.IsList l2 ys /\
   R (.ok (.ret (.ref (zH4TL s.heap l1 l2).objs.size))) {s with heap:=zH5TL s.heap l1 l2}) :=
 .of_wp λprog w A R s h=>by
  obtain⟨hp,g,d,tk,os⟩:=s;obtain⟨hl1,hl2,h⟩:=h
  have hsub:=sub_zip
  have hL1:Heap.IsTuple (Shared.heap ⟨hp,g,d,tk,os⟩) l1 xs:=hl1
  have hL2:Heap.IsList (Shared.heap ⟨hp.push {cls:=.type "tuple_iterator",data:=.fields #[.ref l1,.int 0 0]},g,d,tk,os⟩) l2 ys:=by
   obtain⟨o,ho,r⟩:=hl2
   exact⟨o,aAA _ ho,r⟩
  wp_walk using aDK hL1,aCR hL2
  exact⟨_,rfl,h⟩
theorem aDb(hl1:s.heap.IsTuple l1 xs)(hl2:s.heap.IsList l2 ys)
  (h:∀h',Zs h' (s.heap.objs.size+4) (s.heap.objs.size+2) (s.heap.objs.size+3) s.heap.objs.size (s.heap.objs.size+1) l1 l2 0 xs ys->h'.objs.size=s.heap.objs.size+5 ->
   (∀c o,s.heap.get? c=some o->h'.get? c=some o)->Q (.ref (s.heap.objs.size+4)) {s with heap:=h'}) :
  wpAny (model prog w) A (call (.type "zip") [.ref l1,.ref l2]) Q E s:=by
 refine aGA F.called_zip (by decide) (aFS _ _) (aGE _ _) (λobj=>aEV obj _ _) aGD
  (aAm l1 l2 xs ys) ⟨hl1,hl2,?_⟩
 have z1:(zH1TL s.heap l1).objs.size=s.heap.objs.size+1:=aAX ..
 have z2:(zH2TL s.heap l1 l2).objs.size=s.heap.objs.size+2:=by rw[aAX,z1]
 have z3:(zH3TL s.heap l1 l2).objs.size=s.heap.objs.size+3:=by rw[aAX,z2]
 have z4:(zH4TL s.heap l1 l2).objs.size=s.heap.objs.size+4:=by rw[aAX,z3]
 have z5:(zH5TL s.heap l1 l2).objs.size=s.heap.objs.size+5:=by rw[aAX,z4]
 have g5:(zH5TL s.heap l1 l2).get? (zH4TL s.heap l1 l2).objs.size=some _:=aAE _ rfl
 have g4:(zH5TL s.heap l1 l2).get? (zH3TL s.heap l1 l2).objs.size=some _:=aAA _ (aAE _ rfl)
 have g3:(zH5TL s.heap l1 l2).get? (zH2TL s.heap l1 l2).objs.size=some _:=aAA _ (aAA _ (aAE _ rfl))
 have g2:(zH5TL s.heap l1 l2).get? (zH1TL s.heap l1).objs.size=some _:=aAA _ (aAA _ (aAA _ (aAE _ rfl)))
 have g1:(zH5TL s.heap l1 l2).get? s.heap.objs.size=some _:=aAA _ (aAA _ (aAA _ (aAA _ (aAE _ rfl))))
 have kp:∀c o,s.heap.get? c=some o->(zH5TL s.heap l1 l2).get? c=some o:=λc o x =>
  aAA _ (aAA _ (aAA _ (aAA _ (aAA _ x))))
 show _/\_
 rw[z2,z3,z4]at g5
 rw[z1,z2]at g3
 rw[z3]at g4
 rw[z1]at g2
 rw[z4]
 refine⟨⟨_,g5,rfl⟩,h _ ⟨⟨_,_,g5,.inl rfl⟩,g3,⟨_,_,g4⟩,.inr ⟨⟨_,g1,rfl,rfl⟩,?_⟩,.inl ⟨⟨_,g2,rfl,rfl⟩,?_⟩⟩ z5 kp⟩
 ·obtain⟨o,ho,r⟩:=hl1;exact⟨o,kp _ _ ho,r⟩
 ·obtain⟨o,ho,r⟩:=hl2;exact⟨o,kp _ _ ho,r⟩
abbrev zH1TT(h:Heap)(l1:Addr):Heap:=h.push {cls:=.type "tuple_iterator",data:=.fields #[.ref l1,.int 0 0]}
abbrev zH2TT(h:Heap)(l1 l2:Addr):Heap:=(zH1TT h l1).push {cls:=.type "tuple_iterator",data:=.fields #[.ref l2,.int 0 0]}
abbrev zH3TT(h:Heap)(l1 l2:Addr):Heap:=(zH2TT h l1 l2).push {cls:=.type "tuple",data:=.seq #[.ref h.objs.size,.ref (zH1TT h l1).objs.size]}
abbrev zH4TT(h:Heap)(l1 l2:Addr):Heap:=(zH3TT h l1 l2).push {cls:=.type "tuple",data:=.seq #[.none,.none]}
abbrev zH5TT(h:Heap)(l1 l2:Addr):Heap:=(zH4TT h l1 l2).push {cls:=.type "zip",data:=.fields #[.none,.bool false,.bool false,.ref (zH2TT h l1 l2).objs.size,.ref (zH3TT h l1 l2).objs.size]}
theorem aBc(l1 l2:Addr)(xs ys:Array Value) :
  Meets (Builtin.«zip.__new__» ⟨[.type "zip",.ref l1,.ref l2],[]⟩) (λ_ R s=>s.heap.IsTuple l1 xs/\s.heap.IsTuple l2 ys /\
   R (.ok (.ret (.ref (zH4TT s.heap l1 l2).objs.size))) {s with heap:=zH5TT s.heap l1 l2}) :=
 .of_wp λprog w A R s h=>by
  obtain⟨hp,g,d,tk,os⟩:=s;obtain⟨hl1,hl2,h⟩:=h
  have hsub:=sub_zip
  have hL1:Heap.IsTuple (Shared.heap ⟨hp,g,d,tk,os⟩) l1 xs:=hl1
  have hL2:Heap.IsTuple (Shared.heap ⟨hp.push {cls:=.type "tuple_iterator",data:=.fields #[.ref l1,.int 0 0]},g,d,tk,os⟩) l2 ys:=by
   obtain⟨o,ho,r⟩:=hl2
   exact⟨o,aAA _ ho,r⟩
  wp_walk using aDK hL1,aDK hL2
  exact⟨_,rfl,h⟩
theorem aDy(hl1:s.heap.IsTuple l1 xs)(hl2:s.heap.IsTuple l2 ys)
  (h:∀h',Zs h' (s.heap.objs.size+4) (s.heap.objs.size+2) (s.heap.objs.size+3) s.heap.objs.size (s.heap.objs.size+1) l1 l2 0 xs ys->h'.objs.size=s.heap.objs.size+5 ->
   (∀c o,s.heap.get? c=some o->h'.get? c=some o)->Q (.ref (s.heap.objs.size+4)) {s with heap:=h'}) :
  wpAny (model prog w) A (call (.type "zip") [.ref l1,.ref l2]) Q E s:=by
 refine aGA F.called_zip (by decide) (aFS _ _) (aGE _ _) (λobj=>aEV obj _ _) aGD
  (aBc l1 l2 xs ys) ⟨hl1,hl2,?_⟩
 have z1:(zH1TT s.heap l1).objs.size=s.heap.objs.size+1:=aAX ..
 have z2:(zH2TT s.heap l1 l2).objs.size=s.heap.objs.size+2:=by rw[aAX,z1]
 have z3:(zH3TT s.heap l1 l2).objs.size=s.heap.objs.size+3:=by rw[aAX,z2]
 have z4:(zH4TT s.heap l1 l2).objs.size=s.heap.objs.size+4:=by rw[aAX,z3]
 have z5:(zH5TT s.heap l1 l2).objs.size=s.heap.objs.size+5:=by rw[aAX,z4]
 have g5:(zH5TT s.heap l1 l2).get? (zH4TT s.heap l1 l2).objs.size=some _:=aAE _ rfl
 have g4:(zH5TT s.heap l1 l2).get? (zH3TT s.heap l1 l2).objs.size=some _:=aAA _ (aAE _ rfl)
 have g3:(zH5TT s.heap l1 l2).get? (zH2TT s.heap l1 l2).objs.size=some _:=aAA _ (aAA _ (aAE _ rfl))
 have g2:(zH5TT s.heap l1 l2).get? (zH1TT s.heap l1).objs.size=some _:=aAA _ (aAA _ (aAA _ (aAE _ rfl)))
 have g1:(zH5TT s.heap l1 l2).get? s.heap.objs.size=some _:=aAA _ (aAA _ (aAA _ (aAA _ (aAE _ rfl))))
 have kp:∀c o,s.heap.get? c=some o->(zH5TT s.heap l1 l2).get? c=some o:=λc o x =>
  aAA _ (aAA _ (aAA _ (aAA _ (aAA _ x))))
 show _/\_
 rw[z2,z3,z4]at g5
 rw[z1,z2]at g3
 rw[z3]at g4
 rw[z1]at g2
 rw[z4]
 refine⟨⟨_,g5,rfl⟩,h _ ⟨⟨_,_,g5,.inl rfl⟩,g3,⟨_,_,g4⟩,.inr ⟨⟨_,g1,rfl,rfl⟩,?_⟩,.inr ⟨⟨_,g2,rfl,rfl⟩,?_⟩⟩ z5 kp⟩
 ·obtain⟨o,ho,r⟩:=hl1;exact⟨o,kp _ _ ho,r⟩
 ·obtain⟨o,ho,r⟩:=hl2;exact⟨o,kp _ _ ho,r⟩
theorem call_zipG(h1:s.heap.IsList l1 xs\/s.heap.IsTuple l1 xs)(h2:s.heap.IsList l2 ys\/s.heap.IsTuple l2 ys)
  (h:∀h',Zs h' (s.heap.objs.size+4) (s.heap.objs.size+2) (s.heap.objs.size+3) s.heap.objs.size (s.heap.objs.size+1) l1 l2 0 xs ys->h'.objs.size=s.heap.objs.size+5 ->
   (∀c o,s.heap.get? c=some o->h'.get? c=some o)->Q (.ref (s.heap.objs.size+4)) {s with heap:=h'}) :
  wpAny (model prog w) A (call (.type "zip") [.ref l1,.ref l2]) Q E s:=by
 rcases h1 with h1|h1 <;> rcases h2 with h2|h2
 ·exact aDo h1 h2 h
 ·exact aEi h1 h2 h
 ·exact aDb h1 h2 h
 ·exact aDy h1 h2 h
variable{R:Result->Shared->Prop}
theorem ap_of{n l1 l2:Nat}(h1:l1 < n)(h2:l2 < n):Ap (n+4) (n+2) (n+3) n (n+1) l1 l2:=by
 constructor <;> (show(_:Nat)≠(_:Nat);lia)
end ZP
namespace EV
open L2
variable{σ:L2.St}{K:Frag}{a b:Expr}{q pos:Pos}
def zipT(xs ys:List D):List D:=(xs.zip ys).map λp=>.tup [p.1,p.2]
end EV
namespace RT
theorem gY:Slot "reversed" "__next__" "reversed.__next__" :=
 .of (owner:="reversed") (n:="__next__") (by rw[aGB,aEL];kernel_rfl) (by decide +kernel) (by decide +kernel) (by decide +kernel)
  (by first|exact .inl (by decide +kernel)|exact .inr (by decide +kernel)) (by rw[aEM];kernel_rfl)
theorem qY:Slot "reversed" "__iter__" "reversed.__iter__" :=
 .of (owner:="reversed") (n:="__iter__") (by rw[aGB,aEL];kernel_rfl) (by decide +kernel) (by decide +kernel) (by decide +kernel)
  (by first|exact .inl (by decide +kernel)|exact .inr (by decide +kernel)) (by rw[aEM];kernel_rfl)
theorem yM:Slot "reversed" "__init__" "object.__init__" :=
 .of (owner:="object") (n:="__init__") (by rw[aGB,aEL];kernel_rfl) (by decide +kernel) (by decide +kernel) (by decide +kernel)
  (by first|exact .inl (by decide +kernel)|exact .inr (by decide +kernel)) (by rw[aEM];kernel_rfl)
theorem oO:entryFor table "reversed.__next__"=some Builtin.«reversed.__next__»:=entryFor_of_tree (by kernel_rfl)
theorem wB:entryFor table "reversed.__iter__"=some Builtin.«dict_keyiterator.__iter__» :=
 entryFor_alias (id':="dict_keyiterator.__iter__") (by kernel_rfl) (by first|rfl|decide +kernel|(unfold String.splitOn;simp +decide [String.splitOnAux])) (by decide +kernel) (by kernel_rfl)
theorem aBf:Manifest.owners.lookup (String.ofList ['d','e','s','r','e','v','e','r'].reverse)=some Manifest.sig_reversed:=by kernel_rfl
theorem pG(a:Value):argsOk "reversed.__next__" ⟨[a],[]⟩:=by
 unfold argsOk;rw[signature?_of (id:="reversed.__next__") (n:=['_','_','t','x','e','n','_','_']) (o:=['d','e','s','r','e','v','e','r']) (by kernel_rfl) aBf];kernel_rfl
theorem zM(a:Value):argsOk "reversed.__iter__" ⟨[a],[]⟩:=by
 unfold argsOk;rw[signature?_of (id:="reversed.__iter__") (n:=['_','_','r','e','t','i','_','_']) (o:=['d','e','s','r','e','v','e','r']) (by kernel_rfl) aBf];kernel_rfl
theorem aIe:TypeCalled "reversed" "reversed.__new__" "object.__init__" :=
 ⟨by decide +kernel,by decide +kernel,⟨_,_,F.mro_reversed⟩,F.made_reversed,by decide +kernel,by rw[aEM];kernel_rfl,yM⟩
theorem zP:typeLookup (.type "tuple") "__reversed__"=pure none:=by rw[aGB,aEL];kernel_rfl
theorem tQ:isSubtype (.type "tuple") (.type "dict")=pure false:=by rw[aEM];kernel_rfl
abbrev rvObj(l:Addr)(i:Int):Obj:={cls:=.type "reversed",dict:=none,data:=.fields #[.ref l,rawInt i],slots:=#[]}
theorem aJm(l:Addr)(items:Array Value):Meets (Builtin.«reversed.__new__» ⟨[.type "reversed",.ref l],[]⟩) (λ_ R s=>IsTup s.heap l items/\(items.size:Int) < 2 ^ 63 /\
   R (.ok (.ret (.ref s.heap.objs.size))) {s with heap:=s.heap.push (rvObj l ((items.size:Int) - 1)),toks:=s.toks+1+1}) :=
 .of_wp λprog w A R s h=>by
  obtain⟨hl,hz,h⟩:=h
  unfold Builtin.«reversed.__new__»
  refine aAB (aCB (newClass_reversed _) ?_)
  try dsimp only
  refine aAB (aCB (a:=()) (by first|rfl|kernel_rfl) ?_)
  refine aAB (aCB (a:=()) (by first|rfl|kernel_rfl) ?_)
  try dsimp only
  refine aAB (aEW hl.typeIs zP ?_)
  try dsimp only
  refine aAB ?_
  refine aAB (aFR (T:="tuple") (b:=false) hl.typeIs tQ ?_)
  try dsimp only
  refine aAB (aEW hl.typeIs F.slot_tuple_getitem.lookup ?_)
  refine aCB (a:=true) (by first|rfl|kernel_rfl) ?_
  show wpAny _ _ (call (.builtin "len") [.ref l] >>= _) _ _ _
  refine aAB (len_tuple hl hz ?_)
  refine aAB (aCB (a:=some (items.size:Int)) (by first|rfl|kernel_rfl) ?_)
  show wpAny _ _ (newObj (.type "reversed") (.fields #[.ref l,rawInt ((items.size:Int) - 1)]) >>= _) _ _ _
  exact aAB (aCC (aAF ⟨_,rfl,h⟩))
variable{prog:Program}{E:Value->Shared->Prop}{l:Addr}
theorem call_rev_tuple(hl:IsTup s.heap l items)(hz:(items.size:Int) < 2 ^ 63)
  (h:Q (.ref s.heap.objs.size) {s with heap:=s.heap.push (rvObj l ((items.size:Int) - 1)),toks:=s.toks+1+1}):wpAny (model prog w) A (call (.type "reversed") [.ref l]) Q E s :=
 aGA aIe (by decide) (F.typeCall_reversed_1 _) (F.newCall_reversed_1 _) (λobj=>F.args_object_init_2 obj _) F.entry_reversed_new (aJm l items) ⟨hl,hz,⟨⟨_,aAE _ rfl,rfl⟩,h⟩⟩
def IsRvT(h:Heap)(a l:Addr)(i:Int):Prop:=∃o,h.get? a=some o/\o.cls=.type "reversed"/\o.data=.fields #[.ref l,rawInt i]
variable{i:Int}
theorem IsRvT.typeIs(x:IsRvT s.heap a l i):s.TypeIs (.ref a) "reversed":=let⟨o,ho,hc,_⟩:=x;⟨o,ho,hc⟩
theorem IsRvT.at(x:IsRvT h a l i)(e:∀o,h.get? a=some o->h'.get? a=some o):IsRvT h' a l i:=let⟨o,ho,r⟩:=x;⟨o,e _ ho,r⟩
variable{Q:Option Value->Shared->Prop}
theorem next_item{i:Nat}{x:Value}(hit:IsRvT s.heap it l (i:Int))(hl:IsTup s.heap l items)(hz:(items.size:Int) < 2 ^ 63)(hx:items[i]?=some x)
  (hQ:∀h' tk,IsRvT h' it l ((i:Int) - 1)->Heap.SameBut it s.heap h'->Q (some x) {s with heap:=h',toks:=tk}):wpAny (model prog w) A (pyNext (.ref it)) Q E s:=by
 obtain⟨o,ho,hc,hd⟩:=id hit
 have hlt:i < items.size:=by
  rcases Nat.lt_or_ge i items.size with h|h
  ·exact h
  ·rw[Array.getElem?_eq_none h]at hx;cases hx
 unfold pyNext
 refine aAB (aED (aBR (name:=Str.ofString "__next__") hit.typeIs gY
  (aBY gY hit.typeIs oO ?_ (pG _))))
 unfold Builtin.«reversed.__next__»
 refine aAB (aCB (a:=(Value.ref it,[])) rfl ?_)
 try dsimp only
 refine aAB (aBH ho hd (x:=.ref l) rfl ?_)
 refine aAB (aBH ho hd (x:=rawInt (i:Int)) rfl ?_)
 show wpAny _ _ (if(i:Int) < 0 then _ else _) _ _ s
 rw[aAI (by lia)]
 show wpAny _ _ (specialOf (.ref l) (Str.ofString "__getitem__") >>= _) _ _ s
 refine aAB (aEW hl.typeIs F.slot_tuple_getitem.lookup ?_)
 show wpAny _ _ (mkInt (i:Int) >>= _) _ _ s
 refine aAB (wpAny_mkInt ?_)
 refine aAB (aED (getItem_tuple (j:=i) (x:=x) hl (by lia) (by lia) ?_ hx ?_))
 ·rw[aGR (by lia) (by lia)];simp
 try dsimp only
 refine aAB (aBH ho hd (x:=rawInt (i:Int)) rfl ?_)
 show wpAny _ _ (setField _ _ _ >>= _) _ _ _
 refine aAB (aFH ho hd (by simp) ?_)
 refine aAF ⟨x,rfl,aAF (hQ _ _ ?_ (aEA ..))⟩
 exact⟨_,aEP _ ho (aFU (aDL hd _)),(Obj.cls_mapFields ..).trans hc,by
  rw[aDL hd];simp⟩
theorem next_end(hh:A.handled=none)(hit:IsRvT s.heap it l (-1))
  (hQ:∀h',Heap.ExtBut it s.heap h'->Q none {s with heap:=h'}):wpAny (model prog w) A (pyNext (.ref it)) Q E s:=by
 obtain⟨o,ho,hc,hd⟩:=id hit
 unfold pyNext
 refine aAB (aED (aBR (name:=Str.ofString "__next__") hit.typeIs gY
  (aBY gY hit.typeIs oO ?_ (pG _))))
 unfold Builtin.«reversed.__next__»
 refine aAB (aCB (a:=(Value.ref it,[])) rfl ?_)
 try dsimp only
 refine aAB (aBH ho hd (x:=.ref l) rfl ?_)
 refine aAB (aBH ho hd (x:=rawInt (-1)) rfl ?_)
 show wpAny _ _ (if(-1:Int) < 0 then _ else _) _ _ s
 rw[aAJ (by decide)]
 refine aAB (aDA ?_)
 refine aAB ?_
 show wpAny _ _ (setField (.ref it) 1 (rawInt (-1)) >>= _) _ _ _
 refine aAB (aFH ho hd (by simp) ?_)
 refine aFH (aEP _ ho (aFU (aDL hd _))) (aDL hd _) (by simp) ?_
 refine aAB ?_
 show wpAny _ _ (newExc (.type "StopIteration") [] >>= _) _ _ _
 refine aAB ?_
 simp only[newExc,newTuple]
 refine aAB (aCC ?_ (by size_fits))
 refine aAB (m:=firstArgMember _ _) (aCB (a:=Value.none) (by first|rfl|(simp only[firstArgMember];rfl)) ?_)
 refine aCC ?_ (by size_fits)
 simp only[raiseNew]
 refine aAB (wpAny_handled ?_)
 first|rw[show A.in1.handled=none from hh]|rw[hh]
 refine aAB (aAF (wpAny_throw ?_))
 refine aAB (aFR (T:="StopIteration") (b:=true) ⟨_,aAE _ rfl,rfl⟩ isSubtype_stop ?_)
 exact aAF (hQ _ ((((aEA ..).extBut.trans (aEA ..).extBut).push _).push _))
theorem iter_self{Q:Value->Shared->Prop}(hit:IsRvT s.heap it l i)(h:Q (.ref it) s):wpAny (model prog w) A (pyIter (.ref it)) Q E s:=by
 refine aGZ hit.typeIs qY (aBY qY hit.typeIs wB ?_ (zM _))
 show wpAny _ _ (ret (.ref it)) _ _ s
 exact aAF ⟨_,rfl,"reversed",_,hit.typeIs,gY.lookup,h⟩
end RT
namespace L2
def Itw(K:Frag)(a:Addr)(xs:List V):It :=
 ⟨λi H=>SqT K H a xs/\i < xs.length,λi H x H'=>H'=H/\xs[xs.length - 1 - i]?=some x,λi _=>xs.length<=i⟩
variable{tg:Expr}
theorem aHs(a it:Addr)(xs:List V):Turn P w K tg (Itw K a xs) [it] it (λi h=>i<=xs.length/\RT.IsRvT h it a ((xs.length:Int) - 1 - (i:Int)))where
 mem:=by simp
 obj:=λi h st b hb=>by
  have e:b=it:=by simpa using hb
  subst e
  obtain⟨o,e,c,d⟩:=st.2
  exact⟨o,e,λv z=>by rw[d]at z;cases z⟩
 keep:=λi h h' st k=>⟨st.1,st.2.at λo e=>k it (by simp) o e⟩
 item:=by
  intro X hP hw hK hc i pins s σ H E I hf st hg
  subst hP hw hK
  obtain⟨hq,hx⟩:=hg
  obtain⟨its,rv,p,hz⟩:=I.tuple hq
  have hlt:xs.length - 1 - i < xs.length:=by lia
  have hx':xs[xs.length - 1 - i]?=some xs[xs.length - 1 - i]:=aBB hlt
  obtain⟨u,hu,ru⟩:=rv.get hx'
  obtain⟨f0,f1,f2,f3,f4,f5⟩:=hf it (by simp)
  have st2:=st.2
  have e1:(xs.length:Int) - 1 - (i:Int)=((xs.length - 1 - i:Nat):Int):=by lia
  rw[e1]at st2
  have hlen:=rv.length
  refine RT.next_item st2 p (by rw[aAK,<- hlen];have:sizeLine < 2 ^ 63:=by decide
                                lia) (x:=u) (by simpa using hu) λh' tk st' sb=>?_
  have I1:Inv X pins σ H {s with heap:=h',toks:=tk}:=I.turned (t':=tk) (λb o hb e=>(sb.2 b hb).trans e) f0 f1 f3 f4 f5
  have e2:((xs.length - 1 - i:Nat):Int) - 1=(xs.length:Int) - 1 - ((i+1:Nat):Int):=by lia
  rw[e2]at st'
  obtain⟨o,e,c,d⟩:=id st'
  exact⟨u,rfl,xU (s:={s with heap:=h',toks:=tk}) e c d (by decide) ⟨_,H,I1,ru,⟨rfl,hx'⟩,⟨hx,st'⟩,λb hb=>(hf b hb).1⟩⟩
 done:=by
  intro X hP hw hK hc i pins s σ H E I hf st hg
  subst hP hw hK
  have hx:xs.length<=i:=hg
  obtain⟨f0,f1,f2,f3,f4,f5⟩:=hf it (by simp)
  have st2:=st.2
  have h1:=st.1
  have e1:(xs.length:Int) - 1 - (i:Int) = -1:=by lia
  rw[e1]at st2
  exact RT.next_end (I.ok.hd hc) st2 λh' eb=>⟨rfl,I.turned (t':=s.toks) (λb o hb e=>eb b o hb e) f0 f1 f3 f4 f5⟩
 self:=λ_ _ _ _ _ st h=>RT.iter_self st.2 h
def iRvE(K:Frag)(ta:TA):TI:=λσ H R=>ta σ H λvs H1=>∃a,vs=[.ref a]/\((∃xs,SqL K H1 a xs/\R (Itv K a xs) H1)\/(∃xs,SqT K H1 a xs/\R (Itw K a xs) H1))
theorem aSk{a:Expr}{ta:TA}{pos:Pos}(hg:Gl X "reversed")(hm:X.mg "reversed"=none)(ha:PA X [a] ta)(hs:starEach [a] X.env=[(false,eval a X.env)]:=by rfl):PI X tg (.Call (.Name "reversed" p) [a] [] pos) (iRvE X.K ta):=by
 intro pins s σ H R I h
 refine Call_ (nJ I hg hm aCk (aCN (thn (ha pos pins s σ H _ I h) λus s1 ⟨vs,H1,I1,r1,q1⟩=>?_) hs rfl))
 obtain⟨b,e,⟨xs,hq,q⟩|⟨xs,hq,q⟩⟩:=q1
 ·subst e
  cases r1 with
  |cons r rr =>
   cases rr
   cases r
   obtain⟨its,rv,p,hz⟩:=I1.list hq
   have hlen:=rv.length
   refine call_reversed_list p.isList (wpAny_pyIter_revIter ⟨_,aAE _ rfl,rfl,rfl⟩ ?_)
   have I2:Inv X pins σ H1 {s1 with heap:=s1.heap.push (revObj b ((its.toArray.size:Int) - 1))}:=I1.kept (t':=s1.toks) λb o e=>aAA _ e
   refine⟨s1.heap.objs.size,[s1.heap.objs.size],_,_,H1,rfl,I2,aJw b _ xs,⟨aFQ _,_,aAE _ rfl,rfl,?_⟩,λc hb=>?_,q⟩
   ·show Data.fields #[.ref b,rawInt ((its.toArray.size:Int) - 1)]=_
    rw[aAK,<- hlen]
    simp
   ·have e:c=s1.heap.objs.size:=by simpa using hb
    subst e
    exact I1.fpOk (aAH _) (I1.hok.fresh (aAH _))
 ·subst e
  cases r1 with
  |cons r rr =>
   cases rr
   cases r
   obtain⟨its,rv,p,hz⟩:=I1.tuple hq
   have hlen:=rv.length
   refine RT.call_rev_tuple p (by rw[aAK,<- hlen];have:sizeLine < 2 ^ 63:=by decide
                                  lia) (RT.iter_self (i:=(its.toArray.size:Int) - 1) ⟨_,aAE _ rfl,rfl,rfl⟩ ?_)
   have I2:Inv X pins σ H1 {s1 with heap:=s1.heap.push (RT.rvObj b ((its.toArray.size:Int) - 1)),toks:=s1.toks+1+1}:=I1.kept (t':=s1.toks+1+1) λb o e=>aAA _ e
   refine⟨s1.heap.objs.size,[s1.heap.objs.size],_,_,H1,rfl,I2,aHs b _ xs,⟨aFQ _,_,aAE _ rfl,rfl,?_⟩,λc hb=>?_,q⟩
   ·show Data.fields #[.ref b,rawInt ((its.toArray.size:Int) - 1)]=_
    rw[aAK,<- hlen]
    simp
   ·have e:c=s1.heap.objs.size:=by simpa using hb
    subst e
    exact I1.fpOk (aAH _) (I1.hok.fresh (aAH _))
end L2
namespace EV
open L2
def iRv(f:FE):FI:=λL M=>(f L M).bind λw M1=>match w with
 |.d (.tup xs)=>.ok ⟨xs.reverse,none⟩ M1
 |.d (.lst xs)=>.ok ⟨xs.reverse,none⟩ M1
 |.d (.fz xs)=>.ok ⟨xs.reverse,none⟩ M1
 |_=>.bad
variable{K:Frag}{a:Expr}{pos:Pos}{tg:Expr}
theorem aFk{ds:List D}{d:D}(r:Rps K μ H ds vs)(h:ds.reverse[i]?=some d):∃v,vs[vs.length - 1 - i]?=some v/\i < vs.length/\Rp K μ H d v:=by
 obtain⟨v,q1,q2⟩:=r.reverse.get h
 have hi:i < vs.length:=by
  have:=(aAC.mp q1).1
  simpa using this
 rw[List.getElem?_reverse hi]at q1
 exact⟨v,q1,hi,q2⟩
variable{p:Addr}
theorem aIy{ds:List D}(S:List Addr->Hp->Prop)(s0:S μ H)(sx:∀μ1 H1 μ2 H2,Lsts μ1 H1->S μ1 H1->Ext μ1 H1 μ2 H2->S μ2 H2)
  (rd:∀μ1 H1,S μ1 H1->SqL K H1 p vs/\Rps K μ1 H1 ds vs):ItOk K μ H ⟨ds.reverse,none⟩ (Itv K p vs):=by
 refine⟨S,s0,sx,λμ1 H1 M1 i hr hS hc=>?_⟩
 obtain⟨h1,r1⟩:=rd μ1 H1 hS
 refine⟨λd hd=>?_,λhl=>?_⟩
 ·obtain⟨v,q1,hi,q2⟩:=aFk r1 hd
  refine⟨⟨h1,hi⟩,λx H2 y=>?_⟩
  obtain⟨rfl,y⟩:=y
  rw[q1]at y
  cases y
  exact⟨.refl,hr,q2⟩
 ·show vs.length<=i
  rw[<- r1.length]
  simpa using hl
theorem aPx{ds:List D}(S:List Addr->Hp->Prop)(s0:S μ H)(sx:∀μ1 H1 μ2 H2,Lsts μ1 H1->S μ1 H1->Ext μ1 H1 μ2 H2->S μ2 H2)
  (rd:∀μ1 H1,S μ1 H1->SqT K H1 p vs/\Rps K μ1 H1 ds vs):ItOk K μ H ⟨ds.reverse,none⟩ (Itw K p vs):=by
 refine⟨S,s0,sx,λμ1 H1 M1 i hr hS hc=>?_⟩
 obtain⟨h1,r1⟩:=rd μ1 H1 hS
 refine⟨λd hd=>?_,λhl=>?_⟩
 ·obtain⟨v,q1,hi,q2⟩:=aFk r1 hd
  refine⟨⟨h1,hi⟩,λx H2 y=>?_⟩
  obtain⟨rfl,y⟩:=y
  rw[q1]at y
  cases y
  exact⟨.refl,hr,q2⟩
 ·show vs.length<=i
  rw[<- r1.length]
  simpa using hl
variable{p:Pos}
theorem aSn(hm:X.mg "reversed"=none)(ha:Ev X K Z a f)(hg:Gl X "reversed":=by rfl)(hs:starEach [a] X.env=[(false,eval a X.env)]:=by rfl):Ei X K Z tg (.Call (.Name "reversed" p) [a] [] pos) (iRv f):=by
 have h':=aSk (tg:=tg) (p:=p) (pos:=pos) hg hm (dC ha.h fQ hs) hs
 rw[ha.k]at h'
 refine⟨ha.k,cqI h' ?_⟩
 rintro σ H R ⟨μ,M,L,hr,lr,p⟩
 refine⟨μ,M,L,hr,lr,p.bind.imp λμ1 H1 M1 w e1 hr1 _ p1 v rw'=>?_⟩
 cases w with
 |ref i=>exact p1.elim
 |ob _ _=>exact p1.elim
 |nest _=>exact p1.elim
 |d x=>cases x with
  |tup xs =>
   simp only[Rw,Rp]at rw'
   obtain⟨p,vs,rfl,h1,r1⟩:=rw'
   refine⟨p,rfl,.inr ⟨vs,SqT.of h1,p1 μ1 H1 .refl hr1 _ ?_⟩⟩
   refine aPx (λμ2 H2=>H2 p=some (.tup vs)/\Rps K μ2 H2 xs vs) ⟨h1,r1⟩ (λμ1 H1 μ2 H2 l z e=>⟨e.keep _ _ (λq=>by obtain⟨us,q,mq⟩:=l p q;rw[z.1]at q;cases q;exact mq) z.1,Rps.ext l e _ _ z.2⟩) λμ1 H1 z=>⟨SqT.of z.1,z.2⟩
  |lst xs =>
   simp only[Rw,Rp]at rw'
   obtain⟨p,vs,rfl,h1,hn,r1⟩:=rw'
   refine⟨p,rfl,.inl ⟨vs,SqL.of h1,p1 μ1 H1 .refl hr1 _ ?_⟩⟩
   refine aIy (λμ2 H2=>H2 p=some (.lst vs)/\p∉μ2/\Rps K μ2 H2 xs vs) ⟨h1,hn,r1⟩ (λμ1 H1 μ2 H2 l z e=>⟨e.keep _ _ z.2.1 z.1,λq=>(e.new p q).elim z.2.1 (λq=>by rw[z.1]at q;cases q),Rps.ext l e _ _ z.2.2⟩) λμ1 H1 z=>⟨SqL.of z.1,z.2.2⟩
  |fz xs =>
   simp only[Rw,Rp]at rw'
   obtain⟨p,vs,rfl,h1,r1⟩:=rw'
   refine⟨p,rfl,.inl ⟨vs,h1.sq,p1 μ1 H1 .refl hr1 _ ?_⟩⟩
   refine aIy (λμ2 H2=>FzL K H2 p vs/\Rps K μ2 H2 xs vs) ⟨h1,r1⟩ (λμ1 H1 μ2 H2 l z e=>⟨z.1.ext l e,Rps.ext l e _ _ z.2⟩) λμ1 H1 z=>⟨z.1.sq,z.2⟩
  |_=>exact p1.elim
variable{K:Frag}
def rInts(n:Nat):List Int:=(List.range n).map λk=>(0:Int)+(k:Nat)
variable{n:Nat}
theorem xG:rngD 0 n=(rInts n).map D.int:=by unfold rngD rInts;rw[aCA];rfl
def rLR:List V->Hp->VK->Prop:=λxs H Q=>∃p j,xs=[.ref p]/\H p=some (.rng 0 j)/\0<=j/\j<=16777216/\∀l,H l=none->Q (.ref l) (upd H l (.lst ((rInts j.toNat).map V.int)))
theorem nV{acc:Array Value}(h:ItemsOf (λi v=>∃t,v=.int ((0:Int)+i*1) t) acc n):Vals ((rInts n).map V.int) acc.toList:=by
 have key:∀(l:List Value) (k:Nat),(∀j v,l[j]?=some v->∃t,v=Value.int ((0:Int)+((k+j:Nat):Int)) t)->Vals ((List.range' k l.length).map λi=>V.int ((0:Int)+(i:Nat))) l:=by
  intro l
  induction l with
  |nil=>intro k _;exact .nil
  |cons x r ih =>
   intro k hk
   rw[aBA,List.range'_succ,aBC]
   refine .cons ?_ (ih (k+1) λj v e=>?_)
   ·obtain⟨t,e⟩:=hk 0 x rfl
    exact⟨t,by simpa using e⟩
   ·obtain⟨t,e'⟩:=hk (j+1) v (by simpa using e)
    exact⟨t,by rw[e'];congr 2;lia⟩
 have hl:acc.toList.length=n:=h.1
 have:=key acc.toList 0 λj v e=>by
  obtain⟨t,e'⟩:=h.2 j v (by simpa using e)
  exact⟨t,by rw[e'];first|rfl|(congr 1 <;> lia)⟩
 rw[hl]at this
 unfold rInts
 rw[aCA,List.range_eq_range']
 exact this
theorem wA(hc:X.calm=true):CallR X (.type "list") rLR:=by
 intro pins s σ H xs us Q I r h
 obtain⟨p,j,rfl,hq,h0,h1,q⟩:=h
 obtain⟨u,rfl,rx⟩:=vals1 r
 cases rx
 obtain⟨t,u,v,ho⟩:=(show ObjOk X.prog X.w H s.heap p (.rng 0 j)from I.hok p _ hq)
 refine call_list_range (n:=j.toNat) (I.ok.hd hc) ho (small_one (by lia) (by lia) (by lia) (by lia)) (by rw[rangeSize_one];split <;> lia) (by lia) λh' tk acc' c' kp hS hacc=>?_
 refine⟨.ref s.heap.objs.size,_,I.laid (t':=tk) kp (aAH _) (show ObjOk X.prog X.w _ h' _ (.lst ((rInts j.toNat).map V.int))from⟨by rw[aBF];simp[rInts];lia,acc'.toList,c',nV hacc,by simpa using hS⟩),rfl,q _ (I.hok.fresh (aAH _))⟩
def cLRR(w:W)(M:Mm):Oc W:=match w with
 |.d (.int j)=>if 0<=j/\j<=16777216 then .ok (.ref M.length) (M++[rngD 0 j.toNat])else .bad
 |_=>.bad
abbrev eListRange1R(f:FE):FE:=e1 cLRR f
theorem sB:bootBuiltins "range"=some (.type "range"):=by first|rfl|kernel_rfl
theorem aDq:bootBuiltins "list"=some (.type "list"):=by first|rfl|kernel_rfl
theorem aNx{t:TE}{p:Pos}(hc:X.calm=true)(hm:X.mg "list"=none)(hm2:X.mg "range"=none)(ha:PE X a t)(hg:Gl X "list")(hg2:Gl X "range")(hs:starEach [a] X.env=[(false,eval a X.env)])
  (hs2:starEach [.Call (.Name "range" p2) [a] [] pos2] X.env=[(false,eval (.Call (.Name "range" p2) [a] [] pos2) X.env)]) :
  PE X (.Call (.Name "list" p) [.Call (.Name "range" p2) [a] [] pos2] [] pos) (λσ H Q=>t σ H λv H1=>∃j,[v]=[V.int j]/\∀p,H1 p=none->rLR [.ref p] (upd H1 p (.rng 0 j)) Q) :=
 nW (wA hc) hg hm aDq (dC (nW sG hg2 hm2 sB (dC ha fQ hs) (by decide) (by decide) hs rfl) fQ hs2) (by decide) (by decide) hs2 rfl
theorem aJe{Q:VK}{j:Int}{o:Oc W}(hr:HR K μ H M)(p:Pst K Z μ H o (Wk K Q))(h0:0<=j)(h1:j<=16777216)(ho:∀(H':Hp),HR K μ H' M->Pst K Z μ H' o (Wk K Q)->∀l,H' l=none->Q (.ref l) (upd H' l (.lst ((rInts j.toNat).map V.int)))) :
  ∃j',[V.int j]=[V.int j']/\∀p,H p=none->rLR [.ref p] (upd H p (.rng 0 j')) Q :=
 ⟨j,rfl,λq hq=>⟨q,j,rfl,cQ,h0,h1,ho _ (hr.lay hq) (Pst.mono (jN hr hq) p)⟩⟩
theorem uN(hc:X.calm=true)(hm:X.mg "list"=none)(hm2:X.mg "range"=none)(ha:Ev X K Z a f)(hg:Gl X "list":=by rfl)(hg2:Gl X "range":=by rfl)(hs:starEach [a] X.env=[(false,eval a X.env)]:=by rfl)
  (hs2:starEach [.Call (.Name "range" p2) [a] [] pos2] X.env=[(false,eval (.Call (.Name "range" p2) [a] [] pos2) X.env)]:=by rfl):Ev X K Z (.Call (.Name "list" p) [.Call (.Name "range" p2) [a] [] pos2] [] pos) (eListRange1R f):=by
 refine⟨ha.k,cqE (aNx hc hm hm2 ha.h hg hg2 hs hs2) ?_⟩
 rintro σ H Q ⟨μ,M,L,hr,lr,p⟩
 refine⟨μ,M,L,hr,lr,p.bind.imp λμ1 H1 M1 w e1 hr1 _ p1 v rw'=>?_⟩
 cases w with
 |ref i=>exact p1.elim
 |ob _ _=>exact p1.elim
 |nest _=>exact p1.elim
 |d x=>cases x with
  |int j =>
   simp only[cLRR]at p1
   split at p1
   ·rename_i hz
    simp only[Rw,Rp]at rw'
    subst rw'
    exact aJe hr1 p1 hz.1 hz.2 λH' hr' p'=>aGb hr' Rps.ints (by rw[xG]at p';exact p')
   ·exact p1.elim
  |_=>exact p1.elim
end EV
end
variable{QI:EV.Src->EV.Mm->Prop}
namespace EV
open PySem L2
@[irreducible] def Okx(EX:D->Mm->Prop)(o:Oc α)(Q:α->Mm->Prop):Prop:=match o with
 |.ok a M=>Q a M
 |.ex x M=>EX x M
 |.bad=>False
abbrev NX:D->Mm->Prop:=λ_ _=>False
abbrev Ok(o:Oc α)(Q:α->Mm->Prop):Prop:=Okx NX o Q
variable{α β:Type}{EX EX':D->Mm->Prop}{o o':Oc α}{Q Q':α->Mm->Prop}{a:α}
theorem nY:Okx EX o Q ↔ (∃a M,o=.ok a M/\Q a M)\/∃x M,o=.ex x M/\EX x M:=by
 unfold Okx
 cases o with
 |ok a M=>exact⟨λh=>.inl ⟨a,M,rfl,h⟩,λh=>by rcases h with⟨_,_,e,q⟩|⟨_,_,e,q⟩ <;> cases e;exact q⟩
 |ex x M=>exact⟨λh=>.inr ⟨x,M,rfl,h⟩,λh=>by rcases h with⟨_,_,e,q⟩|⟨_,_,e,q⟩ <;> cases e;exact q⟩
 |bad=>exact⟨λh=>h.elim,λh=>by rcases h with⟨_,_,e,q⟩|⟨_,_,e,q⟩ <;> cases e⟩
theorem zK:Ok o Q ↔ ∃a M,o=.ok a M/\Q a M:=by
 refine Iff.trans (nY (EX:=NX)) ⟨λh=>?_,.inl⟩
 rcases h with h|⟨_,_,_,q⟩
 ·exact h
 ·exact q.elim
theorem aU(q:Q a M):Okx EX (.ok a M) Q:=nY.mpr (.inl ⟨a,M,rfl,q⟩)
theorem tH{x:D}(q:EX x M):Okx EX (.ex x M:Oc α) Q:=nY.mpr (.inr ⟨x,M,rfl,q⟩)
theorem aQ{k:α->Mm->Oc β}{Q:β->Mm->Prop}(h:Okx EX o λa M=>Okx EX (k a M) Q):Okx EX (o.bind k) Q:=by
 rcases nY.mp h with⟨a,M,rfl,q⟩|⟨x,M,rfl,q⟩
 ·exact q
 ·exact tH q
theorem Okx.mono(h:Okx EX o Q)(f:∀a M,Q a M->Q' a M):Okx EX o Q':=by
 rcases nY.mp h with⟨a,M,rfl,q⟩|⟨x,M,rfl,q⟩
 ·exact aU (f _ _ q)
 ·exact tH q
theorem Okx.monoX(h:Okx EX o Q)(f:∀a M,Q a M->Q' a M)(g:∀x M,EX x M->EX' x M):Okx EX' o Q':=by
 rcases nY.mp h with⟨a,M,rfl,q⟩|⟨x,M,rfl,q⟩
 ·exact aU (f _ _ q)
 ·exact tH (g _ _ q)
theorem Ok.mono(h:Ok o Q)(f:∀a M,Q a M->Q' a M):Okx EX o Q':=Okx.monoX h f λ_ _ z=>z.elim
variable{EX:D->Mm->Prop}{c:Bool}
theorem aBx{a b:Oc α}{Q:α->Mm->Prop}(h1:c=true->Okx EX a Q)(h2:c=false->Okx EX b Q):Okx EX (if c=true then a else b) Q:=by cases c <;> simp_all
variable{p:Prop}
theorem iJ[Decidable p]{a b:Oc α}{Q:α->Mm->Prop}(h1:p->Okx EX a Q)(h2:¬p->Okx EX b Q):Okx EX (if decide p=true then a else b) Q:=by by_cases h:p <;> simp_all
theorem vC[Decidable p]{a b:Oc α}{Q:α->Mm->Prop}(h1:p->Okx EX b Q)(h2:¬p->Okx EX a Q):Okx EX (if(!decide p)=true then a else b) Q:=by by_cases h:p <;> simp_all
theorem nD{a b:Oc α}{Q:α->Mm->Prop}(h:c=true)(h1:Okx EX a Q):Okx EX (if c=true then a else b) Q:=by rw[aAJ h];exact h1
theorem eZ{a b:Oc α}{Q:α->Mm->Prop}(h:c=false)(h1:Okx EX b Q):Okx EX (if c=true then a else b) Q:=by rw[aAI (by simp[h])];exact h1
section
variable{i j:Nat}{w x y:W}{Q:W->Mm->Prop}{QA:List W->Mm->Prop}{QT:Bool->Mm->Prop}{g h:FE}{G:FS}{t u:FT}{fs:FA}{gg:FG}
theorem aNi(h:L[i]?=some (some w))(q:Q w M):Okx EX (eV i L M) Q:=by unfold eV;rw[h];exact aU q
theorem aLb{d:D}(q:Q (.d d) M):Okx EX (eC d L M) Q:=aU q
theorem aMz(q:Q (.d (.lst (ns.map D.int))) M):Okx EX (eInts ns L M) Q:=aU q
theorem aVc{p:W->Mm->Oc W}(h:Okx EX (f L M) λx M1=>Okx EX (p x M1) Q):Okx EX (e1 p f L M) Q:=aQ h
theorem aUa{p:W->W->Mm->Oc W}(h:Okx EX (f L M) λx M1=>Okx EX (g L M1) λy M2=>Okx EX (p x y M2) Q):Okx EX (e2 p f g L M) Q:=aQ (h.mono λ_ _ z=>aQ z)
theorem aJp{p p':W->W->Mm->Oc W}(z:Okx EX (f L M) λx M1=>Okx EX (g L M1) λy M2=>Okx EX (p x y M2) λw M3=>∃b,w=.d (.bl b)/\(b=true->Okx EX (h L M3) λz M4=>Okx EX (p' y z M4) Q)/\(b=false->Q (.d (.bl false)) M3)):Okx EX (e3c p p' f g h L M) Q:=by
 refine aQ (z.mono λx M1 z=>aQ (z.mono λy M2 z=>aQ (z.mono λw M3 ⟨b,e,h1,h2⟩=>?_)))
 subst e
 cases b with
 |true=>exact aQ (h1 rfl)
 |false=>exact aU (h2 rfl)
theorem aVi{p:List W->Mm->Oc W}(h:Okx EX (fs L M) λws M1=>Okx EX (p ws M1) Q):Okx EX (eA p fs L M) Q:=aQ h
theorem aPt(q:QA [] M):Okx EX (aNil L M) QA:=aU q
theorem aUv(h:Okx EX (f L M) λw M1=>Okx EX (fs L M1) λws M2=>QA (w::ws) M2):Okx EX (aCons f fs L M) QA:=aQ (h.mono λ_ _ z=>aQ (z.mono λ_ _ z=>aU z))
theorem aSe(h:Okx EX (f L M) λw M1=>∃b,w=.d (.bl b)/\(b=true->Okx EX (g L M1) Q)/\(b=false->Q (.d (.bl false)) M1)):Okx EX (eAnd f g L M) Q:=by
 refine aQ (h.mono λw M1 ⟨b,e,h1,h2⟩=>?_)
 subst e
 cases b with
 |true=>exact h1 rfl
 |false=>exact aU (h2 rfl)
theorem aUs(h:Okx EX (t L M) λc M1=>Okx EX (if c=true then f L M1 else g L M1) Q):Okx EX (eIf t f g L M) Q:=aQ h
theorem aPp(h:Okx EX (f L M) λw M1=>∃b,w=.d (.bl b)/\QT b M1):Okx EX (EV.tB f L M) QT:=aQ (h.mono λw M1 ⟨b,e,q⟩=>by subst e;exact aU q)
theorem aUx(h:Okx EX (f L M) λw M1=>∃b,tru M1 w=some b/\QT b M1):Okx EX (tV f L M) QT:=aQ (h.mono λw M1 ⟨b,e,q⟩=>by rw[e];exact aU q)
theorem yK(h:Okx EX (t L M) λb M1=>QT (!b) M1):Okx EX (EV.tNot t L M) QT:=aQ (h.mono λ_ _ z=>aU z)
theorem aOr(h:Okx EX (t L M) λb M1=>(b=true->Okx EX (u L M1) QT)/\(b=false->QT false M1)):Okx EX (EV.tAnd t u L M) QT:=aQ (h.mono λb M1 ⟨h1,h2⟩=>by cases b with|true=>exact h1 rfl|false=>exact aU (h2 rfl))
theorem aEj(h:Okx EX (t L M) λb M1=>(b=true->QT true M1)/\(b=false->Okx EX (u L M1) QT)):Okx EX (EV.tOr t u L M) QT:=aQ (h.mono λb M1 ⟨h1,h2⟩=>by cases b with|true=>exact aU (h1 rfl)|false=>exact h2 rfl)
theorem aNy(q:QT true M):Okx EX (EV.tYes L M) QT:=aU q
theorem aEc(q:QS (.nx L) M):Okx EX (sNil L M) QS:=aU q
theorem iH(h:Okx EX (F L M) λo M1=>match o with
 |.nx L1=>Okx EX (G L1 M1) QS
 |.bk L1=>QS (.bk L1) M1
 |.ct L1=>QS (.ct L1) M1
 |.rt w=>QS (.rt w) M1):Okx EX (sSeq F G L M) QS:=aQ (h.mono λo M1 z=>by cases o with|nx L1=>exact z|bk L1=>exact aU z|ct L1=>exact aU z|rt w=>exact aU z)
theorem aUt(h:Okx EX (f L M) λ_ M1=>QS (.nx L) M1):Okx EX (sEx f L M) QS:=aQ (h.mono λ_ _ z=>aU z)
theorem aUm(h:Okx EX (f L M) λw M1=>QS (.rt w) M1):Okx EX (sRt f L M) QS:=aQ (h.mono λ_ _ z=>aU z)
theorem jV(h:Okx EX (t L M) λb M1=>Okx EX (if b=true then F L M1 else G L M1) QS):Okx EX (sIf t F G L M) QS:=aQ h
theorem aEf(h:Okx EX (f L M) λw M1=>Okx EX (gg w L M1) λL1 M2=>QS (.nx L1) M2):Okx EX (sAs f gg L M) QS:=aQ (h.mono λ_ _ z=>aQ (z.mono λ_ _ z=>aU z))
theorem aNr(h:Okx EX (fs L M) λws M1=>∃v w,ws=[v,w]/\QS (.nx ((L.set i (some v)).set j (some w))) M1):Okx EX (sPar i j fs L M) QS:=aQ (h.mono λws M1 ⟨v,w,e,q⟩=>by subst e;exact aU q)
theorem aAa{p:W->W->Mm->Oc W}(h:L[i]?=some (some x))(z:Okx EX (f L M) λy M1=>Okx EX (p x y M1) λz M2=>QS (.nx (L.set i (some z))) M2):Okx EX (sAug p i f L M) QS:=by
 unfold sAug eV;rw[h];exact aQ (aU (aQ (z.mono λ_ _ z=>aQ (z.mono λ_ _ z=>aU z))))
theorem sA(q:QG (L.set i (some w)) M):Okx EX (gN i w L M) QG:=aU q
variable{n:Nat}{gs:FGs}
theorem aUl{xs:List D}(hn:xs.length=n)(h:Okx EX (gs xs L M) QG):Okx EX (gT n gs (.d (.tup xs)) L M) QG:=by unfold gT;simp only;rw[aAJ hn];exact h
theorem aRn(q:QG L M):Okx EX (gsNil [] L M) QG:=aU q
theorem aRw{d:D}{ds:List D}(h:Okx EX (gg (.d d) L M) λL1 M1=>Okx EX (gs ds L1 M1) QG):Okx EX (gsCons gg gs (d::ds) L M) QG:=aQ h
theorem aTy{d:D}(h:Okx EX (f L M) λo M1=>Okx EX (g L M1) λi M2=>∃k j xs t,o=.ref k/\i=.d (.int j)/\M2[k]?=some xs/\ixN xs.length j=some t/\QG L (M2.set k (xs.set t d))):Okx EX (gS f g (.d d) L M) QG:=by
 refine aQ (h.mono λo M1 z=>aQ (z.mono λi M2 ⟨k,j,xs,t,e1,e2,e3,e4,q⟩=>?_))
 subst e1 e2
 simp only[e3,e4]
 exact aU q
theorem aKh{c:Int->Int->Bool}{gg:Int->Int->D}{i j:Int}(hc:c i j=true)(q:Q (.d (gg i j)) M):Okx EX (pI c gg (.d (.int i)) (.d (.int j)) M) Q:=by unfold pI;simp only;rw[aAJ hc];exact aU q
theorem aTm{i j:Int}(q:Q (.d (.int (i+j))) M):Okx EX (pAdd (.d (.int i)) (.d (.int j)) M) Q:=aU q
theorem eX{xs ys:List D}(hz:xs.length+ys.length<=16777216)(q:Q (.d (.tup (xs++ys))) M):Okx EX (pAdd (.d (.tup xs)) (.d (.tup ys)) M) Q:=by unfold pAdd;simp only;rw[aAJ hz];exact aU q
variable{a b:Str}
theorem mE(hz:a.length+b.length<=16777216)(q:Q (.d (.str (a++b))) M):Okx EX (pAdd (.d (.str a)) (.d (.str b)) M) Q:=by unfold pAdd;simp only;rw[aAJ hz];exact aU q
theorem zR{i j:Int}(hz:mulOk i j=true)(q:Q (.d (.int (i*j))) M):Okx EX (pMulA (.d (.int i)) (.d (.int j)) M) Q:=by unfold pMulA pMul;simp only;rw[aAJ hz];exact aU q
theorem aQv{i:Int}(q:Q (.d (.int (-i))) M):Okx EX (pNeg (.d (.int i)) M) Q:=aU q
theorem aLz{a b:D}(h1:wd M x=some a)(h2:wd M y=some b)(hd:dep a<=100/\dep b<=100)(q:Q (.d (.bl (eqD a b))) M):Okx EX (pEq x y M) Q:=by unfold pEq;rw[h1,h2];simp only;rw[aAJ hd];exact aU q
theorem aFh{a b:D}(h1:wd M x=some a)(h2:wd M y=some b)(hd:dep a<=100/\dep b<=100)(q:Q (.d (.bl (!eqD a b))) M):Okx EX (pNe x y M) Q:=by unfold pNe;rw[h1,h2];simp only;rw[aAJ hd];exact aU q
theorem aQn{i j:Int}(q:Q (.d (.bl (decide (i=j)))) M):Okx EX (pEq (.d (.int i)) (.d (.int j)) M) Q:=aLz rfl rfl (by simp[dep]) (by simp only[eqD];exact q)
theorem aSc{i j:Int}(q:Q (.d (.bl (!decide (i=j)))) M):Okx EX (pNe (.d (.int i)) (.d (.int j)) M) Q:=aFh rfl rfl (by simp[dep]) (by simp only[eqD];exact q)
theorem aTi(q:Q (.d (.bl (a==b))) M):Okx EX (pEq (.d (.str a)) (.d (.str b)) M) Q:=aLz rfl rfl (by simp[dep]) (by simpa only[eqD]using q)
theorem aTl(q:Q (.d (.bl (!(a==b)))) M):Okx EX (pNe (.d (.str a)) (.d (.str b)) M) Q:=aFh rfl rfl (by simp[dep]) (by simpa only[eqD]using q)
theorem aUn(q:Q (.d (.bl (isN x))) M):Okx EX (pIs x (.d .non) M) Q:=aU q
theorem aMf(q:Q (.d (.bl (!isN x))) M):Okx EX (pIsNot x (.d .non) M) Q:=aU q
theorem aPn{neg:Bool}{d:D}{xs:List D}(h:sv M y=some xs)(hf:flatD d=true)(hx:xs.all flatD=true)(q:Q (.d (.bl (if neg then !(xs.any λy=>eqD y d)else xs.any λy=>eqD y d))) M):Okx EX (pInG neg (.d d) y M) Q:=by
 unfold pInG;rw[h];simp only;rw[aAJ ⟨hf,hx⟩];exact aU q
variable{k:Int}
theorem kL{xs:List D}{d:D}(h:atI xs k=some d)(q:Q (.d d) M):Okx EX (pIx (.d (.tup xs)) (.d (.int k)) M) Q:=by unfold pIx;simp only[sv,h];exact aU q
theorem aJy{xs:List D}{d:D}(hs:∀z,x≠.d (.str z))(h1:sv M x=some xs)(h:atI xs k=some d)(q:Q (.d d) M):Okx EX (pIx x (.d (.int k)) M) Q:=by
 have:pIx x (.d (.int k)) M=.ok (.d d) M:=by
  cases x with
  |ref i=>simp only[pIx,h1,h]
  |ob _ i=>simp only[pIx,h1,h]
  |nest i=>simp only[pIx,h1,h]
  |d a=>cases a <;> first|(exact(hs _ rfl).elim)|(simp only[pIx,h1,h])
 rw[this];exact aU q
theorem dX{xs:List D}{d:D}(h:atI xs k=some d)(q:Q (.d d) M):Okx EX (pIx (.d (.lst xs)) (.d (.int k)) M) Q:=aJy (by simp) rfl h q
theorem aEv{xs:List D}{d:D}(h:atI xs k=some d)(q:Q (.d d) M):Okx EX (pIx (.d (.fz xs)) (.d (.int k)) M) Q:=aJy (by simp) rfl h q
variable{b:Nat}
theorem aKn{xs:List D}{d:D}(h1:M[b]?=some xs)(h:atI xs k=some d)(q:Q (.d d) M):Okx EX (pIx (.ref b) (.d (.int k)) M) Q:=aJy (by simp) h1 h q
theorem aQm{ws:List W}{ds:List D}(h:allD ws=some ds)(hz:ds.length<=16777216)(q:Q (.d (.tup ds)) M):Okx EX (mkT ws M) Q:=by unfold mkT;rw[h];simp only;rw[aAJ hz];exact aU q
theorem aSb{ws:List W}{ds:List D}(h:allD ws=some ds)(hz:ds.length<=16777216)(q:Q (.d (.lst ds)) M):Okx EX (mkL ws M) Q:=by unfold mkL;rw[h];simp only;rw[aAJ hz];exact aU q
theorem aTf{ws:List W}{ds:List D}(h:allD ws=some ds)(hz:ds.length<=16777216)(q:Q (.ref M.length) (M++[ds])):Okx EX (mkR ws M) Q:=by unfold mkR;rw[h];simp only;rw[aAJ hz];exact aU q
theorem aQc{xs:List D}(hs:∀z,x≠.d (.str z))(h:sv M x=some xs)(q:Q (.d (.int xs.length)) M):Okx EX (cLen [x] M) Q:=by
 have:cLen [x] M=.ok (.d (.int xs.length)) M:=by
  cases x with
  |ref i=>simp only[cLen,h]
  |ob _ i=>simp only[cLen,h]
  |nest i=>simp only[cLen,h]
  |d a=>cases a <;> first|(exact(hs _ rfl).elim)|(simp only[cLen,h])
 rw[this];exact aU q
theorem aMx{xs:List D}(q:Q (.d (.int xs.length)) M):Okx EX (cLen [.d (.tup xs)] M) Q:=aU q
theorem aNp{xs:List D}(q:Q (.d (.int xs.length)) M):Okx EX (cLen [.d (.lst xs)] M) Q:=aU q
theorem aOt{xs:List D}(q:Q (.d (.int xs.length)) M):Okx EX (cLen [.d (.fz xs)] M) Q:=aU q
theorem yW{xs:List D}(h:M[b]?=some xs)(q:Q (.d (.int xs.length)) M):Okx EX (cLen [.ref b] M) Q:=aQc (by simp) h q
theorem aQd{l:Int}(q:Q (.d (.int (if l > k then l else k))) M):Okx EX (cMax2 [.d (.int k),.d (.int l)] M) Q:=aU q
theorem aSx{l:Int}(q:Q (.d (.int (if l < k then l else k))) M):Okx EX (cMin2 [.d (.int k),.d (.int l)] M) Q:=aU q
theorem kY{xs:List D}(h:sv M x=some xs)(q:Q (.d (.tup xs)) M):Okx EX (cTup [x] M) Q:=by unfold cTup;simp only[h];exact aU q
theorem aUu{p:W->W->Mm->Oc W}(h:Okx EX (f L M) λx M1=>∃k,x=.ref k/\Okx EX (g L M1) λy M2=>Okx EX (p (.ref k) y M2) Q):Okx EX (eM1 p f g L M) Q:=aQ (h.mono λx M1 ⟨k,e,z⟩=>by subst e;exact aQ z)
theorem xF{k:Nat}{d:D}{xs:List D}(h:M[k]?=some xs)(hz:xs.length < 16777216)(q:Q (.d .non) (M.set k (xs++[d]))):Okx EX (pAppend (.ref k) (.d d) M) Q:=by unfold pAppend;simp only[h];rw[aAJ hz];exact aU q
theorem aQi(q:QO none M):Okx EX (oNo L M) QO:=aU q
theorem aSo(h:Okx EX (f L M) λw M1=>∃k,w=.d (.int k)/\QO (some k) M1):Okx EX (oAt f L M) QO:=aQ (h.mono λw M1 ⟨k,e,q⟩=>by subst e;exact aU q)
theorem aJs{xs:List D}(q:Q (.d (.tup (cut xs lo hi))) M):Okx EX (pSl (.d (.tup xs)) lo hi M) Q:=aU q
theorem aEu{xs:List D}(hs:∀z,x≠.d (.tup z))(h:lr M x=some xs)(q:Q (.d (.lst (cut xs lo hi))) M):Okx EX (pSl x lo hi M) Q:=by
 have:pSl x lo hi M=okD (.lst (cut xs lo hi)) M:=by
  cases x with
  |ref i=>simp only[pSl,h]
  |ob _ i=>simp only[pSl,h]
  |nest i=>simp only[pSl,h]
  |d a=>cases a <;> first|(exact(hs _ rfl).elim)|(simp only[pSl,h])
 rw[this];exact aU q
variable{fi:FI}{B:FS}
theorem aRp(h:Okx EX (fi L M) λs M1=>Okx EX (forD s gg B s.ds L M1) QS):Okx EX (sFor fi gg B L M) QS:=aQ h
theorem aUi{s:Src}(h:Okx EX (f L M) λw M1=>∃s,srcOf M1 w=some s/\QI s M1):Okx EX (iE f L M) QI:=aQ (h.mono λw M1 ⟨s,e,q⟩=>by rw[e];exact aU q)
theorem aRd(h:Okx EX (f L M) λw M1=>∃j,w=.d (.int j)/\in62 j=true/\QI ⟨rngD 0 j.toNat,none⟩ M1):Okx EX (iR1 f L M) QI:=aQ (h.mono λw M1 ⟨j,e,hz,q⟩=>by subst e;simp only;rw[aAJ hz];exact aU q)
theorem aQq(h:Okx EX (f L M) λw M1=>Okx EX (g L M1) λu M2=>∃i j,w=.d (.int i)/\u=.d (.int j)/\(in62 i=true/\in62 j=true)/\QI ⟨rngD i (j - i).toNat,none⟩ M2):Okx EX (iR2 f g L M) QI :=
 aQ (h.mono λw M1 z=>aQ (z.mono λu M2 ⟨i,j,e1,e2,hz,q⟩=>by subst e1 e2;simp only;rw[aAJ hz];exact aU q))
theorem fZ{s:Src}(I:Nat->Lc->Mm->Prop)(h0:I 0 L M)(hc:∀i L M,i<=s.ds.length->I i L M->Chk s M)
  (hs:∀i d L M,s.ds[i]?=some d->I i L M->Okx EX (gg (.d d) L M) λL1 M1=>Okx EX (B L1 M1) λo M2=>match o with
   |.nx L2=>I (i+1) L2 M2
   |.ct L2=>I (i+1) L2 M2
   |.bk L2=>QS (.nx L2) M2
   |.rt w=>QS (.rt w) M2)(hd:∀L M,I s.ds.length L M->QS (.nx L) M):Okx EX (forD s gg B s.ds L M) QS:=by
 have key:∀k i L M,s.ds.length - i=k->i<=s.ds.length->I i L M->Okx EX (forD s gg B (s.ds.drop i) L M) QS:=by
  intro k
  induction k with
  |zero =>
   intro i L M e hi hI
   have:i=s.ds.length:=by lia
   subst this
   rw[aCI (aAH _)]
   unfold forD
   rw[aAJ (hc _ L M (aAH _) hI)]
   exact aU (hd L M hI)
  |succ k ih =>
   intro i L M e hi hI
   have hlt:i < s.ds.length:=by lia
   rw[aCJ hlt]
   unfold forD
   rw[aAJ (hc _ L M hi hI)]
   refine aQ ((hs i s.ds[i] L M (by simp[hlt]) hI).mono λL1 M1 z=>aQ (z.mono λo M2 z=>?_))
   cases o with
   |nx L2=>exact ih (i+1) L2 M2 (by lia) (by lia) z
   |ct L2=>exact ih (i+1) L2 M2 (by lia) (by lia) z
   |bk L2=>exact aU z
   |rt w=>exact aU z
 simpa using key s.ds.length 0 L M (by lia) (by lia) h0
theorem rJ(I:Nat->Lc->Mm->Prop)(hs:∀m L M,I m L M->Okx EX (t L M) λb M1=>(b=true->Okx EX (B L M1) λo M2=>match o with
   |.nx L2=>∃m',m' < m/\I m' L2 M2
   |.ct L2=>∃m',m' < m/\I m' L2 M2
   |.bk L2=>QS (.nx L2) M2
   |.rt w=>QS (.rt w) M2)/\(b=false->QS (.nx L) M1)):∀(n m:Nat) (L:Lc) (M:Mm),I m L M->m < n->Okx EX (whileD t B n L M) QS:=by
 intro n
 induction n with
 |zero=>intro m L M _ h;lia
 |succ n ih =>
  intro m L M hI hm
  unfold whileD
  refine aQ ((hs m L M hI).mono λb M1 ⟨h1,h2⟩=>?_)
  cases b with
  |false=>exact aU (h2 rfl)
  |true =>
   refine aQ ((h1 rfl).mono λo M2 z=>?_)
   cases o with
   |nx L2=>obtain⟨m',l,z⟩:=z;exact ih m' L2 M2 z (by lia)
   |ct L2=>obtain⟨m',l,z⟩:=z;exact ih m' L2 M2 z (by lia)
   |bk L2=>exact aU z
   |rt w=>exact aU z
theorem fC{c:FT}(I:Nat->List D->Lc->Mm->Prop)
  (h:Okx EX (fi L M) λs M1=>(I 0 [] (outL js L) M1/\(∀i acc L M,i<=s.ds.length->I i acc L M->M.length=M1.length/\Chk s (M++[acc])/\acc.length<=i)/\s.ds.length<=16777216 /\
   (∀i d acc L M,s.ds[i]?=some d->I i acc L M->Ok (gg (.d d) L (M++[acc])) λL1 M2=>Ok (c L1 M2) λb M3=>(b=true->Ok (f L1 M3) λw M4=>∃x M5,w=.d x/\M4=M5++[acc]/\I (i+1) (acc++[x]) L1 M5)/\(b=false->∃M5,M3=M5++[acc]/\I (i+1) acc L1 M5)) /\
   (∀acc L M,I s.ds.length acc L M->Q (.d (.lst acc)) M))):Okx EX (eComp js fi gg c f L M) Q:=by
 unfold eComp compT
 refine aQ (aQ (h.mono λs M1 ⟨h0,hc,hz,hs,hd⟩=>?_))
 have key:∀k i acc L M,s.ds.length - i=k->i<=s.ds.length->I i acc L M->∃acc' L' M',compD M1.length s gg c f (s.ds.drop i) L (M++[acc])=.ok () (M'++[acc'])/\I s.ds.length acc' L' M':=by
  intro k
  induction k with
  |zero =>
   intro i acc L M e hi hI
   have:i=s.ds.length:=by lia
   subst this
   rw[aCI (aAH _)]
   unfold compD
   rw[aAJ (hc _ acc L M (aAH _) hI).2.1]
   exact⟨acc,L,M,rfl,hI⟩
  |succ k ih =>
   intro i acc L M e hi hI
   have hlt:i < s.ds.length:=by lia
   rw[aCJ hlt]
   unfold compD
   obtain⟨hl,hch,hal⟩:=hc _ acc L M hi hI
   rw[aAJ hch]
   obtain⟨L1,M2,e1,hh⟩:=zK.mp (hs i s.ds[i] acc L M (by simp[hlt]) hI)
   obtain⟨L1',M3,e2,h1,h2⟩:=zK.mp hh
   rw[e1]
   simp only[jK]
   rw[e2]
   simp only[jK]
   cases L1' with
   |false =>
    obtain⟨M5,e3,hI'⟩:=h2 rfl
    subst e3
    simp only[aBD,aDC]
    exact ih (i+1) acc L1 M5 (by lia) (by lia) hI'
   |true =>
    obtain⟨w,M4,e3,x,M5,rfl,rfl,hI'⟩:=zK.mp (h1 rfl)
    simp only[aCQ]
    rw[e3]
    simp only[jK]
    have hl5:=(hc _ _ _ _ (by lia) hI').1
    have g1:(M5++[acc])[M1.length]?=some acc:=by rw[<- hl5];simp
    rw[g1]
    simp only
    rw[aAJ (by lia)]
    have g2:(M5++[acc]).set M1.length (acc++[x])=M5++[acc++[x]]:=by rw[<- hl5];simp
    rw[g2]
    exact ih (i+1) (acc++[x]) L1 M5 (by lia) (by lia) hI'
 obtain⟨acc,L',M',e,hI⟩:=key s.ds.length 0 [] (outL js L) M1 (by lia) (by lia) h0
 rw[aDJ]at e
 rw[e]
 have hl:=(hc _ _ _ _ (aAH _) hI).1
 have g1:(M'++[acc])[M1.length]?=some acc:=by rw[<- hl];simp
 have g2:(M'++[acc]).take M1.length=M':=by rw[<- hl];simp
 simp only[g1,g2]
 exact aU (aU (hd acc L' M' hI))
theorem aX{ws:List W}(hm:ws.length=m)(h:Okx EX (F (ws.map some++List.replicate (n - ws.length) none) M) λo M'=>match o with
  |.rt w=>Okx EX (retc M.length w M') Q
  |.nx _=>Q (.d .non) (M'.take M.length)
  |_=>False):Okx EX (fnD m n F ws M) Q:=by
 unfold fnD
 rw[aAJ hm]
 refine aQ (h.mono λo M' z=>?_)
 cases o with
 |rt w=>exact z
 |nx L=>exact aU z
 |bk L=>exact z.elim
 |ct L=>exact z.elim
theorem aNc{d:D}(q:Q (.d d) (M.take n)):Okx EX (retc n (.d d) M) Q:=aU q
theorem aRy{ws:List W}(hm:ws.length=m)(h:Okx EX (F (ws.map some++List.replicate (n - ws.length) none) M) λo M'=>∃i ds,o=.rt (.ref i)/\M.length<=i/\M'[i]?=some ds/\Q (.ref M.length) (M'.take M.length++[ds])):Okx EX (fnR m n F ws M) Q:=by
 unfold fnR
 rw[aAJ hm]
 refine aQ (h.mono λo M' ⟨i,ds,e,hi,e2,q⟩=>?_)
 subst e
 simp only[e2]
 rw[aAJ hi]
 exact aU q
end
def Bx(M:Mm)(b:Nat):Prop:=∃x y z,M[b]?=some [.int x,.int y,.int z]
def Nx(b:Nat)(M M':Mm):Prop:=∃x y z,M'=M.set b [.int x,.int y,.int z]
variable{b:Nat}
theorem Bx.lt(h:Bx M b):b < M.length:=by obtain⟨x,y,z,e⟩:=h;exact(aAC.mp e).1
variable{M':Mm}
theorem Nx.len(h:Nx b M M'):M'.length=M.length:=by obtain⟨x,y,z,rfl⟩:=h;simp
theorem Nx.bx(h:Nx b M M')(l:Bx M b):Bx M' b:=by
 obtain⟨x,y,z,rfl⟩:=h
 exact⟨x,y,z,aBV l.lt⟩
theorem Nx.trans{M1 M2:Mm}(h:Nx b M M1)(h':Nx b M1 M2):Nx b M M2:=by
 obtain⟨x,y,z,rfl⟩:=h
 obtain⟨x',y',z',rfl⟩:=h'
 exact⟨x',y',z',by rw[aCM]⟩
theorem Nx.refl(h:Bx M b):Nx b M M:=by
 obtain⟨x,y,z,e⟩:=h
 refine⟨x,y,z,?_⟩
 apply aHD
 intro i
 by_cases hi:b=i
 ·subst hi;rw[aBV (aAC.mp e).1,e]
 ·rw[aCF hi]
theorem Nx.unapp{J:Mm}(h:Nx b (M++J) M')(l:b < M.length):∃M1,M'=M1++J/\Nx b M M1:=by
 obtain⟨x,y,z,rfl⟩:=h
 exact⟨_,List.set_append_left _ _ l,x,y,z,rfl⟩
theorem Bx.app{J:Mm}(h:Bx M b):Bx (M++J) b:=by
 obtain⟨x,y,z,e⟩:=h
 exact⟨x,y,z,by rw[aBE (aAC.mp e).1];exact e⟩
theorem Nx.take{M M':Mm}{b:Nat}(h:Nx b M M'):M'.take M.length=M':=by rw[<- h.len,aAD]
mutual
def sz:D->Nat
 |.tup xs=>szs xs+1
 |.lst xs=>szs xs+1
 |.fz xs=>szs xs+1
 |.exn _ _ xs=>szs xs+1
 |_=>1
def szs:List D->Nat
 |[]=>0
 |x::xs=>sz x+szs xs
end
mutual
def noL:D->Bool
 |.tup xs=>noLs xs
 |.lst _=>false
 |.fz _=>false
 |.exn _ _ _=>false
 |_=>true
def noLs:List D->Bool
 |[]=>true
 |x::xs=>noL x&&noLs xs
end
theorem atBox(c:Int):atI [D.int 0,D.int c] (if decide ((10:Int) ^ (Int.toNat 18)<=c)=true then 1 else 0)=some (.int (if(1000000000000000000:Int)<=c then c else 0)):=by
 by_cases hc:(1000000000000000000:Int)<=c <;> simp[hc,atI,ixN]
end EV
section
open PySem PySem.Spec PyProof.Rows
namespace EV
open L2
variable{EX:D->Mm->Prop}{K:Frag}{pos:Pos}{Q:W->Mm->Prop}
theorem aSs(h:Okx EX (f L M) λw M1=>∃xs,(w=.d (.tup xs)\/w=.d (.lst xs)\/w=.d (.fz xs))/\QI ⟨xs.reverse,none⟩ M1):Okx EX (iRv f L M) QI:=by
 refine aQ (h.mono ?_)
 rintro w M1 ⟨xs,rfl|rfl|rfl,q⟩ <;> exact aU q
theorem aQw{j:Int}(h0:0<=j)(h1:j<=16777216)(q:Q (.ref M.length) (M++[rngD 0 j.toNat])):Okx EX (cLRR (.d (.int j)) M) Q:=by unfold cLRR;simp only;rw[aAJ ⟨h0,h1⟩];exact aU q
end EV
namespace EV
open L2
variable{EX:D->Mm->Prop}{K:Frag}{a b c:Expr}{pos:Pos}{fs:FA}
def sPar3(i j k:Nat)(fs:FA):FS:=λL M=>(fs L M).bind λws M1=>match ws with
 |[u,v,w]=>.ok (.nx (((L.set i (some u)).set j (some v)).set k (some w))) M1
 |_=>.bad
noncomputable def sBad:FS:=λ_ _=>.bad
theorem gJ(hk:X.K=K:=by rfl):Es X K Z st sBad:=⟨hk,cqS aMc λ_ _ _ ⟨_,_,_,_,_,p⟩=>p⟩
noncomputable def srt(ns:List Int):List Int:=ns.mergeSort λa b=>decide (a<=b)
theorem pP(ns:List Int):(srt ns).Perm ns:=List.mergeSort_perm _ _
theorem vG(ns:List Int):(srt ns).Pairwise (·<=·):=by
 have:=List.pairwise_mergeSort (le:=λa b:Int=>decide (a<=b)) (λa b c h1 h2=>by simp at *;lia) (λa b=>by simp;lia) ns
 exact this.imp λh=>by simpa using h
theorem aLj{ns':List Int}(p:ns'.Perm ns)(o:ns'.Pairwise (·<=·)):ns'=srt ns :=
 List.Perm.eq_of_pairwise (le:=(·<=·)) (λa b _ _ h1 h2=>Int.le_antisymm h1 h2) o (vG ns) (p.trans (pP ns).symm)
theorem aEb(ns:List Int):(srt ns).length=ns.length:=(pP ns).length_eq
theorem aNo{x:Int}:x∈srt ns ↔ x∈ns:=(pP ns).mem_iff
theorem uJ:∀{ns:List Int},Vals (ns.map V.int) us->IntsAre us ns:=by
 induction us with
 |nil=>intro ns h;cases ns with
  |nil=>exact .nil
  |cons n r=>cases h
 |cons u us ih=>intro ns h;cases ns with
  |nil=>cases h
  |cons n r =>
   cases h with
   |cons p q =>
    obtain⟨t,rfl⟩:=p
    exact .cons n t (ih q)
theorem aAz(h:IntsAre us ns):Vals (ns.map V.int) us:=by
 induction h with
 |nil=>exact .nil
 |cons n t _ ih=>exact .cons ⟨t,rfl⟩ ih
theorem aAr:CallR X (.builtin "sorted") (λxs H Q=>∃p ns,xs=[.ref p]/\SqL X.K H p (ns.map V.int)/\ns.length < 64/\∀l,H l=none->Q (.ref l) (upd H l (.lst ((srt ns).map V.int)))):=by
 intro pins s σ H xs us Q I r h
 obtain⟨p,ns,rfl,hq,h64,q⟩:=h
 obtain⟨u,rfl,rx⟩:=vals1 r
 cases rx
 obtain⟨its,r',pl,hz⟩:=I.list hq
 have hI:=uJ r'
 have hlen:its.length=ns.length:=by have:=r'.length;simpa using this.symm
 refine sorted_ints pl.isList hI (by lia) λout ns' a1 a2 a3=>?_
 have e:=aLj a2 a3
 subst e
 obtain⟨c,hc⟩:=sortedAll_at s.heap its out
 refine⟨.ref (s.heap.objs.size+1),_,I.laid (t':=s.toks) (λb o e=>sortedAll_old e) (aGQ _) (show ObjOk X.prog X.w _ _ _ (.lst ((srt ns).map V.int))from⟨by rw[aBF];simp[aEb];lia,out.toList,c,aAz a1,by simpa using hc⟩),rfl,q _ (I.hok.fresh (aGQ _))⟩
noncomputable def intsOf:List D->Option (List Int)
 |[]=>some []
 |.int i::r=>(intsOf r).map (i::·)
 |_::_=>none
theorem uV(ns:List Int):intsOf (ns.map D.int)=some ns:=by
 induction ns with
 |nil=>rfl
 |cons n r ih=>simp only[aBC,intsOf,ih,aEZ]
theorem oC:∀{ds:List D} {ns:List Int},intsOf ds=some ns->ds=ns.map D.int
 |[],ns,h=>by cases h;rfl
 |.int i::r,ns,h=>by
  simp only[intsOf,aAN]at h
  obtain⟨ms,h1,rfl⟩:=h
  rw[oC h1];rfl
 |.non::_,_,h=>by cases h
 |.bl _::_,_,h=>by cases h
 |.str _::_,_,h=>by cases h
 |.tup _::_,_,h=>by cases h
 |.lst _::_,_,h=>by cases h
 |.fz _::_,_,h=>by cases h
 |.exn _ _ _::_,_,h=>by cases h
theorem qH:∀{ns:List Int} {vs:List V},Rps K μ H (ns.map D.int) vs->vs=ns.map V.int
 |[],vs,h=>by simpa[Rps]using h
 |n::r,vs,h=>by
  simp only[aBC,Rps,Rp]at h
  obtain⟨v,t,rfl,rfl,h3⟩:=h
  rw[qH h3];rfl
def cSorted(ws:List W)(M:Mm):Oc W:=match ws with
 |[w]=>match lr M w with
  |some xs=>match intsOf xs with
   |some ns=>if ns.length < 64 then okD (.lst ((srt ns).map .int)) M else .bad
   |none=>.bad
  |none=>.bad
 |_=>.bad
theorem callSorted(hc:X.calm=true):ClG X K Z (.builtin "sorted") cSorted:=λhk=>by
 refine⟨_,hk▸aAr,?_⟩
 intro μ H M ws vs Q hr rx p
 match ws,rx,p with
 |[],_,p=>exact p.elim
 |[w],⟨v,r,e1,e2,e3⟩,p =>
  cases e3;subst e1
  simp only[cSorted]at p
  cases q:lr M w with
  |none=>rw[q]at p;exact p.elim
  |some xs =>
   rw[q]at p
   simp only at p
   cases q2:intsOf xs with
   |none=>rw[q2]at p;exact p.elim
   |some ns =>
    rw[q2]at p
    simp only at p
    split at p
    ·rename_i hz
     obtain⟨a,us,rfl,h1,r1⟩:=uH hr e2 q
     have e:=oC q2
     subst e
     have e:=qH r1
     subst e
     exact⟨a,ns,rfl,h1,hz,kR hr Rps.ints p⟩
    ·exact p.elim
 |_::_::_,_,p=>exact p.elim
theorem aMp{σ:St}{p:Addr}{ys:List V}(hc:X.calm=true)(I:Inv X pins σ H s)(hq:SqL X.K H p ys\/SqT X.K H p ys)
  (h:∀(s2:Shared) (J:Addr) (fp:List Addr) (its:Array Value) (St:Nat->Heap->Prop),Vals ys its.toList->Walks X.prog X.w X.A.in1 J fp [J] its.size (λi v=>its[i]?=some v) St->St 0 s2.heap->(∀b∈fp,b < s2.heap.objs.size) ->
   (∀h' tk,(∀b o,b∉[J]->s2.heap.get? b=some o->h'.get? b=some o)->Inv X pins σ H {s2 with heap:=h',toks:=tk})->Q (.ref J) s2):wpAny (model X.prog X.w) X.A.in1 (pyIter (.ref p)) Q X.xe s:=by
 rcases hq with hq|hq
 ·obtain⟨its,rv,pl,hz⟩:=I.list hq
  have hp:p < s.heap.objs.size:=by
   obtain⟨o,e,_⟩:=pl.isList
   exact aAM e
  have I1:Inv X pins σ H {s with heap:=s.heap.push {cls:=.type "list_iterator",data:=.fields #[.ref p,rawInt 0]}}:=I.kept (t':=s.toks) λb o e=>aAA _ e
  refine aCR pl.isList (h _ s.heap.objs.size [s.heap.objs.size,p] its.toArray _ (by simpa using rv) (Walks.list (by show X.A.in1.handled=none;exact I.ok.hd hc) s.heap.objs.size p (aBJ hp) its.toArray) ⟨⟨_,aAE _ rfl,rfl,rfl⟩,pl.isList.at λo e=>aAA _ e⟩ (λb hb=>?_) λh' tk hk=>?_)
  ·show b < (s.heap.push _).objs.size
   rw[aAX]
   simp only[aAO,aBL,aDB]at hb
   rcases hb with rfl|rfl
   ·exact aES _
   ·exact aFM hp
  ·obtain⟨f0,f1,f2,f3,f4,f5⟩:=I.fpOk (H':=H) (aAH _) (I.hok.fresh (aAH _))
   exact I1.turned (t':=tk) (it:=s.heap.objs.size) (λb o hb e=>hk b o (by simpa using hb) e) f0 f1 f3 f4 f5
 ·obtain⟨its,rv,pl,hz⟩:=I.tuple hq
  have pl:s.heap.IsTuple p its.toArray:=pl
  have hp:p < s.heap.objs.size:=by
   obtain⟨o,e,_⟩:=pl
   exact aAM e
  have I1:Inv X pins σ H {s with heap:=s.heap.push {cls:=.type "tuple_iterator",data:=.fields #[.ref p,rawInt 0]}}:=I.kept (t':=s.toks) λb o e=>aAA _ e
  refine aDK pl (h _ s.heap.objs.size [s.heap.objs.size,p] its.toArray _ (by simpa using rv) (Walks.tuple (by show X.A.in1.handled=none;exact I.ok.hd hc) s.heap.objs.size p (aBJ hp) its.toArray) ⟨⟨_,aAE _ rfl,rfl,rfl⟩,pl.at λo e=>aAA _ e⟩ (λb hb=>?_) λh' tk hk=>?_)
  ·show b < (s.heap.push _).objs.size
   rw[aAX]
   simp only[aAO,aBL,aDB]at hb
   rcases hb with rfl|rfl
   ·exact aES _
   ·exact aFM hp
  ·obtain⟨f0,f1,f2,f3,f4,f5⟩:=I.fpOk (H':=H) (aAH _) (I.hok.fresh (aAH _))
   exact I1.turned (t':=tk) (it:=s.heap.objs.size) (λb o hb e=>hk b o (by simpa using hb) e) f0 f1 f3 f4 f5
noncomputable def mxL:List Int->Int
 |[]=>0
 |x::r=>r.foldl max x
theorem jL:∀(r:List Int) (x:Int),x<=r.foldl max x/\(∀a∈r,a<=r.foldl max x)/\(r.foldl max x=x\/r.foldl max x∈r)
 |[],x=>⟨Int.le_refl _,by simp,.inl rfl⟩
 |y::r,x=>by
  obtain⟨h1,h2,h3⟩:=jL r (max x y)
  refine⟨?_,?_,?_⟩
  ·exact Int.le_trans (Int.le_max_left x y) h1
  ·intro a ha
   rcases aAO.mp ha with rfl|ha
   ·exact Int.le_trans (Int.le_max_right x _) h1
   ·exact h2 a ha
  ·simp only[aGG]
   rcases h3 with h3|h3
   ·rw[h3]
    by_cases h:x<=y
    ·rw[Int.max_eq_right h];exact .inr (by simp)
    ·rw[Int.max_eq_left (by lia)];exact .inl rfl
   ·exact .inr (by simp[h3])
theorem xX(h:ns≠[]):mxL ns∈ns:=by
 cases ns with
 |nil=>exact(h rfl).elim
 |cons x r=>rcases(jL r x).2.2 with e|e
            ·simp only[mxL];rw[e];simp
            ·simp only[mxL];exact aCH _ e
theorem aJo{a:Int}(h:a∈ns):a<=mxL ns:=by
 cases ns with
 |nil=>cases h
 |cons x r=>rcases aAO.mp h with rfl|h
            ·exact(jL r _).1
            ·exact(jL r x).2.1 a h
theorem aLr{ns:List Int}{m:Int}(h:m∈ns)(g:∀a∈ns,a<=m):m=mxL ns:=Int.le_antisymm (aJo h) (g _ (xX (by rintro rfl;cases h)))
theorem aHm(hc:X.calm=true):CallR X (.builtin "max") (λxs H Q=>∃(p:Addr) (ns:List Int),xs=[.ref p]/\(SqL X.K H p (ns.map V.int)\/SqT X.K H p (ns.map V.int))/\ns≠[]/\Q (.int (mxL ns)) H):=by
 intro pins s σ H xs us Q I r h
 obtain⟨p,ns,rfl,hq,hne,q⟩:=h
 obtain⟨u,rfl,rx⟩:=vals1 r
 cases rx
 refine call_max_walk (aMp hc I hq λs2 J fp its St rv W st0 hfp hI=>?_)
 have hi:=uJ rv
 obtain⟨xs,e⟩:=(hi.allInts).items
 have e':its=intItems xs:=by simpa using e
 subst e'
 have hns:ns=xs.toList.map (·.1):=by rw[<- hi.numsOf,<- nums_intItems]
 have hsz:0 < xs.size:=by
  have:0 < ns.length:=List.length_pos_iff.mpr hne
  rw[hns,aAL,aDG]at this;exact this
 refine⟨J,fp,[J],_,_,St,_,rfl,W,st0,hfp,by simpa[intItems]using hsz,CmpOf.ints_gt (numAt xs) (λ_ _=>intItems_at),λv h' tk hP hk=>?_⟩
 obtain⟨t,rfl⟩:=intItems_at (by simpa[intItems]using hP)
 obtain⟨h1,h2⟩:=argBest_gt (numAt xs) (xs.size - 1)
 have hm:numAt xs (argBest (λi j=>decide (numAt xs i > numAt xs j)) (xs.size - 1))=mxL ns:=by
  refine aLr ?_ λa ha=>?_
  ·rw[hns,numAt_eq];exact getD_mem (by rw[aAL,aDG];lia)
  ·rw[hns]at ha
   obtain⟨j,hj,rfl⟩:=mem_getD ha
   rw[aAL,aDG]at hj
   rw[<- numAt_eq];exact h2 j (by lia)
 refine⟨.int (mxL ns),H,hI h' tk hk,⟨t,?_⟩,q⟩
 rw[<- hm]
def cMaxL(ws:List W)(M:Mm):Oc W:=match ws with
 |[w]=>match sv M w with
  |some xs=>match intsOf xs with
   |some ns=>if ns.length≠0 then okD (.int (mxL ns)) M else .bad
   |none=>.bad
  |none=>.bad
 |_=>.bad
theorem callMaxL(hc:X.calm=true):ClG X K Z (.builtin "max") cMaxL:=λhk=>by
 refine⟨_,hk▸aHm hc,?_⟩
 intro μ H M ws vs Q hr rx p
 match ws,rx,p with
 |[],_,p=>exact p.elim
 |[w],⟨v,r,e1,e2,e3⟩,p =>
  cases e3;subst e1
  simp only[cMaxL]at p
  cases q:sv M w with
  |none=>rw[q]at p;exact p.elim
  |some xs =>
   rw[q]at p
   simp only at p
   cases q2:intsOf xs with
   |none=>rw[q2]at p;exact p.elim
   |some ns =>
    rw[q2]at p
    simp only at p
    split at p
    ·rename_i hz
     obtain⟨a,us,rfl,h1,r1⟩:=tW hr e2 q
     have e:=oC q2
     subst e
     have e:=qH r1
     subst e
     exact⟨a,ns,rfl,h1,λz=>hz (by rw[z];rfl),p μ H .refl hr _ (by simp[Rw,Rp])⟩
    ·exact p.elim
 |_::_::_,_,p=>exact p.elim
variable{w x:W}{Q:W->Mm->Prop}
theorem aPf{k:Nat}(h:Okx EX (fs L M) λws M1=>∃u v w,ws=[u,v,w]/\QS (.nx (((L.set i (some u)).set j (some v)).set k (some w))) M1):Okx EX (sPar3 i j k fs L M) QS:=aQ (h.mono λws M1 ⟨u,v,w,e,q⟩=>by subst e;exact aU q)
theorem aGj{ds:List D}(h:lr M x=some ds)(e:ds=ns.map D.int)(hz:ns.length < 64)(q:Q (.d (.lst ((srt ns).map D.int))) M):Okx EX (cSorted [x] M) Q:=by
 subst e
 unfold cSorted;simp only[h,uV];rw[aAJ hz];exact aU q
theorem aFu{ds:List D}(h:sv M x=some ds)(e:ds=ns.map D.int)(hz:ns≠[])(q:Q (.d (.int (mxL ns))) M):Okx EX (cMaxL [x] M) Q:=by
 subst e
 unfold cMaxL;simp only[h,uV];rw[aAJ (λz=>hz (List.length_eq_zero_iff.mp z))];exact aU q
end EV
namespace EV
open L2
variable{EX:D->Mm->Prop}{K:Frag}{a b c o i e:Expr}{pos:Pos}{fs:FA}{fe:FE}
end EV
namespace L2
variable{σ:St}
theorem Inv.turnLay{T:Addr}{o:HO}(I:Inv X pins σ H s)(hf:∀b∈fp,FpOk X pins H b)(k:∀b u,b∉fp->s.heap.get? b=some u->h'.get? b=some u)(hT:s.heap.objs.size<=T)(new:ObjOk X.prog X.w (upd H T o) h' T o) :
  Inv X pins σ (upd H T o) {s with heap:=h',toks:=t'}:=by
 have hn:H T=none:=I.hok.fresh hT
 have nfp:∀b u,H b=some u->b∉fp:=λb u e z=>by rw[(hf b z).1]at e;cases e
 have lt:∀b u,s.heap.get? b=some u->b≠T:=λb u e z=>by subst z;exact absurd (aAM e) (Nat.not_lt.mpr hT)
 have neT:∀b u,H b=some u->b≠T:=λb u e z=>by rw[z,hn]at e;cases e
 refine I.step (g':=s.gens) (d':=s.drawn) (ch:=fp) (λb hb=>?_) (λb u _ _ hc e _=>k b u hc e) (λb u _ _ hc e _=>⟨u.slots,k b u hc e⟩) (λb u _ e n=>by rw[bN (lt b u e)];exact n)
  (λb u hc e=>⟨u,k b u hc e⟩) (λb xs e=>by rw[bN (neT b _ e)];exact e) (λb u v e=>by rw[bN (neT b _ e)];exact e) (λb ps e=>⟨#[],by rw[bN (neT b _ e),e];simp⟩) (λm hm=>?_) (λb u e=>?_) I.bare
 ·obtain⟨_,f1,_,f3,f4,f5⟩:=hf b hb
  exact⟨f3,f1,f4,f5⟩
 ·obtain⟨u,es,ep,ho,r⟩:=hm
  exact⟨u,es,ep,k _ u (λz=>(hf _ z).2.1 rfl) ho,r⟩
 ·by_cases hb:b=T
  ·subst hb;rw[cQ]at e;cases e;exact new
  ·rw[bN hb]at e
   refine(I.hok b u e).stay (λc v hc q=>k c v ?_ q) (λc q=>by rw[bN (neT c _ q)];exact q) λc xs q=>by rw[bN (neT c _ q)];exact q
   rcases hc with z|z
   ·rw[z];exact nfp b u e
   ·exact nfp c _ z
theorem Inv.turnedL(I:Inv X pins σ H s)(hf:∀b∈fp,FpOk X pins H b)(k:∀b u,b∉fp->s.heap.get? b=some u->h'.get? b=some u):Inv X pins σ H {s with heap:=h',toks:=t'}:=by
 have nfp:∀b u,H b=some u->b∉fp:=λb u e z=>by rw[(hf b z).1]at e;cases e
 refine I.step (g':=s.gens) (d':=s.drawn) (ch:=fp) (λb hb=>?_) (λb u _ _ hc e _=>k b u hc e) (λb u _ _ hc e _=>⟨u.slots,k b u hc e⟩) (λ_ _ _ _ n=>n)
  (λb u hc e=>⟨u,k b u hc e⟩) (λ_ _ e=>e) (λ_ _ _ e=>e) (λb ps e=>⟨#[],by rw[e];simp⟩) (λm hm=>?_) (λb u e=>?_) I.bare
 ·obtain⟨_,f1,_,f3,f4,f5⟩:=hf b hb
  exact⟨f3,f1,f4,f5⟩
 ·obtain⟨u,es,ep,ho,r⟩:=hm
  exact⟨u,es,ep,k _ u (λz=>(hf _ z).2.1 rfl) ho,r⟩
 ·refine(I.hok b u e).stay (λc v hc q=>k c v ?_ q) (λ_ q=>q) λ_ _ q=>q
  rcases hc with z|z
  ·rw[z];exact nfp b u e
  ·exact nfp c _ z
def SqB(b:Bool)(K:Frag)(H:Hp)(a:Addr)(xs:List V):Prop:=if b=true then SqL K H a xs else SqT K H a xs
def It0(b:Bool)(h:Heap)(it src:Addr)(i:Nat):Prop:=if b=true then h.IsListIter it src i else h.IsTupleIter it src i
def IsB(b:Bool)(h:Heap)(a:Addr)(xs:Array Value):Prop:=if b=true then h.IsList a xs else h.IsTuple a xs
theorem It0.at{b:Bool}{h h':Heap}{it src:Addr}{i:Nat}(x:It0 b h it src i)(k:∀o,h.get? it=some o->h'.get? it=some o):It0 b h' it src i:=by
 cases b
 ·exact Heap.IsTupleIter.at x k
 ·exact Heap.IsListIter.at x k
variable{b:Bool}
theorem It0.obj(x:It0 b h it src i):∃o,h.get? it=some o/\∀v,o.data≠.cell v:=by
 cases b
 ·obtain⟨o,e,c,d⟩:=(show h.IsTupleIter it src i from x)
  exact⟨o,e,λv z=>by rw[d]at z;cases z⟩
 ·obtain⟨o,e,c,d⟩:=(show h.IsListIter it src i from x)
  exact⟨o,e,λv z=>by rw[d]at z;cases z⟩
theorem rL(x:It0 b h it src i)(y:IsB b h src xs):ZP.It1 h it src i xs:=by
 cases b
 ·exact .inr ⟨x,y⟩
 ·exact .inl ⟨x,y⟩
theorem tG(y:IsB b h src ys)(x:ZP.It1 h it src i xs):It0 b h it src i:=by
 cases b
 ·rcases x with⟨_,o,e,c,_⟩|⟨x,_⟩
  ·obtain⟨o',e',c',_⟩:=(show h.IsTuple src ys from y)
   rw[e]at e';cases e';rw[c]at c';simp at c'
  ·exact x
 ·rcases x with⟨x,_⟩|⟨_,o,e,c,_⟩
  ·exact x
  ·obtain⟨o',e',c',_⟩:=(show h.IsList src ys from y)
   rw[e]at e';cases e';rw[c]at c';simp at c'
theorem IsB.at(x:IsB b h a xs)(k:∀o,h.get? a=some o->h'.get? a=some o):IsB b h' a xs:=by
 cases b
 ·obtain⟨o,e,r⟩:=(show h.IsTuple a xs from x);exact⟨o,k o e,r⟩
 ·obtain⟨o,e,r⟩:=(show h.IsList a xs from x);exact⟨o,k o e,r⟩
theorem IsB.lt(x:IsB b h a xs):a < h.objs.size:=by
 cases b
 ·obtain⟨o,e,r⟩:=(show h.IsTuple a xs from x);exact aAM e
 ·obtain⟨o,e,r⟩:=(show h.IsList a xs from x);exact aAM e
theorem SqB.inv{xs:List V}(I:Inv X pins σ H s)(h:SqB b X.K H a xs):∃its:List Value,Vals xs its/\IsB b s.heap a its.toArray/\xs.length<=sizeLine:=by
 cases b
 ·obtain⟨its,r,pl,hz⟩:=I.tuple (show SqT X.K H a xs from h);exact⟨its,r,pl,hz⟩
 ·obtain⟨its,r,pl,hz⟩:=I.list (show SqL X.K H a xs from h);exact⟨its,r,pl.isList,hz⟩
variable{prog:Program}{E:Value->Shared->Prop}{elts:List Expr}{pos:Pos}
theorem aGy{x1}{z TI TO T:Addr}{f0 f1:Value}{Q:Unit->Shared->Prop}(hz:s.heap.get? z=some (ZP.zobj TI TO f0 f1))(hf:f0=.none\/∃T:Nat,f0=rawInt T)
  (hQ:∀h' g0,h'.get? z=some (ZP.zobj TI TO g0 f1)->(g0=.none\/∃T:Nat,g0=rawInt T)->Heap.SameBut z s.heap h'->Q () {s with heap:=h'}):wpAny (model prog w) A (letOwnedTupleGo (.Tuple elts x1 pos) (.ref z) (.ref T)) Q E s:=by
 unfold letOwnedTupleGo
 refine aAB (wpAny_load hz ?_)
 show wpAny _ A (if(["enumerate","zip","dict_itemiterator","dict_reverseitemiterator","odict_iterator","itertools.zip_longest","itertools.pairwise"].contains "zip"&&(#[f0,f1,.bool false,.ref TI,.ref TO]:Array Value)[0]?==some (rawInt T))=true then _ else _) Q E s
 by_cases hc:(["enumerate","zip","dict_itemiterator","dict_reverseitemiterator","odict_iterator","itertools.zip_longest","itertools.pairwise"].contains "zip"&&(#[f0,f1,.bool false,.ref TI,.ref TO]:Array Value)[0]?==some (rawInt T))=true
 ·rw[aAJ hc]
  refine aAB (aDA ?_)
  show wpAny _ A (setField (.ref z) 0 .none) Q E s
  exact aBQ hz (by simp) λh' hz' hs'=>hQ h' .none hz' (.inl rfl) hs'
 ·rw[aAI hc]
  exact aAF (hQ s.heap f0 hz hf ⟨rfl,λ_ _=>rfl⟩)
def tnz(b1 b2:Bool)(z TI TO i1 i2 l1 l2:Addr)(i:Nat)(h:Heap):Prop :=
 (∃f0 f1,h.get? z=some (ZP.zobj TI TO f0 f1)/\(f0=.none\/∃T:Nat,f0=rawInt T))/\IsPair h TI (.ref i1) (.ref i2)/\(∃a b,IsPair h TO a b)/\It0 b1 h i1 l1 i/\It0 b2 h i2 l2 i
def Itz(b1 b2:Bool)(K:Frag)(l1 l2:Addr)(xs ys:List V):It :=
 ⟨λi H=>SqB b1 K H l1 xs/\SqB b2 K H l2 ys/\i < xs.length/\i < ys.length,λi H x H'=>∃T u v,H T=none/\x=.ref T/\xs[i]?=some u/\ys[i]?=some v/\H'=upd H T (.tup [u,v]),λi H=>SqB b1 K H l1 xs/\SqB b2 K H l2 ys/\(xs.length<=i\/ys.length<=i)⟩
theorem aBb{x1}{b1 b2:Bool}{z TI TO i1 i2:Addr}(D:ZP.Ap z TI TO i1 i2 l1 l2)(xs ys:List V):Turn P w K (.Tuple elts x1 pos) (Itz b1 b2 K l1 l2 xs ys) [z,TI,TO,i1,i2] z (tnz b1 b2 z TI TO i1 i2 l1 l2)where
 mem:=by simp
 obj:=λi h st b hb=>by
  obtain⟨⟨f0,f1,hz,_⟩,hTI,⟨a,c,hTO⟩,h1,h2⟩:=st
  simp only[aAO,aBL,aDB]at hb
  rcases hb with rfl|rfl|rfl|rfl|rfl
  ·exact⟨_,hz,λv z=>by cases z⟩
  ·exact⟨_,hTI,λv z=>by cases z⟩
  ·exact⟨_,hTO,λv z=>by cases z⟩
  ·exact h1.obj
  ·exact h2.obj
 keep:=λi h h' st k=>by
  obtain⟨⟨f0,f1,hz,hf⟩,hTI,⟨a,c,hTO⟩,h1,h2⟩:=st
  exact⟨⟨f0,f1,k z (by simp) _ hz,hf⟩,k TI (by simp) _ hTI,⟨a,c,k TO (by simp) _ hTO⟩,h1.at λo e=>k i1 (by simp) o e,h2.at λo e=>k i2 (by simp) o e⟩
 item:=by
  intro X hP hw hK hc i pins s σ H E I hf st hg
  subst hP hw hK
  obtain⟨sx,sy,hx,hy⟩:=hg
  obtain⟨its1,r1,y1,z1⟩:=sx.inv I
  obtain⟨its2,r2,y2,z2⟩:=sy.inv I
  obtain⟨⟨f0,f1,hz,hf0⟩,hTI,hTO,h1,h2⟩:=st
  have hT:s.TypeIs (.ref z) "zip":=⟨_,hz,rfl⟩
  obtain⟨u,hu,ru⟩:=r1.get (aBB hx)
  obtain⟨v,hv,rv⟩:=r2.get (aBB hy)
  have zlt:z < s.heap.objs.size:=aAM hz
  unfold pyNext
  refine aAB (aED (aBR (name:=Str.ofString "__next__") hT aEX
   (aBY aEX hT F.entry_zip_next
    (ZP.zip_next_item D ⟨⟨f0,f1,hz,hf0⟩,hTI,hTO,rL h1 y1,rL h2 y2⟩ (x:=u) (y:=v) (by simpa using hu) (by simpa using hv) λh' T z' p' n' k'=>aAF ?_) (F.args_zip_next_1 _))))
  refine⟨_,rfl,?_⟩
  obtain⟨⟨g0,g1,hz',hg0⟩,hTI',⟨c,d,hTO'⟩,a1',a2'⟩:=z'
  have y1':IsB b1 h' l1 its1.toArray:=y1.at λo e=>k' l1 o D.l1z D.l1TO D.l1i1 D.l1i2 e
  have y2':IsB b2 h' l2 its2.toArray:=y2.at λo e=>k' l2 o D.l2z D.l2TO D.l2i1 D.l2i2 e
  refine aGy (s:={s with heap:=h'}) hz' hg0 λh2 g2 hz2 hg2 sb=>?_
  have sb:Heap.SameBut z h' h2:=sb
  have kk:∀b o,b∉[z,TI,TO,i1,i2]->s.heap.get? b=some o->h2.get? b=some o:=λb o hb e=>by
   simp only[aAO,aBL,aDB,not_or]at hb
   obtain⟨q1,q2,q3,q4,q5⟩:=hb
   exact sb.extBut b o q1 (k' b o q1 q3 q4 q5 e)
  have hTz:T≠z:=λe=>absurd zlt (Nat.not_lt.mpr (e▸n'))
  have hp2:h2.get? T=some {cls:=.type "tuple",data:=.seq #[u,v]}:=sb.extBut T _ hTz p'
  refine⟨.ref T,upd H T (.tup [xs[i],ys[i]]),I.turnLay (t':=s.toks) hf kk n' (show ObjOk X.prog X.w _ h2 T (.tup [xs[i],ys[i]])from⟨by show 2<=sizeLine;decide,[u,v],.cons ru (.cons rv .nil),_,hp2,rfl,_,rfl⟩),rfl,⟨T,xs[i],ys[i],I.hok.fresh n',rfl,aBB hx,aBB hy,rfl⟩,?_,λb hb=>?_⟩
  ·exact⟨⟨g2,g1,hz2,hg2⟩,sb.extBut TI _ D.TIz hTI',⟨c,d,sb.extBut TO _ D.TOz hTO'⟩,(tG y1' a1').at λo e=>sb.extBut i1 o D.i1z e,(tG y2' a2').at λo e=>sb.extBut i2 o D.i2z e⟩
  ·rw[bN]
   ·exact(hf b hb).1
   ·rintro rfl
    simp only[aAO,aBL,aDB]at hb
    have:b < s.heap.objs.size:=by
     rcases hb with rfl|rfl|rfl|rfl|rfl
     ·exact zlt
     ·exact aAM hTI
     ·obtain⟨_,_,q⟩:=hTO;exact aAM q
     ·obtain⟨o,q,_⟩:=h1.obj;exact aAM q
     ·obtain⟨o,q,_⟩:=h2.obj;exact aAM q
    exact absurd this (Nat.not_lt.mpr n')
 done:=by
  intro X hP hw hK hc i pins s σ H E I hf st hg
  subst hP hw hK
  obtain⟨sx,sy,hend⟩:=hg
  obtain⟨its1,r1,y1,z1⟩:=sx.inv I
  obtain⟨its2,r2,y2,z2⟩:=sy.inv I
  obtain⟨⟨f0,f1,hz,hf0⟩,hTI,hTO,h1,h2⟩:=st
  have hT:s.TypeIs (.ref z) "zip":=⟨_,hz,rfl⟩
  have l1':=r1.length
  have l2':=r2.length
  unfold pyNext
  refine aAB (aED (aBR (name:=Str.ofString "__next__") hT aEX
   (aBY aEX hT F.entry_zip_next (ZP.zip_next_end (I.ok.hd hc) D ⟨⟨f0,f1,hz,hf0⟩,hTI,hTO,rL h1 y1,rL h2 y2⟩ (by
    rcases hend with q|q
    ·exact .inl (by simp;lia)
    ·exact .inr (by simp;lia)) λh' e hk he=>?_) (F.args_zip_next_1 _))))
  obtain⟨o,ho,hcl⟩:=he
  refine aAB (aFR (T:="StopIteration") (b:=true) ⟨o,ho,hcl⟩ isSubtype_stop ?_)
  refine aAF ⟨rfl,I.turnedL (t':=s.toks) hf λb o hb e=>?_⟩
  simp only[aAO,aBL,aDB,not_or]at hb
  obtain⟨q1,q2,q3,q4,q5⟩:=hb
  exact hk b o q1 q3 q4 q5 e
 self:=λA i s Q E st hQ=>by
  obtain⟨⟨f0,f1,hz,_⟩,_⟩:=st
  have hT:s.TypeIs (.ref z) "zip":=⟨_,hz,rfl⟩
  refine aGZ hT F.slot_zip_iter (aBY F.slot_zip_iter hT F.entry_zip_iter ?_ (F.args_zip_iter_1 _))
  show wpAny _ _ (ret (.ref z)) _ _ s
  exact aAF ⟨_,rfl,"zip",_,hT,aEX.lookup,hQ⟩
theorem aRq{x1}{a b:Expr}(hg:Gl X "zip")(hm:X.mg "zip"=none)(ha:PE X a ta)(hb:PE X b tb)
  (hs2:starEach [a,b] X.env=(false,eval a X.env)::starEach [b] X.env:=by rfl)(hs3:starEach [b] X.env=(false,eval b X.env)::starEach [] X.env:=by rfl)(hpl2:(backTo pos (starEach [b] X.env)).any (·.1)=false:=by rfl) :
  PI X (.Tuple elts x1 tpos) (.Call (.Name "zip" p) [a,b] [] pos) (λσ H R=>ta σ H λx H1=>tb σ H1 λy H2=>∃l1 l2 b1 b2 xs ys,x=.ref l1/\y=.ref l2/\SqB b1 X.K H2 l1 xs/\SqB b2 X.K H2 l2 ys/\R (Itz b1 b2 X.K l1 l2 xs ys) H2):=by
 intro pins s σ H R I h
 refine aEF (nJ I hg hm aRi ?_)
 refine aCN (thn (dC ha (dC hb fQ hs3) hs2 pos pins s σ H (λvs H2=>match vs with|[x,y]=>∃l1 l2 b1 b2 xs ys,x=.ref l1/\y=.ref l2/\SqB b1 X.K H2 l1 xs/\SqB b2 X.K H2 l2 ys/\R (Itz b1 b2 X.K l1 l2 xs ys) H2|_=>False) I h) λus s1 ⟨vs,H1,I1,r1,hr⟩=>?_) hs2 hpl2
 match vs,r1,hr with
 |[],_,hr=>exact hr.elim
 |[_],_,hr=>exact hr.elim
 |_::_::_::_,_,hr=>exact hr.elim
 |[x,y],r1,hr =>
 obtain⟨u1,u2,rfl,rx,ry⟩:=r1.two
 obtain⟨l1,l2,b1,b2,xs,ys,rfl,rfl,sx,sy,hq⟩:=hr
 cases rx
 cases ry
 obtain⟨its,q1,p1,z1⟩:=sx.inv I1
 obtain⟨its2,q2,p2,z2⟩:=sy.inv I1
 have hl1:=p1.lt
 have hl2:=p2.lt
 have e1:s1.heap.IsList l1 its.toArray\/s1.heap.IsTuple l1 its.toArray:=by cases b1;exact .inr p1;exact .inl p1
 have e2:s1.heap.IsList l2 its2.toArray\/s1.heap.IsTuple l2 its2.toArray:=by cases b2;exact .inr p2;exact .inl p2
 have D:=ZP.ap_of hl1 hl2
 refine ZP.call_zipG e1 e2 λh1 Zs1 hsz kp=>?_
 obtain⟨⟨f0,f1,hz,hf0⟩,hTI,hTO,a1,a2⟩:=Zs1
 have tz:tnz b1 b2 (s1.heap.objs.size+4) (s1.heap.objs.size+2) (s1.heap.objs.size+3) s1.heap.objs.size (s1.heap.objs.size+1) l1 l2 0 h1:=⟨⟨f0,f1,hz,hf0⟩,hTI,hTO,tG (p1.at λo e=>kp l1 o e) a1,tG (p2.at λo e=>kp l2 o e) a2⟩
 refine(aBb (P:=X.prog) (w:=X.w) (K:=X.K) (elts:=elts) (x1:=x1) (pos:=tpos) (b1:=b1) (b2:=b2) D xs ys).self _ 0 _ _ _ tz ?_
 refine⟨s1.heap.objs.size+4,_,_,_,H1,rfl,I1.kept (t':=s1.toks) λb o e=>kp b o e,aBb D xs ys,tz,λb hb=>?_,hq⟩
 refine I1.fpOk ?_ (I1.hok.fresh ?_) <;>
 ·simp only[aAO,aBL,aDB]at hb
  rcases hb with rfl|rfl|rfl|rfl|rfl <;> (show(_:Nat)<=(_:Nat);lia)
end L2
namespace EV
open L2
variable{EX:D->Mm->Prop}
section
variable{K:Frag}{a b:Expr}{pos:Pos}{g:FE}{tg:Expr}
noncomputable def dz:W->Option (List D)
 |.d (.tup xs)=>some xs
 |.d (.lst xs)=>some xs
 |.d (.fz xs)=>some xs
 |_=>none
theorem aCw{w:W}{ds:List D}(r:Rw K μ H w v)(h:dz w=some ds):∃(b:Bool) (a:Addr) (vs:List V) (S:List Addr->Hp->Prop),v=.ref a/\S μ H/\(∀μ1 H1 μ2 H2,Lsts μ1 H1->S μ1 H1->Ext μ1 H1 μ2 H2->S μ2 H2)/\∀μ1 H1,S μ1 H1->SqB b K H1 a vs/\Rps K μ1 H1 ds vs:=by
 cases w with
 |ref i=>cases h
 |ob _ _=>cases h
 |nest _=>cases h
 |d x=>cases x with
  |tup xs =>
   cases h
   simp only[Rw,Rp]at r
   obtain⟨p,vs,rfl,h1,r1⟩:=r
   exact⟨false,p,vs,λμ2 H2=>H2 p=some (.tup vs)/\Rps K μ2 H2 ds vs,rfl,⟨h1,r1⟩,λμ1 H1 μ2 H2 l z e=>⟨e.keep _ _ (λq=>by obtain⟨us,q,mq⟩:=l p q;rw[z.1]at q;cases q;exact mq) z.1,Rps.ext l e _ _ z.2⟩,λμ1 H1 z=>⟨SqT.of z.1,z.2⟩⟩
  |lst xs =>
   cases h
   simp only[Rw,Rp]at r
   obtain⟨p,vs,rfl,h1,hn,r1⟩:=r
   exact⟨true,p,vs,λμ2 H2=>H2 p=some (.lst vs)/\p∉μ2/\Rps K μ2 H2 ds vs,rfl,⟨h1,hn,r1⟩,λμ1 H1 μ2 H2 l z e=>⟨e.keep _ _ z.2.1 z.1,λq=>(e.new p q).elim z.2.1 (λq=>by rw[z.1]at q;cases q),Rps.ext l e _ _ z.2.2⟩,λμ1 H1 z=>⟨SqL.of z.1,z.2.2⟩⟩
  |fz xs =>
   cases h
   simp only[Rw,Rp]at r
   obtain⟨p,vs,rfl,h1,r1⟩:=r
   exact⟨true,p,vs,λμ2 H2=>FzL K H2 p vs/\Rps K μ2 H2 ds vs,rfl,⟨h1,r1⟩,λμ1 H1 μ2 H2 l z e=>⟨z.1.ext l e,Rps.ext l e _ _ z.2⟩,λμ1 H1 z=>⟨z.1.sq,z.2⟩⟩
  |_=>cases h
theorem uZ{xs ys:List D}{d:D}(h:(zipT xs ys)[i]?=some d):∃x y,xs[i]?=some x/\ys[i]?=some y/\d=.tup [x,y]:=by
 unfold zipT at h
 rw[aAV,aAN]at h
 obtain⟨p,h1,rfl⟩:=h
 rw[List.getElem?_zip_eq_some]at h1
 exact⟨_,_,h1.1,h1.2,rfl⟩
theorem kN{xs ys:List D}:(zipT xs ys).length=min xs.length ys.length:=by simp[zipT]
theorem uF{T:Addr}{x y:D}{u:V}(hr:HR K μ H M)(hT:H T=none)(r1:Rp K μ H x u)(r2:Rp K μ H y v):Ext μ H μ (upd H T (.tup [u,v]))/\HR K μ (upd H T (.tup [u,v])) M/\Rp K μ (upd H T (.tup [u,v])) (.tup [x,y]) (.ref T):=by
 have e:=jN (o:=.tup [u,v]) hr hT
 refine⟨e,hr.lay hT,?_⟩
 simp only[Rp]
 exact⟨T,[u,v],rfl,cQ,.cons (Rp.ext hr.lsts e _ _ r1) (.cons (Rp.ext hr.lsts e _ _ r2) .nil)⟩
def cz(M:Mm):W->Option (Nat×List D)
 |.ref t=>match M[t]? with
  |some ys=>if(intsOf ys).isSome then some (t,ys)else none
  |none=>none
 |_=>none
theorem aUb{y:W}{t:Nat}{ys:List D}(h:cz M y=some (t,ys)):y=.ref t/\M[t]?=some ys/\∃ns:List Int,ys=ns.map D.int:=by
 cases y with
 |d x=>cases h
 |ob _ _=>cases h
 |nest _=>cases h
 |ref t' =>
  simp only[cz]at h
  cases q:M[t']? with
  |none=>simp only[q]at h;cases h
  |some ys' =>
   simp only[q]at h
   cases e:intsOf ys' with
   |none=>simp[e]at h
   |some ns =>
    simp only[e,Option.isSome_some,aCQ,aAP,aDP]at h
    obtain⟨rfl,rfl⟩:=h
    exact⟨rfl,q,ns,oC e⟩
def iZip(f g:FE):FI:=λL M=>(f L M).bind λx M1=>(g L M1).bind λy M2=>match dz x,dz y with
 |some xs,some ys=>.ok ⟨zipT xs ys,none⟩ M2
 |some xs,none=>match cz M2 y with
  |some (t,ys)=>.ok ⟨zipT xs ys,some (.two t ys)⟩ M2
  |none=>.bad
 |_,_=>.bad
theorem aQu{elts:List Expr}{x1}(hm:X.mg "zip"=none)(ha:Ev X K Z a f)(hb:Ev X K Z b g)(hg:Gl X "zip":=by rfl)
  (hs2:starEach [a,b] X.env=(false,eval a X.env)::starEach [b] X.env:=by rfl)(hs3:starEach [b] X.env=(false,eval b X.env)::starEach [] X.env:=by rfl)(hpl2:(backTo pos (starEach [b] X.env)).any (·.1)=false:=by rfl):Ei X K Z (.Tuple elts x1 tpos) (.Call (.Name "zip" p) [a,b] [] pos) (iZip f g):=by
 have h':=aRq (elts:=elts) (x1:=x1) (tpos:=tpos) (p:=p) (pos:=pos) hg hm ha.h hb.h hs2 hs3 hpl2
 rw[ha.k]at h'
 refine⟨ha.k,cqI h' ?_⟩
 rintro σ H R ⟨μ,M,L,hr,lr,p⟩
 refine⟨μ,M,L,hr,lr,p.bind.imp λμ1 H1 M1 w e1 hr1 _ p1 v rw'=>?_⟩
 refine⟨μ1,M1,L,hr1,lr.ext hr.lsts e1,p1.bind.imp λμ2 H2 M2 w2 e2 hr2 _ p2 v2 rw2=>?_⟩
 cases q1:dz w with
 |none=>simp only[q1]at p2;exact p2.elim
 |some xs =>
  cases q2:dz w2 with
  |none =>
   cases q3:cz M2 w2 with
   |none=>simp only[q1,q2,q3]at p2;exact p2.elim
   |some ty =>
   obtain⟨t,ys⟩:=ty
   simp only[q1,q2,q3]at p2
   obtain⟨rfl,hM,ns,rfl⟩:=aUb q3
   obtain⟨b1,l1,vs1,S1,rfl,s1,x1,d1⟩:=aCw (rw'.ext hr1.lsts e2) q1
   obtain⟨a,qa,rfl,il⟩:=rw2
   have cell:∀{μ3:List Addr} {H3:Hp} {M3:Mm},HR K μ3 H3 M3->(μ3[t]?=some a/\IsL H3 a)->M3[t]?=some (ns.map D.int)->SqB true K H3 a (ns.map V.int):=λhr3 z c=>by
    obtain⟨a',vs,qa',h1,r1⟩:=hr3.at c z.1 z.2
    rw[z.1]at qa';cases qa'
    rw[qH r1]at h1
    exact SqL.of h1
   refine⟨l1,a,b1,true,vs1,ns.map V.int,rfl,rfl,(d1 _ _ s1).1,cell hr2 ⟨qa,il⟩ hM,p2 μ2 H2 .refl hr2 _ ?_⟩
   refine⟨λμ H=>S1 μ H/\μ[t]?=some a/\IsL H a,⟨s1,qa,il⟩,λμ1 H1 μ2 H2 l z e=>⟨x1 _ _ _ _ l z.1 e,e.pre _ _ z.2.1,z.2.2.ext e⟩,λμ3 H3 M3 i hr3 hS hc=>?_⟩
   obtain⟨c1,r1⟩:=d1 _ _ hS.1
   have c2:=cell hr3 hS.2 (hc _ rfl)
   have r2:Rps K μ3 H3 (ns.map D.int) (ns.map V.int):=Rps.ints
   refine⟨λd hd=>?_,λhl=>?_⟩
   ·obtain⟨x,y,hx,hy,rfl⟩:=uZ hd
    obtain⟨u,hu,ru⟩:=r1.get hx
    obtain⟨v,hv,rv⟩:=r2.get hy
    refine⟨⟨c1,c2,(aAC.mp hu).1,(aAC.mp hv).1⟩,λx' H4 hy4=>?_⟩
    obtain⟨T,u',v',hT,rfl,hu',hv',rfl⟩:=hy4
    rw[hu]at hu';cases hu'
    rw[hv]at hv';cases hv'
    exact uF hr3 hT ru rv
   ·refine⟨c1,c2,?_⟩
    simp only[kN]at hl
    rw[<- r1.length,<- r2.length]
    lia
  |some ys =>
   simp only[q1,q2]at p2
   obtain⟨b1,l1,vs1,S1,rfl,s1,x1,d1⟩:=aCw (rw'.ext hr1.lsts e2) q1
   obtain⟨b2,l2,vs2,S2,rfl,s2,x2,d2⟩:=aCw rw2 q2
   refine⟨l1,l2,b1,b2,vs1,vs2,rfl,rfl,(d1 _ _ s1).1,(d2 _ _ s2).1,p2 μ2 H2 .refl hr2 _ ?_⟩
   refine⟨λμ H=>S1 μ H/\S2 μ H,⟨s1,s2⟩,λμ1 H1 μ2 H2 l z e=>⟨x1 _ _ _ _ l z.1 e,x2 _ _ _ _ l z.2 e⟩,λμ3 H3 M3 i hr3 hS hc=>?_⟩
   obtain⟨c1,r1⟩:=d1 _ _ hS.1
   obtain⟨c2,r2⟩:=d2 _ _ hS.2
   refine⟨λd hd=>?_,λhl=>?_⟩
   ·obtain⟨x,y,hx,hy,rfl⟩:=uZ hd
    obtain⟨u,hu,ru⟩:=r1.get hx
    obtain⟨v,hv,rv⟩:=r2.get hy
    refine⟨⟨c1,c2,(aAC.mp hu).1,(aAC.mp hv).1⟩,λx' H4 hy4=>?_⟩
    obtain⟨T,u',v',hT,rfl,hu',hv',rfl⟩:=hy4
    rw[hu]at hu';cases hu'
    rw[hv]at hv';cases hv'
    exact uF hr3 hT ru rv
   ·refine⟨c1,c2,?_⟩
    simp only[kN]at hl
    rw[<- r1.length,<- r2.length]
    lia
end
section
variable{g:FE}
theorem aPi(h:Okx EX (f L M) λx M1=>Okx EX (g L M1) λy M2=>∃xs ys,dz x=some xs/\dz y=some ys/\QI ⟨zipT xs ys,none⟩ M2):Okx EX (iZip f g L M) QI :=
 aQ (h.mono λx M1 z=>aQ (z.mono λy M2 ⟨xs,ys,e1,e2,q⟩=>by simp only[e1,e2];exact aU q))
end
end EV
namespace L2
variable{prog:Program}{E:Value->Shared->Prop}{e:Addr}{c:Int}{old:Value}
theorem aHh{x:Value}(he:IsEnum s.heap e it c old)(h1:ZP.It1 s.heap it src i xs)(hx:xs[i]?=some x)(hne:e≠it)(hes:src≠e)
  (hQ:∀h',IsEnumOut h' e it (c+1) x s.heap.objs.size->ZP.It1 h' it src (i+1) xs->h'.get? s.heap.objs.size=some {cls:=.type "tuple",data:=.seq #[.int c s.toks,x]} ->
   (∀b o,b≠e->b≠it->s.heap.get? b=some o->h'.get? b=some o)->Q (.ref s.heap.objs.size) {s with heap:=h',toks:=s.toks+1}) :
  wpAny (model prog w) A (Builtin.«enumerate.__next__» ⟨[.ref e],[]⟩) (λfin s'=>∃v,fin=.done (.ret v)/\Q v s') E s:=by
 obtain⟨hp,g,d,tk,os⟩:=s
 show wpAny _ _ (field (.ref e) 2 >>= _) _ _ _
 refine aAB (aBH he rfl (x:=.ref it) rfl (aAB (h1.next hx λk1 hit1 hs1=>?_)))
 have hs1:Heap.SameBut it hp k1:=hs1
 have he1:IsEnum k1 e it c old:=(hs1.2 e hne).trans he
 show wpAny _ _ (field (.ref e) 3 >>= _) _ _ ⟨k1,g,d,tk,os⟩
 refine aAB (aBH he1 rfl (x:=rawInt c) rfl ?_)
 show wpAny _ _ (field (.ref e) 4 >>= _) _ _ ⟨k1,g,d,tk,os⟩
 refine aAB (aBH he1 rfl (x:=.none) rfl ?_)
 show wpAny _ _ (mkInt c >>= _) _ _ ⟨k1,g,d,tk,os⟩
 refine aAB (wpAny_mkInt ?_)
 show wpAny _ _ (setField (.ref e) 3 (rawInt (c+1)) >>= _) _ _ ⟨k1,g,d,tk+1,os⟩
 refine aAB (aBQ he1 (by simp) λk2 he2 hs2=>?_)
 have hs2:Heap.SameBut e k1 k2:=hs2
 have he2:IsEnum k2 e it (c+1) old:=he2
 show wpAny _ _ (setField (.ref e) 4 .none >>= _) _ _ ⟨k2,g,d,tk+1,os⟩
 refine aAB (aBQ he2 (by simp) λk3 he3 hs3=>?_)
 have hs3:Heap.SameBut e k2 k3:=hs3
 have he3:IsEnum k3 e it (c+1) old:=he3
 show wpAny _ _ (newTuple [.int c tk,x] >>= _) _ _ ⟨k3,g,d,tk+1,os⟩
 refine aAB (wpAny_newTuple ?_)
 have hsz:k3.objs.size=hp.objs.size:=by rw[hs3.1,hs2.1,hs1.1]
 have hel:e < hp.objs.size:=aAM he
 obtain⟨k4,hk4⟩:∃k4,k4=k3.push {cls:=.type "tuple",data:=.seq #[.int c tk,x]}:=⟨_,rfl⟩
 rw[<- hk4]
 have he4:IsEnum k4 e it (c+1) old:=by rw[hk4];exact aAA _ he3
 have ht4:k4.get? hp.objs.size=some {cls:=.type "tuple",data:=.seq #[.int c tk,x]}:=by rw[hk4,<- hsz];exact aAE _ rfl
 have kp4:∀b o,b≠e->b≠it->hp.get? b=some o->k4.get? b=some o:=λb o q1 q2 q=>by
  rw[hk4];exact aAA _ (hs3.extBut b o q1 (hs2.extBut b o q1 (hs1.extBut b o q2 q)))
 have it4:ZP.It1 k4 it src (i+1) xs:=by
  rw[hk4]
  exact hit1.at (λo q=>aAA _ (hs3.extBut it o hne.symm (hs2.extBut it o hne.symm q))) λo q=>aAA _ (hs3.extBut src o hes (hs2.extBut src o hes q))
 show wpAny _ _ (Builtin.SmallTypes.ownedTupleIsFree (.ref e) >>= _) _ _ ⟨k4,g,d,tk+1,os⟩
 rw[hsz]
 clear hk4 he3 hs3 he2 hs2 he1 hs1 hit1 hsz
 refine aAB ?_
 unfold Builtin.SmallTypes.ownedTupleIsFree
 refine aAB (aBH he4 rfl (x:=.none) rfl (aAF ?_))
 simp only[aCQ]
 refine aAB (aDA (aAB (aBH he4 rfl (x:=old) rfl (aAB (aBQ he4 (by simp) λk5 he5 hs5=>?_)))))
 have hs5:Heap.SameBut e k4 k5:=hs5
 have he5:IsEnum k5 e it (c+1) x:=he5
 show wpAny _ _ (Builtin.SmallTypes.ownedTupleHandOut (.ref e) (.ref hp.objs.size) >>= _) _ _ ⟨k5,g,d,tk+1,os⟩
 refine aAB ?_
 unfold Builtin.SmallTypes.ownedTupleHandOut
 refine aAB (aBQ he5 (by simp) λk6 he6 hs6=>?_)
 have hs6:Heap.SameBut e k5 k6:=hs6
 have he6:IsEnumOut k6 e it (c+1) x hp.objs.size:=he6
 refine aBQ he6 (by simp) λk7 he7 hs7=>?_
 have hs7:Heap.SameBut e k6 k7:=hs7
 have he7:IsEnumOut k7 e it (c+1) x hp.objs.size:=he7
 have up:∀b o,b≠e->k4.get? b=some o->k7.get? b=some o:=λb o q1 q=>hs7.extBut b o q1 (hs6.extBut b o q1 (hs5.extBut b o q1 q))
 refine aAB (wpAny_letGo (aAF ⟨_,rfl,hQ k7 he7 (it4.at (λo q=>up it o hne.symm q) λo q=>up src o hes q) (up _ _ (aEN hel) ht4) λb o q1 q2 q=>up b o q1 (kp4 b o q1 q2 q)⟩))
theorem aId{Q:Option Value->Shared->Prop}(hh:A.handled=none)(he:IsEnum s.heap e it c old)(h1:ZP.It1 s.heap it src i xs)(hx:xs[i]?=none)
  (hQ:∀h',Heap.ExtBut it s.heap h'->Q none {s with heap:=h'}):wpAny (model prog w) A (pyNext (.ref e)) Q E s:=by
 have hT:s.TypeIs (.ref e) "enumerate":=⟨_,he,rfl⟩
 unfold pyNext
 refine aAB (aED (aBR (name:=Str.ofString "__next__") hT aDN (aBY aDN hT F.entry_enumerate_next ?_ (F.args_enumerate_next_1 _))))
 show wpAny _ _ (field (.ref e) 2 >>= _) _ _ _
 refine aAB (aBH he rfl (x:=.ref it) rfl (aAB (h1.stop hh hx λh' x he' hx'=>?_)))
 obtain⟨o,ho,hc⟩:=hx'
 refine aAB (aFR (T:="StopIteration") (b:=true) ⟨o,ho,hc⟩ isSubtype_stop (aAF (hQ _ he')))
def tne(b:Bool)(e it src:Addr)(c:Int)(i:Nat)(h:Heap):Prop:=(∃old,IsEnum h e it (c+i) old)/\It0 b h it src i
def Ite(b:Bool)(K:Frag)(src:Addr)(c:Int)(xs:List V):It :=
 ⟨λi H=>SqB b K H src xs/\i < xs.length,λi H x H'=>∃T u,H T=none/\x=.ref T/\xs[i]?=some u/\H'=upd H T (.tup [.int (c+i),u]),λi H=>SqB b K H src xs/\xs.length<=i⟩
theorem wL{elts:List Expr}{x1}{pos:Pos}{b:Bool}(c:Int)(hne:e≠it)(hes:src≠e)(his:src≠it)(xs:List V):Turn P w K (.Tuple elts x1 pos) (Ite b K src c xs) [e,it] e (tne b e it src c)where
 mem:=by simp
 obj:=λi h st q hb=>by
  simp only[aAO,aBL,aDB]at hb
  rcases hb with rfl|rfl
  ·obtain⟨old,he⟩:=st.1;exact⟨_,he,λv z=>by cases z⟩
  ·exact st.2.obj
 keep:=λi h h' st k=>by
  obtain⟨⟨old,he⟩,h1⟩:=st
  exact⟨⟨old,k e (by simp) _ he⟩,h1.at λo q=>k it (by simp) o q⟩
 item:=by
  intro X hP hw hK hc i pins s σ H E I hf st hg
  subst hP hw hK
  obtain⟨sx,hx⟩:=hg
  obtain⟨its,r1,y1,z1⟩:=sx.inv I
  obtain⟨⟨old,he⟩,h1⟩:=st
  have hT:s.TypeIs (.ref e) "enumerate":=⟨_,he,rfl⟩
  obtain⟨u,hu,ru⟩:=r1.get (aBB hx)
  have elt:e < s.heap.objs.size:=aAM he
  unfold pyNext
  refine aAB (aED (aBR (name:=Str.ofString "__next__") hT aDN (aBY aDN hT F.entry_enumerate_next
   (aHh he (rL h1 y1) (x:=u) (by simpa using hu) hne hes λh' he' a1 ht k'=>aAF ?_) (F.args_enumerate_next_1 _))))
  refine⟨_,rfl,?_⟩
  have y1':IsB b h' src its.toArray:=y1.at λo q=>k' src o hes his q
  refine wpAny_letOwnedTupleGo_enum (s:={s with heap:=h',toks:=s.toks+1}) he' λh2 he2 sb=>?_
  have sb:Heap.SameBut e h' h2:=sb
  have kk:∀q o,q∉[e,it]->s.heap.get? q=some o->h2.get? q=some o:=λq o hb z=>by
   simp only[aAO,aBL,aDB,not_or]at hb
   exact sb.extBut q o hb.1 (k' q o hb.1 hb.2 z)
  have hp2:=sb.extBut _ _ (aEN elt) ht
  refine⟨.ref s.heap.objs.size,upd H s.heap.objs.size (.tup [.int (c+i),xs[i]]),I.turnLay (t':=s.toks+1) hf kk (aAH _) (show ObjOk X.prog X.w _ h2 _ (.tup [.int (c+i),xs[i]])from⟨by show 2<=sizeLine;decide,[.int (c+i) s.toks,u],.cons ⟨_,rfl⟩ (.cons ru .nil),_,hp2,rfl,_,rfl⟩),rfl,⟨_,xs[i],I.hok.fresh (aAH _),rfl,aBB hx,rfl⟩,?_,λq hb=>?_⟩
  ·refine⟨⟨_,by rw[show c+((i+1:Nat):Int)=c+i+1 by lia];exact he2⟩,(tG y1' a1).at λo q=>sb.extBut it o hne.symm q⟩
  ·rw[bN]
   ·exact(hf q hb).1
   ·rintro rfl
    simp only[aAO,aBL,aDB]at hb
    rcases hb with q|q
    ·rw[q]at elt;exact absurd elt (aDE _)
    ·obtain⟨o,z,_⟩:=h1.obj
     rw[<- q]at z
     exact absurd (aAM z) (aDE _)
 done:=by
  intro X hP hw hK hc i pins s σ H E I hf st hg
  subst hP hw hK
  obtain⟨sx,hend⟩:=hg
  obtain⟨its,r1,y1,z1⟩:=sx.inv I
  obtain⟨⟨old,he⟩,h1⟩:=st
  have l1:=r1.length
  refine aId (I.ok.hd hc) he (rL h1 y1) (by simp;lia) λh' hk=>⟨rfl,I.turnedL (t':=s.toks) hf λq o hb z=>?_⟩
  simp only[aAO,aBL,aDB,not_or]at hb
  exact hk q o hb.2 z
 self:=λA i s Q E st hQ=>by
  obtain⟨⟨old,he⟩,_⟩:=st
  have hT:s.TypeIs (.ref e) "enumerate":=⟨_,he,rfl⟩
  refine aGZ hT F.slot_enumerate_iter (aBY F.slot_enumerate_iter hT F.entry_enumerate_iter ?_ (F.args_enumerate_iter_1 _))
  show wpAny _ _ (ret (.ref e)) _ _ s
  exact aAF ⟨_,rfl,"enumerate",_,hT,aDN.lookup,hQ⟩
end L2
namespace L2
open AutoSeq1 (wpAny_loadPart')
abbrev eH1(b:Bool)(h:Heap)(l:Addr):Heap:=h.push {cls:=.type (if b=true then "list_iterator"else "tuple_iterator"),data:=.fields #[.ref l,.int 0 0]}
abbrev eH2(b:Bool)(h:Heap)(l:Addr)(c:Int):Heap:=(eH1 b h l).push {cls:=.type "enumerate",data:=.fields #[.none,.bool false,.ref h.objs.size,rawInt c,.none,.none]}
variable{prog:Program}{E:Value->Shared->Prop}
theorem aJn(b:Bool)(h:Heap)(l:Addr)(c:Int):(eH1 b h l).objs.size=h.objs.size+1/\IsEnum (eH2 b h l c) (h.objs.size+1) h.objs.size c .none/\It0 b (eH2 b h l c) h.objs.size l 0/\∀q o,h.get? q=some o->(eH2 b h l c).get? q=some o:=by
 have z1:(eH1 b h l).objs.size=h.objs.size+1:=aAX ..
 refine⟨z1,?_,?_,λq o x=>aAA _ (aAA _ x)⟩
 ·have:=aAE (eH1 b h l) (o:={cls:=.type "enumerate",data:=.fields #[.none,.bool false,.ref h.objs.size,rawInt c,.none,.none]}) rfl
  rw[z1]at this;exact this
 ·cases b
  ·exact⟨_,aAA _ (aAE _ rfl),rfl,rfl⟩
  ·exact⟨_,aAA _ (aAE _ rfl),rfl,rfl⟩
end L2
namespace EV
open L2
variable{EX:D->Mm->Prop}
section
variable{K:Frag}{a b:Expr}{pos:Pos}{g:FE}{tg:Expr}
def enumT(c:Int)(xs:List D):List D:=xs.mapIdx λi d=>.tup [.int (c+i),d]
variable{c:Int}
theorem wN{xs:List D}{d:D}(h:(enumT c xs)[i]?=some d):∃x,xs[i]?=some x/\d=.tup [.int (c+i),x]:=by
 unfold enumT at h
 rw[List.getElem?_mapIdx,aAN]at h
 obtain⟨x,h1,rfl⟩:=h
 exact⟨x,h1,rfl⟩
theorem yJ{xs:List D}:(enumT c xs).length=xs.length:=by simp[enumT]
end
section
variable{g:FE}
end
end EV
namespace L2
open AutoSeq1 (wpAny_loadPart')
end L2
namespace EV
open L2
variable{EX:D->Mm->Prop}{K:Frag}{a b c o e i:Expr}{es:List Expr}{pos:Pos}{fs:FA}{fe:FE}{tg:Expr}{x y:W}{Q:W->Mm->Prop}
end EV
namespace L2
variable{prog:Program}{E:Value->Shared->Prop}
theorem xT{it t:Addr}{items:Array Value}(hne:t≠it):∀(n i:Nat) (s:Shared) (Q:List Value->Shared->Prop),s.heap.IsListIter it t i->s.heap.IsList t items->i+n<=items.size ->
  (∀h',h'.IsListIter it t (i+n)->Heap.SameBut it s.heap h'->Q ((items.toList.drop i).take n) {s with heap:=h'})->wpAny (model prog w) A (draw (.ref it) n) Q E s
 |0,i,s,Q,hit,_,_,hQ=>by
  show wpAny _ _ (pure []) Q E s
  exact aAF (by simpa using hQ s.heap hit (Heap.SameBut.refl ..))
 |n+1,i,s,Q,hit,ht,hle,hQ=>by
  have hlt:i < items.size:=by lia
  show wpAny _ _ (pyNext (.ref it) >>= _) Q E s
  refine aAB (wpAny_pyNext_list_item hit ht (x:=items[i]) (by simp[hlt]) λh₁ hit₁ hs₁=>?_)
  have ht₁:h₁.IsList t items:=by obtain⟨o,ho,r⟩:=ht;exact⟨o,hs₁.extBut t o hne ho,r⟩
  refine aAB (aBT (xT hne n (i+1) _ _ hit₁ ht₁ (by lia) λh₂ hit₂ hs₂=>aAF ?_))
  have hd:items.toList.drop i=items[i]::items.toList.drop (i+1):=by simp[aCJ,hlt]
  have:=hQ h₂ (by rw[show i+(n+1)=i+1+n by lia];exact hit₂) (hs₁.trans hs₂)
  rw[hd,aGL]at this
  exact this
theorem rH{t:Addr}{Q:List Value->Shared->Prop}(hh:A.handled=none)(ht:s.heap.IsList t items)
  (hQ:∀h',Heap.ExtBut s.heap.objs.size s.heap h'->Q items.toList {s with heap:=h'}):wpAny (model prog w) A (unpackItems (.ref t) items.size none) Q E s:=by
 have hlt:t≠s.heap.objs.size:=by obtain⟨o,ho,_⟩:=ht;exact aBJ (aAM ho)
 unfold unpackItems
 refine aAB ?_
 ·unfold notIterableAtAll
  refine aAB (aEW ht.typeIs slot_list_iter.lookup ?_)
  refine aAF ?_
  simp only[aBD,aDC]
  refine aAB (aBT (aCR ht ?_))
  have hp:(s.heap.push {cls:=.type "list_iterator",data:=.fields #[.ref t,.int 0 0]}).IsList t items:=by obtain⟨o,ho,r⟩:=ht;exact⟨o,aAA _ ho,r⟩
  refine aAB (aBT (xT hlt items.size 0 _ _ ⟨_,aAE _ rfl,rfl,rfl⟩ hp (by lia) λh₁ hit₁ hs₁=>?_))
  have hall:List.take items.size (List.drop 0 items.toList)=items.toList:=by
   rw[aDJ];exact aAS (by simp)
  rw[hall]
  rw[aAI (by simp)]
  have ht₁:h₁.IsList t items:=by obtain⟨o,ho,r⟩:=hp;exact⟨o,hs₁.extBut t o hlt ho,r⟩
  refine aAB (aBT (wpAny_pyNext_list_end hh hit₁ ht₁ (by simp) λh₂ he₂=>?_))
  simp only[Option.isSome_none,aBD,aDC]
  refine aAF (hQ h₂ λb o hb e=>he₂ b o hb (hs₁.extBut b o hb (aAA _ e)))
variable{pos:Pos}
theorem qB{elts:List Expr}{x1}{t:Addr}{Q:Unit->Shared->Prop}(hh:A.handled=none)(ht:s.heap.IsList t items)
  (hn:(assignEach elts env).length=items.size)(hstar:(assignEach elts env).findIdx? (·.1)=none)
  (h:∀h',Heap.ExtBut s.heap.objs.size s.heap h'->wpAny (model prog w) A (assignInOrder ((assignEach elts env).map (·.2)) items.toList) Q E {s with heap:=h'}) :
  wpAny (model prog w) A (assign (.Tuple elts x1 pos) env (.ref t)) Q E s:=by
 rw[assign_Tuple]
 refine aAB (aEE ?_)
 unfold unpack
 rw[hn,hstar]
 exact aAB (aBT (rH hh ht h))
def gTupL(K:Frag)(n:Nat)(t:TGs):TG:=λv σ H Q=>∃a xs,v=.ref a/\SqL K H a xs/\xs.length=n/\t xs σ H Q
theorem aMq{es:List Expr}{k:Nat}{t:TGs}{n:Nat}(hc:X.calm=true)(h:PGs X es t)
  (hn:(assignEach es X.env).length=n:=by rfl)(hst:(assignEach es X.env).findIdx? (·.1)=none:=by rfl):PG X (.Tuple es k pos) (gTupL X.K n t):=by
 intro pins s σ H v u Q I r hw
 obtain⟨a,xs,e1,hq,hl,hw⟩:=hw
 subst e1
 cases r
 obtain⟨its,rv,pl,hz⟩:=I.list hq
 have ht:s.heap.IsList a its.toArray:=pl.isList
 refine qB (I.ok.hd hc) ht (by simp[hn,<- hl,rv.length]) hst λh' hx=>?_
 have I1:Inv X pins σ H {s with heap:=h'}:=I.kept (t':=s.toks) λb o e=>hx b o (aBJ (aAM e)) e
 exact h pins _ σ H xs _ Q I1 (by simpa using rv) hw
end L2
namespace EV
open L2
variable{EX:D->Mm->Prop}{K:Frag}{es:List Expr}{pos:Pos}
def gTL(n:Nat)(gs:FGs):FG:=λw L M=>match w with
 |.d (.lst xs)=>if xs.length=n then gs xs L M else .bad
 |_=>.bad
variable{n:Nat}{gs:FGs}
theorem aNv{k:Nat}(hc:X.calm=true)(h:Egs X K Z es gs)(hn:(assignEach es X.env).length=n:=by rfl)(hst:(assignEach es X.env).findIdx? (·.1)=none:=by rfl):Eg X K Z (.Tuple es k pos) (gTL n gs):=by
 have h':=aMq (k:=k) (pos:=pos) hc h.h hn hst
 rw[h.k]at h'
 refine⟨h.k,cqG h' λv σ H Q ⟨μ,M,L,w,hr,lr,rx,p⟩=>?_⟩
 cases w with
 |ref i=>exact p.elim
 |ob _ _=>exact p.elim
 |nest _=>exact p.elim
 |d x=>cases x with
  |lst xs =>
   simp only[gTL]at p
   split at p
   ·simp only[Rw,Rp]at rx
    obtain⟨a,vs,e1,q1,_,r1⟩:=rx
    exact⟨a,vs,e1,SqL.of q1,by rw[<- r1.length];assumption,μ,M,L,xs,hr,lr,r1,p⟩
   ·exact p.elim
  |_=>exact p.elim
theorem aTo{xs:List D}(hn:xs.length=n)(h:Okx EX (gs xs L M) QG):Okx EX (gTL n gs (.d (.lst xs)) L M) QG:=by unfold gTL;simp only;rw[aAJ hn];exact h
end EV
namespace L2
end L2
namespace EV
open L2
variable{EX:D->Mm->Prop}{K:Frag}{x:W}{Q:W->Mm->Prop}
end EV
namespace EV
open L2
variable{EX:D->Mm->Prop}{K:Frag}{a tg:Expr}{pos:Pos}
def downD(n:Nat):List D:=(List.range n).map λi=>D.int ((n:Int) - 1 - (i:Nat))
variable{n:Nat}
theorem wV{d:D}(h:(downD n)[i]?=some d):i < n/\d=.int ((n:Int) - 1 - (i:Nat)):=by
 unfold downD at h
 rw[aAV,aAN]at h
 obtain⟨k,h1,rfl⟩:=h
 obtain⟨h2,h3⟩:=aAC.mp h1
 simp only[aCK]at h2
 simp only[List.getElem_range]at h3
 subst h3
 exact⟨h2,rfl⟩
theorem pV:(downD n).length=n:=by simp[downD]
theorem aSa:ItOk K μ H ⟨downD n,none⟩ (Itd n) :=
 ⟨λ_ _=>True,trivial,λ_ _ _ _ _ _ _=>trivial,λμ1 H1 M1 i hr _ _=>⟨λd hd=>by
  obtain⟨h1,rfl⟩:=wV hd
  refine⟨h1,λx H2 y=>?_⟩
  obtain⟨rfl,rfl⟩:=y
  exact⟨.refl,hr,by simp[Rp]⟩,λh=>by rw[show(Src.ds ⟨downD n,none⟩)=downD n from rfl,pV]at h;exact h⟩⟩
def iDown(f:FE):FI:=λL M=>(f L M).bind λw M1=>match w with
 |.d (.int j)=>if 0<=j/\j < 4611686018427387904 then .ok ⟨downD j.toNat,none⟩ M1 else .bad
 |_=>.bad
theorem aOz(hm:X.mg "reversed"=none)(hm2:X.mg "range"=none)(ha:Ev X K Z a f)(hg:Gl X "reversed":=by rfl)(hg2:Gl X "range":=by rfl)(hs:starEach [a] X.env=[(false,eval a X.env)]:=by rfl)
  (hs2:starEach [.Call (.Name "range" p2) [a] [] pos2] X.env=[(false,eval (.Call (.Name "range" p2) [a] [] pos2) X.env)]:=by rfl):Ei X K Z tg (.Call (.Name "reversed" p) [.Call (.Name "range" p2) [a] [] pos2] [] pos) (iDown f):=by
 refine⟨ha.k,cqI (aMw (tg:=tg) (p:=p) (pos:=pos) hg hm (dC (nW sG hg2 hm2 sB (dC ha.h fQ hs) (by decide) (by decide) hs rfl) fQ hs2) hs2) ?_⟩
 rintro σ H R ⟨μ,M,L,hr,lr,p⟩
 refine⟨μ,M,L,hr,lr,p.bind.imp λμ1 H1 M1 w e1 hr1 _ p1 v rw'=>?_⟩
 cases w with
 |ref i=>exact p1.elim
 |ob _ _=>exact p1.elim
 |nest _=>exact p1.elim
 |d x=>cases x with
  |int j =>
   simp only at p1
   split at p1
   ·rename_i hz
    simp only[Rw,Rp]at rw'
    subst rw'
    refine⟨j,rfl,λq hq=>⟨q,j,rfl,cQ,hz.1,by simpa using hz.2,?_⟩⟩
    exact p1 μ1 _ (jN hr1 hq) (hr1.lay hq) _ aSa
   ·exact p1.elim
  |_=>exact p1.elim
theorem aKv(h:Okx EX (f L M) λx M1=>∃j:Int,x=.d (.int j)/\0<=j/\j < 4611686018427387904/\QI ⟨downD j.toNat,none⟩ M1):Okx EX (iDown f L M) QI :=
 aQ (h.mono λx M1 ⟨j,e,h0,h1,q⟩=>by subst e;simp only;rw[aAJ ⟨h0,h1⟩];exact aU q)
end EV
namespace EV
open L2
variable{EX:D->Mm->Prop}{K:Frag}{pos:Pos}{Q:W->Mm->Prop}
end EV
namespace EV
open L2
def ZR(K:Frag)(R:Addr->Hp->Prop):Zt:=⟨λx M μ H=>∀μ' H',Ext μ H μ' H'->HR K μ' H' M->∀a,Rp K μ' H' x (.ref a)->R a H',λe h μ' H' e' hr a ra=>h μ' H' (e.trans e') hr a ra⟩
section
variable{K:Frag}{e a b:Expr}{es:List Expr}{pos:Pos}{fs:FA}{rest:List Stmt}{G:FS}
structure FunG(K:Frag)(x qual:Str)(st:Stmt)(f:Addr)(fd:FuncData):Prop where
 ex:∃(oc:Value) (od:Option Addr) (dV kV doc pm:Value) (an:Option Addr) (cdv ct:Value) (osl:Array (Option Value)),
  fd=fnOf x qual (defArgs st) (defBody st) (defScope st) dV kV doc pm an cdv ct/\K.lookup f=some ⟨oc,od,.func fd,osl⟩/\codeIn K cdv qual=true
theorem _root_.L2.Fun.g{f:Addr}(F:Fun K x qual st f fd):FunG K x qual st f fd:=by
 obtain⟨oc,od,kV,doc,pm,an,cdv,ct,osl,h⟩:=F.ex
 exact⟨oc,od,_,kV,doc,pm,an,cdv,ct,osl,h⟩
structure FunD(K:Frag)(x qual:Str)(st:Stmt)(f:Addr)(fd:FuncData)(d:Value):Prop where
 ex:∃(T:Addr) (oc:Value) (od:Option Addr) (kV doc pm:Value) (an:Option Addr) (cdv ct:Value) (osl:Array (Option Value)),
  fd=fnOf x qual (defArgs st) (defBody st) (defScope st) (.ref T) kV doc pm an cdv ct/\K.lookup f=some ⟨oc,od,.func fd,osl⟩/\codeIn K cdv qual=true/\∃c dd n sl,K.lookup T=some ⟨c,dd,.seq #[d] n,sl⟩
variable{d:Value}
theorem FunD.g{f:Addr}(F:FunD K x qual st f fd d):FunG K x qual st f fd:=by
 obtain⟨T,oc,od,kV,doc,pm,an,cdv,ct,osl,h1,h2,h3,_⟩:=F.ex
 exact⟨oc,od,_,kV,doc,pm,an,cdv,ct,osl,h1,h2,h3⟩
theorem FunD.binds{f:Addr}(F:FunD K x qual st f fd d)
  (h:∀(T:Addr) (kV doc pm:Value) (an:Option Addr) (cdv ct:Value) (us:List Value),us.length=ps.length->∃k,bindArgs (fnOf x qual (defArgs st) (defBody st) (defScope st) (.ref T) kV doc pm an cdv ct) ⟨us,[]⟩=seqItems? (.ref T) >>= k/\k (some #[d])=pure (ps.zip us)):Binds K fd ps []:=by
 obtain⟨T,oc,od,kV,doc,pm,an,cdv,ct,osl,rfl,h2,h3,c,dd,n,sl,hT⟩:=F.ex
 intro s us X hl
 rw[aEG]at hl ⊢
 obtain⟨k,h1,h2⟩:=h T kV doc pm an cdv ct us hl
 exact PySem.W.binds_K X rfl hT rfl h1 h2
theorem FunD.binds1{f:Addr}(F:FunD K x qual st f fd d)
  (h:∀(T:Addr) (kV doc pm:Value) (an:Option Addr) (cdv ct:Value) (us:List Value),(us++[d]).length=ps.length->∃k,bindArgs (fnOf x qual (defArgs st) (defBody st) (defScope st) (.ref T) kV doc pm an cdv ct) ⟨us,[]⟩=seqItems? (.ref T) >>= k/\k (some #[d])=pure (ps.zip (us++[d]))):Binds K fd ps [d]:=by
 obtain⟨T,oc,od,kV,doc,pm,an,cdv,ct,osl,rfl,h2,h3,c,dd,n,sl,hT⟩:=F.ex
 intro s us X hl
 obtain⟨k,h1,h2⟩:=h T kV doc pm an cdv ct us hl
 exact PySem.W.binds_K X rfl hT rfl h1 h2
theorem yZ{f T:Addr}{oc:Value}{kV doc pm cdv ct c:Value}{dd:Option Addr}{n:Nat}(l:K.lookup f=some ⟨oc,od,.func (fnOf x qual (defArgs st) (defBody st) (defScope st) (.ref T) kV doc pm an cdv ct),osl⟩)
  (h:codeIn K cdv qual=true)(t:K.lookup T=some ⟨c,dd,.seq #[d] n,sl⟩):FunD K x qual st f (fnOf x qual (defArgs st) (defBody st) (defScope st) (.ref T) kV doc pm an cdv ct) d:=⟨T,oc,od,kV,doc,pm,an,cdv,ct,osl,rfl,l,h,c,dd,n,sl,t⟩
def aDef(fs:FA)(ds:List D):FA:=λL M=>(fs L M).bind λws M1=>.ok (ws++ds.map W.d) M1
theorem Rws.append:∀{ws us:List W} {vs zs:List V},Rws K μ H ws vs->Rws K μ H us zs->Rws K μ H (ws++us) (vs++zs)
 |[],_,_,_,h,t=>by cases h;exact t
 |_::_,_,_,_,⟨v,r,e1,e2,e3⟩,t=>by subst e1;exact⟨v,_,rfl,e2,Rws.append e3 t⟩
def nx(Fm:Fn):Fn:=λws M=>match Fm ws M with
 |.ok w M'=>.ok w M'
 |_=>.bad
end
def liftX(K:Frag)(f:FE)(σ:L2.St)(H:Hp)(Q:VK)(R:Addr->Hp->Prop):Prop:=∃μ M L,HR K μ H M/\LR K μ H L σ/\Pst K (ZR K R) μ H (f L M) (Wk K Q)
def liftB(K:Frag)(F:FS)(D:Ends)(R:Addr->Hp->Prop)(σ:L2.St)(H:Hp):Prop:=∃μ M L,HR K μ H M/\LR K μ H L σ/\Pst K (ZR K R) μ H (F L M) (Sk K D)
structure Exx(X:Cx)(K:Frag)(e:Expr)(f:FE):Prop where
 k:X.K=K
 h:PEx X e (liftX K f)
structure Tb(X:Cx)(K:Frag)(b:List Stmt)(F:FS):Prop where
 k:X.K=K
 h:PBx X b (liftB K F)
section
variable{K:Frag}{e a b:Expr}{es:List Expr}{pos:Pos}{fs:FA}{rest:List Stmt}{G:FS}
end
def mt(cn c:Str):Bool:=c==cn || cn=="LentError" || cn=="ValueError"
variable{K:Frag}
structure Ecs(X:Cx)(K:Frag)(es:List Expr)(cns:List Str):Prop where
 k:X.K=K
 h:∃ys cvs,PA X es (λ_ H Q=>Q ys H)/\ys.map clV=cvs.map some/\ys.length<=es.length/\∀c C LE,Xc K c C LE->PySem.W.kitAny K (.ref C) cvs=some (cns.any λn=>mt n c)
section
variable{K:Frag}{e a b:Expr}{es:List Expr}{pos:Pos}{fs:FA}{rest:List Stmt}{G:FS}
end
end EV
end
namespace EV
open PySem L2
section
variable{EX:D->Mm->Prop}{i j:Nat}{w x y:W}{Q:W->Mm->Prop}{QA:List W->Mm->Prop}{g h:FE}{G FB FH:FS}{fs:FA}{Fm:Fn}{ws:List W}
theorem aNb{ds:List D}(h:Okx EX (fs L M) λws M1=>QA (ws++ds.map W.d) M1):Okx EX (aDef fs ds L M) QA:=aQ (h.mono λ_ _ z=>aU z)
end
end EV
section
open PySem PySem.Spec PyProof.Rows
namespace EV
open PySem.W L2
variable{K:Frag}{pos:Pos}{tk:Tok}
theorem oJ{i:Int}(hm:X.mg x=some (.int i tk))(hk:X.K=K:=by rfl)(hg:Gl X x:=by rfl)(hd:(x==("__debug__":Str))=false:=by decide):Ev X K Z (.Name x pos) (eC (.int i)):=aGn (λ_ _ _=>by simp[Rp]) hk (tD (v:=.int i) hg hm ⟨tk,rfl⟩ hd)
theorem aTw(hm:X.mg x=some (.str y tk))(hk:X.K=K:=by rfl)(hg:Gl X x:=by rfl)(hd:(x==("__debug__":Str))=false:=by decide):Ev X K Z (.Name x pos) (eC (.str y)):=aGn (λ_ _ _=>by simp[Rp]) hk (tD (v:=.str y) hg hm ⟨tk,rfl⟩ hd)
end EV
end
namespace LS
open PySem L2 EV
def Cg(n a b:Int):Prop:=∃k,a=b+n*k
variable{a:Int}
theorem Cg.rfl:Cg n a a:=⟨0,by simp⟩
variable{b:Int}
theorem Cg.symm(h:Cg n a b):Cg n b a:=by obtain⟨k,rfl⟩:=h;exact⟨-k,by grind⟩
variable{c:Int}
theorem Cg.trans(h:Cg n a b)(g:Cg n b c):Cg n a c:=by obtain⟨k,rfl⟩:=h;obtain⟨l,rfl⟩:=g;exact⟨k+l,by grind⟩
theorem Cg.add{d:Int}(h:Cg n a b)(g:Cg n c d):Cg n (a+c) (b+d):=by obtain⟨k,rfl⟩:=h;obtain⟨l,rfl⟩:=g;exact⟨k+l,by grind⟩
theorem Cg.sub{d:Int}(h:Cg n a b)(g:Cg n c d):Cg n (a - c) (b - d):=by obtain⟨k,rfl⟩:=h;obtain⟨l,rfl⟩:=g;exact⟨k - l,by grind⟩
theorem Cg.neg(h:Cg n a b):Cg n (-a) (-b):=by obtain⟨k,rfl⟩:=h;exact⟨-k,by grind⟩
theorem Cg.mul{d:Int}(h:Cg n a b)(g:Cg n c d):Cg n (a*c) (b*d):=by obtain⟨k,rfl⟩:=h;obtain⟨l,rfl⟩:=g;exact⟨b*l+d*k+n*k*l,by grind⟩
theorem Cg.mod:Cg n (a % n) a:=⟨-(a / n),by have:=Int.emod_def a n;grind⟩
theorem Cg.modT(h:Cg n a b):Cg n (a % n) b:=Cg.mod.trans h
theorem Cg.emod(h:Cg n a b):a % n=b % n:=by obtain⟨k,rfl⟩:=h;simp[Int.add_mul_emod_self_left]
theorem Cg.of(h:a % n=b % n):Cg n a b:=Cg.mod.symm.trans (h▸Cg.mod)
theorem Cg.of_eq(h:a=b):Cg n a b:=h▸Cg.rfl
theorem hZ{a' b':Int}(h:Cg n a a')(g:Cg n b b')(e:a'=b'):a % n=b % n:=(h.trans (e▸g.symm)).emod
theorem nX{a':Int}(l:0<=b)(u:b < n)(h:Cg n a a')(e:a'=b):a % n=b:=by rw[hZ h Cg.rfl e,aDS l u]
local macro_rules | `(tactic| rfl') => `(tactic| repeat decreasing_trivial_pre_omega)
local macro_rules | `(tactic| decreasing_trivial_pre_omega) => `(tactic| with_reducible first
 | apply Cg.modT | apply Cg.add | apply Cg.sub | apply Cg.mul | apply Cg.neg | exact Cg.rfl)
inductive Dd
 |add (s:Nat) (c:Int) (gs ts:List Nat)
 |scale (s:Nat) (u:Int)
noncomputable def natsD(xs:List Nat):D:=.tup (xs.map λk=>.int (k:Nat))
noncomputable def intsD(xs:List Int):D:=.tup (xs.map .int)
def encD:Dd->D
 |.add s c gs ts=>.tup [.str "add",.int s,.int c,natsD gs,natsD ts]
 |.scale s u=>.tup [.str "scale",.int s,.int u]
noncomputable def pr(xs:List Int)(is:List Nat):Int:=is.foldl (λa i=>a*xs.getD i 0) 1
theorem aJx(xs:List Int)(is:List Nat)(c:Int):is.foldl (λa i=>a*xs.getD i 0) c=c*pr xs is:=by
 induction is generalizing c with
 |nil=>simp[pr]
 |cons i r ih=>rw[aGG,ih];show _=c*(List.foldl _ (1*_) r);rw[ih (1*_)];grind
theorem zV(xs:List Int)(i:Nat)(r:List Nat):pr xs (i::r)=xs.getD i 0*pr xs r:=by
 simp only[pr,aGG,Int.one_mul];exact aJx xs r _
theorem uE(xs:List Int):pr xs []=1:=rfl
theorem aAb(xs:List Int)(i:Nat):pr xs [i]=xs.getD i 0:=by simp[pr]
variable{s:Nat}{v:Int}
theorem aRh{xs:List Int}{is:List Nat}(h:s∉is):pr (xs.set s v) is=pr xs is:=by
 induction is with
 |nil=>rfl
 |cons i r ih =>
  rw[zV,zV,ih (λz=>h (by simp[z]))]
  have:s≠i:=λz=>h (by simp[z])
  simp[aCF this]
def dn(n:Int)(gs cs:List Int):Dd->List Int
 |.add s c g t=>cs.set s ((cs.getD s 0+c*pr gs g*pr cs t) % n)
 |.scale s u=>cs.set s (cs.getD s 0*u % n)
def rn(n:Int)(gs:List Int)(ds:List Dd)(cs:List Int):List Int:=ds.foldl (λcs d=>dn n gs cs d) cs
theorem vA :rn n gs [] cs=cs:=rfl
variable{d:Dd}{ds:List Dd}
theorem kO :rn n gs (d::ds) cs=rn n gs ds (dn n gs cs d):=rfl
theorem dZ{es:List Dd}:rn n gs (ds++es) cs=rn n gs es (rn n gs ds cs):=by simp[rn]
theorem xI :(dn n gs cs d).length=cs.length:=by cases d <;> simp[dn]
theorem xN :∀{cs:List Int},(rn n gs ds cs).length=cs.length:=by
 induction ds with
 |nil=>intro cs;rfl
 |cons d ds ih=>intro cs;rw[kO,ih,xI]
def Rs(n:Int)(cs:List Int):Prop:=∀c∈cs,0<=c/\c < n
theorem Rs.getD{n:Int}{cs:List Int}(h:Rs n cs){i:Nat}(hi:i < cs.length):0<=cs.getD i 0/\cs.getD i 0 < n:=h _ (by simp[hi])
theorem Rs.getD0(h:Rs n cs)(hn:0 < n):0<=cs.getD i 0/\cs.getD i 0 < n:=by
 by_cases hi:i < cs.length
 ·exact h.getD hi
 ·simp[aCL (Nat.le_of_not_lt hi)];exact hn
theorem Rs.set{n:Int}{cs:List Int}(h:Rs n cs){i:Nat}{v:Int}(l:0<=v)(u:v < n):Rs n (cs.set i v):=by
 intro c hc
 rcases List.mem_or_eq_of_mem_set hc with hc|rfl
 ·exact h c hc
 ·exact⟨l,u⟩
theorem Rs.setM(hn:0 < n)(h:Rs n cs) :Rs n (cs.set i (v % n)):=h.set (aBM _ (by lia)) (aAY _ hn)
theorem Rs.dn{n:Int}{gs cs:List Int}(hn:0 < n)(h:Rs n cs){d:Dd}:Rs n (dn n gs cs d):=by cases d <;> exact h.setM hn
theorem Rs.rn{n:Int}{gs:List Int}(hn:0 < n){ds:List Dd}:∀{cs:List Int},Rs n cs->Rs n (rn n gs ds cs):=by
 induction ds with
 |nil=>intro cs h;exact h
 |cons d ds ih=>intro cs h;rw[kO];exact ih (h.dn hn)
def IsIv(n u v:Int):Prop:=0<=v/\v < n/\(u*v) % n=1 % n
variable{u:Int}
theorem IsIv.uniq{w:Int}(h:IsIv n u v)(g:IsIv n u w):v=w:=by
 obtain⟨l,k,e⟩:=h
 obtain⟨l',k',e'⟩:=g
 have e1:Cg n (u*v) 1:=Cg.of e
 have e2:Cg n (u*w) 1:=Cg.of e'
 have:Cg n v w:=by
  have h1:Cg n v (v*(u*w)):=by simpa using Cg.mul (Cg.rfl (a:=v)) e2.symm
  have h2:Cg n ((u*v)*w) (1*w):=Cg.mul e1 Cg.rfl
  exact h1.trans ((Cg.of_eq (by grind)).trans (h2.trans (Cg.of_eq (by grind))))
 have:=this.emod
 rwa[aDS l k,aDS l' k']at this
open Classical in
def iv(n u:Int):Int:=if h:∃v,IsIv n u v then Classical.choose h else 0
theorem aIg(h:IsIv n u v):iv n u=v:=by
 have hx:∃v,IsIv n u v:=⟨v,h⟩
 unfold iv
 rw[dif_pos hx]
 exact(Classical.choose_spec hx).uniq h
theorem zS(h:∃v,IsIv n u v):IsIv n u (iv n u):=by obtain⟨v,h⟩:=h;rw[aIg h];exact h
def Un(n u:Int):Prop:=0<=u/\u < n/\∃v,IsIv n u v
theorem Un.iv{n u:Int}(h:Un n u):Un n (iv n u):=by
 have h':=zS h.2.2
 exact⟨h'.1,h'.2.1,u,h.1,h.2.1,by rw[Int.mul_comm];exact h'.2.2⟩
theorem aUy(h:Un n u):LS.iv n (LS.iv n u)=u:=aIg ⟨h.1,h.2.1,by rw[Int.mul_comm];exact(zS h.2.2).2.2⟩
noncomputable def OkD(n:Int)(G S:Nat):Dd->Prop
 |.add s c g t=>s < S/\0<=c/\c < n/\(∀i∈g,i < G)/\(∀i∈t,i < S)/\s∉t/\g.length<=4/\t.length<=4
 |.scale s u=>s < S/\Un n u
def bD(n:Int):Dd->Dd
 |.add s c g t=>.add s (-c % n) g t
 |.scale s u=>.scale s (iv n u)
def bDs(n:Int)(ds:List Dd):List Dd:=ds.reverse.map (bD n)
theorem OkD.back(hn:0 < n)(h:OkD n G S d):OkD n G S (bD n d):=by
 cases d with
 |add s c g t=>obtain⟨a,b,c,r⟩:=h;exact⟨a,aBM _ (by lia),aAY _ hn,r⟩
 |scale s u=>exact⟨h.1,h.2.iv⟩
theorem OkD.backs{n:Int}(hn:0 < n){ds:List Dd}(h:∀d∈ds,OkD n G S d):∀d∈bDs n ds,OkD n G S d:=by
 intro d hd
 obtain⟨x,hx,rfl⟩:=aBK.mp hd
 exact(h x (aET.mp hx)).back hn
theorem aTz(hn:0 < n)(h:OkD n G S d):bD n (bD n d)=d:=by
 cases d with
 |add s c g t =>
  obtain⟨a,b,c',r⟩:=h
  simp only[bD,Dd.add.injEq,true_and,and_true]
  apply nX (b) (c')
  ·rfl'
  ·grind
 |scale s u=>simp only[bD,aUy h.2]
theorem xZ(hn:0 < n){ds:List Dd}(h:∀d∈ds,OkD n G S d):bDs n (bDs n ds)=ds:=by
 unfold bDs
 rw[<- aFT,List.reverse_reverse,aCA]
 conv=>rhs;rw[<- List.map_id ds]
 exact aCY λd hd=>aTz hn (h d hd)
theorem kD{es:List Dd}:bDs n (ds++es)=bDs n es++bDs n ds:=by simp[bDs]
theorem cF :(bDs n ds).length=ds.length:=by simp[bDs]
theorem oE(cs:List Int)(s:Nat):cs.set s (cs.getD s 0)=cs:=by
 apply aHD
 intro i
 by_cases hi:s=i
 ·subst hi
  by_cases h:s < cs.length
  ·rw[aBV h];simp[h]
  ·rw[aCL (by simpa using h),aCL (by simpa using h)]
 ·rw[aCF hi]
theorem bH(h:s < cs.length):(cs.set s v).getD s 0=v:=by simp[h]
theorem bP(h:s≠i):(cs.set s v).getD i 0=cs.getD i 0:=by simp[aCF h]
theorem aOj(hn:0 < n)(hc:Rs n cs)(h:OkD n G cs.length d):dn n gs (dn n gs cs d) (bD n d)=cs:=by
 cases d with
 |add s c g t =>
  obtain⟨hs,_,_,_,_,hst,_⟩:=h
  simp only[dn,bD]
  rw[bH hs,aRh hst,aCM]
  have:((cs.getD s 0+c*pr gs g*pr cs t) % n + -c % n*pr gs g*pr cs t) % n=cs.getD s 0:=by
   apply nX ((hc.getD hs).1) ((hc.getD hs).2)
   ·rfl'
   ·grind
  rw[this,oE]
 |scale s u =>
  obtain⟨hs,hu⟩:=h
  simp only[dn,bD]
  rw[bH hs,aCM]
  have:cs.getD s 0*u % n*iv n u % n=cs.getD s 0:=by
   have e:Cg n (u*iv n u) 1:=Cg.of (zS hu.2.2).2.2
   have h1:Cg n (cs.getD s 0*u % n*iv n u) (cs.getD s 0*(u*iv n u)):=(Cg.mul Cg.mod Cg.rfl).trans (Cg.of_eq (by grind))
   have h2:=(h1.trans (Cg.mul Cg.rfl e)).emod
   rw[h2,Int.mul_one,aDS (hc.getD hs).1 (hc.getD hs).2]
  rw[this,oE]
theorem aGh(hn:0 < n){ds:List Dd}:∀{cs:List Int},Rs n cs->(∀d∈ds,OkD n G cs.length d)->rn n gs (bDs n ds) (rn n gs ds cs)=cs:=by
 induction ds with
 |nil=>intro cs _ _;rfl
 |cons d ds ih =>
  intro cs hc h
  have e:bDs n (d::ds)=bDs n ds++[bD n d]:=by simp[bDs]
  rw[e,dZ,kO (ds:=ds),ih (hc.dn hn) (λx hx=>by rw[xI];exact h x (by simp[hx]))]
  exact aOj hn hc (h d (by simp))
inductive Wd|sum|less|times
def Wd.str:Wd->Str
 |.sum=>"sum"
 |.less=>"less"
 |.times=>"times"
def Wd.ev(n:Int):Wd->Int->Int->Int
 |.sum,x,y=>(x+y) % n
 |.less,x,y=>(x - y) % n
 |.times,x,y=>x*y % n
inductive E
 |num (c:Int)
 |giv (i:Nat)
 |op (w:Wd) (a b:E)
noncomputable def enc:E->D
 |.num c=>.tup [.str "num",.int c]
 |.giv i=>.tup [.str "given",.int i]
 |.op w a b=>.tup [.str w.str,enc a,enc b]
noncomputable def val(n:Int)(gs:List Int):E->Int
 |.num c=>c % n
 |.giv i=>gs.getD i 0
 |.op w a b=>w.ev n (val n gs a) (val n gs b)
noncomputable def dp:E->Nat
 |.num _=>0
 |.giv _=>0
 |.op _ a b=>max (dp a) (dp b)+1
noncomputable def wf(m:Nat):E->Prop
 |.num c=>0<=c/\c < 1000000
 |.giv i=>i < m
 |.op _ a b=>wf m a/\wf m b
theorem wf.mono{m k:Nat}(h:m<=k):∀{e:E},wf m e->wf k e
 |.num _,w=>w
 |.giv _,w=>aAR w h
 |.op _ _ _,w=>⟨w.1.mono h,w.2.mono h⟩
theorem rR(hn:0 < n)(hg:Rs n gs):∀{e:E},0<=val n gs e/\val n gs e < n:=by
 intro e
 cases e with
 |num c=>exact⟨aBM _ (by lia),aAY _ hn⟩
 |giv i=>exact hg.getD0 hn
 |op w a b=>cases w <;> exact⟨aBM _ (by lia),aAY _ hn⟩
def rowBy(n:Int):E->Nat->Nat->Nat->List Dd
 |.num c,s,b,_=>[.add s (c % n) [] [b]]
 |.giv i,s,b,_=>[.add s 1 [i] [b]]
 |.op .sum x y,s,b,c=>rowBy n x s b c++rowBy n y s b c
 |.op .less x y,s,b,c=>rowBy n x s b c++bDs n (rowBy n y s b c)
 |.op .times x y,s,b,c=>rowBy n y c b s++rowBy n x s c b++bDs n (rowBy n y c b s)++bDs n (rowBy n x s c b)
def rowAl(n:Int):E->Nat->Nat->Nat->List Dd
 |.num c,s,_,_=>[.add s (c % n) [] []]
 |.giv i,s,_,_=>[.add s 1 [i] []]
 |.op .sum x y,s,b,c=>rowAl n x s b c++rowAl n y s b c
 |.op .less x y,s,b,c=>rowAl n x s b c++bDs n (rowAl n y s b c)
 |.op .times x y,s,b,c=>rowAl n y c b s++rowBy n x s c b++bDs n (rowAl n y c b s)++bDs n (rowBy n x s c b)
noncomputable def many:E->Nat
 |.num _=>1
 |.giv _=>1
 |.op .times a b=>2*(many a+many b)
 |.op _ a b=>many a+many b
theorem bJ{n:Int}:∀{e:E} {s b c:Nat},(rowBy n e s b c).length=many e
 |.num _,_,_,_=>rfl
 |.giv _,_,_,_=>rfl
 |.op .sum x y,s,b,c=>by simp[rowBy,many,bJ (e:=x),bJ (e:=y)]
 |.op .less x y,s,b,c=>by simp[rowBy,many,cF,bJ (e:=x),bJ (e:=y)]
 |.op .times x y,s,b,c=>by simp[rowBy,many,cF,bJ (e:=x),bJ (e:=y)];lia
theorem bU{n:Int}:∀{e:E} {s b c:Nat},(rowAl n e s b c).length=many e
 |.num _,_,_,_=>rfl
 |.giv _,_,_,_=>rfl
 |.op .sum x y,s,b,c=>by simp[rowAl,many,bU (e:=x),bU (e:=y)]
 |.op .less x y,s,b,c=>by simp[rowAl,many,cF,bU (e:=x),bU (e:=y)]
 |.op .times x y,s,b,c=>by simp[rowAl,many,cF,bJ (e:=x),bU (e:=y)];lia
theorem zN:∀{e:E},many e<=4 ^ dp e
 |.num _=>by simp[many,dp]
 |.giv _=>by simp[many,dp]
 |.op w a b=>by
  have h1:=zN (e:=a)
  have h2:=zN (e:=b)
  have h3:4 ^ dp a<=4 ^ max (dp a) (dp b):=aCG (by lia) (by lia)
  have h4:4 ^ dp b<=4 ^ max (dp a) (dp b):=aCG (by lia) (by lia)
  have h5:4 ^ dp (.op w a b)=4 ^ max (dp a) (dp b)*4:=by simp only[dp,aFC]
  rw[h5]
  cases w <;> simp only[many] <;> lia
theorem aZ{P:Dd->Prop}{a b:List Dd}(h:∀d∈a,P d)(g:∀d∈b,P d):∀d∈a++b,P d:=λd hd=>(aBN.mp hd).elim (h d) (g d)
theorem cG{n:Int}{G S:Nat}(hn:1 < n):∀{e:E} {s b c:Nat},wf G e->s < S->b < S->c < S->s≠b->s≠c->b≠c->∀d∈rowBy n e s b c,OkD n G S d
 |.num k,s,b,c,_,hs,hb,_,h1,_,_=>by
  intro d hd
  simp only[rowBy,aAQ]at hd
  subst hd
  exact⟨hs,aBM _ (by lia),aAY _ (by lia),by simp,by simpa using hb,by simpa using h1,by simp,by simp⟩
 |.giv i,s,b,c,hw,hs,hb,_,h1,_,_=>by
  intro d hd
  simp only[rowBy,aAQ]at hd
  subst hd
  exact⟨hs,by lia,hn,by simpa[wf]using hw,by simpa using hb,by simpa using h1,by simp,by simp⟩
 |.op .sum x y,s,b,c,hw,hs,hb,hc,h1,h2,h3=>aZ (cG hn hw.1 hs hb hc h1 h2 h3) (cG hn hw.2 hs hb hc h1 h2 h3)
 |.op .less x y,s,b,c,hw,hs,hb,hc,h1,h2,h3=>aZ (cG hn hw.1 hs hb hc h1 h2 h3) (OkD.backs (by lia) (cG hn hw.2 hs hb hc h1 h2 h3))
 |.op .times x y,s,b,c,hw,hs,hb,hc,h1,h2,h3 =>
  aZ (aZ (aZ (cG hn hw.2 hc hb hs h3.symm h2.symm h1.symm) (cG hn hw.1 hs hc hb h2 h1 h3.symm)) (OkD.backs (by lia) (cG hn hw.2 hc hb hs h3.symm h2.symm h1.symm))) (OkD.backs (by lia) (cG hn hw.1 hs hc hb h2 h1 h3.symm))
theorem eP{n:Int}{G S:Nat}(hn:1 < n):∀{e:E} {s b c:Nat},wf G e->s < S->b < S->c < S->s≠b->s≠c->b≠c->∀d∈rowAl n e s b c,OkD n G S d
 |.num k,s,b,c,_,hs,hb,_,h1,_,_=>by
  intro d hd
  simp only[rowAl,aAQ]at hd
  subst hd
  exact⟨hs,aBM _ (by lia),aAY _ (by lia),by simp,by simp,by simp,by simp,by simp⟩
 |.giv i,s,b,c,hw,hs,hb,_,h1,_,_=>by
  intro d hd
  simp only[rowAl,aAQ]at hd
  subst hd
  exact⟨hs,by lia,hn,by simpa[wf]using hw,by simp,by simp,by simp,by simp⟩
 |.op .sum x y,s,b,c,hw,hs,hb,hc,h1,h2,h3=>aZ (eP hn hw.1 hs hb hc h1 h2 h3) (eP hn hw.2 hs hb hc h1 h2 h3)
 |.op .less x y,s,b,c,hw,hs,hb,hc,h1,h2,h3=>aZ (eP hn hw.1 hs hb hc h1 h2 h3) (OkD.backs (by lia) (eP hn hw.2 hs hb hc h1 h2 h3))
 |.op .times x y,s,b,c,hw,hs,hb,hc,h1,h2,h3 =>
  aZ (aZ (aZ (eP hn hw.2 hc hb hs h3.symm h2.symm h1.symm) (cG hn hw.1 hs hc hb h2 h1 h3.symm)) (OkD.backs (by lia) (eP hn hw.2 hc hb hs h3.symm h2.symm h1.symm))) (OkD.backs (by lia) (cG hn hw.1 hs hc hb h2 h1 h3.symm))
theorem sY(hn:0 < n){ds:List Dd}{b:Nat}(hs:s < S)(hsb:s≠b)(h:∀d∈ds,OkD n G S d)
  (r:∀cs,Rs n cs->cs.length=S->rn n gs ds cs=cs.set s ((cs.getD s 0+v*cs.getD b 0) % n)):∀cs,Rs n cs->cs.length=S->rn n gs (bDs n ds) cs=cs.set s ((cs.getD s 0 - v*cs.getD b 0) % n):=by
 intro cs hc hl
 have h1:Rs n (cs.set s ((cs.getD s 0 - v*cs.getD b 0) % n)):=hc.setM hn
 have h2:=r _ h1 (by simpa using hl)
 rw[bH (by lia),bP hsb,aCM]at h2
 have e:((cs.getD s 0 - v*cs.getD b 0) % n+v*cs.getD b 0) % n=cs.getD s 0:=by
  apply nX ((hc.getD (by lia)).1) ((hc.getD (by lia)).2)
  ·rfl'
  ·grind
 rw[e,oE]at h2
 have:=aGh (gs:=gs) (ds:=ds) hn h1 (by simpa[hl]using h)
 rwa[h2]at this
theorem aBs(h:i≠j)(a b:Int):(cs.set i a).set j b=(cs.set j b).set i a:=List.set_comm _ _ h
theorem iM{n:Int}{gs:List Int}{S:Nat}(hn:1 < n):∀{e:E} {s b c:Nat},wf gs.length e->s < S->b < S->c < S->s≠b->s≠c->b≠c ->
  ∀cs,Rs n cs->cs.length=S->rn n gs (rowBy n e s b c) cs=cs.set s ((cs.getD s 0+val n gs e*cs.getD b 0) % n)
 |.num k,s,b,c,_,hs,hb,_,h1,_,_=>by
  intro cs hc hl
  simp only[rowBy,kO,vA,dn,uE,aAb,val]
  congr 1
  apply hZ
  ·rfl'
  ·rfl'
  ·grind
 |.giv i,s,b,c,_,hs,hb,_,h1,_,_=>by
  intro cs hc hl
  simp only[rowBy,kO,vA,dn,uE,aAb,val]
  congr 1
  apply hZ
  ·rfl'
  ·rfl'
  ·grind
 |.op .sum x y,s,b,c,hw,hs,hb,hc,h1,h2,h3=>by
  intro cs hcs hl
  have r1:=iM hn hw.1 hs hb hc h1 h2 h3
  have r2:=iM hn hw.2 hs hb hc h1 h2 h3
  simp only[rowBy,val,Wd.ev]
  rw[dZ,r1 cs hcs hl,r2 _ (hcs.setM (by lia)) (by simpa using hl),bH (by lia),bP h1,aCM]
  congr 1
  apply hZ
  ·rfl'
  ·rfl'
  ·grind
 |.op .less x y,s,b,c,hw,hs,hb,hc,h1,h2,h3=>by
  intro cs hcs hl
  have r1:=iM hn hw.1 hs hb hc h1 h2 h3
  have r2:=sY (G:=gs.length) (by lia) hs h1 (cG hn hw.2 hs hb hc h1 h2 h3) (iM hn hw.2 hs hb hc h1 h2 h3)
  simp only[rowBy,val,Wd.ev]
  rw[dZ,r1 cs hcs hl,r2 _ (hcs.setM (by lia)) (by simpa using hl),bH (by lia),bP h1,aCM]
  congr 1
  apply hZ
  ·rfl'
  ·rfl'
  ·grind
 |.op .times x y,s,b,c,hw,hs,hb,hc,h1,h2,h3=>by
  intro cs hcs hl
  have r1:=iM hn hw.2 hc hb hs h3.symm h2.symm h1.symm
  have r2:=iM hn hw.1 hs hc hb h2 h1 h3.symm
  have r3:=sY (G:=gs.length) (by lia) hc h3.symm (cG hn hw.2 hc hb hs h3.symm h2.symm h1.symm) r1
  have r4:=sY (G:=gs.length) (by lia) hs h2 (cG hn hw.1 hs hc hb h2 h1 h3.symm) r2
  simp only[rowBy,val,Wd.ev]
  have n0:0 < n:=by lia
  have q1:=hcs.setM n0 (i:=c) (v:=cs.getD c 0+val n gs y*cs.getD b 0)
  rw[dZ,dZ,dZ,r1 cs hcs hl,r2 _ q1 (by simpa using hl),r3 _ (q1.setM n0) (by simpa using hl),r4 _ ((q1.setM n0).setM n0) (by simpa using hl)]
  have hl1:s < cs.length:=by lia
  have hl2:c < cs.length:=by lia
  simp only[bP h2,bP h2.symm,bP h3.symm,bP h3,bP h1,bP h1.symm,bH hl2,bH (cs:=cs.set c _) (s:=s) (by simpa using hl1),bH (cs:=(cs.set c _).set s _) (s:=c) (by simpa using hl2)]
  rw[aBs h2,aCM,aCM]
  have e1:((cs.getD c 0+val n gs y*cs.getD b 0) % n - val n gs y*cs.getD b 0) % n=cs.getD c 0:=by
   apply nX ((hcs.getD hl2).1) ((hcs.getD hl2).2)
   ·rfl'
   ·grind
  rw[e1,oE]
  congr 1
  apply hZ
  ·rfl'
  ·rfl'
  ·grind
theorem aFc(hn:0 < n){ds:List Dd}(hs:s < S)(h:∀d∈ds,OkD n G S d)
  (r:∀cs,Rs n cs->cs.length=S->rn n gs ds cs=cs.set s ((cs.getD s 0+v) % n)):∀cs,Rs n cs->cs.length=S->rn n gs (bDs n ds) cs=cs.set s ((cs.getD s 0 - v) % n):=by
 intro cs hc hl
 have h1:Rs n (cs.set s ((cs.getD s 0 - v) % n)):=hc.setM hn
 have h2:=r _ h1 (by simpa using hl)
 rw[bH (by lia),aCM]at h2
 have e:((cs.getD s 0 - v) % n+v) % n=cs.getD s 0:=by
  apply nX ((hc.getD (by lia)).1) ((hc.getD (by lia)).2)
  ·rfl'
  ·grind
 rw[e,oE]at h2
 have:=aGh (gs:=gs) (ds:=ds) hn h1 (by simpa[hl]using h)
 rwa[h2]at this
theorem jT{n:Int}{gs:List Int}{S:Nat}(hn:1 < n):∀{e:E} {s b c:Nat},wf gs.length e->s < S->b < S->c < S->s≠b->s≠c->b≠c ->
  ∀cs,Rs n cs->cs.length=S->rn n gs (rowAl n e s b c) cs=cs.set s ((cs.getD s 0+val n gs e) % n)
 |.num k,s,b,c,_,hs,hb,_,h1,_,_=>by
  intro cs hc hl
  simp only[rowAl,kO,vA,dn,uE,aAb,val]
  congr 1
  apply hZ
  ·rfl'
  ·rfl'
  ·grind
 |.giv i,s,b,c,_,hs,hb,_,h1,_,_=>by
  intro cs hc hl
  simp only[rowAl,kO,vA,dn,uE,aAb,val]
  congr 1
  apply hZ
  ·rfl'
  ·rfl'
  ·grind
 |.op .sum x y,s,b,c,hw,hs,hb,hc,h1,h2,h3=>by
  intro cs hcs hl
  have r1:=jT hn hw.1 hs hb hc h1 h2 h3
  have r2:=jT hn hw.2 hs hb hc h1 h2 h3
  simp only[rowAl,val,Wd.ev]
  rw[dZ,r1 cs hcs hl,r2 _ (hcs.setM (by lia)) (by simpa using hl),bH (by lia),aCM]
  congr 1
  apply hZ
  ·rfl'
  ·rfl'
  ·grind
 |.op .less x y,s,b,c,hw,hs,hb,hc,h1,h2,h3=>by
  intro cs hcs hl
  have r1:=jT hn hw.1 hs hb hc h1 h2 h3
  have r2:=aFc (G:=gs.length) (by lia) hs (eP hn hw.2 hs hb hc h1 h2 h3) (jT hn hw.2 hs hb hc h1 h2 h3)
  simp only[rowAl,val,Wd.ev]
  rw[dZ,r1 cs hcs hl,r2 _ (hcs.setM (by lia)) (by simpa using hl),bH (by lia),aCM]
  congr 1
  apply hZ
  ·rfl'
  ·rfl'
  ·grind
 |.op .times x y,s,b,c,hw,hs,hb,hc,h1,h2,h3=>by
  intro cs hcs hl
  have r1:=jT hn hw.2 hc hb hs h3.symm h2.symm h1.symm
  have r2:=iM hn hw.1 hs hc hb h2 h1 h3.symm
  have r3:=aFc (G:=gs.length) (by lia) hc (eP hn hw.2 hc hb hs h3.symm h2.symm h1.symm) r1
  have r4:=sY (G:=gs.length) (by lia) hs h2 (cG hn hw.1 hs hc hb h2 h1 h3.symm) r2
  simp only[rowAl,val,Wd.ev]
  have n0:0 < n:=by lia
  have q1:=hcs.setM n0 (i:=c) (v:=cs.getD c 0+val n gs y)
  rw[dZ,dZ,dZ,r1 cs hcs hl,r2 _ q1 (by simpa using hl),r3 _ (q1.setM n0) (by simpa using hl),r4 _ ((q1.setM n0).setM n0) (by simpa using hl)]
  have hl1:s < cs.length:=by lia
  have hl2:c < cs.length:=by lia
  simp only[bP h2,bP h2.symm,bP h3.symm,bP h3,bP h1,bP h1.symm,bH hl2,bH (cs:=cs.set c _) (s:=s) (by simpa using hl1),bH (cs:=(cs.set c _).set s _) (s:=c) (by simpa using hl2)]
  rw[aBs h2,aCM,aCM]
  have e1:((cs.getD c 0+val n gs y) % n - val n gs y) % n=cs.getD c 0:=by
   apply nX ((hcs.getD hl2).1) ((hcs.getD hl2).2)
   ·rfl'
   ·grind
  rw[e1,oE]
  congr 1
  apply hZ
  ·rfl'
  ·rfl'
  ·grind
end LS
variable{ds:List LS.Dd}
namespace LS
open PySem L2 EV
variable{EX:D->Mm->Prop}
theorem at0(d:D)(ds:List D):atI (d::ds) 0=some d:=by
 simp only[atI,ixN,aBA]
 rw[aAJ (by lia),aAJ (by lia)]
 rfl
theorem at2I(x y:Int)(c:Bool):atI [D.int x,D.int y] (if c=true then 1 else 0)=some (D.int (if c=true then y else x)):=by cases c <;> rfl
theorem at4{d:Int}(l:0<=d)(u:d < 4)(x y z t:D):∃w,atI [x,y,z,t] d=some w/\(w=x\/w=y\/w=z\/w=t):=by
 have:d=0\/d=1\/d=2\/d=3:=by lia
 rcases this with rfl|rfl|rfl|rfl
 ·exact⟨x,rfl,by simp⟩
 ·exact⟨y,rfl,by simp⟩
 ·exact⟨z,rfl,by simp⟩
 ·exact⟨t,rfl,by simp⟩
theorem atInts{i:Int}(l:0<=i)(u:i < ns.length):∃n,atI (ns.map D.int) i=some (.int n)/\n∈ns:=by
 have hi:i.toNat < ns.length:=by lia
 refine⟨ns[i.toNat],?_,by simp⟩
 simp only[atI,ixN,aAL]
 rw[aAJ l,aAJ u]
 simp[hi]
theorem kT(h:i < cs.length):atI (cs.map D.int) (i:Int)=some (.int (cs.getD i 0)):=by
 simp only[atI,ixN,aAL]
 rw[aAJ (by lia),aAJ (by lia)]
 simp[h]
theorem aKs{c:Int}(l:0<=c)(u:c < n)(hn:n<=1000000):(-18446744073709551616 < c/\c < 18446744073709551616):=by lia
variable{s:Nat}
theorem tE{cs:List D}(h:s<=cs.length):cut cs none (some (s:Int))=cs.take s:=by
 simp only[cut,HT.sIx]
 rw[aAI (by lia)]
 simp only[aDJ,Nat.sub_zero,aBP]
 rw[aEY h]
theorem tX{cs:List D}(h:s<=cs.length):cut cs (some (s:Int)) none=cs.drop s:=by
 simp only[cut,HT.sIx]
 rw[aAI (by lia)]
 simp only[aBP]
 rw[aEY h,aAS (by simp)]
theorem yS{v:Int}(h:s < cs.length):(cs.map D.int).take s++[D.int v]++(cs.map D.int).drop (s+1)=(cs.set s v).map D.int:=by
 rw[List.set_eq_take_append_cons_drop,aAJ h]
 simp
theorem uG{a b:Int}{x y:Nat}(ha:a.natAbs<=x)(hb:b.natAbs<=y):(a*b).natAbs<=x*y:=by
 rw[Int.natAbs_mul];exact Nat.mul_le_mul ha hb
theorem aPs{n:Int}{xs:List Int}(hx:Rs n xs)(hn:0 < n)(hn2:n<=1000000):∀is:List Nat,(pr xs is).natAbs<=1000000 ^ is.length
 |[]=>by simp[uE]
 |i::r=>by
  rw[zV,aBA,aFC,Nat.mul_comm]
  have:=hx.getD0 hn (i:=i)
  exact uG (by lia) (aPs hx hn hn2 r)
theorem aJa{xs:List Int}(hx:Rs n xs)(hn:0 < n)(hn2:n<=1000000){is:List Nat}(h:is.length<=4):(pr xs is).natAbs<=1000000000000000000000000 :=
 aBO (aPs hx hn hn2 is) (aBO (aCG (by lia) h) (by decide))
variable{i:Int}
theorem aIq(h:i.natAbs<=m)(hm:m < 2 ^ 200):i.natAbs < lid:=aQb (m:=200) (Nat.lt_of_le_of_lt h hm) (by lia)
def encP(n G S:Int)(ds:List Dd):D:=.tup [.int n,.int G,.int S,.tup (ds.map encD)]
theorem aHu(l:List Int):∀i:Nat,(l.map D.int).eraseIdx i=(l.eraseIdx i).map D.int:=by
 induction l with
 |nil=>intro i;rfl
 |cons x r ih=>intro i;cases i with
  |zero=>rfl
  |succ i=>simp[List.eraseIdx,ih]
theorem aCx(l:List Int):∀(i:Nat) (h:i < l.length),List.Perm (l[i]::l.eraseIdx i) l:=by
 induction l with
 |nil=>intro i h;simp at h
 |cons x r ih=>intro i h;cases i with
  |zero=>exact .refl _
  |succ i=>exact(List.Perm.swap x (r[i]'(by simpa using h)) (r.eraseIdx i)).trans ((ih i (by simpa using h)).cons x)
theorem aKi{Q:W->Mm->Prop}{k:Nat}{xs:List D}{d:D}(h:M[k]?=some xs)(h0:0<=i)(hi:i < xs.length)(hz:xs.length<=16777216)(hd:xs[i.toNat]?=some d)(q:Q (.d d) (M.set k (xs.eraseIdx i.toNat))):Okx EX (pPopAt (.ref k) (.d (.int i)) M) Q:=by
 unfold pPopAt
 simp only[h]
 rw[aGR h0 hi]
 simp only[hd]
 rw[aAJ (by lia)]
 exact aU q
theorem aFz{w:Wd}{x y:E}:many x+many y<=many (.op w x y):=by cases w <;> simp only[many] <;> lia
mutual
theorem tZ:∀d:D,eqD d d=true
 |.non=>by simp[eqD]
 |.bl b=>by simp[eqD]
 |.int i=>by simp[eqD]
 |.str x=>by simp[eqD]
 |.tup xs=>by simp only[eqD];exact lK xs
 |.lst xs=>by simp only[eqD];exact lK xs
 |.fz xs=>by simp only[eqD];exact lK xs
 |.exn c f xs=>by simp only[eqD];rw[lK xs];simp
theorem lK:∀ds:List D,eqDs ds ds=true
 |[]=>by simp[eqDs]
 |d::ds=>by simp only[eqDs,tZ d,lK ds,Bool.and_true]
end
theorem aLv(xs:List Int):dep (intsD xs)<=3:=by
 have:deps (xs.map D.int)<=1:=by
  induction xs with
  |nil=>simp[deps]
  |cons x r ih=>simp[deps,dep];lia
 simp only[intsD,dep]
 lia
theorem aBy(xs:List Int):dep (intsD xs)<=100:=aBO (aLv xs) (by lia)
variable{x y:W}{Q:W->Mm->Prop}
theorem aRz{a b:D}(h1:wd M x=some a)(h2:wd M y=some b)(e:a=b)(hd:dep a<=100)(q:Q (.d (.bl true)) M):Okx EX (pEq x y M) Q:=by
 subst e
 exact aLz h1 h2 ⟨hd,hd⟩ (by rw[tZ];exact q)
theorem aCp{a b:D}(h1:wd M x=some a)(h2:wd M y=some b)(e:a=b)(hd:dep a<=100)(q:Q (.d (.bl false)) M):Okx EX (pNe x y M) Q:=by
 subst e
 exact aFh h1 h2 ⟨hd,hd⟩ (by rw[tZ];exact q)
end LS
namespace LS
open PySem L2 EV
variable{EX:D->Mm->Prop}
theorem natsOf{xs:List Int}(h:∀x∈xs,0<=x):∃ks:List Nat,xs=ks.map (λk:Nat=>(k:Int)):=by
 refine⟨xs.map Int.toNat,?_⟩
 rw[aCA]
 conv=>lhs;rw[<- List.map_id xs]
 exact aCY λx hx=>by simp;have:=h x hx;lia
def SrtD:Dd->Prop
 |.add _ _ g t=>g.Pairwise (·<=·)/\t.Pairwise (·<=·)
 |.scale _ _=>True
theorem aAk(ns:List Nat):∃ks:List Nat,srt (ns.map λk:Nat=>(k:Int))=ks.map (λk:Nat=>(k:Int))/\ks.Perm ns/\ks.Pairwise (·<=·):=by
 obtain⟨ks,e⟩:=natsOf (xs:=srt (ns.map λk:Nat=>(k:Int))) (λx hx=>by
  rw[aNo]at hx;obtain⟨k,_,rfl⟩:=aBK.mp hx;lia)
 refine⟨ks,e,?_,?_⟩
 ·have p:=pP (ns.map λk:Nat=>(k:Int))
  rw[e]at p
  have:=p.map Int.toNat
  simpa[aCA,Function.comp_def]using this
 ·have o:=vG (ns.map λk:Nat=>(k:Int))
  rw[e,List.pairwise_map]at o
  exact o.imp λh=>by lia
theorem kP(ns:List Nat):(ns.map λx=>D.int (x:Nat))=(ns.map λk:Nat=>(k:Int)).map D.int:=by rw[aCA];rfl
end LS
namespace LS
open PySem L2 EV
variable{EX:D->Mm->Prop}
end LS
namespace LS
open PySem L2 EV
variable{EX:D->Mm->Prop}
def srtN(ns:List Nat):List Nat:=(srt (ns.map λk:Nat=>(k:Int))).map Int.toNat
theorem aHo(ns:List Nat):srt (ns.map λk:Nat=>(k:Int))=(srtN ns).map λk:Nat=>(k:Int):=by
 obtain⟨ks,e,_,_⟩:=aAk ns
 unfold srtN
 rw[e,aCA,aCA]
 exact aCY λx _=>by simp
theorem xA(ns:List Nat):(srtN ns).Perm ns:=by
 obtain⟨ks,e,p,_⟩:=aAk ns
 have:srtN ns=ks:=by unfold srtN;rw[e,aCA];conv=>rhs;rw[<- List.map_id ks]
                     exact aCY λx _=>by simp
 rw[this];exact p
noncomputable def pl(ps:List Nat)(i:Nat):Nat:=ps.getD i 0
def mxN(ps:List Nat):Nat:=(mxL (ps.map λk:Nat=>(k:Int))).toNat
variable{ps:List Nat}
theorem pQ(h:ps≠[]):mxL (ps.map λk:Nat=>(k:Int))=(mxN ps:Nat):=by
 have:=xX (ns:=ps.map λk:Nat=>(k:Int)) (by simpa using h)
 obtain⟨k,_,e⟩:=aBK.mp this
 unfold mxN
 rw[<- e];simp
theorem aDr{k:Nat}(h:k∈ps):k<=mxN ps:=by
 have h0:ps≠[]:=by rintro rfl;cases h
 have:=aJo (ns:=ps.map λk:Nat=>(k:Int)) (a:=k) (aBK.mpr ⟨k,h,rfl⟩)
 rw[pQ h0]at this
 lia
theorem aOe(h:ps≠[]):mxN ps∈ps:=by
 have:=xX (ns:=ps.map λk:Nat=>(k:Int)) (by simpa using h)
 rw[pQ h]at this
 obtain⟨k,hk,e⟩:=aBK.mp this
 have:k=mxN ps:=by lia
 rw[<- this];exact hk
def rnD(ps:List Nat):Dd->Dd
 |.add s c g t=>.add (pl ps s) c g (srtN (t.map (pl ps)))
 |.scale s u=>.scale (pl ps s) u
theorem aAe{ns:List Nat}(h:i < ns.length):atI (ns.map λx=>D.int (x:Nat)) (i:Int)=some (.int (pl ns i:Nat)):=by
 simp only[atI,ixN,aAL]
 rw[aAJ (by lia),aAJ (by lia)]
 simp[pl,h]
end LS
namespace LS
open PySem L2 EV
variable{EX:D->Mm->Prop}
def ho:Dd->Dd->Bool
 |.scale _ _,_=>false
 |.add s _ _ t,.scale s' _=>decide (s'=s) || decide (s'∈t)
 |.add _ _ _ t,.add s' _ _ _=>decide (s'∈t)
theorem aJu(t:List Nat)(s:Nat):((t.map λk=>D.int (k:Nat)).any λy=>eqD y (.int (s:Nat)))=decide (s∈t):=by
 rw[Bool.eq_iff_iff]
 simp only[List.any_map,List.any_eq_true,aAU,Function.comp]
 constructor
 ·rintro⟨x,hx,e⟩
  have:x=s:=by simp[eqD]at e;lia
  rw[<- this];exact hx
 ·intro h;exact⟨s,h,by simp[eqD]⟩
end LS
namespace LS
open PySem L2 EV
variable{EX:D->Mm->Prop}
end LS
namespace LS
open PySem L2 EV
end LS
section
open PySem PySem.Spec PyProof.Rows
namespace L2
open AutoSeq1 (wpAny_loadPart')
variable{prog:Program}{E:Value->Shared->Prop}
end L2
namespace EV
open L2
section
variable{K:Frag}{a b:Expr}{pos:Pos}{g:FE}
end
variable{EX:D->Mm->Prop}
end EV
end
namespace EV
open PySem
variable{P:List Value->Prop}
theorem exS{k:Nat}(h:∀a us,us.length=k->P (a::us)):∀us:List Value,us.length=k+1->P us
 |a::us,e=>h a us (Nat.succ.inj e)
theorem ex0(h:P [])(us:List Value)(e:us.length=0):P us:=by rw[List.eq_nil_of_length_eq_zero e];exact h
theorem ex1(h:∀a,P [a]):∀us:List Value,us.length=1->P us:=exS λa=>ex0 (P:=λus=>P (a::us)) (h a)
theorem ex2(h:∀a b,P [a,b]):∀us:List Value,us.length=2->P us:=exS λa=>ex1 (P:=λus=>P (a::us)) (h a)
theorem ex3(h:∀a b c,P [a,b,c]):∀us:List Value,us.length=3->P us:=exS λa=>ex2 (P:=λus=>P (a::us)) (h a)
theorem ex4(h:∀a b c d,P [a,b,c,d]):∀us:List Value,us.length=4->P us:=exS λa=>ex3 (P:=λus=>P (a::us)) (h a)
theorem ex5(h:∀a b c d e,P [a,b,c,d,e]):∀us:List Value,us.length=5->P us:=exS λa=>ex4 (P:=λus=>P (a::us)) (h a)
theorem ex6(h:∀a b c d e f,P [a,b,c,d,e,f]):∀us:List Value,us.length=6->P us:=exS λa=>ex5 (P:=λus=>P (a::us)) (h a)
theorem ex7(h:∀a b c d e f g,P [a,b,c,d,e,f,g]):∀us:List Value,us.length=7->P us:=exS λa=>ex6 (P:=λus=>P (a::us)) (h a)
end EV
set_option maxHeartbeats 4000000
section
open PySem PySem.Spec PyProof.Rows
namespace ZP
variable{prog:Program}{E:Value->Shared->Prop}
abbrev IsTrip(h:Heap)(T:Addr)(a b c:Value):Prop:=h.get? T=some {cls:=.type "tuple",data:=.seq #[a,b,c]}
set_option genSizeOf false in
set_option genInjectivity false in
structure Ap3(z TI TO i1 i2 i3 l1 l2 l3:Addr):Prop where
 z_TI:z≠TI
 z_TO:z≠TO
 z_i1:z≠i1
 z_i2:z≠i2
 z_i3:z≠i3
 TI_z:TI≠z
 TI_TO:TI≠TO
 TI_i1:TI≠i1
 TI_i2:TI≠i2
 TI_i3:TI≠i3
 TO_z:TO≠z
 TO_TI:TO≠TI
 TO_i1:TO≠i1
 TO_i2:TO≠i2
 TO_i3:TO≠i3
 i1_z:i1≠z
 i1_TI:i1≠TI
 i1_TO:i1≠TO
 i1_i2:i1≠i2
 i1_i3:i1≠i3
 i2_z:i2≠z
 i2_TI:i2≠TI
 i2_TO:i2≠TO
 i2_i1:i2≠i1
 i2_i3:i2≠i3
 i3_z:i3≠z
 i3_TI:i3≠TI
 i3_TO:i3≠TO
 i3_i1:i3≠i1
 i3_i2:i3≠i2
 l1_z:l1≠z
 l1_TI:l1≠TI
 l1_TO:l1≠TO
 l1_i1:l1≠i1
 l1_i2:l1≠i2
 l1_i3:l1≠i3
 l2_z:l2≠z
 l2_TI:l2≠TI
 l2_TO:l2≠TO
 l2_i1:l2≠i1
 l2_i2:l2≠i2
 l2_i3:l2≠i3
 l3_z:l3≠z
 l3_TI:l3≠TI
 l3_TO:l3≠TO
 l3_i1:l3≠i1
 l3_i2:l3≠i2
 l3_i3:l3≠i3
structure Zs3(h:Heap)(z TI TO i1 i2 i3 l1 l2 l3:Addr)(i:Nat)(xs ys us:Array Value):Prop where
 z:∃f0 f1,h.get? z=some (zobj TI TO f0 f1)/\(f0=.none\/∃T:Nat,f0=rawInt T)
 ti:IsTrip h TI (.ref i1) (.ref i2) (.ref i3)
 to:∃a b c,IsTrip h TO a b c
 a:It1 h i1 l1 i xs
 b:It1 h i2 l2 i ys
 c:It1 h i3 l3 i us
end ZP
namespace L2
end L2
namespace EV
open L2
variable{EX:D->Mm->Prop}
section
variable{K:Frag}{a b c:Expr}{pos:Pos}{g k:FE}{tg:Expr}
end
section
variable{g k:FE}
end
end EV
namespace RT
variable{prog:Program}{E:Value->Shared->Prop}
end RT
namespace L2
end L2
namespace EV
open L2
variable{K:Frag}{a:Expr}{pos:Pos}{EX:D->Mm->Prop}
end EV
end
namespace EV
open PySem
end EV
section
open PySem PySem.Spec PyProof.Rows
namespace L2
structure CompOkC(p:Str)(N0:List Str)(sc0:Scope)(scope:Scope)(Nc:List Str)(js:List (Option Nat)):Prop where
 kind:scope.kind=.function
 one:scope.names.filter (λy=>y.2==.cell)=[(p,.cell)]
 pc:scope.names.lookup p=some .cell
 names:∀y∈scope.names,y.2=.local->scope.names.lookup y.1=some .local
 free:∀y∈scope.names,y.2=.free->sc0.names.lookup y.1=some .cell
 len:js.length=Nc.length
 slots:∀p∈Nc.zip js,∀j∈p.2,N0[j]?=some p.1/\scope.names.lookup p.1=some .free/\sc0.names.lookup p.1=some .cell
variable{σ:St}{H₂:Hp}{scope:Scope}{js:List (Option Nat)}{Cc:Addr}{p:Str}{tg iter elt:Expr}{ifs:List Expr}{pos:Pos}{js:List (Option Nat)}{g:TG}{ti:TT}{wi:TI}{pn:Str}
end L2
namespace EV
open L2
variable{K:Frag}{pos:Pos}{pn:Str}
end EV
namespace L2
end L2
namespace EV
open L2
variable{K:Frag}{EX:D->Mm->Prop}
end EV
namespace L2
open PySem.W PySem.Calls Builtin Builtin.ObjectAttr
variable{e:Expr}{pos:Pos}
end L2
namespace L2
end L2
namespace EV
open L2
variable{K:Frag}{a:Expr}{pos:Pos}{EX:D->Mm->Prop}
end EV
end
namespace EV
open PySem
variable{EX:D->Mm->Prop}{gg:FG}{Q:W->Mm->Prop}
end EV
section
open PySem PySem.Spec PyProof.Rows
namespace L2
variable{M:Model}{E:Value->Shared->Prop}{env':Env}{L e:Addr}{P:Addr->Prop}{Q:Unit->Shared->Prop}{σ:List (Option V)}{scope:Scope}{H₂:Hp}{tg iter elt:Expr}{ifs:List Expr}{pos:Pos}{js:List (Option Nat)}{g:TG}{ti:TT}{wi:TI}
end L2
namespace EV
open L2
variable{K:Frag}{pos:Pos}
end EV
namespace L2
structure RoomH(k:Nat)(A:Around):Prop where
 dp:A.depth+3*k+5 < recursionLimit
 un:A.units+16*k+200 < cLine
structure FnOkH(P:Program)(w:World)(K:Frag)(mg:Str->Option Value)(base:Heap)(k:Nat)(f:Addr)(fd:FuncData)(ps:List Str)(sp:Sp):Prop where
 len:∀vs H Q E,sp vs H Q E->vs.length=ps.length
 run:∀(A:Around) (outer:List Env) (s:Shared) (H:Hp) (args:Args) (us:List Value) (vs:List V) (Q:VK) (E:XK),RoomH k A->Env0 P w K mg base A outer s H->BindsTo s fd args (ps.zip us)->Vals vs us->sp vs H Q E ->
  codeAny (model P w) A (.call (.ref f) args) (CR CX0 outer P w H s Q E) s
section
variable{k:Nat}{f:Addr}{pos:Pos}{e:Expr}{es:List Expr}{t:TA}
end
end L2
namespace EV
open L2
variable{K:Frag}{e:Expr}{es:List Expr}{pos:Pos}{fs:FA}
theorem aIp{a b c:Expr}{k:Nat}{px pz pt:Pos}{kt k2 pt2}(hc:X.calm=true)(hN:X.N.Nodup)(ha:Ea X K Z [a,b,c] fs)(hi:X.N[i]?=some x:=by rfl)(hj:X.N[j]?=some y:=by rfl)(hk:X.N[k]?=some z:=by rfl)
  (hx:Loc X.env.scope x:=by first|exact Or.inl rfl|exact Or.inr rfl)(hy:Loc X.env.scope y:=by first|exact Or.inl rfl|exact Or.inr rfl)(hz:Loc X.env.scope z:=by first|exact Or.inl rfl|exact Or.inr rfl)
  (fx:X.fn x=true\/X.env.scope.names.lookup x=some .local:=by first|exact .inl rfl|exact .inr rfl)(fy:X.fn y=true\/X.env.scope.names.lookup y=some .local:=by first|exact .inl rfl|exact .inr rfl)(fz:X.fn z=true\/X.env.scope.names.lookup z=some .local:=by first|exact .inl rfl|exact .inr rfl)
  (hs:swapsWithSole [.Tuple [.Name x px,.Name y py,.Name z pz] kt pt] (.Tuple [a,b,c] k2 pt2) pos.line X.env=pure false:=by rfl)(hw:swappedStores [.Tuple [.Name x px,.Name y py,.Name z pz] kt pt] (.Tuple [a,b,c] k2 pt2) X.env=pure none:=by rfl) :
  Es X K Z (.Assign [.Tuple [.Name x px,.Name y py,.Name z pz] kt pt] (.Tuple [a,b,c] k2 pt2) pos) (sPar3 i j k fs):=by
 have hT:PG X (.Tuple [.Name x px,.Name y py,.Name z pz] kt pt) (gTup X.K 3 _):=aJk (k:=kt) (pos:=pt) hc (pM (sX hN hi hx fx) (pM (sX hN hj hy fy) (pM (sX hN hk hz fz) aFv))) rfl rfl
 rw[ha.k]at hT
 refine⟨ha.k,cqS (aIl (aMa ha.h) hT hs hw rfl) ?_⟩
 rintro E σ H ⟨μ,M,L,hr,lr,p⟩
 refine⟨μ,M,L,hr,lr,p.bind.imp λμ1 H1 M1 ws e1 hr1 _ p1 vs rx=>?_⟩
 match ws,rx,p1 with
 |[],_,p1=>exact p1.elim
 |[_],_,p1=>exact p1.elim
 |[_,_],_,p1=>exact p1.elim
 |[u,v,w],⟨x1,r1,e1',q1,x2,r2,e2',q2,x3,r3,e3',q3,e4⟩,p1 =>
  cases e4
  subst e3' e2' e1'
  refine⟨by show 3<=sizeLine;decide,λp hp=>⟨p,_,rfl,SqT.of cQ,rfl,x1,_,rfl,x2,_,rfl,x3,_,rfl,rfl,?_⟩⟩
  have x:=jN (o:=.tup [x1,x2,x3]) hr1 hp
  exact p1 μ1 _ x (hr1.lay hp) _ (LR.set (LR.set (LR.set ((lr.ext hr.lsts e1).ext hr1.lsts x) (q1.ext hr1.lsts x)) (q2.ext hr1.lsts x)) (q3.ext hr1.lsts x))
 |_::_::_::_::_,_,p1=>exact p1.elim
variable{EX:D->Mm->Prop}{Q:W->Mm->Prop}{gg:FG}
end EV
namespace L2
variable{prog:Program}{E:Value->Shared->Prop}
end L2
namespace EV
open L2
variable{K:Frag}{EX:D->Mm->Prop}{Q:W->Mm->Prop}
end EV
set_option maxHeartbeats 4000000
namespace L2
variable{prog:Program}{E:Value->Shared->Prop}{tg:Expr}
end L2
namespace EV
open L2
variable{EX:D->Mm->Prop}
section
variable{K:Frag}{a b tg:Expr}{pos:Pos}{g:FE}
end
section
variable{g:FE}
end
end EV
end
namespace EV
open PySem
variable{EX:D->Mm->Prop}{gg:FG}{Q:W->Mm->Prop}
theorem Okx.self{o:Oc α}{Q:α->Mm->Prop}(h:Okx EX o Q):Okx EX o λa M=>o=.ok a M/\Q a M:=by
 unfold Okx at h ⊢
 cases o with
 |ok a M=>exact⟨rfl,h⟩
 |ex x M=>exact h
 |bad=>exact h
theorem Chk.app{s:Src}{J:Mm}(h:Chk s M):Chk s (M++J):=λt e=>by
 have:=h t e
 cases t with
 |one t =>
  show(M++J)[t]?=_
  rw[aBE (aAC.mp this).1]
  exact this
 |two t ys =>
  show(M++J)[t]?=_
  rw[aBE (aAC.mp this).1]
  exact this
theorem nP{fi:FI}(h:Okx EX (fi L M) λs M1=>∃g:D->D,s.ds.length<=16777216/\Chk s M1/\(∀d∈s.ds,∀acc,Ok (f (some (.d d)::outL js L) (M1++[acc])) λw M'=>w=.d (g d)/\M'=M1++[acc])/\Q (.d (.lst (s.ds.map g))) M1):Okx EX (eComp (none::js) fi (gN 0) tYes f L M) Q:=by
 refine fC (λi acc L' M'=>∃s M1 g,fi L M=.ok s M1/\(s.ds.length<=16777216/\Chk s M1/\(∀d∈s.ds,∀acc,Ok (f (some (.d d)::outL js L) (M1++[acc])) λw M'=>w=.d (g d)/\M'=M1++[acc])/\Q (.d (.lst (s.ds.map g))) M1)/\acc=(s.ds.take i).map g/\M'=M1/\∃a,L'=a::outL js L) (h.self.mono ?_)
 rintro s M1 ⟨e,g,hz,hc,hf,q⟩
 refine⟨⟨s,M1,g,e,⟨hz,hc,hf,q⟩,rfl,rfl,none,rfl⟩,?_,hz,?_,?_⟩
 ·rintro i acc L' M' hi ⟨s',M1',g',e',_,rfl,rfl,_⟩
  rw[e]at e'
  cases e'
  exact⟨rfl,hc.app,by simp;lia⟩
 ·rintro i d acc L' M' hd ⟨s',M1',g',e',⟨_,_,hf',q'⟩,rfl,rfl,a,rfl⟩
  rw[e]at e'
  cases e'
  refine sA (aU ⟨λ_=>(hf' d (aAZ hd) _).mono ?_,λh=>by cases h⟩)
  rintro _ _ ⟨rfl,rfl⟩
  refine⟨_,_,rfl,rfl,s,_,g',e,⟨hz,hc,hf',q'⟩,?_,rfl,_,rfl⟩
  rw[aBU,hd];simp
 ·rintro acc L' M' ⟨s',M1',g',e',⟨_,_,_,q'⟩,rfl,rfl,_⟩
  rw[e]at e'
  cases e'
  rw[aAD]
  exact q'
end EV
section
open PySem PySem.Spec PyProof.Rows
namespace EV
open L2
variable{K:Frag}
noncomputable def noV(u:Value):Bool:=match u with
 |.none=>true
 |_=>false
noncomputable def noD(d:D):Bool:=match d with
 |.non=>true
 |_=>false
theorem aOw{d:D}:eqD d .non=noD d:=by cases d <;> simp[eqD,noD]
theorem aSf{d:D}(r:Rp K μ H d v)(q:RelV v u)(m:dep d<=100):noV u=noD d:=by
 cases n:fv d with
 |some w =>
  cases d with
  |non=>simp only[Rp]at r;subst r;cases q;rfl
  |bl y=>simp only[Rp]at r;subst r;cases q;rfl
  |int y=>simp only[Rp]at r;subst r;obtain⟨t,rfl⟩:=q;rfl
  |str y=>simp only[Rp]at r;subst r;obtain⟨t,rfl⟩:=q;rfl
  |_=>simp[fv]at n
 |none =>
  obtain⟨a,ds,k,rfl,at1⟩:=oD n m r
  cases q
  cases at1 <;> rfl
theorem zQ{pins:List (Addr×Obj)}{σ:St}{μ:List Addr}{H:Hp}{s:Shared}(hu:X.A.units+101 < cLine)(I:L2.Inv X pins σ H s):∀{xs:List D} {vs:List V} {us:List Value},Rps X.K μ H xs vs->Vals vs us->deps xs<=100->(∀u∈us,SeqAt.EqAt X.A.in1 s u .none (noV u))/\us.any noV=xs.any noD
 |[],_,_,h,q,_=>by simp only[Rps]at h;subst h;cases q;exact⟨λu hu=>(aBL hu).elim,rfl⟩
 |x::xs,_,_,h,q,m=>by
  simp only[Rps]at h
  obtain⟨v,r,rfl,e2,e3⟩:=h
  cases q with
  |cons q1 q2 =>
   simp only[deps]at m
   obtain⟨i1,i2⟩:=zQ hu I e3 q2 (by lia)
   have e:=aSf e2 q1 (by lia)
   refine⟨λu hu'=>?_,by rw[aDQ,aDQ,e,i2]⟩
   rcases aAO.mp hu' with rfl|h
   ·rw[e,<- aOw]
    exact aJb I rfl x X.A.in1 .non v .non _ .none (by show X.A.units+1+dep x < cLine;lia) (by lia) (by simp[dep]) e2 (by simp[Rp]) q1 rfl
   ·exact i1 u h
def rInN(K:Frag):R2:=λx y H Q=>∃p xs μ ds,x=.non/\y=.ref p/\(SqL K H p xs\/SqT K H p xs)/\Rps K μ H ds xs/\deps ds<=100/\Q (.bl (ds.any noD)) H
theorem aSg(hu:X.A.units+101 < cLine):OpR X (compareOp .In) (rInN X.K):=by
 intro pins s σ H x y v u Q I rx ry h
 obtain⟨p,xs,μ,ds,rfl,rfl,hq,rs,m,q⟩:=h
 cases rx
 cases ry
 rcases hq with hq|hq
 ·obtain⟨its,r,pl,hz⟩:=I.list hq
  obtain⟨i1,i2⟩:=zQ hu I rs r m
  refine SeqAt.in_listAt noV pl.isList (λw hw=>i1 w (by simpa using hw)) ⟨.bl _,H,I,rfl,?_⟩
  rw[show its.toArray.any noV=its.any noV by simp,i2]
  exact q
 ·obtain⟨its,r,pl,hz⟩:=I.tuple hq
  obtain⟨i1,i2⟩:=zQ hu I rs r m
  refine SeqAt.in_tupleAt noV pl (λw hw=>i1 w (by simpa using hw)) ⟨.bl _,H,I,rfl,?_⟩
  rw[show its.toArray.any noV=its.any noV by simp,i2]
  exact q
def pInN(x y:W)(M:Mm):Oc W:=match x,sv M y with
 |.d .non,some xs=>if deps xs<=100 then .ok (.d (.bl (xs.any noD))) M else .bad
 |_,_=>.bad
theorem opInN(hu:X.A.units+101 < cLine):OpG X K Z (compareOp .In) pInN:=λhk=>⟨_,hk▸aSg hu,by
 intro μ H M x y v u Q hr rx ry p
 cases x with
 |ref i=>exact p.elim
 |ob _ _=>exact p.elim
 |nest _=>exact p.elim
 |d d =>
  cases d with
  |non =>
   simp only[pInN]at p
   cases q:sv M y with
   |none=>rw[q]at p;exact p.elim
   |some xs =>
    rw[q]at p
    simp only at p
    split at p
    ·obtain⟨a,vs,rfl,h1,r1⟩:=tW hr ry q
     simp only[Rw,Rp]at rx
     exact⟨a,vs,μ,xs,rx,rfl,h1,r1,by assumption,p μ H .refl hr _ (by simp[Rw,Rp])⟩
    ·exact p.elim
  |_=>exact p.elim⟩
variable{EX:D->Mm->Prop}{Q:W->Mm->Prop}
theorem aEt{y:W}{xs:List D}(h:sv M y=some xs)(hz:deps xs<=100)(q:Q (.d (.bl (xs.any noD))) M):Okx EX (pInN (.d .non) y M) Q:=by
 unfold pInN
 rw[h]
 simp only
 rw[aAJ hz]
 exact aU q
end EV
namespace L2
variable{e st:Expr}{ts:TO}{pos:Pos}
end L2
namespace EV
open L2
variable{K:Frag}{e st:Expr}{fs:FO}{pos:Pos}{EX:D->Mm->Prop}{Q:W->Mm->Prop}
end EV
end
namespace EV
open PySem
end EV
section
open PySem PySem.Spec PyProof.Rows
namespace L2
variable{o i:Expr}{to ti:TE}{pos:Pos}
end L2
namespace EV
open L2
variable{K:Frag}{o i:Expr}{pos:Pos}{EX:D->Mm->Prop}{Q:Out->Mm->Prop}
end EV
namespace L2
variable{prog:Program}{E:Value->Shared->Prop}{o:Expr}{lo hi:Option Expr}{to:TE}{tl th:TO}{pos:Pos}
end L2
namespace EV
open L2
variable{K:Frag}{o:Expr}{lo hi:Option Expr}{fl fh:FO}{pos:Pos}{EX:D->Mm->Prop}
end EV
namespace L2
variable{tg:Expr}
end L2
namespace EV
open L2
variable{EX:D->Mm->Prop}{K:Frag}{a b c tg:Expr}{pos:Pos}
end EV
end
namespace HT
open PySem PyProof.Rows
def RcLt(A:Around)(s:Shared)(v w:Value)(r:Bool):Prop:=∀(prog:Program) (wo:World) (E:Value->Shared->Prop) (Q:Value->Shared->Prop),Q (.bool r) s->wpAny (model prog wo) A (richCompare .Lt v w) Q E s
inductive LtOk(A:Around)(s:Shared):List Value->List Value->Bool->Prop where
 |nn:LtOk A s [] [] false
 |nc {w ws:_}:LtOk A s [] (w::ws) true
 |cn {v vs:_}:LtOk A s (v::vs) [] false
 |eq {v w vs ws r:_}:SeqAt.EqAt A s v w true->LtOk A s vs ws r->LtOk A s (v::vs) (w::ws) r
 |ne {v w vs ws r:_}:SeqAt.EqAt A s v w false->RcLt A s v w r->LtOk A s (v::vs) (w::ws) r
section
open PySem.SeqAt
open PySem.AutoSeq1 (wpAny_loadPart')
open PySem.MeetsSeq PySem.MeetsSeq2 PySem.MeetsSeq3
end
variable{prog:Program}{E:Value->Shared->Prop}
end HT
section
open PySem PySem.Spec PyProof.Rows
namespace EV
open L2
variable{K:Frag}
def ltE(x y:D):Option Bool:=match x,y with
 |.int a,.int b=>some (decide (a < b))
 |.bl a,.bl b=>some (decide (b2i a < b2i b))
 |.tup xs,.tup ys=>match intsOf xs,intsOf ys with
  |some ns,some ms=>some (HT.lexLt ns ms)
  |_,_=>none
 |_,_=>none
def ltT:List D->List D->Option Bool
 |[],[]=>some false
 |[],_::_=>some true
 |_::_,[]=>some false
 |x::xs,y::ys=>if eqD x y=true then ltT xs ys else ltE x y
variable{EX:D->Mm->Prop}{Q:W->Mm->Prop}
end EV
set_option maxHeartbeats 4000000
end
namespace L2
open PySem PySem.W PyProof.Rows
structure Lin(lt:Nat->Nat->Bool)(n:Nat):Prop where
 tot:∀i j,i < n->j < n->i≠j->lt i j=!lt j i
 tr:∀i j k,i < n->j < n->k < n->lt i j=true->lt j k=true->lt i k=true
structure PPm(n:Nat)(p:Array Nat):Prop where
 sz:p.size=n
 pm:p.toList.Perm (List.range n)
section
variable{lt:Nat->Nat->Bool}{n:Nat}{p:Array Nat}
end
end L2
section
open PySem PySem.Spec PyProof.Rows
namespace L2
open PySem.W
section
variable{prog:Program}{E:Value->Shared->Prop}{lt:Nat->Nat->Bool}
end
end L2
namespace EV
open L2 PySem.W
variable{prog:Program}
def tl:D->List D
 |.tup xs=>xs
 |_=>[]
def tLt(xs:List D)(i j:Nat):Bool:=ltT (tl (xs.getD i .non)) (tl (xs.getD j .non))==some true
structure TS(xs:List D):Prop where
 l2:2<=xs.length
 l64:xs.length < 64
 it:∀x∈xs,∃ys zs,x=.tup (.tup ys::zs)/\deps (.tup ys::zs)<=50
 so:∀i j,i < xs.length->j < xs.length->ltT (tl (xs.getD i .non)) (tl (xs.getD j .non))≠none
 lin:Lin (tLt xs) xs.length
variable{K:Frag}{EX:D->Mm->Prop}{Q:W->Mm->Prop}{x:W}
end EV
namespace EV
open L2
variable{K:Frag}{o:Expr}{EX:D->Mm->Prop}{Q:W->Mm->Prop}
end EV
set_option maxHeartbeats 1000000
namespace L2
open AutoSeq1 (wpAny_loadPart')
theorem aMb(a b:Value):checkTypeCall "enumerate" ⟨[a],[(Str.ofString "start",b)]⟩=pure ():=by kernel_rfl
theorem aMe(a b:Value):checkBuiltinCall "enumerate.__new__" ⟨[.type "enumerate",a],[(Str.ofString "start",b)]⟩=pure ():=by kernel_rfl
theorem aLg(o a b:Value):argsOk "object.__init__" ⟨[o,a],[(Str.ofString "start",b)]⟩:=by
 unfold argsOk;rw[signature?_of (id:="object.__init__") (n:=['_','_','t','i','n','i','_','_']) (o:=['t','c','e','j','b','o']) (by kernel_rfl) F.owner_object];kernel_rfl
variable{prog:Program}{E:Value->Shared->Prop}
theorem initK{self a b:Value}:Meets (Builtin.«object.__init__» ⟨[self,a],[(Str.ofString "start",b)]⟩) (λ_ R s=>s.TypeIs self "enumerate"/\R (.ok (.ret .none)) s):=by
 have hl:=aGT.init.lookup
 have hm:=aGT.made
 refine Meets.of_wp λprog w A R s ⟨hT,hq⟩=>?_
 repeat(any_goals (first|assumption|wp_step))
 exact⟨_,rfl,hq⟩
end L2
namespace L2
variable{prog:Program}{E:Value->Shared->Prop}
end L2
set_option maxHeartbeats 4000000
namespace L2
theorem aPa{M:Model}{E:Value->Shared->Prop}{pos:Pos}{T:String}{args:List (Bool×Sem Value)}{kws:List (Option Str×Sem Value)}(h1:args.any (·.1)=false)(h2:kws.any (·.1.isNone)=false)
  (h:wpAny M A (evalArgs (.type T) true args kws) (λa s₁=>wpAny M A (call (.type T) a.pos a.kw) Q E s₁) E s):wpAny M A (callWith pos (.type T) [] args kws) Q E s:=by
 unfold callWith
 refine aAB (aBT (aDU h (λa s₁ z=>aAB (aEE ?_)) λ_ _ x=>x));simp only[h1,h2,Bool.or_false]
 exact aAB (aAF (aAB (aDU z (λr s₂ hr=>aAB (aBT (wpAny_point (aAF hr)))) λ_ _ x=>x)))
end L2
namespace EV
open L2
section
variable{K:Frag}{a b:Expr}{pos:Pos}{g:FE}
theorem aKy{k:Nat}{fa:Addr}{Fm:Fn}{i:Int}{tk:Tok}{e:Expr}{es:List Expr}{fs:FA}(Gf:FnOk X.prog X.w X.K X.mg X.base CX0 k fa fd ps (spF K Z0 m Fm))(hr:Room k X.A)(hm:X.mg x=some (.ref fa))(hk:keepIn X.K (.ref fa)=true)(hb:Binds X.K fd ps [.int i tk])
  (ha:Ea X K Z0 (e::es) fs)(hg:Gl X x:=by rfl)(hdb:(x==("__debug__":Str))=false:=by decide)(he:starEach (e::es) X.env=(false,eval e X.env)::starEach es X.env:=by rfl)(hpl:(backTo pos (starEach es X.env)).any (·.1)=false:=by rfl)
  (hlen:∀ws M,ws.length≠m->Fm ws M=.bad:=by intro ws M h;first|exact aAI h|rfl):Ev X K Z0 (.Call (.Name x p) (e::es) [] pos) (eA Fm (aDef fs [.int i])):=by
 refine⟨ha.k,cqE (aGc (dvs:=[.int i]) Gf hr hg hm hk hb (.cons ⟨tk,rfl⟩ .nil) pass0 ha.h hdb he hpl) ?_⟩
 rintro σ H Q ⟨μ,M,L,hr,lr,p⟩
 refine⟨μ,M,L,hr,lr,p.bind.bind.imp λμ1 H1 M1 ws e1 hr1 _ p1 vs rx=>?_⟩
 have rx':=rx.append (us:=[.d (.int i)]) (zs:=[.int i]) ⟨.int i,[],rfl,by simp[Rw,Rp],rfl⟩
 have p2:Pst K Z0 μ1 H1 (Fm (ws++[.d (.int i)]) M1) (Wk K Q):=p1 μ1 H1 .refl hr1
 refine⟨?_,μ1,M1,ws++[.d (.int i)],hr1,rx',p2⟩
 by_cases hw:(ws++[W.d (.int i)]).length=m
 ·rw[<- rx'.length];exact hw
 ·rw[hlen _ M1 hw]at p2;exact p2.elim
variable{EX:D->Mm->Prop}
end
variable{K:Frag}
theorem aQh{fa:Addr}{k:Nat}(hf:FunG K x qual st fa fd)(S:FnScope N ps (defScope st))
  (hb:∀(cdv:Value) (A:Around) (outer:List Env) (s:Shared) (H:Hp) (E:XK),Room k (A.deeper (envOfC qual (defScope st) s.heap.objs.size fa cdv))->Ess (cxOf CX0 P w K mg base N qual (defScope st) fa cdv A outer s H E).nox K Z0 (defBody st) F) :
  FnOk P w K mg base CX0 (k+1) fa fd ps (spF K Z0 ps.length (fnD ps.length N.length F)):=by
 obtain⟨oc,od,dV,kV,doc,pm,an,cdv,ct,osl,rfl,lk,hcd⟩:=hf.ex
 refine aPu lk hcd S (λvs H Q E h=>h.1) λA outer s H vs Q E hr hsp=>⟨_,(hb cdv A outer s H E hr).h.nox,?_⟩
 obtain⟨hv,μ,M,ws,hr,rx,p⟩:=hsp
 refine⟨μ,M,_,hr,tM rx,?_⟩
 unfold fnD at p
 rw[aAJ (by rw[rx.length];exact hv)]at p
 cases q:F (ws.map some++List.replicate (N.length - ws.length) none) M with
 |bad=>rw[q]at p;exact p
 |ex z M'=>rw[q]at p;exact p
 |ok o M' =>
  rw[q]at p
  simp only[jK]at p
  intro μ1 H1 e1 hr1
  have hb:=hr1.back e1
  rw[hr.len]at hb
  cases o with
  |nx L'=>exact λσ' lr'=>p μ H1 e1.back hb _ (by simp[Rw,Rp])
  |bk L'=>exact p.elim
  |ct L'=>exact p.elim
  |rt w =>
   intro v rv
   have hsub:∀a,a∈μ->a∈μ1:=λa ha=>by rw[<- e1.take]at ha;exact aCP ha
   cases w with
   |ob c i=>exact oA hr e1 hr1 (.inl ⟨_,_,rfl⟩) rv p
   |nest c=>exact oA hr e1 hr1 (.inr ⟨_,rfl⟩) rv p
   |d x=>exact p μ H1 e1.back hb v (Rp.sub hsub x v rv)
   |ref i =>
    simp only[retc]at p
    split at p
    ·rename_i hi
     obtain⟨a,qa,rfl,il⟩:=rv
     refine p μ H1 e1.back hb _ ⟨a,?_,rfl,il⟩
     rw[<- hr.len]at hi
     have:=e1.pre i μ[i] (by simp[hi])
     rw[qa]at this;cases this
     simp[hi]
    ·rename_i hi
     cases q2:M'[i]? with
     |none=>simp only[q2]at p;exact p.elim
     |some ds =>
      simp only[q2]at p
      obtain⟨a,qa,rfl,il⟩:=rv
      obtain⟨a',vs',qa',h1,r1⟩:=hr1.at q2 qa
      rw[qa]at qa';cases qa'
      refine p μ H1 e1.back hb _ ?_
      simp only[Rw,Rp]
      refine⟨a,vs',rfl,h1,λha=>?_,Rps.sub hsub _ _ r1⟩
      obtain⟨j,hj,ej⟩:=aDT.mp ha
      have h2:=e1.pre j a (by rw[<- ej];simp[hj])
      have l1:=(aAC.mp qa).1
      have l2:=(aAC.mp h2).1
      have g1:=(aAC.mp qa).2
      have g2:=(aAC.mp h2).2
      have pw:=aCZ.mp hr1.nd
      rw[hr.len]at hj
      exact pw j i l2 l1 (by lia) (g2.trans g1.symm)
end EV
namespace L2
variable{prog:Program}{E:Value->Shared->Prop}
theorem aPk:fillsInplaceSlot (.type "list") "add" (Operator.Add==.Add)=pure false:=by
 unfold fillsInplaceSlot
 show(typeLookup (.type "list") (dunderI "add") >>= _)=_
 rw[F.slot_list_iadd.lookup]
 rfl
theorem aNq:seqSlot? (.type "list") (dunderI "add")=pure (some (.builtin "list.__iadd__")):=by
 unfold seqSlot?
 rw[F.slot_list_iadd.lookup]
 rfl
theorem aNd:fillsNumberSlot (.type "list") "add"=pure false:=by
 first|exact noFill_list_add|(unfold fillsNumberSlot;kernel_rfl)
theorem aHz{a b:Value}(ha:s.TypeIs a "list")(hb:s.TypeIs b "list")(hc:wpAny (model prog w) A (call (.builtin "list.__iadd__") [a,b]) Q E s):wpAny (model prog w) A (inplaceOp .Add a b) Q E s:=by
 unfold inplaceOp
 refine aBT (aAB (wpAny_typeOf ha (aAB (aCB aPk ?_))))
 show wpAny (model prog w) A (if false=true then _ else _) Q E s
 rw[aAI (by decide)]
 exact aAB (wpAny_binaryOp1_none (nm:="add") ha hb aNd (aAB (aCB aNq (aAB (aDA hc)))))
def ipL:TIp:=λx y H Q=>∃l b xs zs,x=.ref l/\y=.ref b/\H l=some (.lst xs)/\H b=some (.lst zs)/\xs.length+zs.length<=sizeLine/\Q (.ref l) (upd H l (.lst (xs++zs)))
theorem aOp:PIp X .Add ipL:=by
 intro pins s σ H x y v u Q I r1 r2 h
 obtain⟨l,b,xs,zs,rfl,rfl,hH,hB,hz,q⟩:=h
 cases r1
 cases r2
 obtain⟨z,its,n,r,hl,e⟩:=I.lstM hH
 obtain⟨z2,its2,n2,r2,hl2,e2⟩:=I.lstM hB
 have hsz:its.toArray.size+its2.toArray.size<=sizeLine:=by rw[aAK,aAK];lia
 have hno:¬(!its.toArray.isEmpty&&Builtin.List.listTooLong (its.toArray.size+its2.toArray.size))=true:=by rw[notLongL hsz,Bool.and_false];decide
 refine aHz ⟨_,e,rfl⟩ ⟨_,e2,rfl⟩ (aCT F.slot_list_iadd ⟨_,e,rfl⟩ F.entry_list_iadd (F.args_list_iadd_2 _ _) (AutoSeq1.list___iadd___list_list_0 l its.toArray n b its2.toArray n2 hno (by rw[aAK];lia) (by lia)) ⟨e,e2,?_⟩)
 refine⟨.ref l,_,I.lset (its':=its++its2) hH e (by simp) (r.append r2) ?_,rfl,q⟩;rw[aAT];lia
end L2
namespace EV
open L2
variable{K:Frag}{e:Expr}{pos:Pos}
def sAugL(i:Nat)(f:FE):FS:=λL M=>(eV i L M).bind λx _=>(f L M).bind λy M1=>match x with
 |.ref k=>match M1[k]?,lv M1 y with
  |some xs,some ys=>if xs.length+ys.length<=16777216 then .ok (.nx (L.set i (some (.ref k)))) (M1.set k (xs++ys))else .bad
  |_,_=>.bad
 |_=>.bad
theorem yG(hN:X.N.Nodup)(he:Ev X K Z e f)(hi:X.N[i]?=some x:=by rfl)(hx:Loc X.env.scope x:=by first|exact Or.inl rfl|exact Or.inr rfl)
  (hf:X.fn x=true\/X.env.scope.names.lookup x=some .local:=by first|exact .inl rfl|exact .inr rfl|assumption):Es X K Z (.AugAssign (.Name x pos') .Add e pos) (sAugL i f):=by
 refine⟨he.k,cqS (aLx hN hi hx he.h aOp hf) ?_⟩
 rintro E σ H ⟨μ,M,L,hr,lr,p⟩
 unfold sAugL eV at p
 cases q:L[i]? with
 |none=>rw[q]at p;exact p.elim
 |some o =>
  cases o with
  |none=>rw[q]at p;exact p.elim
  |some w =>
   rw[q]at p
   obtain⟨v,q1,q2⟩:=lr.ent i w q
   refine⟨v,q1,μ,M,L,hr,lr,(show Pst K Z μ H ((f L M).bind _) _ from p).bind.imp λμ1 H1 M1 y e1 hr1 _ p1 u ru=>?_⟩
   cases w with
   |d w=>exact p1.elim
   |ob _ _=>exact p1.elim
   |nest _=>exact p1.elim
   |ref k =>
    cases k1:M1[k]? with
    |none=>simp only[k1]at p1;exact p1.elim
    |some xs =>
     cases k2:lv M1 y with
     |none=>simp only[k1,k2]at p1;exact p1.elim
     |some ys =>
      simp only[k1,k2]at p1
      split at p1
      ·rename_i hz
       obtain⟨a,qa,rfl,il⟩:=Rw.ext hr.lsts e1 q2
       obtain⟨a',vs,qa',h1,r1⟩:=hr1.at k1 qa
       rw[qa]at qa';cases qa'
       obtain⟨b,us,rfl,h2,r2⟩:=aBj hr1 ru k2
       refine⟨a,b,vs,us,rfl,rfl,h1,h2,by rw[<- r1.length,<- r2.length,aBF];exact hz,?_⟩
       have x:=gZ (H:=H1) (vs:=vs++us) qa
       exact p1 μ1 _ x (hr1.set qa (r1.append r2)) _ (LR.set ((lr.ext hr.lsts e1).ext hr1.lsts x) ⟨a,qa,rfl,_,cQ⟩)
      ·exact p1.elim
variable{EX:D->Mm->Prop}
theorem zU{k:Nat}(h:L[i]?=some (some (.ref k)))(z:Okx EX (f L M) λy M1=>∃xs ys,M1[k]?=some xs/\lv M1 y=some ys/\xs.length+ys.length<=16777216/\QS (.nx (L.set i (some (.ref k)))) (M1.set k (xs++ys))):Okx EX (sAugL i f L M) QS:=by
 unfold sAugL eV
 rw[h]
 exact aQ (aU (aQ (z.mono λy M1 ⟨xs,ys,e1,e2,hz,q⟩=>by simp only[e1,e2];rw[aAJ hz];exact aU q)))
end EV
set_option maxHeartbeats 4000000
namespace L2
def nR3(a b c:Int):Nat:=(if a < b then(b - a - 1) / c+1 else 0).toNat
def r3(a b c:Int):List Int:=(List.range (nR3 a b c)).map λi=>a+(i:Nat)*c
variable{a b c:Expr}{ta:TA}{pos:Pos}
end L2
namespace EV
open L2
variable{EX:D->Mm->Prop}{K:Frag}{a b c:Expr}{pos:Pos}{Q:W->Mm->Prop}
end EV
namespace EV
open L2
variable{K:Frag}{e:Expr}{es:List Expr}{pos:Pos}{fs:FA}
end EV
set_option maxHeartbeats 4000000
namespace EV
open L2
variable{K:Frag}{e a b o:Expr}{es:List Expr}{pos:Pos}{fs:FA}
section
variable{Q:W->Mm->Prop}{g:FE}{x y:W}
end
variable{K:Frag}{tg:Expr}
def gOr(g1 g2:FG):FG:=λw L M=>match w with
 |.d (.lst xs)=>g2 (.d (.lst xs)) L M
 |w=>g1 w L M
theorem aUr{g1 g2:FG}(h1:Eg X K Z tg g1)(h2:Eg X K Z tg g2):Eg X K Z tg (gOr g1 g2):=by
 refine⟨h1.k,λpins s σ H v u Q I r q=>?_⟩
 obtain⟨μ,M,L,w,hr,lr,rx,p⟩:=q
 by_cases hw:∃xs,w=.d (.lst xs)
 ·obtain⟨xs,rfl⟩:=hw
  exact h2.h pins s σ H v u Q I r ⟨μ,M,L,_,hr,lr,rx,p⟩
 ·refine h1.h pins s σ H v u Q I r ⟨μ,M,L,w,hr,lr,rx,?_⟩
  have:gOr g1 g2 w L M=g1 w L M:=by
   unfold gOr
   split
   ·exact(hw ⟨_,rfl⟩).elim
   ·rfl
  rw[this]at p;exact p
theorem aOc{g1 g2:FG}{xs:List D}{Q:Lc->Mm->Prop}(h:Okx EX (g2 (.d (.lst xs)) L M) Q):Okx EX (gOr g1 g2 (.d (.lst xs)) L M) Q:=h
variable{K:Frag}{f:Str}
structure OCl(K:Frag)(c:Str)(C:Addr):Prop where
 nm:nsIn K mainGlobals c=some (some (.ref C))
 cl:Cls K C
 nd:c≠"dict"
variable{K:Frag}{f:FE}
section
variable{Q:W->Mm->Prop}{g fv:FE}{F:Fn}{c ff m:Str}{i:Nat}{ds:List D}{x:D}
end
end EV
set_option maxHeartbeats 4000000
namespace L2
section
variable(P:Program)(w:World)
end
variable{o:HO}{x e:Addr}{o':HO}
section
variable{fs fs' ex ex':List Addr}{h1 h2:Heap}
end
variable{σ:List (Option V)}
section
variable{a b:Expr}{pos:Pos}{tA tB':TT}{rest:List Expr}
end
variable{σ:St}{xs ys:List V}{E:Value->Shared->Prop}
section
variable{rest:List Stmt}{t u:TS}{e:Expr}{pos:Pos}
end
variable{pos:Pos}{tg:Expr}{a b c:Expr}{tc:TE}{prog:Program}{K:Frag}{f:Addr}{v:Value}
section
variable{a:Addr}{fs fs':List (Str×V)}
end
section
variable{a:Addr}{fs:List (Str×V)}{f:Str}{v:V}
end
variable{o e value:Expr}{f:Str}{tv:TE}{c:Value}{b:Bool}
section
variable{es:List Expr}{t:TA}
end
section
variable{k:Nat}{f:Addr}{dvs:List V}{ds:List Value}{E:XK}{x m:Str}{es:List Expr}{t:TA}
end
section
variable{k:Nat}{f:Addr}{ks:List Str}{E:XK}{x m:Str}{kpos:Pos}{es:List Expr}{kws:List Keyword}{t tk:TA}{nm:Option Str}{g:List Value->List Value->List Value}{gV:List V->List V->List V}
end
section
variable{x:Str}{es:List Expr}{t:TA}{id T:String}
end
section
variable{κ:Type}[DecidableEq κ]
def valV(kvs:List (κ×V))(k:κ):Option V:=(kvs.find? λkv=>decide (kv.1=k)).map (·.2)
def putK(kvs:List (κ×V))(k:κ)(v:V):List (κ×V) :=
 if(kvs.any λkv=>decide (kv.1=k))=true then kvs.map (λkv=>if kv.1=k then(kv.1,v)else kv)else kvs++[(k,v)]
theorem RelO.getD{o:Option V}{u:Option Value}{d:V}{d':Value}(r:RelO o u)(rd:RelV d d'):RelV (o.getD d) (u.getD d'):=by
 cases o with
 |none=>cases u with
  |none=>exact rd
  |some _=>exact(show False from r).elim
 |some _=>cases u with
  |none=>exact(show False from r).elim
  |some _=>exact r
theorem KV.any{kvs:List (κ×V)}{vs:List (κ×Value)}(r:KV kvs vs)(k:κ):(kvs.any λkv=>decide (kv.1=k))=vs.any λkv=>decide (kv.1=k):=by
 unfold KV at r
 induction r with
 |nil=>rfl
 |cons h t ih=>rw[aDQ,aDQ,ih,h.1]
theorem KV.length{kvs:List (κ×V)}{vs:List (κ×Value)}(r:KV kvs vs):kvs.length=vs.length:=Paired.length r
end
variable{a:Addr}
def DGet(H:Hp)(a:Addr)(y:V)(r:Option V):Prop :=
 (∃kvs k,Rd H a (.dK kvs)/\y=kV k/\r=valV kvs k)\/∃kvs k b,Rd H a (.dT kvs)/\y=.ref b/\H b=some (.tup (k.map kV))/\r=valV kvs k
def DPut(H:Hp)(a:Addr)(y v:V)(H':Hp):Prop :=
 (∃kvs k,H a=some (.dK kvs)/\y=kV k/\kvs.length < sizeLine/\H'=upd H a (.dK (putK kvs k v))) \/
 ∃kvs k b,H a=some (.dT kvs)/\y=.ref b/\H b=some (.tup (k.map kV))/\kvs.length < sizeLine/\H'=upd H a (.dT (putK kvs k v))
theorem DGet.k{H:Hp}{a:Addr}{kvs:List (Key×V)}{k:Key}(e:H a=some (.dK kvs)):DGet H a (kV k) (valV kvs k):=.inl ⟨kvs,k,.inl e,rfl,rfl⟩
variable{kvs:List (List Key×V)}
theorem DGet.t{b:Addr}{k:List Key}(e:H a=some (.dT kvs))(eb:H b=some (.tup (k.map kV))):DGet H a (.ref b) (valV kvs k):=.inr ⟨kvs,k,b,.inl e,rfl,eb,rfl⟩
theorem DPut.k{H:Hp}{a:Addr}{kvs:List (Key×V)}{k:Key}{v:V}(e:H a=some (.dK kvs))(hl:kvs.length < sizeLine):DPut H a (kV k) v (upd H a (.dK (putK kvs k v))):=.inl ⟨kvs,k,e,rfl,hl,rfl⟩
variable{v:V}
theorem DPut.t{b:Addr}{k:List Key}(e:H a=some (.dT kvs))(eb:H b=some (.tup (k.map kV)))(hl:kvs.length < sizeLine) :
  DPut H a (.ref b) v (upd H a (.dT (putK kvs k v))):=.inr ⟨kvs,k,b,e,rfl,eb,hl,rfl⟩
variable{y:V}{r:Value}{o:Option V}
section
variable{kvs:List (Key×V)}{k:Key}
end
variable{o i:Expr}{td ty:TE}
structure M1(X:Cx)(o:Expr)(m:Str)(apos:Pos)(e:Expr)(cpos:Pos):Prop where
 base:attributeBase o m X.env (eval o X.env)=eval o X.env
 few:((backTo cpos (starEach [e] X.env)).all (λx=>!x.1)&&(backToKw cpos (keywordEach [] X.env)).all (λx=>x.1.isSome)
  && decide (([e]:List Expr).length+([]:List Keyword).length+(if([]:List Keyword).isEmpty then 0 else 1) < 30))=true
 line:(apos.endLine==cpos.line)=true
 trees:backTo cpos (starEach [e] X.env)=[(false,eval e X.env)]
structure M2(X:Cx)(o:Expr)(m:Str)(apos:Pos)(e f:Expr)(cpos:Pos):Prop where
 base:attributeBase o m X.env (eval o X.env)=eval o X.env
 few:((backTo cpos (starEach [e,f] X.env)).all (λx=>!x.1)&&(backToKw cpos (keywordEach [] X.env)).all (λx=>x.1.isSome)
  && decide (([e,f]:List Expr).length+([]:List Keyword).length+(if([]:List Keyword).isEmpty then 0 else 1) < 30))=true
 line:(apos.endLine==cpos.line)=true
 trees:backTo cpos (starEach [e,f] X.env)=[(false,eval e X.env),(false,eval f X.env)]
variable{d:V}{o:Option V}{o f:Expr}{tx:TE}{kvs:List (Key×V)}
end L2
end
namespace Att
open PySem PySem.W PySem.Calls PyProof.Rows
variable{prog:Program}{E:Value->Shared->Prop}{K:Frag}
end Att
section
open PySem PySem.Spec PyProof.Rows
namespace L2
variable{K:Frag}
section
variable{κ:Type}[DecidableEq κ]
end
end L2
set_option maxHeartbeats 4000000
namespace EV
open L2
variable{K:Frag}{k:List Key}
theorem SameK.dT{xs ys:List (List Key×V)}:SameK (.dT xs) (.dT ys):=⟨λ_ h=>(nomatch h),λ_ _ _ h=>(nomatch h),λ_ _=>⟨ys,rfl⟩⟩
section
variable{K:Frag}{e a b o i:Expr}{pos:Pos}{fv:FE}
end
variable{K:Frag}{K:Frag}{o i:Expr}{pos:Pos}
section
variable{Q:W->Mm->Prop}{fv:FE}
end
end EV
namespace L2
theorem aHr(z:Str)(lo hi:Option Int):PySem.Txt.slice z lo hi=⟨((z.cps.toList.drop (HT.sIx z.length 0 lo)).take (HT.sIx z.length z.length hi - HT.sIx z.length 0 lo)).toArray⟩:=by
 obtain⟨h1,h2,h3⟩:=qE lo hi z.length
 have e:Builtin.Str.strSliceIndices lo hi 1 z.length=(List.range (HT.sIx z.length z.length hi - HT.sIx z.length 0 lo)).map (HT.sIx z.length 0 lo+·):=by
  rw[<- sliceRange_one,<- h1,<- h2]
  rfl
 have hl:=HT.sIx_le z.length z.length (aAH _) hi
 unfold PySem.Txt.slice
 rw[e,pick_run]
 split
 ·rename_i h
  simp only[aAL,aCK,beq_self_eq_true,Bool.true_and,beq_iff_eq]at h
  obtain⟨⟨zs⟩⟩:=z
  have hz:Str.length ⟨⟨zs⟩⟩=zs.length:=rfl
  rw[hz]at h hl ⊢
  by_cases h0:zs.length=0
  ·have:zs=[]:=List.eq_nil_of_length_eq_zero h0
   subst this;simp
  ·rw[show HT.sIx zs.length 0 lo=0 by lia,show HT.sIx zs.length zs.length hi - 0=zs.length by lia]
   simp
 ·rfl
theorem aSr:SlR X (λx lo hi H Q=>∃z,x=.str z/\z.length<=sizeLine/\Q (.str (PySem.Txt.slice z lo hi)) H):=by
 intro pins s σ H x v vl vu lo hi sl Q I rx hs pl pu h
 obtain⟨z,rfl,hz,q⟩:=h
 obtain⟨t,rfl⟩:=rx
 refine⟨"str",_,PySem.F.slot_str_getitem.lookup,aFG _ _ _,?_⟩
 have part:∀{v:Value} {o:Option Int},IsPart v o->∃l:Option (Int×Tok),v=partValue l/\l.map (·.1)=o:=by
  intro v o h
  cases h with
  |none=>exact⟨none,rfl,rfl⟩
  |int i t=>exact⟨some (i,t),rfl,rfl⟩
 obtain⟨l,rfl,e1⟩:=part pl
 obtain⟨u,rfl,e2⟩:=part pu
 subst e1 e2
 exact wpAny_getItem_str_slice (l:=l) (u:=u) (st:=none) hs rfl (post_val_or_str ⟨aBO (PySem.Txt.slice_le z _ _) hz,λt' k=>⟨.str _,H,I.tok k,⟨t',rfl⟩,q⟩⟩)
theorem wC:CallR X (.type "int") (λxs H Q=>∃z i,xs=[.str z]/\z.length<=640/\PySem.intText? z=some i/\Q (.int i) H):=by
 intro pins s σ H xs us Q I r h
 obtain⟨z,i,rfl,hz,hi,q⟩:=h
 obtain⟨u,rfl,t,rfl⟩:=vals1 r
 exact PySem.W.KIN.call_text hi hz ⟨.int _,H,I.tok _,⟨_,rfl⟩,q⟩
theorem oZ{ns:List Str}:∀{us:List Value},Vals (ns.map V.str) us->StrsAre us ns:=by
 induction ns with
 |nil=>intro us r;rw[aDW]at r;cases r;exact .nil
 |cons n ns ih =>
  intro us r
  rw[aBC]at r
  cases r with
  |cons r1 r2 =>
   obtain⟨t,e⟩:=r1
   subst e
   exact .cons n t (ih r2)
theorem aNj:MtR X "str.join" (λx xs H Q=>∃sep p ys,x=.str sep/\xs=[.ref p]/\(SqL X.K H p (ys.map V.str)\/SqT X.K H p (ys.map V.str))/\(ys.map (·.length)).sum+ys.length*sep.length<=16777216/\Q (.str (Str.join sep ys)) H):=by
 intro pins s σ H x xs v us Q I rx rs h
 obtain⟨sep,p,ys,rfl,rfl,hp,hz,q⟩:=h
 obtain⟨t,rfl⟩:=rx
 obtain⟨u,rfl,e⟩:=vals1 rs
 cases e
 have fin:∀t' k,EP X pins σ Q (.str (PySem.Txt.join sep ys) t') {s with toks:=k}:=λt' k=>⟨.str _,H,I.tok k,⟨t',rfl⟩,by
  rw[show PySem.Txt.join sep ys=Str.join sep ys from StrLaws.glued_eq_join sep ys];exact q⟩
 rcases hp with hp|hp
 ·obtain⟨its,r,ht,_⟩:=I.list hp
  exact join_list ht.isList (oZ r) hz fin
 ·obtain⟨its,r,ht,_⟩:=I.tuple hp
  exact join_tuple ht (oZ r) hz fin
abbrev TJ:=Str->St->Hp->(Str->Hp->Prop)->Prop
def PJ(X:Cx)(es:List Expr)(t:TJ):Prop :=
 ∀(pins:List (Addr×Obj)) (s:Shared) (σ:St) (H:Hp) (acc:Str) (Q:Str->Hp->Prop),Inv X pins σ H s->t acc σ H Q ->
  wpAny (model X.prog X.w) X.A (joinParts acc (evalEach es X.env)) (EP X pins σ λv H'=>∃out,v=.str out/\Q out H') X.xe s
def fmtV:V->Option Str
 |.str x=>some x
 |.int i=>if i.natAbs.log2 < 1920 then some (toString i)else none
 |_=>none
section
variable{e:Expr}{es:List Expr}{t:TJ}{pos:Pos}
theorem aSp:PJ X [] (λacc _ H Q=>acc.length<=sizeLine/\Q acc H):=λpins s σ H acc Q I h=>joinParts_nil ⟨.str acc,H,I.tok _,⟨_,rfl⟩,acc,rfl,h.2⟩ h.1
theorem aRv(hr:PJ X es t):PJ X (.Constant (.str y) j pos::es) (λacc σ H Q=>(acc++y).length<=sizeLine/\t (acc++y) σ H Q):=by
 intro pins s σ H acc Q I h
 show wpAny _ _ (joinParts acc (eval (.Constant (.str y) j pos) X.env::evalEach es X.env)) _ _ s
 refine joinParts_cons (thn (aJh (X:=X) (x:=y) (j:=j) (pos:=pos) pins s σ H (λv H'=>v=.str y/\H'=H) I ⟨rfl,rfl⟩) λv s1 ⟨x,H1,I1,r1,e1,e2⟩=>?_)
 subst e1 e2
 obtain⟨t',rfl⟩:=r1
 exact⟨h.1,hr pins s1 σ _ _ Q I1 h.2⟩
theorem aTr(he:PE X e te)(hr:PJ X es t):PJ X (.FormattedValue e (-1) none pos::es) (λacc σ H Q=>te σ H λv H1=>∃y,fmtV v=some y/\y.length<=sizeLine/\(acc++y).length<=sizeLine/\t (acc++y) σ H1 Q):=by
 intro pins s σ H acc Q I h
 show wpAny _ _ (joinParts acc (eval (.FormattedValue e (-1) none pos) X.env::evalEach es X.env)) _ _ s
 refine joinParts_cons (PyProof.Rows.FormattedValue_plain (thn (he pins s σ H _ I h) λv s1 ⟨x,H1,I1,r1,y,e1,hy,hz,q⟩=>?_))
 cases x with
 |str z =>
  simp only[fmtV,aAP]at e1
  subst e1
  obtain⟨t',rfl⟩:=r1
  exact PyProof.Rows.formatField_str (λt'' tk=>⟨hz,hr pins _ σ _ _ Q (I1.tok _) q⟩) hy
 |int i =>
  simp only[fmtV]at e1
  split at e1
  ·rename_i hi
   cases e1
   obtain⟨t',rfl⟩:=r1
   exact PyProof.Rows.formatField_int_small hi ⟨hz,hr pins _ σ _ _ Q (I1.tok _) q⟩
  ·cases e1
 |_=>simp only[fmtV,reduceCtorEq]at e1
theorem aHe{v1 v2:Expr}(h:PJ X (v1::v2::es) t):PE X (.JoinedStr (v1::v2::es) pos) (λσ H Q=>t Str.empty σ H λout H'=>Q (.str out) H'):=by
 intro pins s σ H Q I q
 refine JoinedStr_many (thn (h pins s σ H _ _ I q) λv s1 ⟨x,H1,I1,r1,out,e1,q1⟩=>?_)
 subst e1
 exact⟨_,H1,I1,r1,q1⟩
end
end L2
namespace EV
open L2
section
variable{K:Frag}{e o:Expr}{es:List Expr}{pos:Pos}
def pSlS(x:W)(lo hi:Option Int)(M:Mm):Oc W:=match x with
 |.d (.str z)=>if z.length<=16777216 then .ok (.d (.str ⟨(cut z.cps.toList lo hi).toArray⟩)) M else .bad
 |x=>pSl x lo hi M
def eSlS(f:FE)(fl fh:FO):FE:=λL M=>(f L M).bind λx M1=>(fl L M1).bind λlo M2=>(fh L M2).bind λhi M3=>pSlS x lo hi M3
theorem bK{lo hi:Option Expr}{fl fh:FO}(he:Ev X K Z e f)(hl:Eo X K Z lo fl)(hh:Eo X K Z hi fh):Ev X K Z (.Subscript e (.Slice lo hi none p2) pos) (eSlS f fl fh):=by
 have h:=aJd (p2:=p2) (pos:=pos) (SlR.or (aSr (X:=X)) (SlR.or (aOx (X:=X)) aMr)) he.h hl.h hh.h
 rw[he.k]at h
 refine⟨he.k,cqE h ?_⟩
 rintro σ H Q ⟨μ,M,L,hr,lr,p⟩
 refine⟨μ,M,L,hr,lr,p.bind.imp λμ1 H1 M1 x e1 hr1 _ p1 v rx=>?_⟩
 refine⟨μ1,M1,L,hr1,lr.ext hr.lsts e1,p1.bind.imp λμ2 H2 M2 l e2 hr2 _ p2=>?_⟩
 refine⟨μ2,M2,L,hr2,lr.ext hr.lsts (e1.trans e2),p2.bind.imp λμ3 H3 M3 u e3 hr3 _ p3=>?_⟩
 have rx:=rx.ext hr1.lsts (e2.trans e3)
 cases x with
 |ref i=>exact .inr (.inr (qC hr3 rx p3))
 |ob _ _=>exact .inr (.inr (qC hr3 rx p3))
 |nest _=>exact .inr (.inr (qC hr3 rx p3))
 |d x=>cases x with
  |tup xs =>
   have rx':=rx
   simp only[Rw,Rp]at rx
   obtain⟨a,vs,rfl,q1,r1⟩:=rx
   refine .inr (.inl ⟨a,vs,rfl,SqT.of q1,λhw=>?_,qR hr3 (aGd r1) p3⟩)
   refine p3 μ3 H3 .refl hr3 _ ?_
   rw[aGq (by rw[r1.length];exact hw)]
   exact rx'
  |str z =>
   simp only[Rw,Rp]at rx
   subst rx
   simp only[pSlS]at p3
   split at p3
   ·rename_i hz
    refine .inl ⟨z,rfl,by rw[aBF];exact hz,?_⟩
    rw[aHr]
    have hc:z.cps.toList.length=z.length:=by simp[Str.length]
    refine p3 μ3 H3 .refl hr3 _ ?_
    simp only[Rw,Rp,cut,hc]
   ·exact p3.elim
  |_=>exact .inr (.inr (qC hr3 rx p3))
def cIntS(ws:List W)(M:Mm):Oc W:=match ws with
 |[.d (.str z)]=>match PySem.intText? z with
  |some i=>if z.length<=640 then .ok (.d (.int i)) M else .bad
  |none=>.bad
 |ws=>cInt ws M
theorem callIntS:ClG X K Z (.type "int") cIntS:=λhk=>by
 obtain⟨r,h1,h2⟩:=callInt (X:=X) (K:=K) (Z:=Z) hk
 refine⟨_,CallR.or wC h1,?_⟩
 intro μ H M ws vs Q hr rx p
 by_cases hs:∃z,ws=[.d (.str z)]
 ·obtain⟨z,rfl⟩:=hs
  obtain⟨v,r,e1,e2,e3⟩:=rx
  cases e3;subst e1
  simp only[Rw,Rp]at e2
  subst e2
  simp only[cIntS]at p
  cases q:PySem.intText? z with
  |none=>rw[q]at p;exact p.elim
  |some i =>
   rw[q]at p
   simp only at p
   split at p
   ·rename_i hz
    exact .inl ⟨z,i,rfl,hz,q,p μ H .refl hr _ (by simp[Rw,Rp])⟩
   ·exact p.elim
 ·refine .inr (h2 μ H M ws vs Q hr rx ?_)
  have:cIntS ws M=cInt ws M:=by
   unfold cIntS
   split
   ·rename_i z;exact(hs ⟨z,rfl⟩).elim
   ·rfl
  rw[<- this];exact p
noncomputable def pInS(x y:W)(M:Mm):Oc W:=match x,y with
 |.d (.str i),.d (.str j)=>.ok (.d (.bl (!(Builtin.Str.occurrences j i 0 j.length 1).isEmpty))) M
 |_,_=>.bad
theorem opInS:OpG X K Z (compareOp .In) pInS:=λhk=>by
 refine⟨_,aGt,?_⟩
 intro μ H M x y v u Q hr rx ry p
 cases x with
 |d x=>cases y with
  |d y=>cases x <;> cases y <;> first
   |exact p.elim
   |(simp only[Rw,Rp]at rx ry;exact⟨_,_,rx,ry,p μ H .refl hr _ (by simp[Rw,Rp])⟩)
  |_=>cases x <;> exact p.elim
 |_=>exact p.elim
noncomputable def eS1(g:Str->W->Mm->Oc W)(fo fa:FE):FE:=λL M=>(fo L M).bind λx M1=>match x with
 |.d (.str z)=>(fa L M1).bind λy M2=>g z y M2
 |_=>.bad
noncomputable def strsOf:List D->Option (List Str)
 |[]=>some []
 |.str x::r=>(strsOf r).map (x::·)
 |_::_=>none
theorem tR{μ:List Addr}{H:Hp}:∀{xs:List D} {vs:List V} {ys:List Str},Rps K μ H xs vs->strsOf xs=some ys->vs=ys.map V.str
 |[],vs,ys,r,h=>by simp only[Rps]at r;simp only[strsOf,aAP]at h;subst r;subst h;rfl
 |d::xs,vs,ys,r,h=>by
  simp only[Rps]at r
  obtain⟨v,r',rfl,e2,e3⟩:=r
  cases d <;> simp only[strsOf,reduceCtorEq,aAN]at h
  obtain⟨zs,h1,rfl⟩:=h
  simp only[Rp]at e2
  subst e2
  rw[tR e3 h1];rfl
def pJoin(sep:Str)(y:W)(M:Mm):Oc W:=match sv M y with
 |some ds=>match strsOf ds with
  |some ys=>if(ys.map (·.length)).sum+ys.length*sep.length<=16777216 then .ok (.d (.str (Str.join sep ys))) M else .bad
  |none=>.bad
 |none=>.bad
theorem aGg(ho:Ev X K Z o fo)(he:Ev X K Z e fa)(hbase:attributeBase o "join" X.env (eval o X.env)=eval o X.env:=by rfl)
  (hfew:((backTo cpos (starEach [e] X.env)).all (λx=>!x.1)&&(backToKw cpos (keywordEach [] X.env)).all (λx=>x.1.isSome)&&decide ([e].length+([]:List Keyword).length+(if([]:List Keyword).isEmpty then 0 else 1) < 30))=true:=by rfl)
  (hline:(apos.endLine==cpos.line)=true:=by rfl)(hs:starEach [e] X.env=(false,eval e X.env)::starEach [] X.env:=by rfl)(hplain:(backTo cpos (starEach [] X.env)).any (·.1)=false:=by rfl) :
  Ev X K Z (.Call (.Attribute o "join" apos) [e] [] cpos) (eS1 pJoin fo fa):=by
 have h:=wT aFP PySem.F.slot_str_join PySem.F.type_str_join aNj ho.h (dC he.h fQ hs) hbase hfew hline hs hplain
 rw[ho.k]at h
 refine⟨ho.k,cqE h ?_⟩
 rintro σ H Q ⟨μ,M,L,hr,lr,p⟩
 refine⟨μ,M,L,hr,lr,p.bind.imp λμ1 H1 M1 x e1 hr1 _ p1 v rx=>?_⟩
 cases x with
 |d x=>cases x with
  |str z =>
   simp only[Rw,Rp]at rx
   subst rx
   refine⟨rfl,μ1,M1,L,hr1,lr.ext hr.lsts e1,p1.bind.imp λμ2 H2 M2 y e2 hr2 _ p2 u ry=>?_⟩
   unfold pJoin at p2
   cases q1:sv M2 y with
   |none=>rw[q1]at p2;exact p2.elim
   |some ds =>
    rw[q1]at p2
    simp only at p2
    cases q2:strsOf ds with
    |none=>rw[q2]at p2;exact p2.elim
    |some ys =>
     rw[q2]at p2
     simp only at p2
     split at p2
     ·rename_i hz
      obtain⟨a,vs,rfl,h1,r1⟩:=tW hr2 ry q1
      have ev:=tR r1 q2
      subst ev
      exact⟨z,a,ys,rfl,rfl,h1,hz,p2 μ2 H2 .refl hr2 _ (by simp[Rw,Rp])⟩
     ·exact p2.elim
  |_=>exact p1.elim
 |_=>exact p1.elim
abbrev FJ:=Str->Lc->Mm->Oc Str
def liftJ(K:Frag)(Z:Zt)(f:FJ):TJ:=λacc σ H Q=>∃μ M L,HR K μ H M/\LR K μ H L σ/\Pst K Z μ H (f acc L M) λμ' H' _ out=>Q out H'
structure Ej(X:Cx)(K:Frag)(Z:Zt)(es:List Expr)(f:FJ):Prop where
 k:X.K=K
 h:PJ X es (liftJ K Z f)
noncomputable def fmtD:W->Option Str
 |.d (.str x)=>some x
 |.d (.int i)=>if i.natAbs.log2 < 1920 then some (toString i)else none
 |_=>none
noncomputable def jNil:FJ:=λacc _ M=>if acc.length<=16777216 then .ok acc M else .bad
noncomputable def jLit(y:Str)(g:FJ):FJ:=λacc L M=>if(acc++y).length<=16777216 then g (acc++y) L M else .bad
def jVal(f:FE)(g:FJ):FJ:=λacc L M=>(f L M).bind λw M1=>match fmtD w with
 |some y=>if y.length<=16777216/\(acc++y).length<=16777216 then g (acc++y) L M1 else .bad
 |none=>.bad
noncomputable def eJ(g:FJ):FE:=λL M=>(g Str.empty L M).bind λout M1=>.ok (.d (.str out)) M1
variable{g:FJ}
theorem cqJ{t t':TJ}(h:PJ X es t)(i:∀acc σ H Q,t' acc σ H Q->t acc σ H Q):PJ X es t':=λpins s σ H acc Q I q=>h pins s σ H acc Q I (i _ _ _ _ q)
theorem pB(hk:X.K=K:=by rfl):Ej X K Z [] jNil:=⟨hk,cqJ aSp λacc σ H Q ⟨μ,M,L,hr,lr,p⟩=>by
 unfold jNil at p
 split at p
 ·rename_i hz;exact⟨by rw[aBF];exact hz,p μ H .refl hr⟩
 ·exact p.elim⟩
theorem jC(hr:Ej X K Z es g):Ej X K Z (.Constant (.str y) j pos::es) (jLit y g):=⟨hr.k,cqJ (aRv hr.h) λacc σ H Q ⟨μ,M,L,hr,lr,p⟩=>by
 unfold jLit at p
 split at p
 ·rename_i hz;exact⟨by rw[aBF];exact hz,μ,M,L,hr,lr,p⟩
 ·exact p.elim⟩
theorem iL(he:Ev X K Z e f)(hr:Ej X K Z es g):Ej X K Z (.FormattedValue e (-1) none pos::es) (jVal f g):=by
 refine⟨he.k,cqJ (aTr he.h hr.h) ?_⟩
 rintro acc σ H Q ⟨μ,M,L,hr,lr,p⟩
 refine⟨μ,M,L,hr,lr,p.bind.imp λμ1 H1 M1 x e1 hr1 _ p1 v rx=>?_⟩
 cases q:fmtD x with
 |none=>rw[q]at p1;exact p1.elim
 |some y =>
  rw[q]at p1
  simp only at p1
  split at p1
  ·rename_i hz
   have hv:fmtV v=some y:=by
    cases x with
    |d x=>cases x with
     |str z=>simp only[Rw,Rp]at rx;subst rx;exact q
     |int z=>simp only[Rw,Rp]at rx;subst rx;exact q
     |_=>cases q
    |_=>cases q
   exact⟨y,hv,by rw[aBF];exact hz.1,by rw[aBF];exact hz.2,μ1,M1,L,hr1,lr.ext hr.lsts e1,p1⟩
  ·exact p1.elim
theorem iP{v1 v2:Expr}(h:Ej X K Z (v1::v2::es) g):Ev X K Z (.JoinedStr (v1::v2::es) pos) (eJ g):=by
 refine⟨h.k,cqE (aHe h.h) ?_⟩
 rintro σ H Q ⟨μ,M,L,hr,lr,p⟩
 exact⟨μ,M,L,hr,lr,p.bind.imp λμ1 H1 M1 x e1 hr1 _ p1=>p1 μ1 H1 .refl hr1 _ (by simp[Rw,Rp])⟩
end
end EV
namespace L2
abbrev Tbl:=List (Str×Str)
def tabB(K:Frag)(d:Addr)(tb:Tbl):Bool:=KTD.tabLook KTD.flatLooks (λb=>K.lookup b) d (tb.map λp=>(p.1,PyData.str p.2))
def TabK(K:Frag)(d:Addr)(tb:Tbl):Prop:=tabB K d tb=true
variable{σ:St}{d:Addr}{tb:Tbl}
theorem aAt{h:Heap}{k:Str}{P:Value->Prop}:∀tb:Tbl,(∀z t,KTD.datumAt k tb=some z->P (.str z t))->KTD.EachL h k P ((tb.map λp=>(p.1,PyData.str p.2)).map λp=>(p.1,KTD.Dat.flat p.2))
 |[],_=>True.intro
 |[(x,z)],f=>λe=>λt=>f z t (by simp[KTD.datumAt,e])
 |(x,z)::q::tb,f=>by
  by_cases h:k=x
  ·exact KTD.eachL_hit h λt=>f z t (by simp[KTD.datumAt,h])
  ·exact KTD.eachL_miss h (aAt (q::tb) λz' t e=>f z' t (by simp only[KTD.datumAt,aBI h,aBD,aDC]at e ⊢;exact e))
theorem aFq{h:Heap}{k:Str}{P:Value->Prop}{els:Prop}:∀tb:Tbl,(∀z t,KTD.datumAt k tb=some z->P (.str z t))->(KTD.datumAt k tb=none->els)->KTD.Each h k P els ((tb.map λp=>(p.1,PyData.str p.2)).map λp=>(p.1,KTD.Dat.flat p.2))
 |[],_,g=>g rfl
 |(x,z)::tb,f,g=>by
  by_cases h:k=x
  ·exact KTD.each_hit h λt=>f z t (by simp[KTD.datumAt,h])
  ·exact KTD.each_miss h (aFq tb (λz' t e=>f z' t (by simp only[KTD.datumAt,aBI h,aBD,aDC];exact e)) λe=>g (by simp only[KTD.datumAt,aBI h,aBD,aDC];exact e))
theorem xQ{k z:Str}:∀tb:Tbl,KTD.datumAt k tb=some z->KTD.inKeys k ((tb.map λp=>(p.1,PyData.str p.2)).map λp=>(p.1,KTD.Dat.flat p.2))=true
 |[],h=>by cases h
 |(x,y)::tb,h=>by
  simp only[KTD.datumAt]at h
  simp only[aBC,KTD.inKeys]
  by_cases e:k=x
  ·simp[e]
  ·simp only[aBI e,aBD,aDC]at h
   rw[xQ tb h];simp
theorem aAj:∀tb:Tbl,(((tb.map λp=>(p.1,PyData.str p.2)).map λp=>(p.1,KTD.Dat.flat p.2)).all λp=>KTD.plain p.2)=true
 |[]=>rfl
 |_::tb=>by rw[aBC,aBC,aEC,aAj tb];rfl
variable{i:Expr}{pos:Pos}{ti:TE}
theorem vE(ht:TabK X.K d tb)(I:Inv X pins σ H s):KTD.Here s.heap s.heap d ((tb.map λp=>(p.1,PyData.str p.2)).map λp=>(p.1,KTD.Dat.flat p.2)) :=
 ⟨(KTD.tab_of_look (λ_ _ h=>KTD.flat_of_looks h) (λb o q=>I.kIn b o q) ht).text,λ_ _ h=>h⟩
theorem aSy(hg:Gl X x)(hm:X.mg x=some (.ref d))(ht:TabK X.K d tb)(hi:PE X i ti)(hs:PlainIx i)(hd:(x==("__debug__":Str))=false) :
  PE X (.Subscript (.Name x p) i pos) (λσ H Q=>ti σ H λy H1=>∃k z,y=.str k/\KTD.datumAt k tb=some z/\Q (.str z) H1):=by
 intro pins s σ H Q I h
 refine Subscript_ (thn (tD (X:=X) (v:=.ref d) hg hm rfl hd pins s σ H (λv H'=>v=.ref d/\H'=H) I ⟨rfl,rfl⟩) λu s1 ⟨x1,H1,I1,r1,e1,e2⟩=>?_)
 subst e1 e2
 cases r1
 refine thn (hi pins s1 σ _ _ I1 h) λiv s2 ⟨y,H2,I2,ry,k,z,ey,e3,q⟩=>?_
 subst ey
 obtain⟨t,rfl⟩:=ry
 exact KTD.item_textA (vE ht I2) (aAj tb) (xQ tb e3) (aAt tb λz' t' e4=>⟨.str z,H2,I2.tok _,by rw[e3]at e4;cases e4;exact⟨t',rfl⟩,q⟩) (hs _ _)
theorem aIb(hg:Gl X x)(hm:X.mg x=some (.ref d))(ht:TabK X.K d tb)(hi:PE X i ti)(m:M1 X (.Name x p) "get" apos i cpos)(hd:(x==("__debug__":Str))=false) :
  PE X (.Call (.Attribute (.Name x p) "get" apos) [i] [] cpos) (λσ H Q=>ti σ H λy H1=>∃k,y=.str k/\Q ((KTD.datumAt k tb).elim .non V.str) H1):=by
 intro pins s σ H Q I h
 refine wpAny_Call_method m.base m.few m.line PySem.F.plainAttrs_dict PySem.F.slot_dict_get PySem.F.type_dict_get (thn (tD (X:=X) (v:=.ref d) hg hm rfl hd pins s σ H (λv H'=>v=.ref d/\H'=H) I ⟨rfl,rfl⟩) λu s1 ⟨x1,H1,I1,r1,e1,e2⟩=>?_)
 subst e1 e2
 cases r1
 have T:=vE ht I1
 refine⟨T.typeIs,T.noDict,?_⟩
 rw[m.trees]
 refine Calls.callWith_builtin rfl (Calls.evalArgs_plain (Calls.spliced_cons (thn (hi pins s1 σ _ _ I1 h) λiv s2 ⟨y,H2,I2,ry,k,ey,q⟩=>Calls.spliced_nil ?_)))
 subst ey
 obtain⟨t,rfl⟩:=ry
 exact KTD.get1_text (vE ht I2) (aFq tb (λz t' e=>⟨.str z,H2,I2.tok _,⟨t',rfl⟩,by rw[e]at q;exact q⟩) λe=>⟨.non,H2,I2.tok _,rfl,by rw[e]at q;exact q⟩)
end L2
namespace EV
open L2
def pTab(tb:Tbl)(y:W)(M:Mm):Oc W:=match y with
 |.d (.str k)=>match KTD.datumAt k tb with
  |some z=>.ok (.d (.str z)) M
  |none=>.bad
 |_=>.bad
def pTabG(tb:Tbl)(y:W)(M:Mm):Oc W:=match y with
 |.d (.str k)=>.ok (.d ((KTD.datumAt k tb).elim .non D.str)) M
 |_=>.bad
variable{K:Frag}{i:Expr}{pos:Pos}{d:Addr}{tb:Tbl}
theorem aQy(hm:X.mg x=some (.ref d))(ht:TabK K d tb)(hi:Ev X K Z i fi)(hg:Gl X x:=by rfl)(hs:PlainIx i:=by intro _ _;rfl)(hd:(x==("__debug__":Str))=false:=by decide) :
  Ev X K Z (.Subscript (.Name x p) i pos) (e1 (pTab tb) fi):=by
 refine⟨hi.k,cqE (aSy hg hm (hi.k▸ht) hi.h hs hd) ?_⟩
 rintro σ H Q ⟨μ,M,L,hr,lr,p⟩
 refine⟨μ,M,L,hr,lr,p.bind.imp λμ1 H1 M1 y e1 hr1 _ p1 v ry=>?_⟩
 unfold pTab at p1
 split at p1
 ·simp only[Rw,Rp]at ry
  split at p1
  ·rename_i z hz;exact⟨_,z,ry,hz,p1 μ1 H1 .refl hr1 _ (by simp[Rw,Rp])⟩
  ·exact p1.elim
 ·exact p1.elim
theorem aGm(hm:X.mg x=some (.ref d))(ht:TabK K d tb)(hi:Ev X K Z i fi)(m:M1 X (.Name x p) "get" apos i cpos:=by exact⟨rfl,rfl,rfl,rfl⟩)(hg:Gl X x:=by rfl)(hd:(x==("__debug__":Str))=false:=by decide) :
  Ev X K Z (.Call (.Attribute (.Name x p) "get" apos) [i] [] cpos) (e1 (pTabG tb) fi):=by
 refine⟨hi.k,cqE (aIb hg hm (hi.k▸ht) hi.h m hd) ?_⟩
 rintro σ H Q ⟨μ,M,L,hr,lr,p⟩
 refine⟨μ,M,L,hr,lr,p.bind.imp λμ1 H1 M1 y e1 hr1 _ p1 v ry=>?_⟩
 unfold pTabG at p1
 split at p1
 ·simp only[Rw,Rp]at ry
  rename_i k _
  refine⟨k,ry,p1 μ1 H1 .refl hr1 _ ?_⟩
  cases KTD.datumAt k tb <;> simp[Rw,Rp]
 ·exact p1.elim
end EV
namespace L2
variable{prog:Program}{E:Value->Shared->Prop}{e st:Expr}{ts:TO}{pos:Pos}
end L2
namespace EV
open L2
variable{K:Frag}{e st:Expr}{fs:FO}{pos:Pos}
abbrev T(l:List Nat):Str:=⟨l.toArray⟩
theorem gM(a b:List Nat):T a++T b=T (a++b):=by
 show(⟨a.toArray++b.toArray⟩:Str)=_
 simp[T]
theorem cU(a:List Nat):Str.length (T a)=a.length:=rfl
theorem aFw{a b:List Nat}:T a=T b ↔ a=b:=⟨λh=>by simpa using congrArg (λs:Str=>s.cps.toList) h,λh=>by rw[h]⟩
theorem aPr(s:Str):s=T s.cps.toList:=by simp[T]
theorem lL(a b:List Nat):(T a==T b)=decide (a=b):=by
 by_cases h:a=b
 ·subst h;simp
 ·have:T a≠T b:=λe=>h (aFw.mp e)
  simp[this,h]
theorem eL(s:String):(Str.ofString s)=T (s.toList.map Char.toNat):=by rw[Str.ofString_eq_toList]
theorem aUz(n:Nat):(Str.ofString (toString (n:Int)))=T ((Nat.toDigits 10 n).map Char.toNat):=by rw[aPr (Str.ofString (toString (n:Int))),PySem.W.KIN.signs_num]
variable{K:Frag}
def cStr(ws:List W)(M:Mm):Oc W:=match ws with
 |[.d (.int i)]=>if i.natAbs.log2 < 1920 then .ok (.d (.str (toString i))) M else .bad
 |_=>.bad
theorem callStr:ClG X K Z (.type "str") cStr:=λhk=>by
 refine⟨_,yE,?_⟩
 intro μ H M ws vs Q hr rx p
 unfold cStr at p
 split at p
 ·obtain⟨v,r,e1,e2,e3⟩:=rx
  cases e3;subst e1
  simp only[Rw,Rp]at e2
  subst e2
  split at p
  ·rename_i hz;exact⟨_,rfl,hz,p μ H .refl hr _ (by simp[Rw,Rp])⟩
  ·exact p.elim
 ·exact p.elim
section
variable{Q:W->Mm->Prop}{QJ:Str->Mm->Prop}{g:FE}{fl fh:FO}{j:FJ}
theorem aRs(z:Okx EX (f L M) λx M1=>Okx EX (fl L M1) λlo M2=>Okx EX (fh L M2) λhi M3=>Okx EX (pSlS x lo hi M3) Q):Okx EX (eSlS f fl fh L M) Q:=aQ (z.mono λ_ _ z=>aQ (z.mono λ_ _ z=>aQ z))
theorem pA(hz:l.length<=16777216)(q:Q (.d (.str (T (cut l lo hi)))) M):Okx EX (pSlS (.d (.str (T l))) lo hi M) Q:=by
 simp only[pSlS];rw[aAJ (show(T l).length<=16777216 from hz)];exact aU q
theorem aOh{xs:List D}(q:Q (.d (.tup (cut xs lo hi))) M):Okx EX (pSlS (.d (.tup xs)) lo hi M) Q:=aJs q
theorem sV{xs:List D}(q:Q (.d (.lst (cut xs lo hi))) M):Okx EX (pSlS (.d (.lst xs)) lo hi M) Q:=aEu (x:=.d (.lst xs)) (by simp) rfl q
variable{i:Int}
theorem aNh(h:PySem.intText? z=some i)(hz:z.length<=640)(q:Q (.d (.int i)) M):Okx EX (cIntS [.d (.str z)] M) Q:=by
 simp only[cIntS,h];rw[aAJ hz];exact aU q
theorem aLa{b:Bool}(q:Q (.d (.int (if b=true then 1 else 0))) M):Okx EX (cIntS [.d (.bl b)] M) Q:=aU q
theorem aAc(hz:i.natAbs.log2 < 1920)(q:Q (.d (.str (toString i))) M):Okx EX (cStr [.d (.int i)] M) Q:=by
 simp only[cStr];rw[aAJ hz];exact aU q
theorem aTe{i j:Str}(q:Q (.d (.bl (!(Builtin.Str.occurrences j i 0 j.length 1).isEmpty))) M):Okx EX (pInS (.d (.str i)) (.d (.str j)) M) Q:=aU q
theorem aDa{k:Int}{c:Nat}(h:atI l k=some c)(hz:l.length<=16777216)(q:Q (.d (.str (T [c]))) M):Okx EX (pIx (.d (.str (T l))) (.d (.int k)) M) Q:=by
 have e:pIx (.d (.str (T l))) (.d (.int k)) M=.ok (.d (.str (T [c]))) M:=by
  simp only[pIx,T,h];rw[aAJ (show(T l).length<=16777216 from hz)]
 rw[e];exact aU q
theorem qV(hz:z.length<=16777216)(q:Q (.d (.int z.length)) M):Okx EX (cLen [.d (.str z)] M) Q:=by
 simp only[cLen];rw[aAJ hz];exact aU q
theorem aUf{p:Str->W->Mm->Oc W}(h:Okx EX (fo L M) λx M1=>∃z,x=.d (.str z)/\Okx EX (fa L M1) λy M2=>Okx EX (p z y M2) Q):Okx EX (eS1 p fo fa L M) Q :=
 aQ (h.mono λx M1 ⟨z,e,h⟩=>by subst e;exact aQ h)
theorem tL:∀ys:List Str,strsOf (ys.map D.str)=some ys
 |[]=>rfl
 |y::ys=>by simp only[aBC,strsOf,tL ys,aEZ]
theorem aNz{sep:Str}{y:W}{ys:List Str}(h:sv M y=some (ys.map D.str))(hz:(ys.map (·.length)).sum+ys.length*sep.length<=16777216)(q:Q (.d (.str (Str.join sep ys))) M):Okx EX (pJoin sep y M) Q:=by
 simp only[pJoin,h,tL];rw[aAJ hz];exact aU q
theorem aUk(h:Okx EX (j Str.empty L M) λout M1=>Q (.d (.str out)) M1):Okx EX (eJ j L M) Q:=aQ (h.mono λout M1 q=>aU q)
variable{acc:Str}
theorem yA(hz:acc.length<=16777216)(q:QJ acc M):Okx EX (jNil acc L M) QJ:=by unfold jNil;rw[aAJ hz];exact aU q
theorem pJ(hz:(acc++y).length<=16777216)(h:Okx EX (j (acc++y) L M) QJ):Okx EX (jLit y j acc L M) QJ:=by unfold jLit;rw[aAJ hz];exact h
theorem aFl(h:Okx EX (f L M) λw M1=>∃y,fmtD w=some y/\(y.length<=16777216/\(acc++y).length<=16777216)/\Okx EX (j (acc++y) L M1) QJ):Okx EX (jVal f j acc L M) QJ :=
 aQ (h.mono λw M1 ⟨y,e,hz,h⟩=>by rw[e];simp only;rw[aAJ hz];exact h)
variable{tb:Tbl}{k:Str}
theorem aTp(h:KTD.datumAt k tb=some z)(q:Q (.d (.str z)) M):Okx EX (pTab tb (.d (.str k)) M) Q:=by simp only[pTab,h];exact aU q
theorem aPh(q:Q (.d ((KTD.datumAt k tb).elim .non D.str)) M):Okx EX (pTabG tb (.d (.str k)) M) Q:=aU q
end
end EV
namespace LS
open L2 EV
open PySem.NumText
def isF(c:Nat):Bool:=decide (48<=c/\c<=57)
def dig(n:Nat):List Nat:=(Nat.toDigits 10 n).map Char.toNat
theorem aCh(n:Nat):∀c∈dig n,isF c=true:=λc hc=>by
 obtain⟨ch,hch,rfl⟩:=aBK.mp hc
 have:=PyProof.Rows.digit_range (Nat.isDigit_of_mem_toDigits (by decide) (by decide) hch)
 simp[isF,this]
variable{n:Nat}
theorem kQ{k:Nat}(hk:1<=k)(h:n < 10 ^ k):(dig n).length<=k:=by simpa[dig]using PyProof.Rows.digits10_le hk h
theorem aNf(n:Nat):1<=(dig n).length:=by simpa[dig]using PyProof.Rows.tDigits_len_ge 10 n
theorem aIt(n:Nat):dig n≠[]:=λh=>by have:=aNf n;rw[h]at this;simp at this
theorem aOm(n:Nat):digitsVal (dig n)=n:=PySem.W.KIN.val_back n
theorem aGr(h:n < 10):dig n=[48+n]:=by
 have:n=0\/n=1\/n=2\/n=3\/n=4\/n=5\/n=6\/n=7\/n=8\/n=9:=by lia
 rcases this with rfl|rfl|rfl|rfl|rfl|rfl|rfl|rfl|rfl|rfl <;> rfl
theorem aJv(h:10<=n):dig n=dig (n / 10)++dig (n % 10):=by
 have t:Nat.toDigits 10 (n / 10)++Nat.toDigits 10 (n % 10)=Nat.toDigits 10 (10*(n / 10)+n % 10):=Nat.toDigits_append_toDigits (by decide) (by lia) (Nat.mod_lt n (by decide))
 rw[Nat.div_add_mod]at t
 simp only[dig,<- t,aCV]
theorem aIw:∀(n:Nat),n≠0->∃c r,dig n=c::r/\c≠48:=by
 intro n
 induction n using Nat.strongRecOn with
 |_ n ih =>
  intro h0
  by_cases h:n < 10
  ·exact⟨48+n,[],aGr h,by lia⟩
  ·obtain⟨c,r,e,hc⟩:=ih (n / 10) (by lia) (by lia)
   exact⟨c,r++dig (n % 10),by rw[aJv (by lia),e];rfl,hc⟩
theorem aIh(n:Nat):(dig n).head?=some 48->(dig n).length=1:=by
 intro h
 by_cases h0:n=0
 ·subst h0;rfl
 ·obtain⟨c,r,e,hc⟩:=aIw n h0
  rw[e]at h;simp at h;exact(hc h).elim
def num?(most:Nat)(ds:List Nat):Option Nat:=if ds=[]\/most < ds.length\/¬ds.all isF\/(ds.head?=some 48/\1 < ds.length)then none else some (digitsVal ds)
theorem yO{most:Nat}(h:(dig n).length<=most):num? most (dig n)=some n:=by
 unfold num?
 rw[aAI,aOm]
 rintro(h1|h1|h1|⟨h1,h2⟩)
 ·exact aIt n h1
 ·lia
 ·exact h1 (List.all_eq_true.mpr (aCh n))
 ·have:=aIh n h1;lia
theorem tN{most:Nat}{ds:List Nat}(h:num? most ds=some n)(hm:most<=640):PySem.intText? (T ds)=some (n:Int)/\ds.length<=640:=by
 unfold num? at h
 split at h
 ·cases h
 ·rename_i hn
  simp only[aAP]at h
  simp only[not_or,Classical.not_not]at hn
  have e:=intText_digits (x:=T ds) (λc hc=>by simpa[isF]using List.all_eq_true.mp hn.2.2.1 c (by simpa using hc)) (by simpa using hn.1) (by rw[cU];lia)
  simp only[T]at e
  rw[e,<- h]
  exact⟨rfl,by lia⟩
noncomputable def sg:Wd->List Nat
 |.sum=>[32,43,32]
 |.less=>[32,45,32]
 |.times=>[32,42,32]
def txt:E->List Nat
 |.num c=>dig c.toNat
 |.giv i=>120::dig i
 |.op w a b=>40::(txt a++(sg w++(txt b++[41])))
noncomputable def wd?(s:List Nat):Option Wd:=if s=[32,43,32]then some .sum else if s=[32,45,32]then some .less else if s=[32,42,32]then some .times else none
theorem aVa(w:Wd):wd? (sg w)=some w:=by cases w <;> rfl
def rdG(s:List Nat):Option (E×List Nat):=match num? 1 (s.takeWhile isF)with
 |some n=>if n<=7 then some (.giv n,s.dropWhile isF)else none
 |none=>none
def rdN(s:List Nat):Option (E×List Nat):=match num? 6 (s.takeWhile isF)with
 |some n=>some (.num n,s.dropWhile isF)
 |none=>none
def rdP(r:List Nat->Option (E×List Nat))(s:List Nat):Option (E×List Nat):=match r s with
 |some (a,s1)=>match wd? (s1.take 3)with
  |some w=>match r (s1.drop 3)with
   |some (b,s2)=>if s2.take 1=[41]then some (.op w a b,s2.drop 1)else none
   |none=>none
  |none=>none
 |none=>none
def rd:Nat->List Nat->Option (E×List Nat)
 |k,s=>if s.take 1=[40]then(match k with
   |0=>none
   |k+1=>rdP (rd k) (s.drop 1))
  else if s.take 1=[120]then rdG (s.drop 1)else rdN s
def calm(s:List Nat):Prop:=∀c,s.head?=some c->isF c=false
theorem uP{a s:List Nat}(h:∀c∈a,isF c=true)(hs:calm s):(a++s).takeWhile isF=a/\(a++s).dropWhile isF=s:=by
 induction a with
 |nil =>
  cases s with
  |nil=>exact⟨rfl,rfl⟩
  |cons c r =>
   have:=hs c rfl
   simp[aCX,aDF,this]
 |cons c r ih =>
  have h1:=h c (by simp)
  obtain⟨i1,i2⟩:=ih λx hx=>h x (by simp[hx])
  simp only[aDZ,aCX,aDF,h1,aCQ]
  exact⟨by rw[i1],i2⟩
theorem aEg:∀(e:E) (k:Nat) (s:List Nat),dp e<=k->wf 8 e->calm s->rd k (txt e++s)=some (e,s)
 |.num c,k,s,hk,hw,hs=>by
  obtain⟨h1,h2⟩:=uP (aCh c.toNat) hs
  have hl:(dig c.toNat).length<=6:=kQ (by lia) (by have:=hw.2;lia)
  obtain⟨d,r,e⟩:∃d r,dig c.toNat=d::r:=by cases h:dig c.toNat with
   |nil=>exact(aIt _ h).elim
   |cons d r=>exact⟨d,r,rfl⟩
  have hd:=aCh c.toNat d (by rw[e];simp)
  have hd':48<=d/\d<=57:=by simpa[isF]using hd
  have t1:(dig c.toNat++s).take 1=[d]:=by rw[e];rfl
  show rd k (dig c.toNat++s)=_
  unfold rd
  rw[aAI (by rw[t1];simp;lia),aAI (by rw[t1];simp;lia)]
  unfold rdN
  rw[h1,h2,yO hl]
  simp only[aAP,aDP,and_true,E.num.injEq]
  have:=hw.1;lia
 |.giv i,k,s,hk,hw,hs=>by
  have hi:i < 8:=hw
  obtain⟨h1,h2⟩:=uP (aCh i) hs
  unfold rd
  simp only[txt,aDZ,aGL,List.take_zero,List.drop_succ_cons,aDJ]
  rw[aAI (by simp),aAJ (by simp)]
  unfold rdG
  rw[h1,h2,yO (kQ (by lia) (by lia)),]
  simp only
  rw[aAJ (by lia)]
 |.op w a b,k,s,hk,hw,hs=>by
  simp only[dp]at hk
  obtain⟨k,rfl⟩:∃j,k=j+1:=⟨k - 1,by lia⟩
  unfold rd
  simp only[txt,aDZ,aGL,List.take_zero,List.drop_succ_cons,aDJ,aCQ]
  have hb:calm ([41]++s):=λc hc=>by simp at hc;subst hc;rfl
  have ha:calm (sg w++(txt b++([41]++s))):=λc hc=>by cases w <;> (simp[sg]at hc;subst hc;rfl)
  have e1:txt a++(sg w++(txt b++[41]))++s=txt a++(sg w++(txt b++([41]++s))):=by simp
  unfold rdP
  rw[e1,aEg a k _ (by lia) hw.1 ha]
  have t3:(sg w++(txt b++([41]++s))).take 3=sg w:=by cases w <;> rfl
  have d3:(sg w++(txt b++([41]++s))).drop 3=txt b++([41]++s):=by cases w <;> rfl
  simp only[t3,aVa,d3,aEg b k _ (by lia) hw.2 hb]
  rfl
theorem yU:∀(k:Nat) (s:List Nat) (e:E) (s':List Nat),rd k s=some (e,s')->s' <:+ s
 |k,s,e,s',h=>by
  unfold rd at h
  split at h
  ·cases k with
   |zero=>cases h
   |succ k =>
    simp only at h
    unfold rdP at h
    split at h
    ·rename_i a s1 h1
     split at h
     ·split at h
      ·rename_i b s2 h2
       split at h
       ·simp only[aAP,aDP]at h
        obtain⟨_,rfl⟩:=h
        exact(aDV _ _).trans ((yU k _ _ _ h2).trans ((aDV _ _).trans ((yU k _ _ _ h1).trans (aDV _ _))))
       ·cases h
      ·cases h
     ·cases h
    ·cases h
  ·split at h
   ·unfold rdG at h
    split at h
    ·split at h
     ·simp only[aAP,aDP]at h
      obtain⟨_,rfl⟩:=h
      exact(List.dropWhile_suffix _).trans (aDV _ _)
     ·cases h
    ·cases h
   ·unfold rdN at h
    split at h
    ·simp only[aAP,aDP]at h
     obtain⟨_,rfl⟩:=h
     exact List.dropWhile_suffix _
    ·cases h
noncomputable def nw:E->Nat
 |.num _=>1
 |.giv _=>1
 |.op _ a b=>1+nw a+nw b
theorem aEz:∀(e:E) (k:Nat),dp e<=k->nw e+1<=2 ^ (k+1)
 |.num _,k,_=>by have:=aCG (n:=2) (by lia) (show 1<=k+1 by lia);simp only[nw];lia
 |.giv _,k,_=>by have:=aCG (n:=2) (by lia) (show 1<=k+1 by lia);simp only[nw];lia
 |.op _ a b,k,h=>by
  simp only[dp]at h
  obtain⟨j,rfl⟩:∃j,k=j+1:=⟨k - 1,by lia⟩
  have h1:=aEz a j (by lia)
  have h2:=aEz b j (by lia)
  rw[aFC]
  simp only[nw];lia
theorem mG:∀(e:E),wf 8 e->(txt e).length<=11*nw e
 |.num c,h=>by have:=kQ (k:=6) (by lia) (show c.toNat < 10 ^ 6 by have:=h.2;lia);simp only[txt,nw];lia
 |.giv i,h=>by have hi:i < 8:=h;have:=kQ (k:=1) (n:=i) (by lia) (by lia);simp only[txt,nw,aBA];lia
 |.op w a b,h=>by
  have h1:=mG a h.1
  have h2:=mG b h.2
  have h3:(sg w).length=3:=by cases w <;> rfl
  simp only[txt,nw,aBA,aAT,List.length_nil,h3]
  lia
end LS
end
namespace LS
open PySem L2 EV
theorem oG(l:List α)(a b:Nat):cut l (some (a:Int)) (some (b:Int))=(l.drop a).take (b - a):=by
 have h:∀d k:Nat,HT.sIx l.length d (some (k:Int))=min k l.length:=by
  intro d k
  simp only[HT.sIx]
  split <;> lia
 unfold cut
 rw[h,h]
 by_cases ha:a<=l.length
 ·rw[show min a l.length=a by lia]
  by_cases hb:b<=l.length
  ·rw[show min b l.length=b by lia]
  ·rw[show min b l.length=l.length by lia,aAS (by simp),aAS (by simp;lia)]
 ·rw[show min a l.length=l.length by lia,aCI (aAH _),aCI (by lia)]
  simp
theorem nU{p:Nat->Bool}(l:List Nat)(a:Nat):(l.drop a).take ((l.drop a).takeWhile p).length=(l.drop a).takeWhile p:=by
 have h:=aFX (p:=p) (l:=l.drop a)
 have e:(l.drop a).take ((l.drop a).takeWhile p).length=((l.drop a).takeWhile p++(l.drop a).dropWhile p).take ((l.drop a).takeWhile p).length:=by rw[h]
 rw[e,aGN]
theorem uK{s:List Nat}(h:s <:+ l):l.drop (l.length - s.length)=s:=by
 obtain⟨t,rfl⟩:=h
 simp
end LS
section
open PySem PySem.Spec PyProof.Rows
namespace L2
variable{tg l:Expr}{tl:TE}
end L2
namespace EV
open L2
variable{K:Frag}{e tg:Expr}{K:Frag}{pos:Pos}
end EV
namespace LS
open L2 EV
open PySem.NumText
end LS
namespace L2
end L2
namespace EV
open L2
variable{K:Frag}
end EV
namespace LS
open L2 EV
def bal(s:List Nat):Int:=(s.count 40:Int) - (s.count 41:Int)
def Bd(k:Int)(s:List Nat):Prop:=∀n,bal (s.take n)<=k
theorem Bd.none{s:List Nat}(h:Bd 0 s):¬s.take 1=[40]:=λe=>by have:=h 1;rw[e]at this;exact absurd this (by decide)
end LS
namespace L2
theorem xL:∀l:List (Str×Tok),Vals ((l.map (·.1)).map V.str) (strValues l)
 |[]=>.nil
 |(x,t)::l=>.cons ⟨t,rfl⟩ (xL l)
theorem aJg:MtR X "str.split" (λx xs H Q=>∃z y,x=.str z/\xs=[.str y]/\1<=y.length/\z.length < sizeLine/\∀p,H p=none->Q (.ref p) (upd H p (.lst ((PySem.Txt.split z y).map V.str)))):=by
 intro pins s σ H x xs v us Q I rx rs h
 obtain⟨z,y,rfl,rfl,hy,hz,q⟩:=h
 obtain⟨t,rfl⟩:=rx
 obtain⟨u0,rfl,u,rfl⟩:=vals1 rs
 have hw:=PyProof.Rows.split_weight z y hy
 have hyb:(y.length==0)=false:=by simp;lia
 have fin:∀(l:List (Str×Tok)) (k:Nat),l.map (·.1)=PySem.Txt.split z y->EP X pins σ Q (.ref s.heap.objs.size) {s with heap:=s.heap.push {cls:=.type "list",data:=.seq (strValues l).toArray},toks:=k}:=by
  intro l k e
  refine⟨.ref s.heap.objs.size,_,I.laid (t':=k) (o:=.lst ((PySem.Txt.split z y).map V.str)) (λb ob q=>aAA _ q) (aAH _) ?_,rfl,q _ (I.hok.fresh (aAH _))⟩
  exact⟨by rw[aAL];lia,_,0,by rw[<- e];exact xL l,aAE _ rfl⟩
 cases h1:(decide (z.length < y.length) || decide (Builtin.Str.strKind z < Builtin.Str.strKind y))
 ·cases hf:(Builtin.Str.occurrences z y 0 z.length (z.length+1)).isEmpty
  ·have e:PySem.Txt.split z y=Builtin.Str.partsBetween z (Builtin.Str.occurrences z y 0 z.length (z.length+1)) y.length:=by
    unfold PySem.Txt.split
    rw[aAI (by rw[h1];exact aBG),aAI (by rw[hf];exact aBG)]
   refine aCT aEI (aFG _ _ _) aFK (aFB _ _) (meets_str_split_sep z y t u h1 hyb hf (by lia) (by rw[<- e];lia)) ?_
   rw[strsFrom_eq]
   exact fin _ _ (by rw[numbered_texts,e])
  ·have e:PySem.Txt.split z y=[z]:=by
    unfold PySem.Txt.split
    rw[aAI (by rw[h1];exact aBG),aAJ hf]
   exact aCT aEI (aFG _ _ _) aFK (aFB _ _) (meets_str_split_not_found z y t u h1 hyb hf) (fin [(z,t)] s.toks e.symm)
 ·have e:PySem.Txt.split z y=[z]:=by
   unfold PySem.Txt.split
   rw[aAJ h1]
  exact aCT aEI (aFG _ _ _) aFK (aFB _ _) (meets_str_split_cannot_occur z y t u h1) (fin [(z,t)] s.toks e.symm)
theorem aGx:MtR X "str.startswith" (λx xs H Q=>∃z y,x=.str z/\xs=[.str y]/\Q (.bl (PySem.Txt.startswith z y)) H):=by
 intro pins s σ H x xs v us Q I rx rs h
 obtain⟨z,y,rfl,rfl,q⟩:=h
 obtain⟨t,rfl⟩:=rx
 obtain⟨u0,rfl,u,rfl⟩:=vals1 rs
 exact call_gives PySem.F.slot_str_startswith (aFG _ _ _) PySem.F.entry_str_startswith (PySem.F.args_str_startswith_2 _ _) (gives_str_startswith z y t u) ⟨.bl _,H,I,rfl,q⟩
def two(a:Nat)(xs:List α):List α:=(List.range ((xs.length+1 - a) / 2)).filterMap λk=>xs[a+2*k]?
theorem wI(its:List Value)(a:Nat)(ha:a<=its.length):slicePick its.toArray (some (a:Int)) none (some 2)=(two a its).toArray:=by
 unfold slicePick sliceBounds sliceRange two
 simp only[Option.getD_some,aAK,show(2:Int) > 0 by decide,aCQ]
 have e:max 0 (min (if(a:Int) < 0 then(a:Int)+(its.length:Int)else(a:Int)) (its.length:Int))=(a:Int):=by
  rw[aAI (by lia)];lia
 rw[e]
 congr 1
 have c:(if(a:Int) < (its.length:Int)then((its.length:Int) - (a:Int)+2 - 1) / 2 else 0).toNat=(its.length+1 - a) / 2:=by
  split <;> lia
 rw[c,aFD]
 congr 1
 funext k
 simp only[Function.comp_apply]
 rw[show((a:Int)+2*(k:Int)).toNat=a+2*k by lia]
 simp
theorem aKo{xs:List V}(r:Vals xs us)(a:Nat):Vals (two a xs) (two a us):=by
 unfold two
 rw[r.length]
 generalize(us.length+1 - a) / 2=n
 induction n with
 |zero=>exact .nil
 |succ n ih =>
  rw[List.range_succ,aEO,aEO]
  refine ih.append ?_
  simp only[aCW,List.filterMap_nil]
  cases hx:xs[a+2*n]? with
  |none =>
   have:us[a+2*n]?=none:=by rw[List.getElem?_eq_none_iff]at hx ⊢;rw[<- r.length];exact hx
   rw[this];exact .nil
  |some x =>
   obtain⟨u,hu,ru⟩:=r.get hx
   rw[hu];exact .cons ru .nil
theorem aFx(a:Nat)(xs:List α):(two a xs).length<=xs.length:=by
 unfold two
 refine aBO (List.length_filterMap_le _ _) ?_
 rw[aCK];lia
variable{e lo st:Expr}{tl ts:TO}{pos:Pos}
theorem aRl(he:PE X e te)(hl:PO X (some lo) tl)(hs:PO X (some st) ts):PE X (.Subscript e (.Slice (some lo) none (some st) p2) pos) (λσ H Q=>te σ H λx H1=>tl σ H1 λo1 H2=>ts σ H2 λo2 H3=>∃(a:Nat) (p:Addr) (xs:List V),o1=some (a:Int)/\o2=some 2/\x=.ref p/\SqL X.K H3 p xs/\a<=xs.length/\∀q,H3 q=none->Q (.ref q) (upd H3 q (.lst (two a xs)))):=by
 intro pins s σ H Q I h
 refine Subscript_ (thn (he pins s σ H _ I h) λv s1 ⟨x,H1,I1,r1,q1⟩=>?_)
 refine wpAny_Slice (thn (hl pins s1 σ H1 _ I1 q1) λvl s2 ⟨l,H2,I2,pl,q2⟩=>?_)
 rw[evalPart_none]
 refine aAF ?_
 refine thn (hs pins s2 σ H2 _ I2 q2) λvs s3 ⟨o,H3,I3,ps,q3⟩=>?_
 obtain⟨a,p,xs,rfl,rfl,rfl,hx,ha,q⟩:=q3
 have I4:Inv X pins σ H3 {s3 with heap:=s3.heap.push {cls:=.type "slice",data:=.fields #[vl,.none,vs]}}:=I3.kept (t':=s3.toks) λb ob q=>aAA _ q
 cases r1
 obtain⟨its,r,ht,hz⟩:=I4.list hx
 have hlen:=r.length
 show wpAny (model X.prog X.w) X.A (subscriptTail e (.Slice (some lo) none (some st) p2) (.ref p) (.ref s3.heap.objs.size)) (EP X pins σ Q) X.xe {s3 with heap:=s3.heap.push {cls:=.type "slice",data:=.fields #[vl,.none,vs]}}
 refine tail_any (ops:=[.ref p,.ref s3.heap.objs.size]) ht.isList.typeIs aHA.lookup ?_ (by with_unfolding_all rfl)
 refine wpAny_getItem_list_slice ht.isList (Heap.IsSliceOf.new ..) pl .none ps (by simp) ?_ (by rw[aAK] <;> lia)
 rw[wI its a (by lia)]
 refine⟨.ref _,_,I4.laid (t':=s3.toks) (o:=.lst (two a xs)) (λb ob q=>aAA _ q) (aAH _) ?_,rfl,q _ (I4.hok.fresh (aAH _))⟩
 exact⟨aBO (aFx a xs) hz,_,0,aKo r a,aAE _ rfl⟩
end L2
namespace EV
open L2
theorem aMu{xs:List D}(r:Rps K μ H xs vs)(a:Nat):Rps K μ H (two a xs) (two a vs):=by
 unfold two
 rw[r.length]
 generalize(vs.length+1 - a) / 2=n
 induction n with
 |zero=>exact .nil
 |succ n ih =>
  rw[List.range_succ,aEO,aEO]
  refine ih.append ?_
  simp only[aCW,List.filterMap_nil]
  cases hx:xs[a+2*n]? with
  |none =>
   have:vs[a+2*n]?=none:=by rw[List.getElem?_eq_none_iff]at hx ⊢;rw[<- r.length];exact hx
   rw[this];exact .nil
  |some x =>
   obtain⟨u,hu,ru⟩:=r.get hx
   rw[hu];exact .cons ru .nil
variable{K:Frag}{e o lo st:Expr}{fl fs:FO}{pos:Pos}
def pTwo(x:W)(o1 o2:Option Int)(M:Mm):Oc W:=match o1,o2,lr M x with
 |some a,some s,some xs=>if s=2/\0<=a/\a<=xs.length then okD (.lst (two a.toNat xs)) M else .bad
 |_,_,_=>.bad
def eTwo(f:FE)(fl fs:FO):FE:=λL M=>(f L M).bind λx M1=>(fl L M1).bind λo1 M2=>(fs L M2).bind λo2 M3=>pTwo x o1 o2 M3
theorem aJi(he:Ev X K Z e f)(hl:Eo X K Z (some lo) fl)(hs:Eo X K Z (some st) fs):Ev X K Z (.Subscript e (.Slice (some lo) none (some st) p2) pos) (eTwo f fl fs):=by
 have h:=aRl (p2:=p2) (pos:=pos) he.h hl.h hs.h
 rw[he.k]at h
 refine⟨he.k,cqE h ?_⟩
 rintro σ H Q ⟨μ,M,L,hr,lr',p⟩
 refine⟨μ,M,L,hr,lr',p.bind.imp λμ1 H1 M1 x e1 hr1 _ p1 v rx=>?_⟩
 refine⟨μ1,M1,L,hr1,lr'.ext hr.lsts e1,p1.bind.imp λμ2 H2 M2 l e2 hr2 _ p2=>?_⟩
 refine⟨μ2,M2,L,hr2,lr'.ext hr.lsts (e1.trans e2),p2.bind.imp λμ3 H3 M3 u e3 hr3 _ p3=>?_⟩
 have rx:=rx.ext hr1.lsts (e2.trans e3)
 unfold pTwo at p3
 cases l with
 |none=>exact p3.elim
 |some a =>
  cases u with
  |none=>exact p3.elim
  |some s =>
   cases q1:lr M3 x with
   |none=>rw[q1]at p3;exact p3.elim
   |some xs =>
    rw[q1]at p3
    simp only at p3
    split at p3
    ·rename_i hz
     obtain⟨rfl,h0,ha⟩:=hz
     obtain⟨p,vs,rfl,h1,r1⟩:=uH hr3 rx q1
     exact⟨a.toNat,p,vs,by congr 1;lia,rfl,rfl,h1,by rw[<- r1.length];lia,kR hr3 (aMu r1 _) p3⟩
    ·exact p3.elim
def pSplit(z:Str)(y:W)(M:Mm):Oc W:=match y with
 |.d (.str s)=>if 1<=s.length/\z.length < 16777216 then okD (.lst ((PySem.Txt.split z s).map D.str)) M else .bad
 |_=>.bad
noncomputable def pStarts(z:Str)(y:W)(M:Mm):Oc W:=match y with
 |.d (.str s)=>.ok (.d (.bl (PySem.Txt.startswith z s))) M
 |_=>.bad
theorem qK{μ:List Addr}{H:Hp}:∀ys:List Str,Rps K μ H (ys.map D.str) (ys.map V.str)
 |[]=>.nil
 |y::ys=>.cons (by simp[Rp]) (qK ys)
theorem uQ(ho:Ev X K Z o fo)(he:Ev X K Z e fa)(hbase:attributeBase o "split" X.env (eval o X.env)=eval o X.env:=by rfl)
  (hfew:((backTo cpos (starEach [e] X.env)).all (λx=>!x.1)&&(backToKw cpos (keywordEach [] X.env)).all (λx=>x.1.isSome)&&decide ([e].length+([]:List Keyword).length+(if([]:List Keyword).isEmpty then 0 else 1) < 30))=true:=by rfl)
  (hline:(apos.endLine==cpos.line)=true:=by rfl)(hs:starEach [e] X.env=(false,eval e X.env)::starEach [] X.env:=by rfl)(hplain:(backTo cpos (starEach [] X.env)).any (·.1)=false:=by rfl) :
  Ev X K Z (.Call (.Attribute o "split" apos) [e] [] cpos) (eS1 pSplit fo fa):=by
 have h:=wT aFP aEI PySem.F.type_str_split aJg ho.h (dC he.h fQ hs) hbase hfew hline hs hplain
 rw[ho.k]at h
 refine⟨ho.k,cqE h ?_⟩
 rintro σ H Q ⟨μ,M,L,hr,lr,p⟩
 refine⟨μ,M,L,hr,lr,p.bind.imp λμ1 H1 M1 x e1 hr1 _ p1 v rx=>?_⟩
 cases x with
 |d x=>cases x with
  |str z =>
   simp only[Rw,Rp]at rx
   subst rx
   refine⟨rfl,μ1,M1,L,hr1,lr.ext hr.lsts e1,p1.bind.imp λμ2 H2 M2 y e2 hr2 _ p2 u ry=>?_⟩
   unfold pSplit at p2
   split at p2
   ·simp only[Rw,Rp]at ry
    subst ry
    split at p2
    ·rename_i hz
     exact⟨z,_,rfl,rfl,hz.1,by rw[aBF];exact hz.2,kR hr2 (qK _) p2⟩
    ·exact p2.elim
   ·exact p2.elim
  |_=>exact p1.elim
 |_=>exact p1.elim
theorem wM(ho:Ev X K Z o fo)(he:Ev X K Z e fa)(hbase:attributeBase o "startswith" X.env (eval o X.env)=eval o X.env:=by rfl)
  (hfew:((backTo cpos (starEach [e] X.env)).all (λx=>!x.1)&&(backToKw cpos (keywordEach [] X.env)).all (λx=>x.1.isSome)&&decide ([e].length+([]:List Keyword).length+(if([]:List Keyword).isEmpty then 0 else 1) < 30))=true:=by rfl)
  (hline:(apos.endLine==cpos.line)=true:=by rfl)(hs:starEach [e] X.env=(false,eval e X.env)::starEach [] X.env:=by rfl)(hplain:(backTo cpos (starEach [] X.env)).any (·.1)=false:=by rfl) :
  Ev X K Z (.Call (.Attribute o "startswith" apos) [e] [] cpos) (eS1 pStarts fo fa):=by
 have h:=wT aFP PySem.F.slot_str_startswith PySem.F.type_str_startswith aGx ho.h (dC he.h fQ hs) hbase hfew hline hs hplain
 rw[ho.k]at h
 refine⟨ho.k,cqE h ?_⟩
 rintro σ H Q ⟨μ,M,L,hr,lr,p⟩
 refine⟨μ,M,L,hr,lr,p.bind.imp λμ1 H1 M1 x e1 hr1 _ p1 v rx=>?_⟩
 cases x with
 |d x=>cases x with
  |str z =>
   simp only[Rw,Rp]at rx
   subst rx
   refine⟨rfl,μ1,M1,L,hr1,lr.ext hr.lsts e1,p1.bind.imp λμ2 H2 M2 y e2 hr2 _ p2 u ry=>?_⟩
   unfold pStarts at p2
   split at p2
   ·simp only[Rw,Rp]at ry
    subst ry
    exact⟨z,_,rfl,rfl,p2 μ2 H2 .refl hr2 _ (by simp[Rw,Rp])⟩
   ·exact p2.elim
  |_=>exact p1.elim
 |_=>exact p1.elim
variable{Q:W->Mm->Prop}
theorem aFi(z:Okx EX (f L M) λx M1=>Okx EX (fl L M1) λo1 M2=>Okx EX (fs L M2) λo2 M3=>Okx EX (pTwo x o1 o2 M3) Q):Okx EX (eTwo f fl fs L M) Q:=aQ (z.mono λ_ _ z=>aQ (z.mono λ_ _ z=>aQ z))
theorem aKf{x:W}{xs:List D}{a:Int}(h:lr M x=some xs)(h0:0<=a)(ha:a<=xs.length)(q:Q (.d (.lst (two a.toNat xs))) M):Okx EX (pTwo x (some a) (some 2) M) Q:=by
 unfold pTwo;rw[h];simp only;rw[aAJ ⟨trivial,h0,ha⟩];exact aU q
theorem uD{s:Str}(h1:1<=s.length)(hz:z.length < 16777216)(q:Q (.d (.lst ((PySem.Txt.split z s).map D.str))) M):Okx EX (pSplit z (.d (.str s)) M) Q:=by
 simp only[pSplit];rw[aAJ ⟨h1,hz⟩];exact aU q
theorem wK{s:Str}(q:Q (.d (.bl (PySem.Txt.startswith z s))) M):Okx EX (pStarts z (.d (.str s)) M) Q:=aU q
end EV
set_option maxHeartbeats 1000000
namespace L2
open AutoSeq1 (wpAny_loadPart')
theorem yB(l:Addr)(items:Array Value)(c:Int)(t:Tok)(h0:0<=c)(h1:c < 1000000) :
  Meets (Builtin.«enumerate.__new__» ⟨[.type "enumerate",.ref l],[(Str.ofString "start",.int c t)]⟩) (λ_ R s=>s.heap.IsList l items/\R (.ok (.ret (.ref (eH1 true s.heap l).objs.size))) {s with heap:=eH2 true s.heap l c}) :=
 .of_wp λprog w A R s h=>by
  obtain⟨hp,g,d,tk,os⟩:=s;obtain⟨hl,h⟩:=h
  have hsub:=sub_enumerate
  have hL:Heap.IsList (Shared.heap ⟨hp,g,d,tk,os⟩) l items:=hl
  have hfit:(!Builtin.SmallTypes.fitsIndex c)=false:=by
   unfold Builtin.SmallTypes.fitsIndex
   simp
   lia
  wp_walk
  refine wpAny_stack_any λst=>aAF ?_
  split
  ·rename_i k _ _ _ _ _
   cases(k==Value.type "enumerate") <;> (wp_walk using aCR hL;exact⟨_,rfl,h⟩)
  ·wp_walk using aCR hL
   exact⟨_,rfl,h⟩
variable{prog:Program}{E:Value->Shared->Prop}
theorem aBg{l:Addr}{c:Int}{t:Tok}(h0:0<=c)(h1:c < 1000000)(hl:s.heap.IsList l items)
  (h:∀h',IsEnum h' (s.heap.objs.size+1) s.heap.objs.size c .none->It0 true h' s.heap.objs.size l 0->(∀q o,s.heap.get? q=some o->h'.get? q=some o)->Q (.ref (s.heap.objs.size+1)) {s with heap:=h'}) :
  wpAny (model prog w) A (call (.type "enumerate") [.ref l] [(Str.ofString "start",.int c t)]) Q E s:=by
 obtain⟨z1,f1,f2,f3⟩:=aJn true s.heap l c
 have ft:=aGT
 obtain⟨k,tl,hmro⟩:=ft.mro
 have hmade:=ft.made
 have hsub:=ft.sub
 have hct:=aMb (.ref l) (.int c t)
 have g1:=ft.notType
 have g2:=ft.canCreate
 refine wpAny_call (codeAny_of_tree (show wpAny _ _ (callAny (.type "enumerate") _) _ _ _ from aAF ⟨Code.quiet_builtin _ (by decide +kernel),codeAny_builtin F.entry_type_call ?_⟩))
 rw[Around.under_plain (weight_type_call_type "enumerate" [.ref l] [(Str.ofString "start",.int c t)]) (units_type_call_type "enumerate" [.ref l] [(Str.ofString "start",.int c t)])]
 repeat(any_goals (first|assumption|wp_step))
 have hN:=yB l items c t h0 h1 prog w A.in1 (λr s'=>r=.ok (.ret (.ref (s.heap.objs.size+1)))/\s'={s with heap:=eH2 true s.heap l c}) s ⟨hl,by rw[z1],rfl⟩
 refine aGF (R:=λr s'=>r=.ok (.ret (.ref (s.heap.objs.size+1)))/\s'={s with heap:=eH2 true s.heap l c}) (codeAny_call_builtin ft.plain F.entry_enumerate_new (aCB (aMe (.ref l) (.int c t)) hN)) ?_
 rintro _ _ ⟨rfl,rfl⟩
 have hT:Shared.TypeIs {s with heap:=eH2 true s.heap l c} (.ref (s.heap.objs.size+1)) "enumerate":=⟨_,f1,rfl⟩
 have hli:=ft.init.lookup
 have hbi:=ft.init.bind (.ref (s.heap.objs.size+1))
 repeat(any_goals (first|assumption|wp_step))
 have hI:=initK (self:=.ref (s.heap.objs.size+1)) (a:=.ref l) (b:=.int c t) prog w A.in1 (λr s'=>r=.ok (.ret .none)/\s'={s with heap:=eH2 true s.heap l c}) {s with heap:=eH2 true s.heap l c} ⟨hT,rfl,rfl⟩
 refine aGF (R:=λr s'=>r=.ok (.ret .none)/\s'={s with heap:=eH2 true s.heap l c}) (codeAny_call_builtin ft.init.plain F.entry_object_init (ft.init.check _ _ _ _ _ _ _ _ hT (aLg (.ref (s.heap.objs.size+1)) (.ref l) (.int c t)) hI)) ?_
 rintro _ _ ⟨rfl,rfl⟩
 have hq:=h _ f1 f2 f3
 repeat(any_goals (first|assumption|wp_step))
theorem aGk{elts:List Expr}{x1}{a e:Expr}{pos kp:Pos}(hg:Gl X "enumerate")(hm:X.mg "enumerate"=none)(ha:PE X a ta)(he:PE X e te)(hs:starEach [a] X.env=[(false,eval a X.env)]) :
  PI X (.Tuple elts x1 tpos) (.Call (.Name "enumerate" p) [a] [⟨some "start",e,kp⟩] pos) (λσ H R=>ta σ H λx H1=>te σ H1 λy H2=>∃l xs c,x=.ref l/\y=.int c/\0<=c/\c < 1000000/\SqB true X.K H2 l xs/\R (Ite true X.K l c xs) H2):=by
 intro pins s σ H R I h
 refine aEF (nJ I hg hm yD (aPa (by rw[hs];rfl) (by rfl) ?_))
 have hA:=dC ha fQ hs pos pins s σ H (λvs H1=>match vs with|[x]=>te σ H1 (λy H2=>∃l xs c,x=.ref l/\y=.int c/\0<=c/\c < 1000000/\SqB true X.K H2 l xs/\R (Ite true X.K l c xs) H2)|_=>False) I h
 rw[hs]at hA ⊢
 refine evalArgs_kwB (by rfl) (thn hA λus s1 ⟨vs,H1,I1,r1,hr⟩=>?_)
 match vs,r1,hr with
 |[],_,hr=>exact hr.elim
 |_::_::_,_,hr=>exact hr.elim
 |[x],r1,hr =>
 obtain⟨u,rfl,rx⟩:=vals1 r1
 refine thn (aPb (nm:=some "start") (kpos:=kp) he aQx pos pins s1 σ H1 (λys H2=>match ys with|[y]=>∃l xs c,x=.ref l/\y=.int c/\0<=c/\c < 1000000/\SqB true X.K H2 l xs/\R (Ite true X.K l c xs) H2|_=>False) I1 hr) λws s2 ⟨ys,H2,I2,r2,hq⟩=>?_
 match ys,r2,hq with
 |[],_,hq=>exact hq.elim
 |_::_::_,_,hq=>exact hq.elim
 |[y],r2,hq =>
 obtain⟨l,xs,c,rfl,rfl,c0,c1,sx,hq⟩:=hq
 obtain⟨u2,rfl,⟨t,rfl⟩⟩:=vals1 r2
 cases rx
 obtain⟨its,q1,p1,z1⟩:=sx.inv I2
 have hl:l < s2.heap.objs.size:=p1.lt
 have hne:s2.heap.objs.size+1≠s2.heap.objs.size:=Nat.succ_ne_self _
 have hes:l≠s2.heap.objs.size+1:=aBJ (aFM hl)
 have his:l≠s2.heap.objs.size:=aBJ hl
 show wpAny _ _ (call (.type "enumerate") [.ref l] [(Str.ofString "start",.int c t)]) _ _ _
 refine aBg c0 c1 p1 λh' a1 a2 k=>?_
 have tz:tne true (s2.heap.objs.size+1) s2.heap.objs.size l c 0 h':=⟨⟨_,by simpa using a1⟩,a2⟩
 refine(wL (P:=X.prog) (w:=X.w) (K:=X.K) (elts:=elts) (x1:=x1) (pos:=tpos) c hne hes his xs).self _ 0 _ _ _ tz ?_
 refine⟨s2.heap.objs.size+1,_,_,_,H2,rfl,I2.kept (t':=s2.toks) λq o e=>k q o e,wL c hne hes his xs,tz,λq hb=>?_,hq⟩
 refine I2.fpOk ?_ (I2.hok.fresh ?_) <;>
 ·simp only[aAO,aBL,aDB]at hb
  rcases hb with rfl|rfl <;> (show(_:Nat)<=(_:Nat);lia)
end L2
namespace EV
open L2
section
variable{K:Frag}{a b:Expr}{pos:Pos}{g:FE}
def iEnumKL(f g:FE):FI:=λL M=>(f L M).bind λx M1=>(g L M1).bind λy M2=>match x,y with
 |.d (.lst xs),.d (.int c)=>if 0<=c/\c < 1000000 then .ok ⟨enumT c xs,none⟩ M2 else .bad
 |_,_=>.bad
theorem aKb{p:Addr}{xs:List D}{c:Int}(h1:H p=some (.lst vs))(hp:p∉μ)(r1:Rps K μ H xs vs):ItOk K μ H ⟨enumT c xs,none⟩ (Ite true K p c vs):=by
 refine⟨λμ2 H2=>H2 p=some (.lst vs)/\p∉μ2/\Rps K μ2 H2 xs vs,⟨h1,hp,r1⟩,λμ1 H1 μ2 H2 l z e=>⟨e.keep _ _ z.2.1 z.1,e.out z.1 z.2.1,Rps.ext l e _ _ z.2.2⟩,λμ3 H3 M3 i hr3 hS hc=>⟨λd hd=>?_,λhl=>?_⟩⟩
 ·obtain⟨x,hx,rfl⟩:=wN hd
  obtain⟨u,hu,ru⟩:=hS.2.2.get hx
  refine⟨⟨SqL.of hS.1,(aAC.mp hu).1⟩,λx' H4 hy4=>?_⟩
  obtain⟨T,u',hT,rfl,hu',rfl⟩:=hy4
  rw[hu]at hu';cases hu'
  exact uF hr3 hT (by simp[Rp]) ru
 ·refine⟨SqL.of hS.1,?_⟩
  simp only[yJ]at hl
  rw[<- hS.2.2.length]
  exact hl
theorem aIc{elts:List Expr}{x1}{kp:Pos}(hm:X.mg "enumerate"=none)(ha:Ev X K Z a f)(hb:Ev X K Z b g)(hg:Gl X "enumerate":=by rfl)(hs:starEach [a] X.env=[(false,eval a X.env)]:=by rfl) :
  Ei X K Z (.Tuple elts x1 tpos) (.Call (.Name "enumerate" p) [a] [⟨some "start",b,kp⟩] pos) (iEnumKL f g):=by
 have h':=aGk (elts:=elts) (x1:=x1) (tpos:=tpos) (p:=p) (pos:=pos) (kp:=kp) hg hm ha.h hb.h hs
 rw[ha.k]at h'
 refine⟨ha.k,cqI h' ?_⟩
 rintro σ H R ⟨μ,M,L,hr,lr,p⟩
 refine⟨μ,M,L,hr,lr,p.bind.imp λμ1 H1 M1 w e1 hr1 _ p1 v rx=>?_⟩
 refine⟨μ1,M1,L,hr1,lr.ext hr.lsts e1,p1.bind.imp λμ2 H2 M2 y e2 hr2 _ p2 u ry=>?_⟩
 cases w with
 |d x =>
  cases x with
  |lst xs =>
   cases y with
   |d y =>
    cases y with
    |int c =>
     dsimp only at p2
     split at p2
     ·rename_i hc
      have rx:=rx.ext hr1.lsts e2
      simp only[Rw,Rp]at rx ry
      obtain⟨q,vs,rfl,h1,hp,r1⟩:=rx
      exact⟨q,vs,c,rfl,ry,hc.1,hc.2,SqL.of h1,p2 μ2 H2 .refl hr2 _ (aKb h1 hp r1)⟩
     ·exact p2.elim
    |_=>exact p2.elim
   |_=>exact p2.elim
  |_=>exact p2.elim
 |_=>exact p2.elim
variable{EX:D->Mm->Prop}
theorem aEx(h:Okx EX (f L M) λx M1=>Okx EX (g L M1) λy M2=>∃xs c,x=.d (.lst xs)/\y=.d (.int c)/\(0<=c/\c < 1000000)/\QI ⟨enumT c xs,none⟩ M2):Okx EX (iEnumKL f g L M) QI :=
 aQ (h.mono λx M1 z=>aQ (z.mono λy M2 ⟨xs,c,e1,e2,hc,q⟩=>by subst e1 e2;dsimp only;rw[aAJ hc];exact aU q))
end
end EV
set_option maxHeartbeats 4000000
namespace LS
open L2 EV
open PySem.NumText
def joinL(c:Nat):List (List Nat)->List Nat
 |[]=>[]
 |[w]=>w
 |w::r=>w++c::joinL c r
def spl(c:Nat):List Nat->List (List Nat)
 |[]=>[[]]
 |x::r=>if x=c then[]::spl c r else match spl c r with
  |[]=>[[x]]
  |w::ws=>(x::w)::ws
variable{c:Nat}
theorem fA{w:List Nat}{r:List (List Nat)}(h:r≠[]):joinL c (w::r)=w++c::joinL c r:=by
 cases r with
 |nil=>exact(h rfl).elim
 |cons x r=>rfl
theorem aRb(c:Nat):∀l,spl c l≠[]
 |[]=>by simp[spl]
 |x::r=>by
  simp only[spl]
  split
  ·simp
  ·split <;> simp
theorem aGi{c:Nat}:∀{w:List Nat},c∉w->∀r:List Nat,spl c (w++c::r)=w::spl c r
 |[],_,r=>by simp[spl]
 |x::w,h,r=>by
  simp only[aAO,not_or]at h
  simp only[aDZ,spl]
  rw[aAI (λe=>h.1 e.symm),aGi h.2 r]
theorem aGe{c:Nat}:∀{w:List Nat},c∉w->spl c w=[w]
 |[],_=>rfl
 |x::w,h=>by
  simp only[aAO,not_or]at h
  simp only[spl]
  rw[aAI (λe=>h.1 e.symm),aGe h.2]
theorem lN{c:Nat}:∀{ws:List (List Nat)},ws≠[]->(∀w∈ws,c∉w)->spl c (joinL c ws)=ws
 |[],h,_=>(h rfl).elim
 |[w],_,h=>aGe (h w (by simp))
 |w::x::r,_,h=>by
  rw[fA (by simp),aGi (h w (by simp)),lN (by simp) λy hy=>h y (by simp[hy])]
theorem zH(c:Nat):∀l,(spl c l).length<=l.length+1
 |[]=>by simp[spl]
 |x::r=>by
  have ih:=zH c r
  simp only[spl]
  split
  ·simp;lia
  ·split
   ·simp
   ·rename_i h;rw[h]at ih;simp at ih ⊢;lia
theorem mZ{c:Nat}:∀{l w:List Nat},w∈spl c l->w.length<=l.length
 |[],w,h=>by simp[spl]at h;subst h;simp
 |x::r,w,h=>by
  simp only[spl]at h
  split at h
  ·rcases aAO.mp h with rfl|h
   ·simp
   ·have:=mZ h;simp;lia
  ·split at h
   ·simp at h;subst h;simp
   ·rename_i v vs hv
    rcases aAO.mp h with rfl|h
    ·have:=mZ (c:=c) (l:=r) (w:=v) (by rw[hv];simp);simp;lia
    ·have:=mZ (c:=c) (l:=r) (w:=w) (by rw[hv];simp[h]);simp;lia
theorem aCz(c:Nat):∀ws:List (List Nat),Str.join (T [c]) (ws.map T)=T (joinL c ws)
 |[]=>rfl
 |[w]=>rfl
 |w::x::r=>by
  show T w++T [c]++Str.join (T [c]) ((x::r).map T)=_
  have e:joinL c (w::x::r)=w++c::joinL c (x::r):=fA (by simp)
  rw[aCz c (x::r),gM,gM,e,aFw]
  simp
theorem aLt(x y:Str):PySem.Txt.split x y≠[]:=by
 unfold PySem.Txt.split
 split
 ·simp
 ·split
  ·simp
  ·rw[StrLaws.partsBetween_eq]
   obtain⟨p,r,e⟩:=StrLaws.partsFrom_ne x y.length 0 (Builtin.Str.occurrences x y 0 x.length (x.length+1))
   rw[e];simp
theorem rW(c:Nat)(l:List Nat):PySem.Txt.split (T l) (T [c])=(spl c l).map T:=by
 have e:PySem.Txt.split (T l) (T [c])=((PySem.Txt.split (T l) (T [c])).map λs=>s.cps.toList).map T:=by
  rw[aCA]
  conv=>lhs;rw[<- List.map_id (PySem.Txt.split (T l) (T [c]))]
  exact aCY λs _=>aPr s
 have hj:=StrLaws.join_split (T l) (T [c])
 have hf:=λp hp=>StrLaws.split_free (T l) c p hp
 have hn:=aLt (T l) (T [c])
 rw[e,aCz,aFw]at hj
 have e2:spl c l=(PySem.Txt.split (T l) (T [c])).map λs=>s.cps.toList:=by
  have:=lN (c:=c) (ws:=(PySem.Txt.split (T l) (T [c])).map λs=>s.cps.toList) (λz=>hn (List.map_eq_nil_iff.mp z)) λw hw=>by
   obtain⟨s,hs,rfl⟩:=aBK.mp hw
   exact hf s hs
  rw[hj]at this
  exact this
 rw[e2]
 exact e
theorem aAs(c:Nat)(w:List Nat):PySem.Txt.startswith (T w) (T [c])=decide (w.head?=some c):=by
 have h:=StrLaws.subAt_one (T w) c 0
 unfold PySem.Txt.startswith
 have e:(T w).cps.toList[0]?=w.head?:=by simp[List.head?_eq_getElem?]
 rw[e]at h
 by_cases hw:w.head?=some c
 ·have:=h.mpr hw
  rw[aGO hw,aCO]
  exact⟨aGO this.1,this.2⟩
 ·rw[aBI hw,Bool.and_eq_false_iff]
  by_cases h1:0+Str.length (T [c])<=Str.length (T w)
  ·right
   cases q:Builtin.Str.subAt (T w) (T [c]) 0 with
   |false=>rfl
   |true=>exact(hw (h.mp ⟨h1,q⟩)).elim
  ·left;exact aBI h1
noncomputable def nb(c:Nat)(w:List Nat):Option Nat:=if w.head?=some c then num? 7 (w.drop 1)else none
noncomputable def allS:List (Option Nat)->Option (List Nat)
 |[]=>some []
 |some x::r=>(allS r).map (x::·)
 |none::_=>none
noncomputable def hx(w:List Nat):Bool:=decide (w.head?=some 120)
def rdA(s c:Nat)(ws:List (List Nat)):Option Dd:=match allS ((ws.takeWhile hx).map (nb 120)),allS ((ws.dropWhile hx).map (nb 115))with
 |some gs,some ts=>some (.add s c gs ts)
 |_,_=>none
def rdD:List (List Nat)->Option Dd
 |w0::w1::w2::r=>match nb 115 w0,num? 7 w2 with
  |some s,some c=>if w1=[42]/\r=[]then some (.scale s c)else if w1=[43]then rdA s c r else none
  |_,_=>none
 |_=>none
noncomputable def wRest:List Nat:=[114,101,115,116]
noncomputable def wGivens:List Nat:=[103,105,118,101,110,115]
noncomputable def wShelves:List Nat:=[115,104,101,108,118,101,115]
def rdH:List (List Nat)->Option (Nat×Nat×Nat)
 |[a,n,b,g,c,s]=>if a=wRest/\b=wGivens/\c=wShelves then(match num? 7 n,num? 7 g,num? 7 s with
  |some n,some g,some s=>if(2<=n/\n<=1000000)/\g<=8/\1<=s/\s<=9 then some (n,g,s)else none
  |_,_,_=>none)else none
 |_=>none
def xw(g:Nat):List Nat:=120::dig g
def sw(s:Nat):List Nat:=115::dig s
def dw:Dd->List (List Nat)
 |.add s c gs ts=>sw s::[43]::dig c.toNat::(gs.map xw++ts.map sw)
 |.scale s u=>[sw s,[42],dig u.toNat]
def hw(n g s:Nat):List (List Nat):=[wRest,dig n,wGivens,dig g,wShelves,dig s]
noncomputable def Fg:Dd->Prop
 |.add s c gs ts=>s < 10000000/\0<=c/\c < 10000000/\(∀g∈gs,g < 10000000)/\∀t∈ts,t < 10000000
 |.scale s u=>s < 10000000/\0<=u/\u < 10000000
variable{n:Nat}
theorem num7(h:n < 10000000):num? 7 (dig n)=some n:=yO (kQ (by lia) (by lia))
theorem aKg(h:n < 10000000):nb 115 (sw n)=some n:=by
 unfold nb sw
 rw[aAJ (show(115::dig n).head?=some 115 from rfl)]
 exact num7 h
theorem aUe(h:n < 10000000):nb 120 (xw n)=some n:=by
 unfold nb xw
 rw[aAJ (show(120::dig n).head?=some 120 from rfl)]
 exact num7 h
theorem uB{f:Nat->List Nat}{g:List Nat->Option Nat}:∀{xs:List Nat},(∀x∈xs,g (f x)=some x)->allS ((xs.map f).map g)=some xs
 |[],_=>rfl
 |x::xs,h=>by
  simp only[aBC]
  rw[h x (by simp)]
  simp only[allS]
  rw[uB λy hy=>h y (by simp[hy])];rfl
theorem aKz{gs:List Nat}:(gs.map xw++ts.map sw).takeWhile hx=gs.map xw/\(gs.map xw++ts.map sw).dropWhile hx=ts.map sw:=by
 induction gs with
 |nil =>
  cases ts with
  |nil=>exact⟨rfl,rfl⟩
  |cons t ts =>
   have:hx (sw t)=false:=by simp[hx,sw]
   simp[aCX,aDF,this]
 |cons g gs ih =>
  have:hx (xw g)=true:=by simp[hx,xw]
  simp only[aBC,aDZ,aCX,aDF,this,aCQ]
  exact⟨by rw[ih.1],ih.2⟩
theorem aQg(d:Dd)(h:Fg d):rdD (dw d)=some d:=by
 cases d with
 |scale s u =>
  obtain⟨h1,h2,h3⟩:=h
  simp only[dw,rdD]
  rw[aKg h1,num7 (show u.toNat < 10000000 by lia)]
  simp only[true_and,aCQ]
  congr 2;lia
 |add s c gs ts =>
  obtain⟨h1,h2,h3,h4,h5⟩:=h
  simp only[dw,rdD]
  rw[aKg h1,num7 (show c.toNat < 10000000 by lia)]
  simp only
  rw[aAI (by simp),aAJ (by simp)]
  unfold rdA
  rw[aKz.1,aKz.2,uB λx hx=>aUe (h4 x hx),uB λx hx=>aKg (h5 x hx)]
  simp only
  congr 2;lia
theorem aSt{g s:Nat}(h:(2<=n/\n<=1000000)/\g<=8/\1<=s/\s<=9):rdH (hw n g s)=some (n,g,s):=by
 simp only[hw,rdH,true_and,aCQ]
 rw[num7 (by lia),num7 (by lia),num7 (by lia)]
 simp only
 rw[aAJ h]
theorem zC(h:isF c=false):c∉dig n:=λz=>by have:=aCh n c z;rw[h]at this;cases this
theorem aFo(d:Dd):∀w∈dw d,32∉w/\10∉w:=by
 have hd:∀n,32∉dig n/\10∉dig n:=λn=>⟨zC rfl,zC rfl⟩
 have hs:∀n,32∉sw n/\10∉sw n:=λn=>by simp[sw,hd n]
 have hx:∀n,32∉xw n/\10∉xw n:=λn=>by simp[xw,hd n]
 intro w h
 cases d with
 |scale s u =>
  simp only[dw,aAO,aBL,aDB]at h
  rcases h with rfl|rfl|rfl
  ·exact hs _
  ·decide
  ·exact hd _
 |add s c gs ts =>
  simp only[dw,aAO,aBN,aBK]at h
  rcases h with rfl|rfl|rfl|⟨g,_,rfl⟩|⟨t,_,rfl⟩
  ·exact hs _
  ·decide
  ·exact hd _
  ·exact hx _
  ·exact hs _
theorem aGf(n g s:Nat):∀w∈hw n g s,32∉w/\10∉w:=by
 have hd:∀n,32∉dig n/\10∉dig n:=λn=>⟨zC rfl,zC rfl⟩
 intro w h
 simp only[hw,aAO,aBL,aDB]at h
 rcases h with rfl|rfl|rfl|rfl|rfl|rfl
 ·decide
 ·exact hd _
 ·decide
 ·exact hd _
 ·decide
 ·exact hd _
theorem pC{c x:Nat}(hc:x≠c):∀{ws:List (List Nat)},(∀w∈ws,x∉w)->x∉joinL c ws
 |[],_=>by simp[joinL]
 |[w],h=>h w (by simp)
 |w::y::r,h=>by
  rw[fA (by simp)]
  simp only[aBN,aAO,not_or]
  exact⟨h w (by simp),hc,pC hc λz hz=>h z (by simp[hz])⟩
def row(d:Dd):List Nat:=joinL 32 (dw d)
def headR(n g s:Nat):List Nat:=joinL 32 (hw n g s)
theorem aUd(d:Dd):dw d≠[]:=by cases d <;> simp[dw]
theorem aPc(d:Dd):spl 32 (row d)=dw d:=lN (aUd d) λw h=>(aFo d w h).1
theorem aLi(n g s:Nat):spl 32 (headR n g s)=hw n g s:=lN (by simp[hw]) λw h=>(aGf n g s w h).1
theorem aKt(d:Dd):10∉row d:=pC (by decide) λw h=>(aFo d w h).2
theorem aHv(n g s:Nat):10∉headR n g s:=pC (by decide) λw h=>(aGf n g s w h).2
def prog(n g s:Nat)(ds:List Dd):List Nat:=joinL 10 (headR n g s::ds.map row)
theorem aKk(n g s:Nat)(ds:List Dd):spl 10 (prog n g s ds)=headR n g s::ds.map row:=by
 refine lN (by simp) λw h=>?_
 rcases aAO.mp h with rfl|h
 ·exact aHv n g s
 ·obtain⟨d,_,rfl⟩:=aBK.mp h
  exact aKt d
theorem rO(c:Nat):∀ws:List (List Nat),(joinL c ws).length<=(ws.map List.length).sum+ws.length
 |[]=>by simp[joinL]
 |[w]=>by simp[joinL]
 |w::x::r=>by
  have:=rO c (x::r)
  rw[fA (by simp)]
  simp only[aAT,aBA,aBC,List.sum_cons]at this ⊢
  lia
end LS
namespace L2
end L2
namespace EV
open L2
variable{K:Frag}{o e:Expr}
def eL1(g:List D->W->Mm->Oc W)(fo fa:FE):FE:=λL M=>(fo L M).bind λx M1=>match x with
 |.d (.lst xs)=>(fa L M1).bind λy M2=>g xs y M2
 |_=>.bad
variable{Q:W->Mm->Prop}
theorem aVd{g:List D->W->Mm->Oc W}(z:Okx EX (fo L M) λx M1=>∃xs,x=.d (.lst xs)/\Okx EX (fa L M1) λy M2=>Okx EX (g xs y M2) Q):Okx EX (eL1 g fo fa L M) Q:=aQ (z.mono λ_ _ ⟨xs,e,z⟩=>by subst e;exact aQ z)
end EV
namespace L2
def atS(k:Str):List Str->Option Nat
 |[]=>none
 |y::r=>if(y==k)=true then some 0 else(atS k r).map (·+1)
theorem aAy(k:Str):∀{vs:List Value} {ys:List Str} {j:Nat},StrsAre vs ys->atS k ys=some j->∃hj:j < vs.length,isStrOf k vs[j]=true/\∀i (hi:i < vs.length),i < j->isStrOf k vs[i]=false
 |_,_,j,.nil,h=>by cases h
 |_,_,j,.cons y t (vs:=vs) (ys:=ys) r,h=>by
  simp only[atS]at h
  split at h
  ·rename_i hy
   cases h
   exact⟨by simp,hy,λi hi h=>by lia⟩
  ·rename_i hy
   obtain⟨m,hm,rfl⟩:=aAN.mp h
   obtain⟨a,b,c⟩:=aAy k r hm
   refine⟨by simp;lia,by simpa using b,λi hi hlt=>?_⟩
   cases i with
   |zero=>show(y==k)=false;simpa using hy
   |succ i=>exact c i (by simp at hi;lia) (by lia)
theorem aJq:MtR X "list.index" (λx xs H Q=>∃(p:Addr) (ys:List Str) (k:Str) (j:Nat),x=.ref p/\xs=[.str k]/\SqL X.K H p (ys.map V.str)/\atS k ys=some j/\Q (.int (j:Int)) H):=by
 intro pins s σ H x xs v us Q I rx rs h
 obtain⟨p,ys,k,j,rfl,rfl,hp,hj,q⟩:=h
 cases rx
 obtain⟨u,rfl,e⟩:=vals1 rs
 obtain⟨t,rfl⟩:=e
 obtain⟨its,r,ht,hz⟩:=I.list hp
 have hl:=ht.isList
 have hi:=oZ r
 obtain⟨⟨cls,dd,data,sl⟩,ho,hc,n,hd⟩:=id hl
 simp only at hc hd
 subst hc hd
 obtain⟨a,b,c⟩:=aAy k hi hj
 have hlen:its.length<=sizeLine:=by have:=r.length;lia
 rw[aBF]at hlen
 refine aCT PySem.F.slot_list_index ⟨_,ho,rfl⟩ PySem.F.entry_list_index (PySem.F.args_list_index_2 _ _) (PySem.SeqAt.list_indexAt p its.toArray n dd sl (.str k t) (isStrOf k) j (by simpa using a) (by lia) (by simpa using b) (λi hi hlt=>by simpa using c i (by simpa using hi) hlt)) ⟨ho,λy hy=>(eq_isStrOf k t hi y (by simpa using hy)).at _ _,?_⟩
 exact⟨.int _,H,I.tok _,⟨_,rfl⟩,q⟩
end L2
namespace EV
open L2
variable{K:Frag}{o e:Expr}
def pIndex(xs:List D)(y:W)(M:Mm):Oc W:=match strsOf xs,y with
 |some ys,.d (.str k)=>match atS k ys with
  |some j=>.ok (.d (.int (j:Int))) M
  |none=>.bad
 |_,_=>.bad
theorem aLp(ho:Ev X K Z o fo)(he:Ev X K Z e fa)(hbase:attributeBase o "index" X.env (eval o X.env)=eval o X.env:=by rfl)
  (hfew:((backTo cpos (starEach [e] X.env)).all (λx=>!x.1)&&(backToKw cpos (keywordEach [] X.env)).all (λx=>x.1.isSome)&&decide ([e].length+([]:List Keyword).length+(if([]:List Keyword).isEmpty then 0 else 1) < 30))=true:=by rfl)
  (hline:(apos.endLine==cpos.line)=true:=by rfl)(hs:starEach [e] X.env=(false,eval e X.env)::starEach [] X.env:=by rfl)(hplain:(backTo cpos (starEach [] X.env)).any (·.1)=false:=by rfl) :
  Ev X K Z (.Call (.Attribute o "index" apos) [e] [] cpos) (eL1 pIndex fo fa):=by
 have h:=wT aFI PySem.F.slot_list_index PySem.F.type_list_index aJq ho.h (dC he.h fQ hs) hbase hfew hline hs hplain
 rw[ho.k]at h
 refine⟨ho.k,cqE h ?_⟩
 rintro σ H Q ⟨μ,M,L,hr,lr,p⟩
 refine⟨μ,M,L,hr,lr,p.bind.imp λμ1 H1 M1 x e1 hr1 _ p1 v rx=>?_⟩
 cases x with
 |d x=>cases x with
  |lst xs =>
   obtain⟨a1,vs1,rfl,q1,r1⟩:=uH hr1 rx (ds:=xs) rfl
   refine⟨.inl ⟨rfl,vs1,q1⟩,μ1,M1,L,hr1,lr.ext hr.lsts e1,p1.bind.imp λμ2 H2 M2 y e2 hr2 _ p2 u ry=>?_⟩
   cases q2:strsOf xs with
   |none=>simp only[pIndex,q2]at p2;exact p2.elim
   |some ys =>
    cases y with
    |d y=>cases y with
     |str k =>
      simp only[pIndex,q2]at p2
      cases q4:atS k ys with
      |none=>simp only[q4]at p2;exact p2.elim
      |some j =>
       simp only[q4]at p2
       simp only[Rw,Rp]at ry
       subst ry
       obtain⟨a2,vs2,e,q3,r3⟩:=uH hr2 (rx.ext hr1.lsts e2) (ds:=xs) rfl
       have:=tR r3 q2
       subst this
       cases e
       exact⟨_,ys,k,j,rfl,rfl,q3,q4,p2 μ2 H2 .refl hr2 _ (by simp[Rw,Rp])⟩
     |_=>simp only[pIndex,q2]at p2;exact p2.elim
    |_=>simp only[pIndex,q2]at p2;exact p2.elim
  |_=>exact p1.elim
 |_=>exact p1.elim
variable{Q:W->Mm->Prop}
theorem aJj{xs:List D}{ys:List Str}{k:Str}(h:strsOf xs=some ys)(hj:atS k ys=some j)(q:Q (.d (.int (j:Int))) M):Okx EX (pIndex xs (.d (.str k)) M) Q:=by
 simp only[pIndex,h,hj];exact aU q
end EV
set_option maxHeartbeats 4000000
end
namespace K91
open PySem L2 EV
noncomputable def top(i:Nat):Stmt:=PySem.Challenge.pw_lentshelf_k91_whole_from_text_to_shelves.main.body.getD i (.Pass ⟨0,0,0,0⟩)
abbrev dH:Stmt:=top 7
abbrev fD:Stmt:=top 9
abbrev fF:Stmt:=top 12
abbrev bW:Stmt:=top 13
abbrev cE:Stmt:=top 14
abbrev dO:Stmt:=top 15
abbrev eS:Stmt:=top 16
abbrev bQ:Stmt:=top 17
abbrev eI:Stmt:=top 19
abbrev bZ:Stmt:=top 20
abbrev bX:Stmt:=top 21
abbrev lH:Stmt:=top 22
abbrev bL:Stmt:=top 23
abbrev eG:Stmt:=top 24
abbrev cB:Stmt:=top 25
abbrev iT:Stmt:=top 27
abbrev iR:Stmt:=top 28
abbrev dG:Stmt:=top 29
abbrev cA:Stmt:=top 30
abbrev cM:Stmt:=top 31
abbrev bY:Stmt:=top 34
abbrev dN:Stmt:=top 35
abbrev dL:Stmt:=top 42
abbrev dI:Stmt:=top 43
abbrev dJ:Stmt:=top 44
abbrev dP:Stmt:=top 45
abbrev cL:Stmt:=top 46
abbrev eK:Stmt:=top 47
abbrev eF:Stmt:=top 49
abbrev kF:Stmt:=top 55
abbrev cH:Stmt:=top 56
abbrev lD:Stmt:=top 57
abbrev cR:Stmt:=top 58
abbrev dQ:Stmt:=top 59
abbrev cV:Stmt:=top 60
abbrev bR:Stmt:=top 61
abbrev oT:Stmt:=top 63
abbrev kZ:Stmt:=top 64
abbrev cO:Stmt:=top 65
abbrev kM:Stmt:=top 67
abbrev cC:Stmt:=top 68
abbrev bO:Stmt:=top 69
abbrev cK:Stmt:=top 70
abbrev iS:Stmt:=top 72
abbrev fX:Stmt:=top 73
abbrev oQ:Stmt:=top 74
abbrev gD:Stmt:=top 75
abbrev eQ:Stmt:=top 76
abbrev gE:Stmt:=top 77
abbrev fE:Stmt:=top 78
abbrev gF:Stmt:=top 79
abbrev cJ:Stmt:=top 80
abbrev fK:Stmt:=top 81
abbrev fJ:Stmt:=top 82
abbrev eO:Stmt:=top 83
abbrev mW:Stmt:=top 84
def b_0:FS :=
 (sRt (e2 pIn (e2 pIx (eV 0) (eC (.int 0))) (eA mkT (aCons (eC (.str "num")) (aCons (eC (.str "given")) (aCons (eC (.str "one")) aNil))))))
def eT:Fn:=fnD 1 1 b_0
theorem iU{ws:List W}(h:ws.length≠1):eT ws M=.bad:=aAI h
def b_1:FS :=
 (sSeq (sPar 2 3 (aCons (eV 0) (aCons (e2 pMod (eV 1) (eV 0)) aNil)))
  (sSeq (sAs (eA mkT (aCons (eC (.int 0)) (aCons (eC (.int 1)) aNil))) (gT 2 (gsCons (gN 4) (gsCons (gN 5) gsNil))))
  (sSeq (whileD (EV.tB (e2 pGt (eV 3) (eC (.int 0))))
  (sSeq (sAs (e2 pDiv (eV 2) (eV 3)) (gN 6))
  (sSeq (sPar 2 3 (aCons (eV 3) (aCons (e2 pSub (eV 2) (e2 pMulA (eV 6) (eV 3))) aNil)))
  (sPar 4 5 (aCons (eV 5) (aCons (e2 pSub (eV 4) (e2 pMulA (eV 6) (eV 5))) aNil))))) NW)
  (sSeq (sIf (EV.tB (e2 pNe (eV 2) (eC (.int 1))))
  (sRt (eC .non))
  sNil)
  (sRt (e2 pMod (eV 4) (eV 0)))))))
def gK:Fn:=fnD 2 7 b_1
theorem nI{ws:List W}(h:ws.length≠2):gK ws M=.bad:=aAI h
def b_3:FS :=
 (sSeq (sIf (EV.tB (e2 pGt (eA cLen (aCons (eV 0) aNil)) (eC (.int 4))))
  (sRt (eC (.bl false)))
  sNil)
  (sSeq (sAs (eC (.int 0)) (gN 2))
  (sSeq (sFor (iE (eV 0)) (gN 3)
  (sSeq (sIf (EV.tOr (EV.tB (e2 pLt (eV 3) (eV 2))) (EV.tB (e2 pGe (eV 3) (eV 1))))
  (sRt (eC (.bl false)))
  sNil)
  (sAs (eV 3) (gN 2))))
  (sRt (eC (.bl true))))))
def fG:Fn:=fnD 2 4 b_3
theorem mO{ws:List W}(h:ws.length≠2):fG ws M=.bad:=aAI h
def b_2:FS :=
 (sSeq (sPar 4 5 (aCons (e2 pIx (eV 3) (eC (.int 1))) (aCons (e2 pIx (eV 3) (eC (.int 2))) aNil)))
  (sSeq (sIf (EV.tOr (EV.tNot (EV.tB (e3c pLe pLt (eC (.int 0)) (eV 4) (eV 2)))) (EV.tNot (EV.tB (e3c pLe pLt (eC (.int 0)) (eV 5) (eV 0)))))
  (sRt (eC (.bl false)))
  sNil)
  (sSeq (sIf (EV.tB (e2 pEq (e2 pIx (eV 3) (eC (.int 0))) (eC (.str "scale"))))
  (sRt (e2 pIsNot (eA gK (aCons (eV 0) (aCons (eV 5) aNil))) (eC .non)))
  sNil)
  (sSeq (sPar 6 7 (aCons (e2 pIx (eV 3) (eC (.int 3))) (aCons (e2 pIx (eV 3) (eC (.int 4))) aNil)))
  (sRt (eAnd (eA fG (aCons (eV 6) (aCons (eV 1) aNil))) (eAnd (eA fG (aCons (eV 7) (aCons (eV 2) aNil))) (e2 pNotIn (eV 4) (eV 7)))))))))
def lP:Fn:=fnD 4 8 b_2
theorem aBp{ws:List W}(h:ws.length≠4):lP ws M=.bad:=aAI h
def b_5:FS :=
 (sSeq (sIf (EV.tB (e2 pEq (e2 pIx (eV 1) (eC (.int 0))) (eC (.str "scale"))))
  (sRt (eA mkT (aCons (eC (.str "scale")) (aCons (e2 pIx (eV 1) (eC (.int 1))) (aCons (eA gK (aCons (eV 0) (aCons (e2 pIx (eV 1) (eC (.int 2))) aNil))) aNil)))))
  sNil)
  (sRt (eA mkT (aCons (eC (.str "add")) (aCons (e2 pIx (eV 1) (eC (.int 1))) (aCons (e2 pMod (e1 pNeg (e2 pIx (eV 1) (eC (.int 2)))) (eV 0)) (aCons (e2 pIx (eV 1) (eC (.int 3))) (aCons (e2 pIx (eV 1) (eC (.int 4))) aNil))))))))
def eU:Fn:=fnD 2 2 b_5
theorem vZ{ws:List W}(h:ws.length≠2):eU ws M=.bad:=aAI h
def b_4:FS :=
 (sRt (eA cTup (aCons (eComp [none,some 0] (iRv (eV 1)) (gN 0) EV.tYes (eA eU (aCons (eV 1) (aCons (eV 0) aNil)))) aNil)))
def cD:Fn:=fnD 2 2 b_4
theorem fN{ws:List W}(h:ws.length≠2):cD ws M=.bad:=aAI h
def b_7:FS :=
 (sSeq (sAs (e2 pIx (eV 1) (e2 pIx (eV 0) (eC (.int 1)))) (gN 2))
  (sSeq (sIf (EV.tB (e2 pEq (e2 pIx (eV 0) (eC (.int 0))) (eC (.str "scale"))))
  (sRt (eA mkT (aCons (eC (.str "scale")) (aCons (eV 2) (aCons (e2 pIx (eV 0) (eC (.int 2))) aNil)))))
  sNil)
  (sSeq (sAs (eA cTup (aCons (eA cSorted (aCons (eComp [none,some 1] (iE (e2 pIx (eV 0) (eC (.int 4)))) (gN 0) EV.tYes (e2 pIx (eV 1) (eV 0))) aNil)) aNil)) (gN 3))
  (sRt (eA mkT (aCons (eC (.str "add")) (aCons (eV 2) (aCons (e2 pIx (eV 0) (eC (.int 2))) (aCons (e2 pIx (eV 0) (eC (.int 3))) (aCons (eV 3) aNil))))))))))
def fR:Fn:=fnD 2 4 b_7
theorem rN{ws:List W}(h:ws.length≠2):fR ws M=.bad:=aAI h
def b_6:FS :=
 (sSeq (sPar 2 3 (aCons (e2 pIx (eV 0) (eC (.int 0))) (aCons (e2 pIx (eV 0) (eC (.int 1))) aNil)))
  (sSeq (sAs (eA cTup (aCons (eComp [none,some 1] (iE (e2 pIx (eV 0) (eC (.int 3)))) (gN 0) EV.tYes (eA fR (aCons (eV 0) (aCons (eV 1) aNil)))) aNil)) (gN 4))
  (sRt (eA mkT (aCons (eV 2) (aCons (eV 3) (aCons (e2 pAdd (eA cMaxL (aCons (eV 1) aNil)) (eC (.int 1))) (aCons (eV 4) aNil))))))))
def lM:Fn:=fnD 2 5 b_6
theorem aAv{ws:List W}(h:ws.length≠2):lM ws M=.bad:=aAI h
def b_b:FS :=
 (sSeq (sIf (EV.tB (e2 pEq (eV 1) (eC (.str "less"))))
  (sRt (e2 pAdd (eV 2) (eA cD (aCons (eV 0) (aCons (eV 3) aNil)))))
  sNil)
  (sRt (e2 pAdd (eV 2) (eV 3))))
def nE:Fn:=fnD 4 4 b_b
theorem aAg{ws:List W}(h:ws.length≠4):nE ws M=.bad:=aAI h
def b_c:FS :=
 (sRt (e2 pAdd (e2 pAdd (e2 pAdd (eV 1) (eV 2)) (eA cD (aCons (eV 0) (aCons (eV 1) aNil)))) (eA cD (aCons (eV 0) (aCons (eV 2) aNil)))))
def dS:Fn:=fnD 3 3 b_c
theorem kJ{ws:List W}(h:ws.length≠3):dS ws M=.bad:=aAI h
def b_a:FS :=
 (sSeq (sIf (EV.tB (e2 pEq (e2 pIx (eV 1) (eC (.int 0))) (eC (.str "num"))))
  (sRt (eA mkT (aCons (eC (.str "add")) (aCons (eV 2) (aCons (e2 pMod (e2 pIx (eV 1) (eC (.int 1))) (eV 0)) (aCons (eA mkT aNil) (aCons (eV 3) aNil)))))))
  sNil)
  (sRt (eA mkT (aCons (eC (.str "add")) (aCons (eV 2) (aCons (eC (.int 1)) (aCons (eA mkT (aCons (e2 pIx (eV 1) (eC (.int 1))) aNil)) (aCons (eV 3) aNil))))))))
def dM:Fn:=fnD 4 4 b_a
theorem mV{ws:List W}(h:ws.length≠4):dM ws M=.bad:=aAI h
def b_8(r_bring_by:Fn):FS :=
 (sSeq (sIf (tV (eA eT (aCons (eV 1) aNil)))
  (sRt (eA mkT (aCons (eA dM (aCons (eV 0) (aCons (eV 1) (aCons (eV 2) (aCons (eA mkT (aCons (eV 3) aNil)) aNil))))) aNil)))
  sNil)
  (sSeq (sIf (EV.tB (e2 pEq (e2 pIx (eV 1) (eC (.int 0))) (eC (.str "times"))))
  (sRt (eA dS (aCons (eV 0) (aCons (eA r_bring_by (aCons (eV 0) (aCons (e2 pIx (eV 1) (eC (.int 2))) (aCons (eV 4) (aCons (eV 3) (aCons (eV 2) aNil)))))) (aCons (eA r_bring_by (aCons (eV 0) (aCons (e2 pIx (eV 1) (eC (.int 1))) (aCons (eV 2) (aCons (eV 4) (aCons (eV 3) aNil)))))) aNil)))))
  sNil)
  (sRt (eA nE (aCons (eV 0) (aCons (e2 pIx (eV 1) (eC (.int 0))) (aCons (eA r_bring_by (aCons (eV 0) (aCons (e2 pIx (eV 1) (eC (.int 1))) (aCons (eV 2) (aCons (eV 3) (aCons (eV 4) aNil)))))) (aCons (eA r_bring_by (aCons (eV 0) (aCons (e2 pIx (eV 1) (eC (.int 2))) (aCons (eV 2) (aCons (eV 3) (aCons (eV 4) aNil)))))) aNil))))))))
def cZ:Nat->Fn
 |0=>λ_ _=>.bad
 |d+1=>fnD 5 5 (b_8 (cZ d))
theorem iB:∀{d:Nat} {ws:List W} {M:Mm},ws.length≠5->cZ d ws M=.bad
 |0,_,_,_=>by simp only[cZ]
 |d+1,_,_,h=>by simp only[cZ];exact aAI h
def b_9(r_bring_alone:Fn):FS :=
 (sSeq (sIf (tV (eA eT (aCons (eV 1) aNil)))
  (sRt (eA mkT (aCons (eA dM (aCons (eV 0) (aCons (eV 1) (aCons (eV 2) (aCons (eA mkT aNil) aNil))))) aNil)))
  sNil)
  (sSeq (sIf (EV.tB (e2 pEq (e2 pIx (eV 1) (eC (.int 0))) (eC (.str "times"))))
  (sRt (eA dS (aCons (eV 0) (aCons (eA r_bring_alone (aCons (eV 0) (aCons (e2 pIx (eV 1) (eC (.int 2))) (aCons (eV 4) (aCons (eV 3) (aCons (eV 2) aNil)))))) (aCons (eA (cZ 50) (aCons (eV 0) (aCons (e2 pIx (eV 1) (eC (.int 1))) (aCons (eV 2) (aCons (eV 4) (aCons (eV 3) aNil)))))) aNil)))))
  sNil)
  (sRt (eA nE (aCons (eV 0) (aCons (e2 pIx (eV 1) (eC (.int 0))) (aCons (eA r_bring_alone (aCons (eV 0) (aCons (e2 pIx (eV 1) (eC (.int 1))) (aCons (eV 2) (aCons (eV 3) (aCons (eV 4) aNil)))))) (aCons (eA r_bring_alone (aCons (eV 0) (aCons (e2 pIx (eV 1) (eC (.int 2))) (aCons (eV 2) (aCons (eV 3) (aCons (eV 4) aNil)))))) aNil))))))))
def bS:Nat->Fn
 |0=>λ_ _=>.bad
 |d+1=>fnD 5 5 (b_9 (bS d))
theorem gG:∀{d:Nat} {ws:List W} {M:Mm},ws.length≠5->bS d ws M=.bad
 |0,_,_,_=>by simp only[bS]
 |d+1,_,_,h=>by simp only[bS];exact aAI h
def b_d(r_how_many:Fn):FS :=
 (sSeq (sIf (tV (eA eT (aCons (eV 0) aNil)))
  (sRt (eC (.int 1)))
  sNil)
  (sSeq (sAs (e2 pAdd (eA r_how_many (aCons (e2 pIx (eV 0) (eC (.int 1))) aNil)) (eA r_how_many (aCons (e2 pIx (eV 0) (eC (.int 2))) aNil))) (gN 1))
  (sSeq (sIf (EV.tB (e2 pEq (e2 pIx (eV 0) (eC (.int 0))) (eC (.str "times"))))
  (sRt (e2 pMulA (eC (.int 2)) (eV 1)))
  sNil)
  (sRt (eV 1)))))
def cY:Nat->Fn
 |0=>λ_ _=>.bad
 |d+1=>fnD 1 2 (b_d (cY d))
theorem lY:∀{d:Nat} {ws:List W} {M:Mm},ws.length≠1->cY d ws M=.bad
 |0,_,_,_=>by simp only[cY]
 |d+1,_,_,h=>by simp only[cY];exact aAI h
def b_e:FS :=
 (sSeq (sIf (EV.tB (e2 pGt (eA (cY 50) (aCons (eV 2) aNil)) (eV 3)))
  sBad
  sNil)
  (sRt (eA mkT (aCons (eV 0) (aCons (eV 1) (aCons (eC (.int 3)) (aCons (eA (bS 50) (aCons (eV 0) (aCons (eV 2) (aCons (eC (.int 0)) (aCons (eC (.int 1)) (aCons (eC (.int 2)) aNil)))))) aNil)))))))
def hV:Fn:=fnD 4 4 b_e
theorem uX{ws:List W}(h:ws.length≠4):hV ws M=.bad:=aAI h
def b_11:FS :=
 (sSeq (sAs (eIf (tV (eV 4)) (eA mkT (aCons (e2 pIx (eV 3) (eC (.int 1))) aNil)) (eA mkT aNil)) (gN 6))
  (sSeq (sIf (EV.tB (e2 pEq (eV 2) (eA cLen (aCons (eV 1) aNil))))
  sBad
  sNil)
  (sSeq (sAs (e2 pIx (eV 1) (eV 2)) (gN 7))
  (sSeq (sIf (EV.tOr (EV.tB (e2 pNe (e2 pIx (eV 7) (eC (.int 0))) (eC (.str "add")))) (EV.tOr (EV.tB (e2 pNe (e2 pIx (eV 7) (eC (.int 1))) (e2 pIx (eV 3) (eC (.int 0))))) (EV.tB (e2 pNe (e2 pIx (eV 7) (eC (.int 4))) (eV 6)))))
  sBad
  sNil)
  (sSeq (sAs (eIf (tV (eV 5)) (e2 pMod (e1 pNeg (e2 pIx (eV 7) (eC (.int 2)))) (eV 0)) (e2 pIx (eV 7) (eC (.int 2)))) (gN 8))
  (sSeq (sIf (EV.tB (e2 pEq (eA cLen (aCons (e2 pIx (eV 7) (eC (.int 3))) aNil)) (eC (.int 0))))
  (sRt (eA mkT (aCons (eA mkT (aCons (eC (.str "num")) (aCons (eV 8) aNil))) (aCons (e2 pAdd (eV 2) (eC (.int 1))) aNil))))
  sNil)
  (sSeq (sIf (EV.tOr (EV.tB (e2 pGt (eA cLen (aCons (e2 pIx (eV 7) (eC (.int 3))) aNil)) (eC (.int 1)))) (EV.tB (e2 pNe (eV 8) (eC (.int 1)))))
  sBad
  sNil)
  (sRt (eA mkT (aCons (eA mkT (aCons (eC (.str "given")) (aCons (e2 pIx (e2 pIx (eV 7) (eC (.int 3))) (eC (.int 0))) aNil))) (aCons (e2 pAdd (eV 2) (eC (.int 1))) aNil)))))))))))
def iX:Fn:=fnD 6 9 b_11
theorem wD{ws:List W}(h:ws.length≠6):iX ws M=.bad:=aAI h
def b_13:FS :=
 (sSeq (sFor (iE (eV 2)) (gN 3)
  (sSeq (sIf (EV.tB (e2 pNe (eSlS (eV 0) (oAt (eV 1)) (oAt (e2 pAdd (eV 1) (eC (.int 1))))) (eA mkT (aCons (eV 3) aNil))))
  sBad
  sNil)
  (sAug (pI (λ_ _=>true) λi j=>.int (i+j)) 1 (eC (.int 1)))))
  (sRt (eV 1)))
def gO:Fn:=fnD 3 4 b_13
theorem tF{ws:List W}(h:ws.length≠3):gO ws M=.bad:=aAI h
def b_10(r_along:Fn)(r_along_times:Fn):FS :=
 (sSeq (sAs (e2 pIx (eV 3) (eC (.int 0))) (gN 7))
  (sSeq (sIf (EV.tB (e2 pEq (eV 7) (eC (.str "one"))))
  (sRt (eA iX (aCons (eV 0) (aCons (eV 1) (aCons (eV 2) (aCons (eV 4) (aCons (eV 5) (aCons (eV 6) aNil))))))))
  sNil)
  (sSeq (sIf (EV.tB (e2 pEq (eV 7) (eC (.str "times"))))
  (sRt (eA r_along_times (aCons (eV 0) (aCons (eV 1) (aCons (eV 2) (aCons (eV 3) (aCons (eV 4) (aCons (eV 5) (aCons (eV 6) aNil)))))))))
  sNil)
  (sSeq (sIf (tV (eV 6))
  (sSeq (sAs (eA r_along (aCons (eV 0) (aCons (eV 1) (aCons (eV 2) (aCons (e2 pIx (eV 3) (eC (.int 2))) (aCons (eV 4) (aCons (eV 5) (aCons (e2 pEq (eV 7) (eC (.str "sum"))) aNil)))))))) (gT 2 (gsCons (gN 8) (gsCons (gN 2) gsNil))))
  (sAs (eA r_along (aCons (eV 0) (aCons (eV 1) (aCons (eV 2) (aCons (e2 pIx (eV 3) (eC (.int 1))) (aCons (eV 4) (aCons (eV 5) (aCons (eC (.bl true)) aNil)))))))) (gT 2 (gsCons (gN 9) (gsCons (gN 2) gsNil)))))
  (sSeq (sAs (eA r_along (aCons (eV 0) (aCons (eV 1) (aCons (eV 2) (aCons (e2 pIx (eV 3) (eC (.int 1))) (aCons (eV 4) (aCons (eV 5) (aCons (eC (.bl false)) aNil)))))))) (gT 2 (gsCons (gN 9) (gsCons (gN 2) gsNil))))
  (sAs (eA r_along (aCons (eV 0) (aCons (eV 1) (aCons (eV 2) (aCons (e2 pIx (eV 3) (eC (.int 2))) (aCons (eV 4) (aCons (eV 5) (aCons (e2 pEq (eV 7) (eC (.str "less"))) aNil)))))))) (gT 2 (gsCons (gN 8) (gsCons (gN 2) gsNil))))))
  (sRt (eA mkT (aCons (eA mkT (aCons (eV 7) (aCons (eV 9) (aCons (eV 8) aNil)))) (aCons (eV 2) aNil))))))))
def b_12(r_along:Fn)(r_along_times:Fn):FS :=
 (sSeq (sAs (eV 4) (gT 3 (gsCons (gN 7) (gsCons (gN 8) (gsCons (gN 9) gsNil)))))
  (sSeq (sIf (tV (eV 6))
  (sSeq (sAs (eA r_along (aCons (eV 0) (aCons (eV 1) (aCons (eV 2) (aCons (e2 pIx (eV 3) (eC (.int 1))) (aCons (eA mkT (aCons (eV 7) (aCons (eV 9) (aCons (eV 8) aNil)))) (aCons (eC (.bl true)) (aCons (eC (.bl false)) aNil)))))))) (gT 2 (gsCons (gN 10) (gsCons (gN 11) gsNil))))
  (sAs (eA r_along (aCons (eV 0) (aCons (eV 1) (aCons (eV 11) (aCons (e2 pIx (eV 3) (eC (.int 2))) (aCons (eA mkT (aCons (eV 9) (aCons (eV 8) (aCons (eV 7) aNil)))) (aCons (eV 5) (aCons (eC (.bl false)) aNil)))))))) (gT 2 (gsCons (gN 12) (gsCons (gN 13) gsNil)))))
  (sSeq (sAs (eA r_along (aCons (eV 0) (aCons (eV 1) (aCons (eV 2) (aCons (e2 pIx (eV 3) (eC (.int 2))) (aCons (eA mkT (aCons (eV 9) (aCons (eV 8) (aCons (eV 7) aNil)))) (aCons (eV 5) (aCons (eC (.bl false)) aNil)))))))) (gT 2 (gsCons (gN 12) (gsCons (gN 11) gsNil))))
  (sAs (eA r_along (aCons (eV 0) (aCons (eV 1) (aCons (eV 11) (aCons (e2 pIx (eV 3) (eC (.int 1))) (aCons (eA mkT (aCons (eV 7) (aCons (eV 9) (aCons (eV 8) aNil)))) (aCons (eC (.bl true)) (aCons (eC (.bl false)) aNil)))))))) (gT 2 (gsCons (gN 10) (gsCons (gN 13) gsNil))))))
  (sSeq (sAs (e2 pAdd (eA cD (aCons (eV 0) (aCons (eSlS (eV 1) (oAt (eV 2)) (oAt (eV 11))) aNil))) (eA cD (aCons (eV 0) (aCons (eSlS (eV 1) (oAt (eV 11)) (oAt (eV 13))) aNil)))) (gN 14))
  (sRt (eA mkT (aCons (eA mkT (aCons (eC (.str "times")) (aCons (eV 10) (aCons (eV 12) aNil)))) (aCons (eA gO (aCons (eV 1) (aCons (eV 13) (aCons (eV 14) aNil)))) aNil)))))))
mutual
def fL:Nat->Fn
 |0=>λ_ _=>.bad
 |d+1=>fnD 7 10 (b_10 (fL d) (cP d))
def cP:Nat->Fn
 |0=>λ_ _=>.bad
 |d+1=>fnD 7 15 (b_12 (fL d) (cP d))
end
theorem fT:∀{d:Nat} {ws:List W} {M:Mm},ws.length≠7->fL d ws M=.bad
 |0,_,_,_=>by simp only[fL]
 |d+1,_,_,h=>by simp only[fL];exact aAI h
theorem sK:∀{d:Nat} {ws:List W} {M:Mm},ws.length≠7->cP d ws M=.bad
 |0,_,_,_=>by simp only[cP]
 |d+1,_,_,h=>by simp only[cP];exact aAI h
def b_f:FS :=
 (sSeq (sPar 6 7 (aCons (e2 pIx (eV 0) (eC (.int 0))) (aCons (e2 pIx (eV 0) (eC (.int 3))) aNil)))
  (sSeq (sAs (eA (fL 50) (aCons (eV 6) (aCons (eV 7) (aCons (eC (.int 0)) (aCons (eV 1) (aCons (eA mkT (aCons (eV 2) (aCons (eV 3) (aCons (eV 4) aNil)))) (aCons (eV 5) (aCons (eC (.bl false)) aNil)))))))) (gT 2 (gsCons (gN 8) (gsCons (gN 9) gsNil))))
  (sSeq (sIf (EV.tB (e2 pLt (eV 9) (eA cLen (aCons (eV 7) aNil))))
  sBad
  sNil)
  (sRt (eV 8)))))
def qX:Fn:=fnD 6 10 b_f
theorem aHa{ws:List W}(h:ws.length≠6):qX ws M=.bad:=aAI h
def b_14:FS :=
 (sSeq (sAs (eV 1) (gN 2))
  (sSeq (whileD (EV.tAnd (EV.tB (e2 pLt (eV 2) (eA cLen (aCons (eV 0) aNil)))) (EV.tB (e2 pInS (e2 pIx (eV 0) (eV 2)) (eC (.str "0123456789")))))
  (sAug (pI (λ_ _=>true) λi j=>.int (i+j)) 2 (eC (.int 1))) NW)
  (sRt (eV 2))))
def eH:Fn:=fnD 2 3 b_14
theorem jG{ws:List W}(h:ws.length≠2):eH ws M=.bad:=aAI h
def b_15:FS :=
 (sSeq (sIf (EV.tOr (EV.tB (e2 pEq (eV 0) (eC (.str "")))) (EV.tB (e2 pGt (eA cLen (aCons (eV 0) aNil)) (eV 1))))
  (sRt (eC .non))
  sNil)
  (sSeq (sIf (EV.tB (e2 pLt (eA eH (aCons (eV 0) (aCons (eC (.int 0)) aNil))) (eA cLen (aCons (eV 0) aNil))))
  (sRt (eC .non))
  sNil)
  (sSeq (sIf (EV.tAnd (EV.tB (e2 pEq (e2 pIx (eV 0) (eC (.int 0))) (eC (.str "0")))) (EV.tB (e2 pGt (eA cLen (aCons (eV 0) aNil)) (eC (.int 1)))))
  (sRt (eC .non))
  sNil)
  (sRt (eA cIntS (aCons (eV 0) aNil))))))
def eE:Fn:=fnD 2 2 b_15
theorem fY{ws:List W}(h:ws.length≠2):eE ws M=.bad:=aAI h
def b_16(r_show_expr:Fn):FS :=
 (sSeq (sIf (EV.tB (e2 pEq (e2 pIx (eV 0) (eC (.int 0))) (eC (.str "num"))))
  (sRt (eA cStr (aCons (e2 pIx (eV 0) (eC (.int 1))) aNil)))
  sNil)
  (sSeq (sIf (EV.tB (e2 pEq (e2 pIx (eV 0) (eC (.int 0))) (eC (.str "given"))))
  (sRt (eJ (jLit "x" (jVal (e2 pIx (eV 0) (eC (.int 1))) jNil))))
  sNil)
  (sRt (eJ (jLit "(" (jVal (eA r_show_expr (aCons (e2 pIx (eV 0) (eC (.int 1))) aNil)) (jVal (e1 (pTab [("sum"," + "),("less"," - "),("times"," * ")]) (e2 pIx (eV 0) (eC (.int 0)))) (jVal (eA r_show_expr (aCons (e2 pIx (eV 0) (eC (.int 2))) aNil)) (jLit ")" jNil)))))))))
def cI:Nat->Fn
 |0=>λ_ _=>.bad
 |d+1=>fnD 1 1 (b_16 (cI d))
theorem kX:∀{d:Nat} {ws:List W} {M:Mm},ws.length≠1->cI d ws M=.bad
 |0,_,_,_=>by simp only[cI]
 |d+1,_,_,h=>by simp only[cI];exact aAI h
def b_1b:FS :=
 (sSeq (sAs (eA eH (aCons (eV 0) (aCons (eV 1) aNil))) (gN 2))
  (sSeq (sAs (eA eE (aCons (eSlS (eV 0) (oAt (eV 1)) (oAt (eV 2))) (aCons (eC (.int 6)) aNil))) (gN 3))
  (sSeq (sIf (EV.tB (e2 pIs (eV 3) (eC .non)))
  sBad
  sNil)
  (sRt (eA mkT (aCons (eA mkT (aCons (eC (.str "num")) (aCons (eV 3) aNil))) (aCons (eV 2) aNil)))))))
def jW:Fn:=fnD 2 4 b_1b
theorem xY{ws:List W}(h:ws.length≠2):jW ws M=.bad:=aAI h
def b_1a:FS :=
 (sSeq (sAs (eA eH (aCons (eV 0) (aCons (eV 1) aNil))) (gN 2))
  (sSeq (sAs (eA eE (aCons (eSlS (eV 0) (oAt (eV 1)) (oAt (eV 2))) (aCons (eC (.int 1)) aNil))) (gN 3))
  (sSeq (sIf (EV.tOr (EV.tB (e2 pIs (eV 3) (eC .non))) (EV.tB (e2 pGt (eV 3) (eC (.int 7)))))
  sBad
  sNil)
  (sRt (eA mkT (aCons (eA mkT (aCons (eC (.str "given")) (aCons (eV 3) aNil))) (aCons (eV 2) aNil)))))))
def hU:Fn:=fnD 2 4 b_1a
theorem tI{ws:List W}(h:ws.length≠2):hU ws M=.bad:=aAI h
def b_19(r_read_pair:Fn)(r_read_part:Fn):FS :=
 (sSeq (sIf (EV.tB (e2 pGt (eV 2) (eC (.int 20))))
  sBad
  sNil)
  (sSeq (sAs (eA r_read_part (aCons (eV 0) (aCons (eV 1) (aCons (eV 2) aNil)))) (gT 2 (gsCons (gN 3) (gsCons (gN 1) gsNil))))
  (sSeq (sAs (e1 (pTabG [(" + ","sum"),(" - ","less"),(" * ","times")]) (eSlS (eV 0) (oAt (eV 1)) (oAt (e2 pAdd (eV 1) (eC (.int 3)))))) (gN 4))
  (sSeq (sIf (EV.tB (e2 pIs (eV 4) (eC .non)))
  sBad
  sNil)
  (sSeq (sAs (eA r_read_part (aCons (eV 0) (aCons (e2 pAdd (eV 1) (eC (.int 3))) (aCons (eV 2) aNil)))) (gT 2 (gsCons (gN 5) (gsCons (gN 1) gsNil))))
  (sSeq (sIf (EV.tB (e2 pNe (eSlS (eV 0) (oAt (eV 1)) (oAt (e2 pAdd (eV 1) (eC (.int 1))))) (eC (.str ")"))))
  sBad
  sNil)
  (sRt (eA mkT (aCons (eA mkT (aCons (eV 4) (aCons (eV 3) (aCons (eV 5) aNil)))) (aCons (e2 pAdd (eV 1) (eC (.int 1))) aNil))))))))))
def b_18(r_read_pair:Fn)(r_read_part:Fn):FS :=
 (sSeq (sAs (eSlS (eV 0) (oAt (eV 1)) (oAt (e2 pAdd (eV 1) (eC (.int 1))))) (gN 3))
  (sSeq (sIf (EV.tB (e2 pEq (eV 3) (eC (.str "("))))
  (sRt (eA r_read_pair (aCons (eV 0) (aCons (e2 pAdd (eV 1) (eC (.int 1))) (aCons (e2 pAdd (eV 2) (eC (.int 1))) aNil)))))
  sNil)
  (sSeq (sIf (EV.tB (e2 pEq (eV 3) (eC (.str "x"))))
  (sRt (eA hU (aCons (eV 0) (aCons (e2 pAdd (eV 1) (eC (.int 1))) aNil))))
  sNil)
  (sRt (eA jW (aCons (eV 0) (aCons (eV 1) aNil)))))))
mutual
def eB:Nat->Fn
 |0=>λ_ _=>.bad
 |d+1=>fnD 3 6 (b_19 (eB d) (bV d))
def bV:Nat->Fn
 |0=>λ_ _=>.bad
 |d+1=>fnD 3 4 (b_18 (eB d) (bV d))
end
theorem wG:∀{d:Nat} {ws:List W} {M:Mm},ws.length≠3->eB d ws M=.bad
 |0,_,_,_=>by simp only[eB]
 |d+1,_,_,h=>by simp only[eB];exact aAI h
theorem lC:∀{d:Nat} {ws:List W} {M:Mm},ws.length≠3->bV d ws M=.bad
 |0,_,_,_=>by simp only[bV]
 |d+1,_,_,h=>by simp only[bV];exact aAI h
def b_17:FS :=
 (sSeq (sAs (eA (bV 50) (aCons (eV 0) (aCons (eC (.int 0)) (aCons (eC (.int 0)) aNil)))) (gT 2 (gsCons (gN 1) (gsCons (gN 2) gsNil))))
  (sSeq (sIf (EV.tB (e2 pLt (eV 2) (eA cLen (aCons (eV 0) aNil))))
  sBad
  sNil)
  (sRt (eV 1))))
def iY:Fn:=fnD 1 3 b_17
theorem vX{ws:List W}(h:ws.length≠1):iY ws M=.bad:=aAI h
def b_1c(r_paper_of:Fn):FS :=
 (sSeq (sIf (tV (eA eT (aCons (eV 0) aNil)))
  (sRt (eA mkT (aCons (eC (.str "one")) aNil)))
  sNil)
  (sRt (eA mkT (aCons (e2 pIx (eV 0) (eC (.int 0))) (aCons (eA r_paper_of (aCons (e2 pIx (eV 0) (eC (.int 1))) aNil)) (aCons (eA r_paper_of (aCons (e2 pIx (eV 0) (eC (.int 2))) aNil)) aNil))))))
def cX:Nat->Fn
 |0=>λ_ _=>.bad
 |d+1=>fnD 1 1 (b_1c (cX d))
theorem mH:∀{d:Nat} {ws:List W} {M:Mm},ws.length≠1->cX d ws M=.bad
 |0,_,_,_=>by simp only[cX]
 |d+1,_,_,h=>by simp only[cX];exact aAI h
def b_1e:FS :=
 (sSeq (sIf (EV.tB (e2 pEq (e2 pIx (eV 0) (eC (.int 0))) (eC (.str "scale"))))
  (sRt (eJ (jLit "s" (jVal (e2 pIx (eV 0) (eC (.int 1))) (jLit " * " (jVal (e2 pIx (eV 0) (eC (.int 2))) jNil))))))
  sNil)
  (sSeq (sAs (eA mkR (aCons (eJ (jLit "s" (jVal (e2 pIx (eV 0) (eC (.int 1))) (jLit " + " (jVal (e2 pIx (eV 0) (eC (.int 2))) jNil))))) aNil)) (gN 1))
  (sSeq (sAugL 1 (eComp [none] (iE (e2 pIx (eV 0) (eC (.int 3)))) (gN 0) EV.tYes (eJ (jLit "x" (jVal (eV 0) jNil)))))
  (sSeq (sAugL 1 (eComp [none] (iE (e2 pIx (eV 0) (eC (.int 4)))) (gN 0) EV.tYes (eJ (jLit "s" (jVal (eV 0) jNil)))))
  (sRt (eS1 pJoin (eC (.str " ")) (eV 1)))))))
def jB:Fn:=fnD 1 2 b_1e
theorem wJ{ws:List W}(h:ws.length≠1):jB ws M=.bad:=aAI h
def b_1d:FS :=
 (sSeq (sAs (eV 0) (gT 4 (gsCons (gN 1) (gsCons (gN 2) (gsCons (gN 3) (gsCons (gN 4) gsNil))))))
  (sSeq (sAs (eA mkR (aCons (eJ (jLit "rest " (jVal (eV 1) (jLit " givens " (jVal (eV 2) (jLit " shelves " (jVal (eV 3) jNil))))))) aNil)) (gN 5))
  (sSeq (sAugL 5 (eComp [none] (iE (eV 4)) (gN 0) EV.tYes (eA jB (aCons (eV 0) aNil))))
  (sRt (eS1 pJoin (eC (.str "\n")) (eV 5))))))
def rA:Fn:=fnD 1 6 b_1d
theorem aCj{ws:List W}(h:ws.length≠1):rA ws M=.bad:=aAI h
def b_20:FS :=
 (sSeq (sAs (eS1 pSplit (eV 0) (eC (.str " "))) (gN 1))
  (sSeq (sIf (EV.tB (e2 pNe (eTwo (eV 1) (oAt (eC (.int 0))) (oAt (eC (.int 2)))) (eA mkL (aCons (eC (.str "rest")) (aCons (eC (.str "givens")) (aCons (eC (.str "shelves")) aNil))))))
  (sRt (eC .non))
  sNil)
  (sSeq (sAs (eComp [none] (iE (eTwo (eV 1) (oAt (eC (.int 1))) (oAt (eC (.int 2))))) (gN 0) EV.tYes (eA eE (aCons (eV 0) (aCons (eC (.int 7)) aNil)))) (gN 2))
  (sSeq (sIf (EV.tOr (EV.tB (e2 pNe (eA cLen (aCons (eV 2) aNil)) (eC (.int 3)))) (EV.tB (e2 pInN (eC .non) (eV 2))))
  (sRt (eC .non))
  sNil)
  (sSeq (sAs (eV 2) (gOr (gT 3 (gsCons (gN 3) (gsCons (gN 4) (gsCons (gN 5) gsNil)))) (gTL 3 (gsCons (gN 3) (gsCons (gN 4) (gsCons (gN 5) gsNil))))))
  (sSeq (sIf (EV.tOr (EV.tNot (EV.tB (e3c pLe pLe (eC (.int 2)) (eV 3) (eC (.int 1000000))))) (EV.tOr (EV.tB (e2 pGt (eV 4) (eC (.int 8)))) (EV.tNot (EV.tB (e3c pLe pLe (eC (.int 1)) (eV 5) (eC (.int 9)))))))
  (sRt (eC .non))
  sNil)
  (sRt (eA mkT (aCons (eV 3) (aCons (eV 4) (aCons (eV 5) aNil)))))))))))
def iZ:Fn:=fnD 1 6 b_20
theorem wF{ws:List W}(h:ws.length≠1):iZ ws M=.bad:=aAI h
def b_23:FS :=
 (sSeq (sIf (EV.tNot (tV (eS1 pStarts (eV 1) (eV 0))))
  (sRt (eC .non))
  sNil)
  (sRt (eA eE (aCons (eSlS (eV 1) (oAt (eC (.int 1))) oNo) (aCons (eC (.int 7)) aNil)))))
def cW:Fn:=fnD 2 2 b_23
theorem hW{ws:List W}(h:ws.length≠2):cW ws M=.bad:=aAI h
def b_22:FS :=
 (sSeq (sAs (eC (.int 0)) (gN 3))
  (sSeq (whileD (EV.tAnd (EV.tB (e2 pLt (eV 3) (eA cLen (aCons (eV 2) aNil)))) (tV (eS1 pStarts (e2 pIx (eV 2) (eV 3)) (eC (.str "x")))))
  (sAug (pI (λ_ _=>true) λi j=>.int (i+j)) 3 (eC (.int 1))) NW)
  (sSeq (sAs (eComp [none] (iE (eSlS (eV 2) oNo (oAt (eV 3)))) (gN 0) EV.tYes (eA cW (aCons (eC (.str "x")) (aCons (eV 0) aNil)))) (gN 4))
  (sSeq (sAs (eComp [none] (iE (eSlS (eV 2) (oAt (eV 3)) oNo)) (gN 0) EV.tYes (eA cW (aCons (eC (.str "s")) (aCons (eV 0) aNil)))) (gN 5))
  (sSeq (sIf (EV.tOr (EV.tB (e2 pInN (eC .non) (eV 4))) (EV.tB (e2 pInN (eC .non) (eV 5))))
  (sRt (eC .non))
  sNil)
  (sRt (eA mkT (aCons (eC (.str "add")) (aCons (eV 0) (aCons (eV 1) (aCons (eA cTup (aCons (eV 4) aNil)) (aCons (eA cTup (aCons (eV 5) aNil)) aNil))))))))))))
def jZ:Fn:=fnD 3 6 b_22
theorem yN{ws:List W}(h:ws.length≠3):jZ ws M=.bad:=aAI h
def b_21:FS :=
 (sSeq (sAs (eS1 pSplit (eV 0) (eC (.str " "))) (gN 1))
  (sSeq (sIf (EV.tB (e2 pLt (eA cLen (aCons (eV 1) aNil)) (eC (.int 3))))
  (sRt (eC .non))
  sNil)
  (sSeq (sAs (eA cW (aCons (eC (.str "s")) (aCons (e2 pIx (eV 1) (eC (.int 0))) aNil))) (gN 2))
  (sSeq (sAs (eA eE (aCons (e2 pIx (eV 1) (eC (.int 2))) (aCons (eC (.int 7)) aNil))) (gN 3))
  (sSeq (sIf (EV.tOr (EV.tB (e2 pIs (eV 2) (eC .non))) (EV.tB (e2 pIs (eV 3) (eC .non))))
  (sRt (eC .non))
  sNil)
  (sSeq (sIf (EV.tAnd (EV.tB (e2 pEq (e2 pIx (eV 1) (eC (.int 1))) (eC (.str "*")))) (EV.tB (e2 pEq (eA cLen (aCons (eV 1) aNil)) (eC (.int 3)))))
  (sRt (eA mkT (aCons (eC (.str "scale")) (aCons (eV 2) (aCons (eV 3) aNil)))))
  sNil)
  (sSeq (sIf (EV.tB (e2 pEq (e2 pIx (eV 1) (eC (.int 1))) (eC (.str "+"))))
  (sRt (eA jZ (aCons (eV 2) (aCons (eV 3) (aCons (eSlS (eV 1) (oAt (eC (.int 3))) oNo) aNil)))))
  sNil)
  (sRt (eC .non)))))))))
def jA:Fn:=fnD 1 4 b_21
theorem vT{ws:List W}(h:ws.length≠1):jA ws M=.bad:=aAI h
def b_1f:FS :=
 (sSeq (sAs (eS1 pSplit (eV 0) (eC (.str "\n"))) (gN 1))
  (sSeq (sAs (eA iZ (aCons (e2 pIx (eV 1) (eC (.int 0))) aNil)) (gN 2))
  (sSeq (sIf (EV.tB (e2 pIs (eV 2) (eC .non)))
  sBad
  sNil)
  (sSeq (sAs (eV 2) (gT 3 (gsCons (gN 3) (gsCons (gN 4) (gsCons (gN 5) gsNil)))))
  (sSeq (sAs (eA mkR aNil) (gN 6))
  (sSeq (sFor (iEnumKL (eSlS (eV 1) (oAt (eC (.int 1))) oNo) (eC (.int 1))) (gT 2 (gsCons (gN 7) (gsCons (gN 8) gsNil)))
  (sSeq (sAs (eA jA (aCons (eV 8) aNil)) (gN 9))
  (sSeq (sIf (EV.tOr (EV.tB (e2 pIs (eV 9) (eC .non))) (EV.tNot (tV (eA lP (aCons (eV 3) (aCons (eV 4) (aCons (eV 5) (aCons (eV 9) aNil))))))))
  sBad
  sNil)
  (sEx (eM1 pAppend (eV 6) (eV 9))))))
  (sRt (eA mkT (aCons (eV 3) (aCons (eV 4) (aCons (eV 5) (aCons (eA cTup (aCons (eV 6) aNil)) aNil))))))))))))
def tO:Fn:=fnD 1 10 b_1f
theorem aIk{ws:List W}(h:ws.length≠1):tO ws M=.bad:=aAI h
def b_26:FS :=
 (sSeq (sAs (eC (.int 1)) (gN 2))
  (sSeq (sFor (iE (eV 0)) (gN 3)
  (sAs (e2 pMulA (eV 2) (e2 pIx (eV 1) (eV 3))) (gN 2)))
  (sRt (eV 2))))
def fU:Fn:=fnD 2 4 b_26
theorem nH{ws:List W}(h:ws.length≠2):fU ws M=.bad:=aAI h
def b_25:FS :=
 (sSeq (sPar 4 5 (aCons (e2 pIx (eV 1) (eC (.int 1))) (aCons (e2 pIx (eV 1) (eC (.int 2))) aNil)))
  (sSeq (sAs (e2 pIx (eV 3) (eV 4)) (gN 6))
  (sSeq (sIf (EV.tB (e2 pEq (e2 pIx (eV 1) (eC (.int 0))) (eC (.str "scale"))))
  (sAs (e2 pMulA (eV 6) (eV 5)) (gN 6))
  (sAs (e2 pAdd (eV 6) (e2 pMulA (e2 pMulA (eV 5) (eA fU (aCons (e2 pIx (eV 1) (eC (.int 3))) (aCons (eV 2) aNil)))) (eA fU (aCons (e2 pIx (eV 1) (eC (.int 4))) (aCons (eV 3) aNil))))) (gN 6)))
  (sRt (e2 pAdd (e2 pAdd (eSlS (eV 3) oNo (oAt (eV 4))) (eA mkT (aCons (e2 pMod (eV 6) (eV 0)) aNil))) (eSlS (eV 3) (oAt (e2 pAdd (eV 4) (eC (.int 1)))) oNo))))))
def rE:Fn:=fnD 4 7 b_25
theorem aMh{ws:List W}(h:ws.length≠4):rE ws M=.bad:=aAI h
def b_24:FS :=
 (sSeq (sFor (iE (e2 pIx (eV 0) (eC (.int 3)))) (gN 3)
  (sAs (eA rE (aCons (e2 pIx (eV 0) (eC (.int 0))) (aCons (eV 3) (aCons (eV 1) (aCons (eV 2) aNil))))) (gN 2)))
  (sRt (eV 2)))
def aBa:Fn:=fnD 3 4 b_24
theorem aOn{ws:List W}(h:ws.length≠3):aBa ws M=.bad:=aAI h
def b_2a:FS :=
 (sSeq (sAs (eA gK (aCons (eV 0) (aCons (eV 1) aNil))) (gN 2))
  (sSeq (sIf (EV.tB (e2 pIs (eV 2) (eC .non)))
  sBad
  sNil)
  (sRt (eV 2))))
def gR:Fn:=fnD 2 3 b_2a
theorem vD{ws:List W}(h:ws.length≠2):gR ws M=.bad:=aAI h
def b_29:FS :=
 (sSeq (sAs (eA mkR (aCons (e2 pMod (e2 pIx (eV 1) (eC (.int 0))) (eV 0)) aNil)) (gN 2))
  (sSeq (sAs (eV 1) (gN 3))
  (sSeq (sAs (eC (.int 1)) (gN 4))
  (sSeq (sFor (iR2 (eC (.int 1)) (eA cLen (aCons (eV 1) aNil))) (gN 5)
  (sSeq (sAs (eComp [none,none] (iZip (eV 3) (eSlS (eV 3) (oAt (eC (.int 1))) oNo)) (gT 2 (gsCons (gN 0) (gsCons (gN 1) gsNil))) EV.tYes (e2 pSub (eV 1) (eV 0))) (gN 3))
  (sSeq (sAs (e2 pMod (e2 pMulA (eV 4) (eA gR (aCons (eV 0) (aCons (eV 5) aNil)))) (eV 0)) (gN 4))
  (sEx (eM1 pAppend (eV 2) (e2 pMod (e2 pMulA (e2 pIx (eV 3) (eC (.int 0))) (eV 4)) (eV 0)))))))
  (sRt (eV 2))))))
def fM:Fn:=fnD 2 6 b_29
theorem rB{ws:List W}(h:ws.length≠2):fM ws M=.bad:=aAI h
def b_28:FS :=
 (sSeq (sAs (eA cLen (aCons (eV 2) aNil)) (gN 3))
  (sSeq (sAs (e2 pIx (eV 2) (eC (.int 0))) (gN 4))
  (sSeq (sFor (iE (eSlS (eV 2) (oAt (eC (.int 1))) oNo)) (gN 5)
  (sAs (eA mkT (aCons (eC (.str "sum")) (aCons (eV 4) (aCons (eV 5) aNil)))) (gN 4)))
  (sSeq (sAs (eA fM (aCons (eV 0) (aCons (eComp [none,some 1] (iR1 (e2 pAdd (eV 3) (eC (.int 1)))) (gN 0) EV.tYes (eIf (EV.tB (e2 pGe (eV 0) (eV 1))) (eC (.int 1)) (eC (.int 0)))) aNil))) (gN 6))
  (sSeq (sAs (eA mkT (aCons (eC (.str "num")) (aCons (e2 pIx (eV 6) (eV 3)) aNil))) (gN 7))
  (sSeq (sFor (iDown (eV 3)) (gN 8)
  (sAs (eA mkT (aCons (eC (.str "sum")) (aCons (eA mkT (aCons (eC (.str "num")) (aCons (e2 pIx (eV 6) (eV 8)) aNil))) (aCons (eA mkT (aCons (eC (.str "times")) (aCons (eA mkT (aCons (eC (.str "less")) (aCons (eV 4) (aCons (eA mkT (aCons (eC (.str "num")) (aCons (eV 8) aNil))) aNil)))) (aCons (eV 7) aNil)))) aNil)))) (gN 7)))
  (sRt (eV 7))))))))
def gQ:Fn:=fnD 3 9 b_28
theorem uM{ws:List W}(h:ws.length≠3):gQ ws M=.bad:=aAI h
def b_27(r_said:Fn):FS :=
 (sSeq (sAs (e2 pIx (eV 1) (eC (.int 0))) (gN 2))
  (sSeq (sIf (EV.tB (e2 pEq (eV 2) (eC (.str "yes"))))
  (sRt (eA mkT (aCons (eC (.str "given")) (aCons (e2 pIx (eV 1) (eC (.int 1))) aNil))))
  sNil)
  (sSeq (sIf (EV.tB (e2 pEq (eV 2) (eC (.str "not"))))
  (sRt (eA mkT (aCons (eC (.str "less")) (aCons (eA mkT (aCons (eC (.str "num")) (aCons (eC (.int 1)) aNil))) (aCons (eA r_said (aCons (eV 0) (aCons (e2 pIx (eV 1) (eC (.int 1))) aNil))) aNil)))))
  sNil)
  (sSeq (sIf (EV.tB (e2 pEq (eV 2) (eC (.str "least"))))
  (sRt (eA gQ (aCons (eV 0) (aCons (e2 pIx (eV 1) (eC (.int 1))) (aCons (eComp [none,some 0] (iE (e2 pIx (eV 1) (eC (.int 2)))) (gN 0) EV.tYes (eA r_said (aCons (eV 1) (aCons (eV 0) aNil)))) aNil)))))
  sNil)
  (sSeq (sAs (eA r_said (aCons (eV 0) (aCons (e2 pIx (eV 1) (eC (.int 1))) aNil))) (gN 3))
  (sSeq (sAs (eA r_said (aCons (eV 0) (aCons (e2 pIx (eV 1) (eC (.int 2))) aNil))) (gN 4))
  (sSeq (sIf (EV.tB (e2 pEq (eV 2) (eC (.str "and"))))
  (sRt (eA mkT (aCons (eC (.str "times")) (aCons (eV 3) (aCons (eV 4) aNil)))))
  sNil)
  (sRt (eA mkT (aCons (eC (.str "less")) (aCons (eA mkT (aCons (eC (.str "sum")) (aCons (eV 3) (aCons (eV 4) aNil)))) (aCons (eA mkT (aCons (eC (.str "times")) (aCons (eV 3) (aCons (eV 4) aNil)))) aNil))))))))))))
def jH:Nat->Fn
 |0=>λ_ _=>.bad
 |d+1=>fnD 2 5 (b_27 (jH d))
theorem nT:∀{d:Nat} {ws:List W} {M:Mm},ws.length≠2->jH d ws M=.bad
 |0,_,_,_=>by simp only[jH]
 |d+1,_,_,h=>by simp only[jH];exact aAI h
def b_2b:FS :=
 (sSeq (sAs (e2 pAdd (e2 pMulA (eC (.int 7919)) (eV 1)) (eC (.int 11))) (gN 2))
  (sSeq (sIf (EV.tB (e2 pLt (eV 1) (eA cLen (aCons (eV 0) aNil))))
  (sAs (e2 pIx (eV 0) (eV 1)) (gN 2))
  (sIf (EV.tB (e2 pGt (eA cLen (aCons (eV 0) aNil)) (eC (.int 0))))
  (sAs (e2 pAdd (eV 2) (e2 pMulA (e2 pMod (e2 pIx (eV 0) (e2 pMod (eV 1) (eA cLen (aCons (eV 0) aNil)))) (eC (.int 2147483629))) (eC (.int 69623)))) (gN 2))
  sNil))
  (sSeq (sAs (e2 pAdd (e2 pMod (e2 pAdd (e2 pMulA (e2 pMod (eV 2) (eC (.int 2147483629))) (eC (.int 48271))) (e2 pMulA (eC (.int 40692)) (eV 1))) (eC (.int 2147483629))) (eC (.int 1))) (gN 3))
  (sRt (eA mkR (aCons (e2 pIx (eA mkL (aCons (eC (.int 0)) (aCons (eV 2) aNil))) (eA cIntS (aCons (e2 pGe (eV 2) (e2 pPow (eC (.int 10)) (eC (.int 18)))) aNil))) (aCons (eV 3) (aCons (eC (.int 0)) aNil))))))))
def sW:Fn:=fnR 2 4 b_2b
theorem aHj{ws:List W}(h:ws.length≠2):sW ws M=.bad:=aAI h
def b_2c:FS :=
 (sSeq (sIf (EV.tB (e2 pGt (e2 pIx (eV 0) (eC (.int 0))) (eC (.int 0))))
  (sSeq (sAs (e2 pMod (e2 pIx (eV 0) (eC (.int 0))) (eV 1)) (gN 2))
  (sSeq (sAs (e2 pDiv (e2 pIx (eV 0) (eC (.int 0))) (eV 1)) (gS (eV 0) (eC (.int 0))))
  (sRt (eV 2))))
  sNil)
  (sSeq (sAs (e2 pAdd (e2 pIx (eV 0) (eC (.int 2))) (eC (.int 1))) (gS (eV 0) (eC (.int 2))))
  (sSeq (sAs (e2 pMod (e2 pMulA (e2 pAdd (e2 pIx (eV 0) (eC (.int 1))) (e2 pMulA (eC (.int 104729)) (e2 pIx (eV 0) (eC (.int 2))))) (eC (.int 69623))) (eC (.int 2147483647))) (gN 3))
  (sSeq (sAs (e2 pAdd (e2 pMod (e2 pAdd (e2 pMulA (eV 3) (eC (.int 48271))) (eC (.int 30103))) (eC (.int 2147483629))) (eC (.int 1))) (gS (eV 0) (eC (.int 1))))
  (sRt (e2 pMod (e2 pDiv (e2 pAdd (e2 pMulA (eV 3) (eC (.int 2147483647))) (e2 pIx (eV 0) (eC (.int 1)))) (eC (.int 8191))) (eV 1)))))))
def bF:Fn:=fnD 2 4 b_2c
theorem bA{ws:List W}(h:ws.length≠2):bF ws M=.bad:=aAI h
def b_2d:FS :=
 (sSeq (sAs (eA bF (aCons (eV 0) (aCons (eC (.int 6)) aNil))) (gN 1))
  (sSeq (sAs (eInts [2,3,4,5,6,7,8,9,12,16,30,36,49,64,91,97,210,1009,65536,999983,999999,1000000]) (gN 2))
  (sSeq (sAs (e2 pIx (eV 2) (eA bF (aCons (eV 0) (aCons (eC (.int 22)) aNil)))) (gN 3))
  (sSeq (sIf (EV.tB (e2 pEq (eV 1) (eC (.int 0))))
  (sRt (e2 pAdd (eC (.int 2)) (eA bF (aCons (eV 0) (aCons (eC (.int 999999)) aNil)))))
  sNil)
  (sSeq (sIf (EV.tB (e2 pLt (eV 1) (eC (.int 3))))
  (sRt (e2 pAdd (eC (.int 2)) (eA bF (aCons (eV 0) (aCons (eC (.int 11)) aNil)))))
  sNil)
  (sRt (eV 3)))))))
def aCc:Fn:=fnD 1 4 b_2d
theorem aNa{ws:List W}(h:ws.length≠1):aCc ws M=.bad:=aAI h
def b_2e:FS :=
 (sSeq (sAs (eA bF (aCons (eV 0) (aCons (eC (.int 4)) aNil))) (gN 2))
  (sSeq (sIf (EV.tB (e2 pEq (eV 2) (eC (.int 0))))
  (sRt (e2 pIx (eA mkL (aCons (eC (.int 0)) (aCons (e2 pMod (eC (.int 1)) (eV 1)) (aCons (e2 pSub (eV 1) (eC (.int 1))) (aCons (e2 pMod (e2 pSub (eV 1) (eC (.int 2))) (eV 1)) aNil))))) (eA bF (aCons (eV 0) (aCons (eC (.int 4)) aNil)))))
  sNil)
  (sRt (eA bF (aCons (eV 0) (aCons (eV 1) aNil))))))
def nN:Fn:=fnD 2 3 b_2e
theorem aDf{ws:List W}(h:ws.length≠2):nN ws M=.bad:=aAI h
def b_2f:FS :=
 (sRt (eA cTup (aCons (eComp [none,some 0,some 1] (iR1 (eV 2)) (gN 0) EV.tYes (eA nN (aCons (eV 1) (aCons (eV 2) aNil)))) aNil)))
def iK:Fn:=fnD 3 3 b_2f
theorem nQ{ws:List W}(h:ws.length≠3):iK ws M=.bad:=aAI h
def b_30(r_l_expr:Fn):FS :=
 (sSeq (sAs (eA bF (aCons (eV 0) (aCons (eC (.int 7)) aNil))) (gN 4))
  (sSeq (sIf (EV.tOr (EV.tB (e2 pLt (eV 2) (eC (.int 3)))) (EV.tOr (EV.tB (e2 pEq (eV 3) (eC (.int 0)))) (EV.tB (e2 pEq (eV 4) (eC (.int 0))))))
  (sSeq (sAs (e2 pIx (eA mkL (aCons (eA bF (aCons (eV 0) (aCons (eC (.int 10)) aNil))) (aCons (eA bF (aCons (eV 0) (aCons (eC (.int 1000000)) aNil))) aNil))) (eA cIntS (aCons (e2 pEq (eA bF (aCons (eV 0) (aCons (eC (.int 4)) aNil))) (eC (.int 0))) aNil))) (gN 5))
  (sSeq (sIf (EV.tAnd (EV.tB (e2 pGt (eV 1) (eC (.int 0)))) (EV.tB (e2 pGt (eA bF (aCons (eV 0) (aCons (eC (.int 3)) aNil))) (eC (.int 0)))))
  (sRt (eA mkT (aCons (eC (.str "given")) (aCons (eA bF (aCons (eV 0) (aCons (eV 1) aNil))) aNil))))
  sNil)
  (sRt (eA mkT (aCons (eC (.str "num")) (aCons (eV 5) aNil))))))
  sNil)
  (sSeq (sAs (e2 pAdd (eC (.int 1)) (eA bF (aCons (eV 0) (aCons (e2 pSub (eV 2) (eC (.int 2))) aNil)))) (gN 6))
  (sSeq (sAs (e2 pIx (eA mkL (aCons (eC (.str "sum")) (aCons (eC (.str "less")) (aCons (eC (.str "times")) (aCons (eC (.str "times")) aNil))))) (eA bF (aCons (eV 0) (aCons (eC (.int 4)) aNil)))) (gN 7))
  (sSeq (sAs (eA r_l_expr (aCons (eV 0) (aCons (eV 1) (aCons (eV 6) (aCons (e2 pSub (eV 3) (eC (.int 1))) aNil))))) (gN 8))
  (sRt (eA mkT (aCons (eV 7) (aCons (eV 8) (aCons (eA r_l_expr (aCons (eV 0) (aCons (eV 1) (aCons (e2 pSub (e2 pSub (eV 2) (eC (.int 1))) (eV 6)) (aCons (e2 pSub (eV 3) (eC (.int 1))) aNil))))) aNil))))))))))
def fB:Nat->Fn
 |0=>λ_ _=>.bad
 |d+1=>fnD 4 9 (b_30 (fB d))
theorem jY:∀{d:Nat} {ws:List W} {M:Mm},ws.length≠4->fB d ws M=.bad
 |0,_,_,_=>by simp only[fB]
 |d+1,_,_,h=>by simp only[fB];exact aAI h
def b_31(r_l_worth:Fn):FS :=
 (sSeq (sIf (EV.tB (e2 pEq (e2 pIx (eV 1) (eC (.int 0))) (eC (.str "num"))))
  (sRt (e2 pMod (e2 pIx (eV 1) (eC (.int 1))) (eV 0)))
  sNil)
  (sSeq (sIf (EV.tB (e2 pEq (e2 pIx (eV 1) (eC (.int 0))) (eC (.str "given"))))
  (sRt (e2 pIx (eV 2) (e2 pIx (eV 1) (eC (.int 1)))))
  sNil)
  (sSeq (sPar 3 4 (aCons (eA r_l_worth (aCons (eV 0) (aCons (e2 pIx (eV 1) (eC (.int 1))) (aCons (eV 2) aNil)))) (aCons (eA r_l_worth (aCons (eV 0) (aCons (e2 pIx (eV 1) (eC (.int 2))) (aCons (eV 2) aNil)))) aNil)))
  (sSeq (sIf (EV.tB (e2 pEq (e2 pIx (eV 1) (eC (.int 0))) (eC (.str "sum"))))
  (sRt (e2 pMod (e2 pAdd (eV 3) (eV 4)) (eV 0)))
  sNil)
  (sSeq (sIf (EV.tB (e2 pEq (e2 pIx (eV 1) (eC (.int 0))) (eC (.str "less"))))
  (sRt (e2 pMod (e2 pSub (eV 3) (eV 4)) (eV 0)))
  sNil)
  (sRt (e2 pMod (e2 pMulA (eV 3) (eV 4)) (eV 0))))))))
def dY:Nat->Fn
 |0=>λ_ _=>.bad
 |d+1=>fnD 3 5 (b_31 (dY d))
theorem nA:∀{d:Nat} {ws:List W} {M:Mm},ws.length≠3->dY d ws M=.bad
 |0,_,_,_=>by simp only[dY]
 |d+1,_,_,h=>by simp only[dY];exact aAI h
def b_32(r_l_text:Fn):FS :=
 (sSeq (sIf (EV.tB (e2 pEq (e2 pIx (eV 0) (eC (.int 0))) (eC (.str "num"))))
  (sRt (eA cStr (aCons (e2 pIx (eV 0) (eC (.int 1))) aNil)))
  sNil)
  (sSeq (sIf (EV.tB (e2 pEq (e2 pIx (eV 0) (eC (.int 0))) (eC (.str "given"))))
  (sRt (e2 pAdd (eC (.str "x")) (eA cStr (aCons (e2 pIx (eV 0) (eC (.int 1))) aNil))))
  sNil)
  (sSeq (sAs (e2 pIx (eC (.str "+-*")) (eL1 pIndex (eA mkL (aCons (eC (.str "sum")) (aCons (eC (.str "less")) (aCons (eC (.str "times")) aNil)))) (e2 pIx (eV 0) (eC (.int 0))))) (gN 1))
  (sRt (e2 pAdd (e2 pAdd (e2 pAdd (e2 pAdd (e2 pAdd (e2 pAdd (eC (.str "(")) (eA r_l_text (aCons (e2 pIx (eV 0) (eC (.int 1))) aNil))) (eC (.str " "))) (eV 1)) (eC (.str " "))) (eA r_l_text (aCons (e2 pIx (eV 0) (eC (.int 2))) aNil))) (eC (.str ")")))))))
def eR:Nat->Fn
 |0=>λ_ _=>.bad
 |d+1=>fnD 1 2 (b_32 (eR d))
theorem mI:∀{d:Nat} {ws:List W} {M:Mm},ws.length≠1->eR d ws M=.bad
 |0,_,_,_=>by simp only[eR]
 |d+1,_,_,h=>by simp only[eR];exact aAI h
def b_33(r_l_as_rests:Fn):FS :=
 (sSeq (sIf (EV.tB (e2 pEq (e2 pIx (eV 1) (eC (.int 0))) (eC (.str "num"))))
  (sRt (eA mkT (aCons (eC (.str "num")) (aCons (e2 pMod (e2 pIx (eV 1) (eC (.int 1))) (eV 0)) aNil))))
  sNil)
  (sSeq (sIf (EV.tB (e2 pEq (e2 pIx (eV 1) (eC (.int 0))) (eC (.str "given"))))
  (sRt (eV 1))
  sNil)
  (sRt (eA mkT (aCons (e2 pIx (eV 1) (eC (.int 0))) (aCons (eA r_l_as_rests (aCons (eV 0) (aCons (e2 pIx (eV 1) (eC (.int 1))) aNil))) (aCons (eA r_l_as_rests (aCons (eV 0) (aCons (e2 pIx (eV 1) (eC (.int 2))) aNil))) aNil)))))))
def bT:Nat->Fn
 |0=>λ_ _=>.bad
 |d+1=>fnD 2 2 (b_33 (bT d))
theorem jU:∀{d:Nat} {ws:List W} {M:Mm},ws.length≠2->bT d ws M=.bad
 |0,_,_,_=>by simp only[bT]
 |d+1,_,_,h=>by simp only[bT];exact aAI h
def b_34:FS :=
 (sSeq (sAs (eA lM (aCons (eA hV (aDef (aCons (eV 0) (aCons (eA cLen (aCons (eV 3) aNil)) (aCons (eA iY (aCons (eA (eR 50) (aCons (eV 1) aNil)) aNil)) aNil))) [.int 5000])) (aCons (eV 2) aNil))) (gN 5))
  (sSeq (sAs (eA rA (aCons (eV 5) aNil)) (gN 6))
  (sSeq (sAs (eA tO (aCons (eV 6) aNil)) (gN 7))
  (sSeq (sIf (EV.tOr (EV.tB (e2 pNe (eA rA (aCons (eV 7) aNil)) (eV 6))) (EV.tB (e2 pNe (e2 pIx (eV 7) (eC (.int 2))) (e2 pAdd (eA cMaxL (aCons (eV 2) aNil)) (eC (.int 1))))))
  (sRt (eC (.bl false)))
  sNil)
  (sSeq (sAs (e2 pIx (eV 2) (eC (.int 0))) (gN 8))
  (sSeq (sAs (e2 pMod (e2 pAdd (e2 pIx (eV 4) (eV 8)) (eA (dY 50) (aCons (eV 0) (aCons (eV 1) (aCons (eV 3) aNil))))) (eV 0)) (gN 9))
  (sSeq (sAs (e2 pAdd (e2 pAdd (eSlS (eV 4) oNo (oAt (eV 8))) (eA mkT (aCons (eV 9) aNil))) (eSlS (eV 4) (oAt (e2 pAdd (eV 8) (eC (.int 1)))) oNo)) (gN 10))
  (sSeq (sIf (EV.tB (e2 pNe (eA aBa (aCons (eV 7) (aCons (eV 3) (aCons (eSlS (eV 4) oNo (oAt (e2 pIx (eV 7) (eC (.int 2))))) aNil)))) (eSlS (eV 10) oNo (oAt (e2 pIx (eV 7) (eC (.int 2)))))))
  (sRt (eC (.bl false)))
  sNil)
  (sSeq (sAs (eA qX (aCons (eV 7) (aCons (eA (cX 50) (aCons (eV 1) aNil)) (aCons (e2 pIx (eV 2) (eC (.int 0))) (aCons (e2 pIx (eV 2) (eC (.int 1))) (aCons (e2 pIx (eV 2) (eC (.int 2))) (aCons (eC (.bl false)) aNil))))))) (gN 11))
  (sRt (eAnd (e2 pEq (eV 11) (eA (bT 50) (aCons (eV 0) (aCons (eV 1) aNil)))) (e2 pEq (eA (cI 50) (aCons (eV 11) aNil)) (eA (eR 50) (aCons (eV 11) aNil))))))))))))))
def lR:Fn:=fnD 5 12 b_34
theorem aBi{ws:List W}(h:ws.length≠5):lR ws M=.bad:=aAI h
def b_35:FS :=
 (sSeq (sAs (eA (fB 50) (aCons (eV 0) (aCons (eV 1) (aCons (eC (.int 1)) (aCons (eC (.int 0)) aNil))))) (gN 2))
  (sSeq (sFor (iR1 (eC (.int 8))) (gN 3)
  (sSeq (sAs (eA (fB 50) (aCons (eV 0) (aCons (eV 1) (aCons (eC (.int 1)) (aCons (eC (.int 0)) aNil))))) (gN 4))
  (sAs (e2 pAdd (eA mkT (aCons (eC (.str "times")) aNil)) (e2 pIx (eA mkL (aCons (eA mkT (aCons (eV 2) (aCons (eV 4) aNil))) (aCons (eA mkT (aCons (eV 4) (aCons (eV 2) aNil))) aNil))) (eA bF (aCons (eV 0) (aCons (eC (.int 2)) aNil))))) (gN 2))))
  (sRt (eV 2))))
def lS:Fn:=fnD 2 5 b_35
theorem aAo{ws:List W}(h:ws.length≠2):lS ws M=.bad:=aAI h
def b_36:FS :=
 (sSeq (sAs (eA cTup (aCons (eComp [none,some 0,some 2] (iR1 (e2 pAdd (eC (.int 3)) (eA bF (aCons (eV 0) (aCons (eC (.int 2)) aNil))))) (gN 0) EV.tYes (eA mkT (aCons (eC (.str "yes")) (aCons (eA bF (aCons (eV 1) (aCons (eV 2) aNil))) aNil)))) aNil)) (gN 3))
  (sRt (eA (jH 50) (aCons (eV 1) (aCons (eA mkT (aCons (eC (.str "least")) (aCons (e2 pAdd (eC (.int 1)) (eA bF (aCons (eV 0) (aCons (eC (.int 4)) aNil)))) (aCons (eV 3) aNil)))) aNil)))))
def lV:Fn:=fnD 3 4 b_36
theorem aBh{ws:List W}(h:ws.length≠3):lV ws M=.bad:=aAI h
def b_37:FS :=
 (sSeq (sFor (iR1 (eA cMax2 (aCons (eC (.int 3)) (aCons (eA cMin2 (aCons (eC (.int 5)) (aCons (eA cLen (aCons (eV 0) aNil)) aNil))) aNil)))) (gN 1)
  (sSeq (sAs (eA sW (aCons (eV 0) (aCons (eV 1) aNil))) (gN 2))
  (sSeq (sPar3 3 4 5 (aCons (eA aCc (aCons (eV 2) aNil)) (aCons (e2 pAdd (eC (.int 1)) (eA bF (aCons (eV 2) (aCons (eC (.int 3)) aNil)))) (aCons (eListRange1R (e2 pAdd (eC (.int 3)) (eA bF (aCons (eV 2) (aCons (eC (.int 3)) aNil))))) aNil))))
  (sSeq (sAs (eA iK (aCons (eV 2) (aCons (eV 3) (aCons (eA cLen (aCons (eV 5) aNil)) aNil)))) (gN 6))
  (sSeq (sAs (eA cTup (aCons (eComp [none,some 5,some 2] (iR1 (eC (.int 3))) (gN 0) EV.tYes (eM1 pPopAt (eV 1) (eA bF (aCons (eV 2) (aCons (eA cLen (aCons (eV 1) aNil)) aNil))))) aNil)) (gN 7))
  (sSeq (sPar 8 9 (aCons (eA (fB 50) (aCons (eV 2) (aCons (eV 4) (aCons (eC (.int 9)) (aCons (eC (.int 4)) aNil))))) (aCons (eA bF (aCons (eV 2) (aCons (eC (.int 6)) aNil))) aNil)))
  (sSeq (sIf (EV.tAnd (EV.tB (e2 pEq (eV 1) (eC (.int 0)))) (EV.tB (e2 pEq (eV 9) (eC (.int 0)))))
  (sAs (eA lS (aCons (eV 2) (aCons (eV 4) aNil))) (gN 8))
  sNil)
  (sSeq (sIf (EV.tB (e2 pEq (eV 9) (eC (.int 1))))
  (sSeq (sAs (e2 pIx (eA mkL (aCons (eC (.int 7)) (aCons (eC (.int 97)) (aCons (eC (.int 1009)) (aCons (eC (.int 999983)) aNil))))) (eA bF (aCons (eV 2) (aCons (eC (.int 4)) aNil)))) (gN 3))
  (sSeq (sAs (eA iK (aCons (eV 2) (aCons (eV 3) (aCons (eA cLen (aCons (eV 6) aNil)) aNil)))) (gN 6))
  (sAs (eA lV (aCons (eV 2) (aCons (eV 3) (aCons (eV 4) aNil)))) (gN 8))))
  sNil)
  (sIf (EV.tNot (tV (eA lR (aCons (eV 3) (aCons (eV 8) (aCons (eV 7) (aCons (eA iK (aCons (eV 2) (aCons (eV 3) (aCons (eV 4) aNil)))) (aCons (eV 6) aNil))))))))
  (sRt (eC (.bl false)))
  sNil)))))))))
  (sRt (eC (.bl true))))
def tS:Fn:=fnD 1 10 b_37
set_option genInjectivity false in
set_option genSizeOf false in
structure Adr where
 a_0:Addr
 d_0:FuncData
 a_1:Addr
 d_1:FuncData
 a_2:Addr
 d_2:FuncData
 a_3:Addr
 d_3:FuncData
 a_4:Addr
 d_4:FuncData
 a_5:Addr
 d_5:FuncData
 a_6:Addr
 d_6:FuncData
 a_7:Addr
 d_7:FuncData
 a_8:Addr
 d_8:FuncData
 a_9:Addr
 d_9:FuncData
 a_a:Addr
 d_a:FuncData
 a_b:Addr
 d_b:FuncData
 a_c:Addr
 d_c:FuncData
 a_d:Addr
 d_d:FuncData
 a_e:Addr
 d_e:FuncData
 t_program_of:Tok
 a_f:Addr
 d_f:FuncData
 a_10:Addr
 d_10:FuncData
 a_11:Addr
 d_11:FuncData
 a_12:Addr
 d_12:FuncData
 a_13:Addr
 d_13:FuncData
 a_14:Addr
 d_14:FuncData
 a_15:Addr
 d_15:FuncData
 a_16:Addr
 d_16:FuncData
 a_17:Addr
 d_17:FuncData
 a_18:Addr
 d_18:FuncData
 a_19:Addr
 d_19:FuncData
 a_1a:Addr
 d_1a:FuncData
 a_1b:Addr
 d_1b:FuncData
 a_1c:Addr
 d_1c:FuncData
 a_1d:Addr
 d_1d:FuncData
 a_1e:Addr
 d_1e:FuncData
 a_1f:Addr
 d_1f:FuncData
 a_20:Addr
 d_20:FuncData
 a_21:Addr
 d_21:FuncData
 a_22:Addr
 d_22:FuncData
 a_23:Addr
 d_23:FuncData
 a_24:Addr
 d_24:FuncData
 a_25:Addr
 d_25:FuncData
 a_26:Addr
 d_26:FuncData
 a_27:Addr
 d_27:FuncData
 a_28:Addr
 d_28:FuncData
 a_29:Addr
 d_29:FuncData
 a_2a:Addr
 d_2a:FuncData
 a_2b:Addr
 d_2b:FuncData
 a_2c:Addr
 d_2c:FuncData
 a_2d:Addr
 d_2d:FuncData
 a_2e:Addr
 d_2e:FuncData
 a_2f:Addr
 d_2f:FuncData
 a_30:Addr
 d_30:FuncData
 a_31:Addr
 d_31:FuncData
 a_32:Addr
 d_32:FuncData
 a_33:Addr
 d_33:FuncData
 a_34:Addr
 d_34:FuncData
 a_35:Addr
 d_35:FuncData
 a_36:Addr
 d_36:FuncData
 a_37:Addr
 d_37:FuncData
 t_FIGURES:Tok
 t_GREATEST_N:Tok
 t_LAST_GIVEN:Tok
 t_MOST_BRACKETS:Tok
 t_MOST_FACTORS:Tok
 t_MOST_FIGURES_exprtexts:Tok
 t_MOST_FIGURES_progtexts:Tok
 t_MOST_GIVENS:Tok
 t_MOST_SHELVES:Tok
 t_SIGNS:Addr
 t_WORDS:Addr
structure Tx(K:Frag)(mg:Str->Option Value)(a:Adr):Prop where
 f_0:Fun K "is_single" "is_single" dH a.a_0 a.d_0
 b_0:Binds K a.d_0 aHF []
 k_0:keepIn K (.ref a.a_0)=true
 m_0:mg "is_single"=some (.ref a.a_0)
 f_1:Fun K "inverse" "inverse" fD a.a_1 a.d_1
 b_1:Binds K a.d_1 ["n","k"] []
 k_1:keepIn K (.ref a.a_1)=true
 m_1:mg "inverse"=some (.ref a.a_1)
 f_2:Fun K "is_deed" "is_deed" fF a.a_2 a.d_2
 b_2:Binds K a.d_2 aHG []
 k_2:keepIn K (.ref a.a_2)=true
 m_2:mg "is_deed"=some (.ref a.a_2)
 f_3:Fun K "are_factors" "are_factors" bW a.a_3 a.d_3
 b_3:Binds K a.d_3 aHH []
 k_3:keepIn K (.ref a.a_3)=true
 m_3:mg "are_factors"=some (.ref a.a_3)
 f_4:Fun K "deeds_back" "deeds_back" cE a.a_4 a.d_4
 b_4:Binds K a.d_4 aHI []
 k_4:keepIn K (.ref a.a_4)=true
 m_4:mg "deeds_back"=some (.ref a.a_4)
 f_5:Fun K "deed_back" "deed_back" dO a.a_5 a.d_5
 b_5:Binds K a.d_5 aHJ []
 k_5:keepIn K (.ref a.a_5)=true
 m_5:mg "deed_back"=some (.ref a.a_5)
 f_6:Fun K "renamed" "renamed" eS a.a_6 a.d_6
 b_6:Binds K a.d_6 aHK []
 k_6:keepIn K (.ref a.a_6)=true
 m_6:mg "renamed"=some (.ref a.a_6)
 f_7:Fun K "deed_renamed" "deed_renamed" bQ a.a_7 a.d_7
 b_7:Binds K a.d_7 aHL []
 k_7:keepIn K (.ref a.a_7)=true
 m_7:mg "deed_renamed"=some (.ref a.a_7)
 f_8:Fun K "bring_by" "bring_by" eI a.a_8 a.d_8
 b_8:Binds K a.d_8 aHM []
 k_8:keepIn K (.ref a.a_8)=true
 m_8:mg "bring_by"=some (.ref a.a_8)
 f_9:Fun K "bring_alone" "bring_alone" bZ a.a_9 a.d_9
 b_9:Binds K a.d_9 aHM []
 k_9:keepIn K (.ref a.a_9)=true
 m_9:mg "bring_alone"=some (.ref a.a_9)
 f_a:Fun K "single_deed" "single_deed" bX a.a_a a.d_a
 b_a:Binds K a.d_a aHN []
 k_a:keepIn K (.ref a.a_a)=true
 m_a:mg "single_deed"=some (.ref a.a_a)
 f_b:Fun K "both" "both" lH a.a_b a.d_b
 b_b:Binds K a.d_b aHO []
 k_b:keepIn K (.ref a.a_b)=true
 m_b:mg "both"=some (.ref a.a_b)
 f_c:Fun K "there_and_back" "there_and_back" bL a.a_c a.d_c
 b_c:Binds K a.d_c aHP []
 k_c:keepIn K (.ref a.a_c)=true
 m_c:mg "there_and_back"=some (.ref a.a_c)
 f_d:Fun K "how_many" "how_many" eG a.a_d a.d_d
 b_d:Binds K a.d_d aHF []
 k_d:keepIn K (.ref a.a_d)=true
 m_d:mg "how_many"=some (.ref a.a_d)
 f_e:FunD K "program_of" "program_of" cB a.a_e a.d_e (.int 5000 a.t_program_of)
 b_e:Binds K a.d_e aHQ []
 bd_program_of:Binds K a.d_e aHQ [.int 5000 a.t_program_of]
 k_e:keepIn K (.ref a.a_e)=true
 m_e:mg "program_of"=some (.ref a.a_e)
 f_f:Fun K "shown" "shown" iT a.a_f a.d_f
 b_f:Binds K a.d_f aHR []
 k_f:keepIn K (.ref a.a_f)=true
 m_f:mg "shown"=some (.ref a.a_f)
 f_10:Fun K "along" "along" iR a.a_10 a.d_10
 b_10:Binds K a.d_10 aHS []
 k_10:keepIn K (.ref a.a_10)=true
 m_10:mg "along"=some (.ref a.a_10)
 f_11:Fun K "along_one" "along_one" dG a.a_11 a.d_11
 b_11:Binds K a.d_11 aHT []
 k_11:keepIn K (.ref a.a_11)=true
 m_11:mg "along_one"=some (.ref a.a_11)
 f_12:Fun K "along_times" "along_times" cA a.a_12 a.d_12
 b_12:Binds K a.d_12 aHS []
 k_12:keepIn K (.ref a.a_12)=true
 m_12:mg "along_times"=some (.ref a.a_12)
 f_13:Fun K "just_these" "just_these" cM a.a_13 a.d_13
 b_13:Binds K a.d_13 aHU []
 k_13:keepIn K (.ref a.a_13)=true
 m_13:mg "just_these"=some (.ref a.a_13)
 f_14:Fun K "figures_end" "figures_end" bY a.a_14 a.d_14
 b_14:Binds K a.d_14 aHV []
 k_14:keepIn K (.ref a.a_14)=true
 m_14:mg "figures_end"=some (.ref a.a_14)
 f_15:Fun K "number_of" "number_of" dN a.a_15 a.d_15
 b_15:Binds K a.d_15 aHW []
 k_15:keepIn K (.ref a.a_15)=true
 m_15:mg "number_of"=some (.ref a.a_15)
 f_16:Fun K "show_expr" "show_expr" dL a.a_16 a.d_16
 b_16:Binds K a.d_16 aHF []
 k_16:keepIn K (.ref a.a_16)=true
 m_16:mg "show_expr"=some (.ref a.a_16)
 f_17:Fun K "read_expr" "read_expr" dI a.a_17 a.d_17
 b_17:Binds K a.d_17 aHX []
 k_17:keepIn K (.ref a.a_17)=true
 m_17:mg "read_expr"=some (.ref a.a_17)
 f_18:Fun K "read_part" "read_part" dJ a.a_18 a.d_18
 b_18:Binds K a.d_18 aHY []
 k_18:keepIn K (.ref a.a_18)=true
 m_18:mg "read_part"=some (.ref a.a_18)
 f_19:Fun K "read_pair" "read_pair" dP a.a_19 a.d_19
 b_19:Binds K a.d_19 aHY []
 k_19:keepIn K (.ref a.a_19)=true
 m_19:mg "read_pair"=some (.ref a.a_19)
 f_1a:Fun K "read_given" "read_given" cL a.a_1a a.d_1a
 b_1a:Binds K a.d_1a aHV []
 k_1a:keepIn K (.ref a.a_1a)=true
 m_1a:mg "read_given"=some (.ref a.a_1a)
 f_1b:Fun K "read_num" "read_num" eK a.a_1b a.d_1b
 b_1b:Binds K a.d_1b aHV []
 k_1b:keepIn K (.ref a.a_1b)=true
 m_1b:mg "read_num"=some (.ref a.a_1b)
 f_1c:Fun K "paper_of" "paper_of" eF a.a_1c a.d_1c
 b_1c:Binds K a.d_1c aHF []
 k_1c:keepIn K (.ref a.a_1c)=true
 m_1c:mg "paper_of"=some (.ref a.a_1c)
 f_1d:Fun K "show" "show" kF a.a_1d a.d_1d
 b_1d:Binds K a.d_1d ["program"] []
 k_1d:keepIn K (.ref a.a_1d)=true
 m_1d:mg "show"=some (.ref a.a_1d)
 f_1e:Fun K "show_deed" "show_deed" cH a.a_1e a.d_1e
 b_1e:Binds K a.d_1e ["deed"] []
 k_1e:keepIn K (.ref a.a_1e)=true
 m_1e:mg "show_deed"=some (.ref a.a_1e)
 f_1f:Fun K "read" "read" lD a.a_1f a.d_1f
 b_1f:Binds K a.d_1f aHX []
 k_1f:keepIn K (.ref a.a_1f)=true
 m_1f:mg "read"=some (.ref a.a_1f)
 f_20:Fun K "read_head" "read_head" cR a.a_20 a.d_20
 b_20:Binds K a.d_20 ["row"] []
 k_20:keepIn K (.ref a.a_20)=true
 m_20:mg "read_head"=some (.ref a.a_20)
 f_21:Fun K "read_deed" "read_deed" dQ a.a_21 a.d_21
 b_21:Binds K a.d_21 ["row"] []
 k_21:keepIn K (.ref a.a_21)=true
 m_21:mg "read_deed"=some (.ref a.a_21)
 f_22:Fun K "read_add" "read_add" cV a.a_22 a.d_22
 b_22:Binds K a.d_22 aHZ []
 k_22:keepIn K (.ref a.a_22)=true
 m_22:mg "read_add"=some (.ref a.a_22)
 f_23:Fun K "number_behind" "number_behind" bR a.a_23 a.d_23
 b_23:Binds K a.d_23 aIA []
 k_23:keepIn K (.ref a.a_23)=true
 m_23:mg "number_behind"=some (.ref a.a_23)
 f_24:Fun K "run" "run" oT a.a_24 a.d_24
 b_24:Binds K a.d_24 aIB []
 k_24:keepIn K (.ref a.a_24)=true
 m_24:mg "run"=some (.ref a.a_24)
 f_25:Fun K "done" "done" kZ a.a_25 a.d_25
 b_25:Binds K a.d_25 aIC []
 k_25:keepIn K (.ref a.a_25)=true
 m_25:mg "done"=some (.ref a.a_25)
 f_26:Fun K "product_of" "product_of" cO a.a_26 a.d_26
 b_26:Binds K a.d_26 aID []
 k_26:keepIn K (.ref a.a_26)=true
 m_26:mg "product_of"=some (.ref a.a_26)
 f_27:Fun K "said" "said" kM a.a_27 a.d_27
 b_27:Binds K a.d_27 aIE []
 k_27:keepIn K (.ref a.a_27)=true
 m_27:mg "said"=some (.ref a.a_27)
 f_28:Fun K "said_least" "said_least" cC a.a_28 a.d_28
 b_28:Binds K a.d_28 aIF []
 k_28:keepIn K (.ref a.a_28)=true
 m_28:mg "said_least"=some (.ref a.a_28)
 f_29:Fun K "step_numbers" "step_numbers" bO a.a_29 a.d_29
 b_29:Binds K a.d_29 ["n","row"] []
 k_29:keepIn K (.ref a.a_29)=true
 m_29:mg "step_numbers"=some (.ref a.a_29)
 f_2a:Fun K "inverse_of" "inverse_of" cK a.a_2a a.d_2a
 b_2a:Binds K a.d_2a aIG []
 k_2a:keepIn K (.ref a.a_2a)=true
 m_2a:mg "inverse_of"=some (.ref a.a_2a)
 f_2b:Fun K "_law_box" "_law_box" iS a.a_2b a.d_2b
 b_2b:Binds K a.d_2b aIH []
 k_2b:keepIn K (.ref a.a_2b)=true
 m_2b:mg "_law_box"=some (.ref a.a_2b)
 f_2c:Fun K "_law_take" "_law_take" fX a.a_2c a.d_2c
 b_2c:Binds K a.d_2c aII []
 k_2c:keepIn K (.ref a.a_2c)=true
 m_2c:mg "_law_take"=some (.ref a.a_2c)
 f_2d:Fun K "_law_n" "_law_n" oQ a.a_2d a.d_2d
 b_2d:Binds K a.d_2d aIJ []
 k_2d:keepIn K (.ref a.a_2d)=true
 m_2d:mg "_law_n"=some (.ref a.a_2d)
 f_2e:Fun K "_law_rest" "_law_rest" gD a.a_2e a.d_2e
 b_2e:Binds K a.d_2e aIK []
 k_2e:keepIn K (.ref a.a_2e)=true
 m_2e:mg "_law_rest"=some (.ref a.a_2e)
 f_2f:Fun K "_law_rests" "_law_rests" eQ a.a_2f a.d_2f
 b_2f:Binds K a.d_2f aIL []
 k_2f:keepIn K (.ref a.a_2f)=true
 m_2f:mg "_law_rests"=some (.ref a.a_2f)
 f_30:Fun K "_law_expr" "_law_expr" gE a.a_30 a.d_30
 b_30:Binds K a.d_30 aIM []
 k_30:keepIn K (.ref a.a_30)=true
 m_30:mg "_law_expr"=some (.ref a.a_30)
 f_31:Fun K "_law_worth" "_law_worth" fE a.a_31 a.d_31
 b_31:Binds K a.d_31 aIN []
 k_31:keepIn K (.ref a.a_31)=true
 m_31:mg "_law_worth"=some (.ref a.a_31)
 f_32:Fun K "_law_text" "_law_text" gF a.a_32 a.d_32
 b_32:Binds K a.d_32 aIO []
 k_32:keepIn K (.ref a.a_32)=true
 m_32:mg "_law_text"=some (.ref a.a_32)
 f_33:Fun K "_law_as_rests" "_law_as_rests" cJ a.a_33 a.d_33
 b_33:Binds K a.d_33 aIP []
 k_33:keepIn K (.ref a.a_33)=true
 m_33:mg "_law_as_rests"=some (.ref a.a_33)
 f_34:Fun K "_law_right" "_law_right" fK a.a_34 a.d_34
 b_34:Binds K a.d_34 aIQ []
 k_34:keepIn K (.ref a.a_34)=true
 m_34:mg "_law_right"=some (.ref a.a_34)
 f_35:Fun K "_law_great" "_law_great" fJ a.a_35 a.d_35
 b_35:Binds K a.d_35 aIR []
 k_35:keepIn K (.ref a.a_35)=true
 m_35:mg "_law_great"=some (.ref a.a_35)
 f_36:Fun K "_law_least" "_law_least" eO a.a_36 a.d_36
 b_36:Binds K a.d_36 aIS []
 k_36:keepIn K (.ref a.a_36)=true
 m_36:mg "_law_least"=some (.ref a.a_36)
 f_37:Fun K "law" "law" mW a.a_37 a.d_37
 b_37:Binds K a.d_37 aIT []
 k_37:keepIn K (.ref a.a_37)=true
 m_37:mg "law"=some (.ref a.a_37)
 v_FIGURES:mg "FIGURES"=some (.str "0123456789" a.t_FIGURES)
 v_GREATEST_N:mg "GREATEST_N"=some (.int 1000000 a.t_GREATEST_N)
 v_LAST_GIVEN:mg "LAST_GIVEN"=some (.int 7 a.t_LAST_GIVEN)
 v_MOST_BRACKETS:mg "MOST_BRACKETS"=some (.int 20 a.t_MOST_BRACKETS)
 v_MOST_FACTORS:mg "MOST_FACTORS"=some (.int 4 a.t_MOST_FACTORS)
 v_MOST_FIGURES_exprtexts:mg "MOST_FIGURES_exprtexts"=some (.int 6 a.t_MOST_FIGURES_exprtexts)
 v_MOST_FIGURES_progtexts:mg "MOST_FIGURES_progtexts"=some (.int 7 a.t_MOST_FIGURES_progtexts)
 v_MOST_GIVENS:mg "MOST_GIVENS"=some (.int 8 a.t_MOST_GIVENS)
 v_MOST_SHELVES:mg "MOST_SHELVES"=some (.int 9 a.t_MOST_SHELVES)
 v_SIGNS:mg "SIGNS"=some (.ref a.t_SIGNS)
 w_SIGNS:TabK K a.t_SIGNS [("sum"," + "),("less"," - "),("times"," * ")]
 v_WORDS:mg "WORDS"=some (.ref a.t_WORDS)
 w_WORDS:TabK K a.t_WORDS [(" + ","sum"),(" - ","less"),(" * ","times")]
 z_enumerate:mg "enumerate"=none
 z_int:mg "int"=none
 z_len:mg "len"=none
 z_list:mg "list"=none
 z_max:mg "max"=none
 z_min:mg "min"=none
 z_range:mg "range"=none
 z_reversed:mg "reversed"=none
 z_sorted:mg "sorted"=none
 z_str:mg "str"=none
 z_tuple:mg "tuple"=none
 z_zip:mg "zip"=none
theorem yC:FnScope aHF aHF (defScope dH):=by constructor<;>first|rfl|decide +kernel
theorem gI:FnScope ["n","k","high","low","past","now","times"] ["n","k"] (defScope fD):=by constructor<;>first|rfl|decide +kernel
theorem oW:FnScope ["n","givens","shelves","deed","shelf","number","gs","ts"] aHG (defScope fF):=by constructor<;>first|rfl|decide +kernel
theorem gU:FnScope ["numbers","many","least","number"] aHH (defScope bW):=by constructor<;>first|rfl|decide +kernel
theorem vR:FnScope aHI aHI (defScope cE):=by constructor<;>first|rfl|decide +kernel
theorem zD:FnScope aHJ aHJ (defScope dO):=by constructor<;>first|rfl|decide +kernel
theorem pE:FnScope aIU aHK (defScope eS):=by constructor<;>first|rfl|decide +kernel
theorem jF:FnScope ["deed","places","shelf","ts"] aHL (defScope bQ):=by constructor<;>first|rfl|decide +kernel
theorem aAu:FnScope aHM aHM (defScope eI):=by constructor<;>first|rfl|decide +kernel
theorem uA:FnScope aHM aHM (defScope bZ):=by constructor<;>first|rfl|decide +kernel
theorem uY:FnScope aHN aHN (defScope bX):=by constructor<;>first|rfl|decide +kernel
theorem aNw:FnScope aHO aHO (defScope lH):=by constructor<;>first|rfl|decide +kernel
theorem qP:FnScope aHP aHP (defScope bL):=by constructor<;>first|rfl|decide +kernel
theorem sF:FnScope ["expr","many"] aHF (defScope eG):=by constructor<;>first|rfl|decide +kernel
theorem wH:FnScope aHQ aHQ (defScope cB):=by constructor<;>first|rfl|decide +kernel
theorem pN:FnScope ["program","paper","S","B","C","by","n","deeds","expr","end"] aHR (defScope iT):=by constructor<;>first|rfl|decide +kernel
theorem fW:FnScope ["n","deeds","at","paper","shelves","by","back","word","other","one"] aHS (defScope iR):=by constructor<;>first|rfl|decide +kernel
theorem jO:FnScope ["n","deeds","at","shelves","by","back","ts","deed","number"] aHT (defScope dG):=by constructor<;>first|rfl|decide +kernel
theorem bG:FnScope ["n","deeds","at","paper","shelves","by","back","S","B","C","one","middle","other","end","undone"] aHS (defScope cA):=by constructor<;>first|rfl|decide +kernel
theorem lG:FnScope ["deeds","at","asked","deed"] aHU (defScope cM):=by constructor<;>first|rfl|decide +kernel
theorem kH:FnScope ["text","at","end"] aHV (defScope bY):=by constructor<;>first|rfl|decide +kernel
theorem yT:FnScope aHW aHW (defScope dN):=by constructor<;>first|rfl|decide +kernel
theorem zT:FnScope aHF aHF (defScope dL):=by constructor<;>first|rfl|decide +kernel
theorem mC:FnScope ["text","expr","end"] aHX (defScope dI):=by constructor<;>first|rfl|decide +kernel
theorem pH:FnScope ["text","at","brackets","sign"] aHY (defScope dJ):=by constructor<;>first|rfl|decide +kernel
theorem fV:FnScope ["text","at","brackets","one","word","other"] aHY (defScope dP):=by constructor<;>first|rfl|decide +kernel
theorem lI:FnScope ["text","at","end","number"] aHV (defScope cL):=by constructor<;>first|rfl|decide +kernel
theorem nO:FnScope ["text","at","end","number"] aHV (defScope eK):=by constructor<;>first|rfl|decide +kernel
theorem aCb:FnScope aHF aHF (defScope eF):=by constructor<;>first|rfl|decide +kernel
theorem mF:FnScope aIV ["program"] (defScope kF):=by constructor<;>first|rfl|decide +kernel
theorem jM:FnScope ["deed","words"] ["deed"] (defScope cH):=by constructor<;>first|rfl|decide +kernel
theorem iV:FnScope ["text","rows","head","n","givens","shelves","deeds","at","row","deed"] aHX (defScope lD):=by constructor<;>first|rfl|decide +kernel
theorem dE:FnScope aIW ["row"] (defScope cR):=by constructor<;>first|rfl|decide +kernel
theorem jP:FnScope ["row","words","shelf","number"] ["row"] (defScope dQ):=by constructor<;>first|rfl|decide +kernel
theorem iW:FnScope aIX aHZ (defScope cV):=by constructor<;>first|rfl|decide +kernel
theorem rT:FnScope aIA aIA (defScope bR):=by constructor<;>first|rfl|decide +kernel
theorem aDu:FnScope ["program","givens","contents","deed"] aIB (defScope oT):=by constructor<;>first|rfl|decide +kernel
theorem pW:FnScope ["n","deed","givens","contents","shelf","number","lies"] aIC (defScope kZ):=by constructor<;>first|rfl|decide +kernel
theorem iQ:FnScope ["places","numbers","told","place"] aID (defScope cO):=by constructor<;>first|rfl|decide +kernel
theorem sU:FnScope aIY aIE (defScope kM):=by constructor<;>first|rfl|decide +kernel
theorem cN:FnScope aIZ aIF (defScope cC):=by constructor<;>first|rfl|decide +kernel
theorem dA:FnScope aJA ["n","row"] (defScope bO):=by constructor<;>first|rfl|decide +kernel
theorem oR:FnScope ["n","number","told"] aIG (defScope cK):=by constructor<;>first|rfl|decide +kernel
theorem nB:FnScope ["_law_script","_law_k","_law_cell","_law_seed"] aIH (defScope iS):=by constructor<;>first|rfl|decide +kernel
theorem rX:FnScope ["_law_box_here","_law_many","_law_digit","_law_one"] aII (defScope fX):=by constructor<;>first|rfl|decide +kernel
theorem yL:FnScope ["_law_box_here","_law_form","_law_some","_law_number"] aIJ (defScope oQ):=by constructor<;>first|rfl|decide +kernel
theorem xO:FnScope ["_law_box_here","_law_n_here","_law_form"] aIK (defScope gD):=by constructor<;>first|rfl|decide +kernel
theorem aDn:FnScope aIL aIL (defScope eQ):=by constructor<;>first|rfl|decide +kernel
theorem jR:FnScope ["_law_box_here","_law_givens","_law_room","_law_deep","_law_form","_law_number","_law_one","_law_word","_law_first"] aIM (defScope gE):=by constructor<;>first|rfl|decide +kernel
theorem uW:FnScope ["_law_n_here","_law_expr_here","_law_given","_law_one","_law_other"] aIN (defScope fE):=by constructor<;>first|rfl|decide +kernel
theorem wZ:FnScope ["_law_expr_here","_law_sign"] aIO (defScope gF):=by constructor<;>first|rfl|decide +kernel
theorem vY:FnScope aIP aIP (defScope cJ):=by constructor<;>first|rfl|decide +kernel
theorem fS:FnScope ["_law_n_here","_law_expr_here","_law_places","_law_given","_law_contents","_law_program","_law_text_here","_law_again","_law_ks","_law_here","_law_due","_law_told"] aIQ (defScope fK):=by constructor<;>first|rfl|decide +kernel
theorem kE:FnScope ["_law_box_here","_law_givens","_law_expr_here","_law_turn","_law_side"] aIR (defScope fJ):=by constructor<;>first|rfl|decide +kernel
theorem vH:FnScope aJB aIS (defScope eO):=by constructor<;>first|rfl|decide +kernel
theorem kG:FnScope aJC aIT (defScope mW):=by constructor<;>first|rfl|decide +kernel
variable{K:Frag}{a:Adr}
theorem jQ(T:Tx K mg a):FnOk P w K mg base CX0 1 a.a_0 a.d_0 aHF (spF K Z0 1 eT) :=
 bI (k:=0) T.f_0 yC λcdv A outer s H E hr=>show Ess _ K Z0 (defBody dH) b_0 from
  (aH (aK (mD opIn (aJ (aD 0) aF) (aV (aC aM (aC aM (aC aM aG)))) (by with_unfolding_all rfl))))
theorem oU(T:Tx K mg a):FnOk P w K mg base CX0 1 a.a_1 a.d_1 ["n","k"] (spF K Z0 2 gK) :=
 bI (k:=0) T.f_1 gI λcdv A outer s H E hr=>show Ess _ K Z0 (defBody fD) b_1 from
  (aE (lE (i:=2) (j:=3) rfl gI.nd (aC (aD 0) (aC (aS opMod (aD 1) (aD 0)) aG)))
  (aE (eN (aV (aC aF (aC aF aG))) (eY rfl (aW (aP (i:=4) gI.nd) (aW (aP (i:=5) gI.nd) cS))))
  (aE (uO NW aBZ (aO opGt (aD 3) aF (nomark _))
  (aE (aR (i:=6) gI.nd (aS opDiv (aD 2) (aD 3)))
  (aE (lE (i:=2) (j:=3) rfl gI.nd (aC (aD 3) (aC (aS opSub (aD 2) (aS opMulA (aD 6) (aD 3))) aG)))
  (aH (lE (i:=4) (j:=5) rfl gI.nd (aC (aD 5) (aC (aS opSub (aD 4) (aS opMulA (aD 6) (aD 5))) aG)))))))
  (aE (aY (aO (opNe (aT hr)) (aD 2) aF (nomark _))
  (aH (aK dD))
  aN)
  (aH (aK (aS opMod (aD 4) (aD 0))))))))
theorem mX(T:Tx K mg a):FnOk P w K mg base CX0 1 a.a_3 a.d_3 aHH (spF K Z0 2 fG) :=
 bI (k:=0) T.f_3 gU λcdv A outer s H E hr=>show Ess _ K Z0 (defBody bW) b_3 from
  (aE (aY (aO opGt (bB callLen rfl T.z_len aAW (aC (aD 0) aG)) (oJ T.v_MOST_FACTORS) (nomark _))
  (aH (aK iC))
  aN)
  (aE (aR (i:=2) gU.nd aF)
  (aE (lF aBZ rfl (pX (aD 0)) (aP (i:=3) gU.nd)
  (aE (aY (mJ (jI (aO opLt (aD 3) (aD 2) (nomark _)) (iO (aO opGe (aD 3) (aD 1) (nomark _)))))
  (aH (aK iC))
  aN)
  (aH (aR (i:=2) gU.nd (aD 3)))))
  (aH (aK iC)))))
theorem aEq(T:Tx K mg a):FnOk P w K mg base CX0 2 a.a_2 a.d_2 aHG (spF K Z0 4 lP) :=
 bI (k:=1) T.f_2 oW λcdv A outer s H E hr=>show Ess _ K Z0 (defBody fF) b_2 from
  (aE (lE (i:=4) (j:=5) rfl oW.nd (aC (aJ (aD 3) aF) (aC (aJ (aD 3) aF) aG)))
  (aE (aY (mJ (jI (pF (qN opLe opLt aF (aD 4) (aD 2))) (iO (pF (qN opLe opLt aF (aD 5) (aD 0))))))
  (aH (aK iC))
  aN)
  (aE (aY (aO (opEq (aT hr)) (aJ (aD 3) aF) aM (nomark _))
  (aH (aK (mD opIsNot (aI ((oU T).mono (by lia)) hr T.m_1 T.k_1 T.b_1 (aC (aD 0) (aC (aD 5) aG)) (hlen:=λ_ _ h=>nI h)) dD (nomark _))))
  aN)
  (aE (lE (i:=6) (j:=7) rfl oW.nd (aC (aJ (aD 3) aF) (aC (aJ (aD 3) aF) aG)))
  (aH (aK (aDp (aI ((mX T).mono (by lia)) hr T.m_3 T.k_3 T.b_3 (aC (aD 6) (aC (aD 1) aG)) (hlen:=λ_ _ h=>mO h)) (aDp (aI ((mX T).mono (by lia)) hr T.m_3 T.k_3 T.b_3 (aC (aD 7) (aC (aD 2) aG)) (hlen:=λ_ _ h=>mO h)) (aKl (mD opNotIn (aD 4) (aD 7) (by with_unfolding_all rfl)))))))))))
theorem zF(T:Tx K mg a):FnOk P w K mg base CX0 2 a.a_5 a.d_5 aHJ (spF K Z0 2 eU) :=
 bI (k:=1) T.f_5 zD λcdv A outer s H E hr=>show Ess _ K Z0 (defBody dO) b_5 from
  (aE (aY (aO (opEq (aT hr)) (aJ (aD 1) aF) aM (nomark _))
  (aH (aK (aV (aC aM (aC (aJ (aD 1) aF) (aC (aI ((oU T).mono (by lia)) hr T.m_1 T.k_1 T.b_1 (aC (aD 0) (aC (aJ (aD 1) aF) aG)) (hlen:=λ_ _ h=>nI h)) aG))))))
  aN)
  (aH (aK (aV (aC aM (aC (aJ (aD 1) aF) (aC (aS opMod (aLh (aJ (aD 1) aF)) (aD 0)) (aC (aJ (aD 1) aF) (aC (aJ (aD 1) aF) aG)))))))))
theorem gC(T:Tx K mg a):FnOk P w K mg base CX0 3 a.a_4 a.d_4 aHI (spF K Z0 2 cD) :=
 bI (k:=2) T.f_4 vR λcdv A outer s H E hr=>show Ess _ K Z0 (defBody cE) b_4 from
  (aH (aK (dW callTup rfl T.z_tuple hX (aC (gX rfl (CompOk.of (N0:=aHI) (sc0:=defScope cE) (Nc:=["deed","n"]) (js:=[none,some 0]) (by decide +kernel)) (aSn T.z_reversed (aD 1)) (λ_ _ _ _ _ _=>(aP (i:=0) (show(["deed","n"]:List Str).Nodup by decide +kernel))) (λ_ _ _ _ _ _=>eW) (λ_ _ _ _ _ _=>(aI ((zF T).mono (by lia)) hr T.m_5 T.k_5 T.b_5 (aC (aD 1) (aC (aD 0) aG)) (hlen:=λ_ _ h=>vZ h)))) aG))))
theorem sO(T:Tx K mg a):FnOk P w K mg base CX0 1 a.a_7 a.d_7 aHL (spF K Z0 2 fR) :=
 bI (k:=0) T.f_7 jF λcdv A outer s H E hr=>show Ess _ K Z0 (defBody bQ) b_7 from
  (aE (aR (i:=2) jF.nd (aJ (aD 1) (aJ (aD 0) aF)))
  (aE (aY (aO (opEq (aT hr)) (aJ (aD 0) aF) aM (nomark _))
  (aH (aK (aV (aC aM (aC (aD 2) (aC (aJ (aD 0) aF) aG))))))
  aN)
  (aE (aR (i:=3) jF.nd (dW callTup rfl T.z_tuple hX (aC (bB (callSorted rfl) rfl T.z_sorted aHn (aC (gX rfl (CompOk.of (N0:=["deed","places","shelf","ts"]) (sc0:=defScope bQ) (Nc:=["other","places"]) (js:=[none,some 1]) (by decide +kernel)) (pX (aJ (aD 0) aF)) (λ_ _ _ _ _ _=>(aP (i:=0) (show(["other","places"]:List Str).Nodup by decide +kernel))) (λ_ _ _ _ _ _=>eW) (λ_ _ _ _ _ _=>(aJ (aD 1) (aD 0)))) aG)) aG)))
  (aH (aK (aV (aC aM (aC (aD 2) (aC (aJ (aD 0) aF) (aC (aJ (aD 0) aF) (aC (aD 3) aG)))))))))))
theorem aEe(T:Tx K mg a):FnOk P w K mg base CX0 2 a.a_6 a.d_6 aHK (spF K Z0 2 lM) :=
 bI (k:=1) T.f_6 pE λcdv A outer s H E hr=>show Ess _ K Z0 (defBody eS) b_6 from
  (aE (lE (i:=2) (j:=3) rfl pE.nd (aC (aJ (aD 0) aF) (aC (aJ (aD 0) aF) aG)))
  (aE (aR (i:=4) pE.nd (dW callTup rfl T.z_tuple hX (aC (gX rfl (CompOk.of (N0:=aIU) (sc0:=defScope eS) (Nc:=aHL) (js:=[none,some 1]) (by decide +kernel)) (pX (aJ (aD 0) aF)) (λ_ _ _ _ _ _=>(aP (i:=0) (show(aHL:List Str).Nodup by decide +kernel))) (λ_ _ _ _ _ _=>eW) (λ_ _ _ _ _ _=>(aI ((sO T).mono (by lia)) hr T.m_7 T.k_7 T.b_7 (aC (aD 0) (aC (aD 1) aG)) (hlen:=λ_ _ h=>rN h)))) aG)))
  (aH (aK (aV (aC (aD 2) (aC (aD 3) (aC (aS opAdd (bB (callMaxL rfl) rfl T.z_max aCu (aC (aD 1) aG)) aF) (aC (aD 4) aG)))))))))
theorem aFy(T:Tx K mg a):FnOk P w K mg base CX0 4 a.a_b a.d_b aHO (spF K Z0 4 nE) :=
 bI (k:=3) T.f_b aNw λcdv A outer s H E hr=>show Ess _ K Z0 (defBody lH) b_b from
  (aE (aY (aO (opEq (aT hr)) (aD 1) aM (nomark _))
  (aH (aK (aS opAdd (aD 2) (aI ((gC T).mono (by lia)) hr T.m_4 T.k_4 T.b_4 (aC (aD 0) (aC (aD 3) aG)) (hlen:=λ_ _ h=>fN h)))))
  aN)
  (aH (aK (aS opAdd (aD 2) (aD 3)))))
theorem kU(T:Tx K mg a):FnOk P w K mg base CX0 4 a.a_c a.d_c aHP (spF K Z0 3 dS) :=
 bI (k:=3) T.f_c qP λcdv A outer s H E hr=>show Ess _ K Z0 (defBody bL) b_c from
  (aH (aK (aS opAdd (aS opAdd (aS opAdd (aD 1) (aD 2)) (aI ((gC T).mono (by lia)) hr T.m_4 T.k_4 T.b_4 (aC (aD 0) (aC (aD 1) aG)) (hlen:=λ_ _ h=>fN h))) (aI ((gC T).mono (by lia)) hr T.m_4 T.k_4 T.b_4 (aC (aD 0) (aC (aD 2) aG)) (hlen:=λ_ _ h=>fN h)))))
theorem nK(T:Tx K mg a):FnOk P w K mg base CX0 1 a.a_a a.d_a aHN (spF K Z0 4 dM) :=
 bI (k:=0) T.f_a uY λcdv A outer s H E hr=>show Ess _ K Z0 (defBody bX) b_a from
  (aE (aY (aO (opEq (aT hr)) (aJ (aD 1) aF) aM (nomark _))
  (aH (aK (aV (aC aM (aC (aD 2) (aC (aS opMod (aJ (aD 1) aF) (aD 0)) (aC (aV aG) (aC (aD 3) aG))))))))
  aN)
  (aH (aK (aV (aC aM (aC (aD 2) (aC aF (aC (aV (aC (aJ (aD 1) aF) aG)) (aC (aD 3) aG)))))))))
theorem mS(T:Tx K mg a):∀d:Nat,FnOk P w K mg base CX0 (d+4) a.a_8 a.d_8 aHM (spF K Z0 5 (cZ (d)))
 |0=>gP rfl
 |d+1=>by
  have ih:=mS T d
  have ih_bring_by:=ih
  rw[show d+1+4=(d+4)+1 by lia]
  exact bI (k:=d+4) T.f_8 aAu λcdv A outer s H E hr=>show Ess _ K Z0 (defBody eI) (b_8 (cZ d))from
  (aE (aY (jE (aI ((jQ T).mono (by lia)) hr T.m_0 T.k_0 T.b_0 (aC (aD 1) aG) (hlen:=λ_ _ h=>iU h)))
  (aH (aK (aV (aC (aI ((nK T).mono (by lia)) hr T.m_a T.k_a T.b_a (aC (aD 0) (aC (aD 1) (aC (aD 2) (aC (aV (aC (aD 3) aG)) aG)))) (hlen:=λ_ _ h=>mV h)) aG))))
  aN)
  (aE (aY (aO (opEq (aT hr)) (aJ (aD 1) aF) aM (nomark _))
  (aH (aK (aI ((kU T).mono (by lia)) hr T.m_c T.k_c T.b_c (aC (aD 0) (aC (aI ih_bring_by hr T.m_8 T.k_8 T.b_8 (aC (aD 0) (aC (aJ (aD 1) aF) (aC (aD 4) (aC (aD 3) (aC (aD 2) aG))))) (hlen:=λ_ _ h=>iB h)) (aC (aI ih_bring_by hr T.m_8 T.k_8 T.b_8 (aC (aD 0) (aC (aJ (aD 1) aF) (aC (aD 2) (aC (aD 4) (aC (aD 3) aG))))) (hlen:=λ_ _ h=>iB h)) aG))) (hlen:=λ_ _ h=>kJ h))))
  aN)
  (aH (aK (aI ((aFy T).mono (by lia)) hr T.m_b T.k_b T.b_b (aC (aD 0) (aC (aJ (aD 1) aF) (aC (aI ih_bring_by hr T.m_8 T.k_8 T.b_8 (aC (aD 0) (aC (aJ (aD 1) aF) (aC (aD 2) (aC (aD 3) (aC (aD 4) aG))))) (hlen:=λ_ _ h=>iB h)) (aC (aI ih_bring_by hr T.m_8 T.k_8 T.b_8 (aC (aD 0) (aC (aJ (aD 1) aF) (aC (aD 2) (aC (aD 3) (aC (aD 4) aG))))) (hlen:=λ_ _ h=>iB h)) aG)))) (hlen:=λ_ _ h=>aAg h))))))
theorem aBr(d:Nat)(T:Tx K mg a):FnOk P w K mg base CX0 (d+4) a.a_8 a.d_8 aHM (spF K Z0 5 (cZ d)):=(mS T d)
theorem kI(T:Tx K mg a):∀d:Nat,FnOk P w K mg base CX0 (d+54) a.a_9 a.d_9 aHM (spF K Z0 5 (bS (d)))
 |0=>gP rfl
 |d+1=>by
  have ih:=kI T d
  have ih_bring_alone:=ih
  rw[show d+1+54=(d+54)+1 by lia]
  exact bI (k:=d+54) T.f_9 uA λcdv A outer s H E hr=>show Ess _ K Z0 (defBody bZ) (b_9 (bS d))from
  (aE (aY (jE (aI ((jQ T).mono (by lia)) hr T.m_0 T.k_0 T.b_0 (aC (aD 1) aG) (hlen:=λ_ _ h=>iU h)))
  (aH (aK (aV (aC (aI ((nK T).mono (by lia)) hr T.m_a T.k_a T.b_a (aC (aD 0) (aC (aD 1) (aC (aD 2) (aC (aV aG) aG)))) (hlen:=λ_ _ h=>mV h)) aG))))
  aN)
  (aE (aY (aO (opEq (aT hr)) (aJ (aD 1) aF) aM (nomark _))
  (aH (aK (aI ((kU T).mono (by lia)) hr T.m_c T.k_c T.b_c (aC (aD 0) (aC (aI ih_bring_alone hr T.m_9 T.k_9 T.b_9 (aC (aD 0) (aC (aJ (aD 1) aF) (aC (aD 4) (aC (aD 3) (aC (aD 2) aG))))) (hlen:=λ_ _ h=>gG h)) (aC (aI ((aBr 50 T).mono (by lia)) hr T.m_8 T.k_8 T.b_8 (aC (aD 0) (aC (aJ (aD 1) aF) (aC (aD 2) (aC (aD 4) (aC (aD 3) aG))))) (hlen:=λ_ _ h=>iB h)) aG))) (hlen:=λ_ _ h=>kJ h))))
  aN)
  (aH (aK (aI ((aFy T).mono (by lia)) hr T.m_b T.k_b T.b_b (aC (aD 0) (aC (aJ (aD 1) aF) (aC (aI ih_bring_alone hr T.m_9 T.k_9 T.b_9 (aC (aD 0) (aC (aJ (aD 1) aF) (aC (aD 2) (aC (aD 3) (aC (aD 4) aG))))) (hlen:=λ_ _ h=>gG h)) (aC (aI ih_bring_alone hr T.m_9 T.k_9 T.b_9 (aC (aD 0) (aC (aJ (aD 1) aF) (aC (aD 2) (aC (aD 3) (aC (aD 4) aG))))) (hlen:=λ_ _ h=>gG h)) aG)))) (hlen:=λ_ _ h=>aAg h))))))
theorem vB(d:Nat)(T:Tx K mg a):FnOk P w K mg base CX0 (d+54) a.a_9 a.d_9 aHM (spF K Z0 5 (bS d)):=(kI T d)
theorem mT(T:Tx K mg a):∀d:Nat,FnOk P w K mg base CX0 (d+1) a.a_d a.d_d aHF (spF K Z0 1 (cY (d)))
 |0=>gP rfl
 |d+1=>by
  have ih:=mT T d
  have ih_how_many:=ih
  rw[show d+1+1=(d+1)+1 by lia]
  exact bI (k:=d+1) T.f_d sF λcdv A outer s H E hr=>show Ess _ K Z0 (defBody eG) (b_d (cY d))from
  (aE (aY (jE (aI ((jQ T).mono (by lia)) hr T.m_0 T.k_0 T.b_0 (aC (aD 0) aG) (hlen:=λ_ _ h=>iU h)))
  (aH (aK aF))
  aN)
  (aE (aR (i:=1) sF.nd (aS opAdd (aI ih_how_many hr T.m_d T.k_d T.b_d (aC (aJ (aD 0) aF) aG) (hlen:=λ_ _ h=>lY h)) (aI ih_how_many hr T.m_d T.k_d T.b_d (aC (aJ (aD 0) aF) aG) (hlen:=λ_ _ h=>lY h))))
  (aE (aY (aO (opEq (aT hr)) (aJ (aD 0) aF) aM (nomark _))
  (aH (aK (aS opMulA aF (aD 1))))
  aN)
  (aH (aK (aD 1))))))
theorem aCi(d:Nat)(T:Tx K mg a):FnOk P w K mg base CX0 (d+1) a.a_d a.d_d aHF (spF K Z0 1 (cY d)):=(mT T d)
theorem vP(T:Tx K mg a):FnOk P w K mg base CX0 105 a.a_e a.d_e aHQ (spF K Z0 4 hV) :=
 aQh (k:=104) T.f_e.g wH λcdv A outer s H E hr=>show Ess _ K Z0 (defBody cB) b_e from
  (aE (aY (aO opGt (aI ((aCi 50 T).mono (by lia)) hr T.m_d T.k_d T.b_d (aC (aD 2) aG) (hlen:=λ_ _ h=>lY h)) (aD 3) (nomark _))
  (aH gJ)
  aN)
  (aH (aK (aV (aC (aD 0) (aC (aD 1) (aC aF (aC (aI ((vB 50 T).mono (by lia)) hr T.m_9 T.k_9 T.b_9 (aC (aD 0) (aC (aD 2) (aC aF (aC aF (aC aF aG))))) (hlen:=λ_ _ h=>gG h)) aG))))))))
theorem zI(T:Tx K mg a):FnOk P w K mg base CX0 1 a.a_11 a.d_11 aHT (spF K Z0 6 iX) :=
 bI (k:=0) T.f_11 jO λcdv A outer s H E hr=>show Ess _ K Z0 (defBody dG) b_11 from
  (aE (aR (i:=6) jO.nd (aLm (jE (aD 4)) (aV (aC (aJ (aD 3) aF) aG)) (aV aG)))
  (aE (aY (aO (opEq (aT hr)) (aD 2) (bB callLen rfl T.z_len aAW (aC (aD 1) aG)) (nomark _))
  (aH gJ)
  aN)
  (aE (aR (i:=7) jO.nd (aJ (aD 1) (aD 2)))
  (aE (aY (mJ (jI (aO (opNe (aT hr)) (aJ (aD 7) aF) aM (nomark _)) (jI (aO (opNe (aT hr)) (aJ (aD 7) aF) (aJ (aD 3) aF) (nomark _)) (iO (aO (opNe (aT hr)) (aJ (aD 7) aF) (aD 6) (nomark _))))))
  (aH gJ)
  aN)
  (aE (aR (i:=8) jO.nd (aLm (jE (aD 5)) (aS opMod (aLh (aJ (aD 7) aF)) (aD 0)) (aJ (aD 7) aF)))
  (aE (aY (aO (opEq (aT hr)) (bB callLen rfl T.z_len aAW (aC (aJ (aD 7) aF) aG)) aF (nomark _))
  (aH (aK (aV (aC (aV (aC aM (aC (aD 8) aG))) (aC (aS opAdd (aD 2) aF) aG)))))
  aN)
  (aE (aY (mJ (jI (aO opGt (bB callLen rfl T.z_len aAW (aC (aJ (aD 7) aF) aG)) aF (nomark _)) (iO (aO (opNe (aT hr)) (aD 8) aF (nomark _)))))
  (aH gJ)
  aN)
  (aH (aK (aV (aC (aV (aC aM (aC (aJ (aJ (aD 7) aF) aF) aG))) (aC (aS opAdd (aD 2) aF) aG))))))))))))
theorem vN(T:Tx K mg a):FnOk P w K mg base CX0 1 a.a_13 a.d_13 aHU (spF K Z0 3 gO) :=
 bI (k:=0) T.f_13 lG λcdv A outer s H E hr=>show Ess _ K Z0 (defBody cM) b_13 from
  (aE (lF aBZ rfl (pX (aD 2)) (aP (i:=3) lG.nd)
  (aE (aY (aO (opNe (aT hr)) (bK (aD 0) (dB (aD 1)) (dB (aS opAdd (aD 1) aF))) (aV (aC (aD 3) aG)) (nomark _))
  (aH gJ)
  aN)
  (aH (yI (i:=1) lG.nd aCm aF))))
  (aH (aK (aD 1))))
theorem qI(T:Tx K mg a):∀d:Nat,FnOk P w K mg base CX0 (d+3) a.a_10 a.d_10 aHS (spF K Z0 7 (fL (d)))/\FnOk P w K mg base CX0 (d+3) a.a_12 a.d_12 aHS (spF K Z0 7 (cP (d)))
 |0=>⟨gP rfl,gP rfl⟩
 |d+1=>by
  have ih:=qI T d
  obtain⟨ih_along,ih_along_times⟩:=ih
  rw[show d+1+3=(d+3)+1 by lia]
  exact⟨bI (k:=d+3) T.f_10 fW λcdv A outer s H E hr=>show Ess _ K Z0 (defBody iR) (b_10 (fL d) (cP d))from
  (aE (aR (i:=7) fW.nd (aJ (aD 3) aF))
  (aE (aY (aO (opEq (aT hr)) (aD 7) aM (nomark _))
  (aH (aK (aI ((zI T).mono (by lia)) hr T.m_11 T.k_11 T.b_11 (aC (aD 0) (aC (aD 1) (aC (aD 2) (aC (aD 4) (aC (aD 5) (aC (aD 6) aG)))))) (hlen:=λ_ _ h=>wD h))))
  aN)
  (aE (aY (aO (opEq (aT hr)) (aD 7) aM (nomark _))
  (aH (aK (aI ih_along_times hr T.m_12 T.k_12 T.b_12 (aC (aD 0) (aC (aD 1) (aC (aD 2) (aC (aD 3) (aC (aD 4) (aC (aD 5) (aC (aD 6) aG))))))) (hlen:=λ_ _ h=>sK h))))
  aN)
  (aE (aY (jE (aD 6))
  (aE (eN (aI ih_along hr T.m_10 T.k_10 T.b_10 (aC (aD 0) (aC (aD 1) (aC (aD 2) (aC (aJ (aD 3) aF) (aC (aD 4) (aC (aD 5) (aC (mD (opEq (aT hr)) (aD 7) aM (nomark _)) aG))))))) (hlen:=λ_ _ h=>fT h)) (eY rfl (aW (aP (i:=8) fW.nd) (aW (aP (i:=2) fW.nd) cS))))
  (aH (eN (aI ih_along hr T.m_10 T.k_10 T.b_10 (aC (aD 0) (aC (aD 1) (aC (aD 2) (aC (aJ (aD 3) aF) (aC (aD 4) (aC (aD 5) (aC iC aG))))))) (hlen:=λ_ _ h=>fT h)) (eY rfl (aW (aP (i:=9) fW.nd) (aW (aP (i:=2) fW.nd) cS))))))
  (aE (eN (aI ih_along hr T.m_10 T.k_10 T.b_10 (aC (aD 0) (aC (aD 1) (aC (aD 2) (aC (aJ (aD 3) aF) (aC (aD 4) (aC (aD 5) (aC iC aG))))))) (hlen:=λ_ _ h=>fT h)) (eY rfl (aW (aP (i:=9) fW.nd) (aW (aP (i:=2) fW.nd) cS))))
  (aH (eN (aI ih_along hr T.m_10 T.k_10 T.b_10 (aC (aD 0) (aC (aD 1) (aC (aD 2) (aC (aJ (aD 3) aF) (aC (aD 4) (aC (aD 5) (aC (mD (opEq (aT hr)) (aD 7) aM (nomark _)) aG))))))) (hlen:=λ_ _ h=>fT h)) (eY rfl (aW (aP (i:=8) fW.nd) (aW (aP (i:=2) fW.nd) cS)))))))
  (aH (aK (aV (aC (aV (aC (aD 7) (aC (aD 9) (aC (aD 8) aG)))) (aC (aD 2) aG))))))))),
   bI (k:=d+3) T.f_12 bG λcdv A outer s H E hr=>show Ess _ K Z0 (defBody cA) (b_12 (fL d) (cP d))from
  (aE (eN (aD 4) (eY rfl (aW (aP (i:=7) bG.nd) (aW (aP (i:=8) bG.nd) (aW (aP (i:=9) bG.nd) cS)))))
  (aE (aY (jE (aD 6))
  (aE (eN (aI ih_along hr T.m_10 T.k_10 T.b_10 (aC (aD 0) (aC (aD 1) (aC (aD 2) (aC (aJ (aD 3) aF) (aC (aV (aC (aD 7) (aC (aD 9) (aC (aD 8) aG)))) (aC iC (aC iC aG))))))) (hlen:=λ_ _ h=>fT h)) (eY rfl (aW (aP (i:=10) bG.nd) (aW (aP (i:=11) bG.nd) cS))))
  (aH (eN (aI ih_along hr T.m_10 T.k_10 T.b_10 (aC (aD 0) (aC (aD 1) (aC (aD 11) (aC (aJ (aD 3) aF) (aC (aV (aC (aD 9) (aC (aD 8) (aC (aD 7) aG)))) (aC (aD 5) (aC iC aG))))))) (hlen:=λ_ _ h=>fT h)) (eY rfl (aW (aP (i:=12) bG.nd) (aW (aP (i:=13) bG.nd) cS))))))
  (aE (eN (aI ih_along hr T.m_10 T.k_10 T.b_10 (aC (aD 0) (aC (aD 1) (aC (aD 2) (aC (aJ (aD 3) aF) (aC (aV (aC (aD 9) (aC (aD 8) (aC (aD 7) aG)))) (aC (aD 5) (aC iC aG))))))) (hlen:=λ_ _ h=>fT h)) (eY rfl (aW (aP (i:=12) bG.nd) (aW (aP (i:=11) bG.nd) cS))))
  (aH (eN (aI ih_along hr T.m_10 T.k_10 T.b_10 (aC (aD 0) (aC (aD 1) (aC (aD 11) (aC (aJ (aD 3) aF) (aC (aV (aC (aD 7) (aC (aD 9) (aC (aD 8) aG)))) (aC iC (aC iC aG))))))) (hlen:=λ_ _ h=>fT h)) (eY rfl (aW (aP (i:=10) bG.nd) (aW (aP (i:=13) bG.nd) cS)))))))
  (aE (aR (i:=14) bG.nd (aS opAdd (aI ((gC T).mono (by lia)) hr T.m_4 T.k_4 T.b_4 (aC (aD 0) (aC (bK (aD 1) (dB (aD 2)) (dB (aD 11))) aG)) (hlen:=λ_ _ h=>fN h)) (aI ((gC T).mono (by lia)) hr T.m_4 T.k_4 T.b_4 (aC (aD 0) (aC (bK (aD 1) (dB (aD 11)) (dB (aD 13))) aG)) (hlen:=λ_ _ h=>fN h))))
  (aH (aK (aV (aC (aV (aC aM (aC (aD 10) (aC (aD 12) aG)))) (aC (aI ((vN T).mono (by lia)) hr T.m_13 T.k_13 T.b_13 (aC (aD 1) (aC (aD 13) (aC (aD 14) aG))) (hlen:=λ_ _ h=>tF h)) aG))))))))⟩
theorem aMj(d:Nat)(T:Tx K mg a):FnOk P w K mg base CX0 (d+3) a.a_10 a.d_10 aHS (spF K Z0 7 (fL d)):=(qI T d).1
theorem aJt(T:Tx K mg a):FnOk P w K mg base CX0 54 a.a_f a.d_f aHR (spF K Z0 6 qX) :=
 bI (k:=53) T.f_f pN λcdv A outer s H E hr=>show Ess _ K Z0 (defBody iT) b_f from
  (aE (lE (i:=6) (j:=7) rfl pN.nd (aC (aJ (aD 0) aF) (aC (aJ (aD 0) aF) aG)))
  (aE (eN (aI ((aMj 50 T).mono (by lia)) hr T.m_10 T.k_10 T.b_10 (aC (aD 6) (aC (aD 7) (aC aF (aC (aD 1) (aC (aV (aC (aD 2) (aC (aD 3) (aC (aD 4) aG)))) (aC (aD 5) (aC iC aG))))))) (hlen:=λ_ _ h=>fT h)) (eY rfl (aW (aP (i:=8) pN.nd) (aW (aP (i:=9) pN.nd) cS))))
  (aE (aY (aO opLt (aD 9) (bB callLen rfl T.z_len aAW (aC (aD 7) aG)) (nomark _))
  (aH gJ)
  aN)
  (aH (aK (aD 8))))))
theorem kC(T:Tx K mg a):FnOk P w K mg base CX0 1 a.a_14 a.d_14 aHV (spF K Z0 2 eH) :=
 bI (k:=0) T.f_14 kH λcdv A outer s H E hr=>show Ess _ K Z0 (defBody bY) b_14 from
  (aE (aR (i:=2) kH.nd (aD 1))
  (aE (uO NW aBZ (mJ (rD (aO opLt (aD 2) (bB callLen rfl T.z_len aAW (aC (aD 0) aG)) (nomark _)) (oF (aO opInS (aJ (aD 0) (aD 2)) (aTw T.v_FIGURES) (by with_unfolding_all rfl)))))
  (aH (yI (i:=2) kH.nd aCm aF)))
  (aH (aK (aD 2)))))
theorem iA(T:Tx K mg a):FnOk P w K mg base CX0 2 a.a_15 a.d_15 aHW (spF K Z0 2 eE) :=
 bI (k:=1) T.f_15 yT λcdv A outer s H E hr=>show Ess _ K Z0 (defBody dN) b_15 from
  (aE (aY (mJ (jI (aO (opEq (aT hr)) (aD 0) aM (nomark _)) (iO (aO opGt (bB callLen rfl T.z_len aAW (aC (aD 0) aG)) (aD 1) (nomark _)))))
  (aH (aK dD))
  aN)
  (aE (aY (aO opLt (aI ((kC T).mono (by lia)) hr T.m_14 T.k_14 T.b_14 (aC (aD 0) (aC aF aG)) (hlen:=λ_ _ h=>jG h)) (bB callLen rfl T.z_len aAW (aC (aD 0) aG)) (nomark _))
  (aH (aK dD))
  aN)
  (aE (aY (mJ (rD (aO (opEq (aT hr)) (aJ (aD 0) aF) aM (nomark _)) (oF (aO opGt (bB callLen rfl T.z_len aAW (aC (aD 0) aG)) aF (nomark _)))))
  (aH (aK dD))
  aN)
  (aH (aK (dW callIntS rfl T.z_int aDj (aC (aD 0) aG)))))))
theorem lX(T:Tx K mg a):∀d:Nat,FnOk P w K mg base CX0 (d+0) a.a_16 a.d_16 aHF (spF K Z0 1 (cI (d)))
 |0=>gP rfl
 |d+1=>by
  have ih:=lX T d
  have ih_show_expr:=ih
  rw[show d+1+0=(d+0)+1 by lia]
  exact bI (k:=d+0) T.f_16 zT λcdv A outer s H E hr=>show Ess _ K Z0 (defBody dL) (b_16 (cI d))from
  (aE (aY (aO (opEq (aT hr)) (aJ (aD 0) aF) aM (nomark _))
  (aH (aK (dW callStr rfl T.z_str aCn (aC (aJ (aD 0) aF) aG))))
  aN)
  (aE (aY (aO (opEq (aT hr)) (aJ (aD 0) aF) aM (nomark _))
  (aH (aK (iP (jC (iL (aJ (aD 0) aF) pB)))))
  aN)
  (aH (aK (iP (jC (iL (aI ih_show_expr hr T.m_16 T.k_16 T.b_16 (aC (aJ (aD 0) aF) aG) (hlen:=λ_ _ h=>kX h)) (iL (aQy T.v_SIGNS T.w_SIGNS (aJ (aD 0) aF)) (iL (aI ih_show_expr hr T.m_16 T.k_16 T.b_16 (aC (aJ (aD 0) aF) aG) (hlen:=λ_ _ h=>kX h)) (jC pB))))))))))
theorem yP(d:Nat)(T:Tx K mg a):FnOk P w K mg base CX0 (d+0) a.a_16 a.d_16 aHF (spF K Z0 1 (cI d)):=(lX T d)
theorem aBt(T:Tx K mg a):FnOk P w K mg base CX0 3 a.a_1b a.d_1b aHV (spF K Z0 2 jW) :=
 bI (k:=2) T.f_1b nO λcdv A outer s H E hr=>show Ess _ K Z0 (defBody eK) b_1b from
  (aE (aR (i:=2) nO.nd (aI ((kC T).mono (by lia)) hr T.m_14 T.k_14 T.b_14 (aC (aD 0) (aC (aD 1) aG)) (hlen:=λ_ _ h=>jG h)))
  (aE (aR (i:=3) nO.nd (aI ((iA T).mono (by lia)) hr T.m_15 T.k_15 T.b_15 (aC (bK (aD 0) (dB (aD 1)) (dB (aD 2))) (aC (oJ T.v_MOST_FIGURES_exprtexts) aG)) (hlen:=λ_ _ h=>fY h)))
  (aE (aY (aO opIs (aD 3) dD (nomark _))
  (aH gJ)
  aN)
  (aH (aK (aV (aC (aV (aC aM (aC (aD 3) aG))) (aC (aD 2) aG))))))))
theorem vS(T:Tx K mg a):FnOk P w K mg base CX0 3 a.a_1a a.d_1a aHV (spF K Z0 2 hU) :=
 bI (k:=2) T.f_1a lI λcdv A outer s H E hr=>show Ess _ K Z0 (defBody cL) b_1a from
  (aE (aR (i:=2) lI.nd (aI ((kC T).mono (by lia)) hr T.m_14 T.k_14 T.b_14 (aC (aD 0) (aC (aD 1) aG)) (hlen:=λ_ _ h=>jG h)))
  (aE (aR (i:=3) lI.nd (aI ((iA T).mono (by lia)) hr T.m_15 T.k_15 T.b_15 (aC (bK (aD 0) (dB (aD 1)) (dB (aD 2))) (aC aF aG)) (hlen:=λ_ _ h=>fY h)))
  (aE (aY (mJ (jI (aO opIs (aD 3) dD (nomark _)) (iO (aO opGt (aD 3) (oJ T.v_LAST_GIVEN) (nomark _)))))
  (aH gJ)
  aN)
  (aH (aK (aV (aC (aV (aC aM (aC (aD 3) aG))) (aC (aD 2) aG))))))))
theorem lO(T:Tx K mg a):∀d:Nat,FnOk P w K mg base CX0 (d+3) a.a_19 a.d_19 aHY (spF K Z0 3 (eB (d)))/\FnOk P w K mg base CX0 (d+3) a.a_18 a.d_18 aHY (spF K Z0 3 (bV (d)))
 |0=>⟨gP rfl,gP rfl⟩
 |d+1=>by
  have ih:=lO T d
  obtain⟨ih_read_pair,ih_read_part⟩:=ih
  rw[show d+1+3=(d+3)+1 by lia]
  exact⟨bI (k:=d+3) T.f_19 fV λcdv A outer s H E hr=>show Ess _ K Z0 (defBody dP) (b_19 (eB d) (bV d))from
  (aE (aY (aO opGt (aD 2) (oJ T.v_MOST_BRACKETS) (nomark _))
  (aH gJ)
  aN)
  (aE (eN (aI ih_read_part hr T.m_18 T.k_18 T.b_18 (aC (aD 0) (aC (aD 1) (aC (aD 2) aG))) (hlen:=λ_ _ h=>lC h)) (eY rfl (aW (aP (i:=3) fV.nd) (aW (aP (i:=1) fV.nd) cS))))
  (aE (aR (i:=4) fV.nd (aGm T.v_WORDS T.w_WORDS (bK (aD 0) (dB (aD 1)) (dB (aS opAdd (aD 1) aF)))))
  (aE (aY (aO opIs (aD 4) dD (nomark _))
  (aH gJ)
  aN)
  (aE (eN (aI ih_read_part hr T.m_18 T.k_18 T.b_18 (aC (aD 0) (aC (aS opAdd (aD 1) aF) (aC (aD 2) aG))) (hlen:=λ_ _ h=>lC h)) (eY rfl (aW (aP (i:=5) fV.nd) (aW (aP (i:=1) fV.nd) cS))))
  (aE (aY (aO (opNe (aT hr)) (bK (aD 0) (dB (aD 1)) (dB (aS opAdd (aD 1) aF))) aM (nomark _))
  (aH gJ)
  aN)
  (aH (aK (aV (aC (aV (aC (aD 4) (aC (aD 3) (aC (aD 5) aG)))) (aC (aS opAdd (aD 1) aF) aG))))))))))),
   bI (k:=d+3) T.f_18 pH λcdv A outer s H E hr=>show Ess _ K Z0 (defBody dJ) (b_18 (eB d) (bV d))from
  (aE (aR (i:=3) pH.nd (bK (aD 0) (dB (aD 1)) (dB (aS opAdd (aD 1) aF))))
  (aE (aY (aO (opEq (aT hr)) (aD 3) aM (nomark _))
  (aH (aK (aI ih_read_pair hr T.m_19 T.k_19 T.b_19 (aC (aD 0) (aC (aS opAdd (aD 1) aF) (aC (aS opAdd (aD 2) aF) aG))) (hlen:=λ_ _ h=>wG h))))
  aN)
  (aE (aY (aO (opEq (aT hr)) (aD 3) aM (nomark _))
  (aH (aK (aI ((vS T).mono (by lia)) hr T.m_1a T.k_1a T.b_1a (aC (aD 0) (aC (aS opAdd (aD 1) aF) aG)) (hlen:=λ_ _ h=>tI h))))
  aN)
  (aH (aK (aI ((aBt T).mono (by lia)) hr T.m_1b T.k_1b T.b_1b (aC (aD 0) (aC (aD 1) aG)) (hlen:=λ_ _ h=>xY h)))))))⟩
theorem aAf(d:Nat)(T:Tx K mg a):FnOk P w K mg base CX0 (d+3) a.a_18 a.d_18 aHY (spF K Z0 3 (bV d)):=(lO T d).2
theorem zL(T:Tx K mg a):FnOk P w K mg base CX0 54 a.a_17 a.d_17 aHX (spF K Z0 1 iY) :=
 bI (k:=53) T.f_17 mC λcdv A outer s H E hr=>show Ess _ K Z0 (defBody dI) b_17 from
  (aE (eN (aI ((aAf 50 T).mono (by lia)) hr T.m_18 T.k_18 T.b_18 (aC (aD 0) (aC aF (aC aF aG))) (hlen:=λ_ _ h=>lC h)) (eY rfl (aW (aP (i:=1) mC.nd) (aW (aP (i:=2) mC.nd) cS))))
  (aE (aY (aO opLt (aD 2) (bB callLen rfl T.z_len aAW (aC (aD 0) aG)) (nomark _))
  (aH gJ)
  aN)
  (aH (aK (aD 1)))))
theorem mU(T:Tx K mg a):∀d:Nat,FnOk P w K mg base CX0 (d+1) a.a_1c a.d_1c aHF (spF K Z0 1 (cX (d)))
 |0=>gP rfl
 |d+1=>by
  have ih:=mU T d
  have ih_paper_of:=ih
  rw[show d+1+1=(d+1)+1 by lia]
  exact bI (k:=d+1) T.f_1c aCb λcdv A outer s H E hr=>show Ess _ K Z0 (defBody eF) (b_1c (cX d))from
  (aE (aY (jE (aI ((jQ T).mono (by lia)) hr T.m_0 T.k_0 T.b_0 (aC (aD 0) aG) (hlen:=λ_ _ h=>iU h)))
  (aH (aK (aV (aC aM aG))))
  aN)
  (aH (aK (aV (aC (aJ (aD 0) aF) (aC (aI ih_paper_of hr T.m_1c T.k_1c T.b_1c (aC (aJ (aD 0) aF) aG) (hlen:=λ_ _ h=>mH h)) (aC (aI ih_paper_of hr T.m_1c T.k_1c T.b_1c (aC (aJ (aD 0) aF) aG) (hlen:=λ_ _ h=>mH h)) aG)))))))
theorem aAi(d:Nat)(T:Tx K mg a):FnOk P w K mg base CX0 (d+1) a.a_1c a.d_1c aHF (spF K Z0 1 (cX d)):=(mU T d)
theorem yF(T:Tx K mg a):FnOk P w K mg base CX0 1 a.a_1e a.d_1e ["deed"] (spF K Z0 1 jB) :=
 bI (k:=0) T.f_1e jM λcdv A outer s H E hr=>show Ess _ K Z0 (defBody cH) b_1e from
  (aE (aY (aO (opEq (aT hr)) (aJ (aD 0) aF) aM (nomark _))
  (aH (aK (iP (jC (iL (aJ (aD 0) aF) (jC (iL (aJ (aD 0) aF) pB)))))))
  aN)
  (aE (aR (i:=1) jM.nd (qO (aC (iP (jC (iL (aJ (aD 0) aF) (jC (iL (aJ (aD 0) aF) pB))))) aG)))
  (aE (yG (i:=1) jM.nd (gX rfl (CompOk.of (N0:=["deed","words"]) (sc0:=defScope cH) (Nc:=["given"]) (js:=[none]) (by decide +kernel)) (pX (aJ (aD 0) aF)) (λ_ _ _ _ _ _=>(aP (i:=0) (show(["given"]:List Str).Nodup by decide +kernel))) (λ_ _ _ _ _ _=>eW) (λ_ _ _ _ _ _=>(iP (jC (iL (aD 0) pB))))))
  (aE (yG (i:=1) jM.nd (gX rfl (CompOk.of (N0:=["deed","words"]) (sc0:=defScope cH) (Nc:=["shelf"]) (js:=[none]) (by decide +kernel)) (pX (aJ (aD 0) aF)) (λ_ _ _ _ _ _=>(aP (i:=0) (show(["shelf"]:List Str).Nodup by decide +kernel))) (λ_ _ _ _ _ _=>eW) (λ_ _ _ _ _ _=>(iP (jC (iL (aD 0) pB))))))
  (aH (aK (aGg aM (aD 1))))))))
theorem aFd(T:Tx K mg a):FnOk P w K mg base CX0 2 a.a_1d a.d_1d ["program"] (spF K Z0 1 rA) :=
 bI (k:=1) T.f_1d mF λcdv A outer s H E hr=>show Ess _ K Z0 (defBody kF) b_1d from
  (aE (eN (aD 0) (eY rfl (aW (aP (i:=1) mF.nd) (aW (aP (i:=2) mF.nd) (aW (aP (i:=3) mF.nd) (aW (aP (i:=4) mF.nd) cS))))))
  (aE (aR (i:=5) mF.nd (qO (aC (iP (jC (iL (aD 1) (jC (iL (aD 2) (jC (iL (aD 3) pB))))))) aG)))
  (aE (yG (i:=5) mF.nd (gX rfl (CompOk.of (N0:=aIV) (sc0:=defScope kF) (Nc:=["deed"]) (js:=[none]) (by decide +kernel)) (pX (aD 4)) (λ_ _ _ _ _ _=>(aP (i:=0) (show(["deed"]:List Str).Nodup by decide +kernel))) (λ_ _ _ _ _ _=>eW) (λ_ _ _ _ _ _=>(aI ((yF T).mono (by lia)) hr T.m_1e T.k_1e T.b_1e (aC (aD 0) aG) (hlen:=λ_ _ h=>wJ h)))))
  (aH (aK (aGg aM (aD 5)))))))
theorem zA(T:Tx K mg a):FnOk P w K mg base CX0 3 a.a_20 a.d_20 ["row"] (spF K Z0 1 iZ) :=
 bI (k:=2) T.f_20 dE λcdv A outer s H E hr=>show Ess _ K Z0 (defBody cR) b_20 from
  (aE (aR (i:=1) dE.nd (uQ (aD 0) aM))
  (aE (aY (aO (opNe (aT hr)) (aJi (aD 1) (dB aF) (dB aF)) (nG (aC aM (aC aM (aC aM aG)))) (nomark _))
  (aH (aK dD))
  aN)
  (aE (sP (i:=2) dE.nd rfl (CompOk.of (N0:=aIW) (sc0:=defScope cR) (Nc:=["word"]) (js:=[none]) (by decide +kernel)) (pX (aJi (aD 1) (dB aF) (dB aF))) (λ_ _ _ _ _ _=>(aP (i:=0) (show(["word"]:List Str).Nodup by decide +kernel))) (λ_ _ _ _ _ _=>eW) (λ_ _ _ _ _ _=>(aI ((iA T).mono (by lia)) hr T.m_15 T.k_15 T.b_15 (aC (aD 0) (aC (oJ T.v_MOST_FIGURES_progtexts) aG)) (hlen:=λ_ _ h=>fY h))))
  (aE (aY (mJ (jI (aO (opNe (aT hr)) (bB callLen rfl T.z_len aAW (aC (aD 2) aG)) aF (nomark _)) (iO (aO (opInN (aT hr)) dD (aD 2) (by with_unfolding_all rfl)))))
  (aH (aK dD))
  aN)
  (aE (eN (aD 2) (aUr (eY rfl (aW (aP (i:=3) dE.nd) (aW (aP (i:=4) dE.nd) (aW (aP (i:=5) dE.nd) cS)))) (aNv rfl (aW (aP (i:=3) dE.nd) (aW (aP (i:=4) dE.nd) (aW (aP (i:=5) dE.nd) cS))))))
  (aE (aY (mJ (jI (pF (qN opLe opLe aF (aD 3) (oJ T.v_GREATEST_N))) (jI (aO opGt (aD 4) (oJ T.v_MOST_GIVENS) (nomark _)) (iO (pF (qN opLe opLe aF (aD 5) (oJ T.v_MOST_SHELVES)))))))
  (aH (aK dD))
  aN)
  (aH (aK (aV (aC (aD 3) (aC (aD 4) (aC (aD 5) aG))))))))))))
theorem iI(T:Tx K mg a):FnOk P w K mg base CX0 3 a.a_23 a.d_23 aIA (spF K Z0 2 cW) :=
 bI (k:=2) T.f_23 rT λcdv A outer s H E hr=>show Ess _ K Z0 (defBody bR) b_23 from
  (aE (aY (pF (jE (wM (aD 1) (aD 0))))
  (aH (aK dD))
  aN)
  (aH (aK (aI ((iA T).mono (by lia)) hr T.m_15 T.k_15 T.b_15 (aC (bK (aD 1) (dB aF) lU) (aC (oJ T.v_MOST_FIGURES_progtexts) aG)) (hlen:=λ_ _ h=>fY h)))))
theorem aBm(T:Tx K mg a):FnOk P w K mg base CX0 4 a.a_22 a.d_22 aHZ (spF K Z0 3 jZ) :=
 bI (k:=3) T.f_22 iW λcdv A outer s H E hr=>show Ess _ K Z0 (defBody cV) b_22 from
  (aE (aR (i:=3) iW.nd aF)
  (aE (uO NW aBZ (mJ (rD (aO opLt (aD 3) (bB callLen rfl T.z_len aAW (aC (aD 2) aG)) (nomark _)) (oF (jE (wM (aJ (aD 2) (aD 3)) aM)))))
  (aH (yI (i:=3) iW.nd aCm aF)))
  (aE (sP (i:=4) iW.nd rfl (CompOk.of (N0:=aIX) (sc0:=defScope cV) (Nc:=["word"]) (js:=[none]) (by decide +kernel)) (pX (bK (aD 2) lU (dB (aD 3)))) (λ_ _ _ _ _ _=>(aP (i:=0) (show(["word"]:List Str).Nodup by decide +kernel))) (λ_ _ _ _ _ _=>eW) (λ_ _ _ _ _ _=>(aI ((iI T).mono (by lia)) hr T.m_23 T.k_23 T.b_23 (aC aM (aC (aD 0) aG)) (hlen:=λ_ _ h=>hW h))))
  (aE (sP (i:=5) iW.nd rfl (CompOk.of (N0:=aIX) (sc0:=defScope cV) (Nc:=["word"]) (js:=[none]) (by decide +kernel)) (pX (bK (aD 2) (dB (aD 3)) lU)) (λ_ _ _ _ _ _=>(aP (i:=0) (show(["word"]:List Str).Nodup by decide +kernel))) (λ_ _ _ _ _ _=>eW) (λ_ _ _ _ _ _=>(aI ((iI T).mono (by lia)) hr T.m_23 T.k_23 T.b_23 (aC aM (aC (aD 0) aG)) (hlen:=λ_ _ h=>hW h))))
  (aE (aY (mJ (jI (aO (opInN (aT hr)) dD (aD 4) (by with_unfolding_all rfl)) (iO (aO (opInN (aT hr)) dD (aD 5) (by with_unfolding_all rfl)))))
  (aH (aK dD))
  aN)
  (aH (aK (aV (aC aM (aC (aD 0) (aC (aD 1) (aC (dW callTup rfl T.z_tuple hX (aC (aD 4) aG)) (aC (dW callTup rfl T.z_tuple hX (aC (aD 5) aG)) aG)))))))))))))
theorem zW(T:Tx K mg a):FnOk P w K mg base CX0 5 a.a_21 a.d_21 ["row"] (spF K Z0 1 jA) :=
 bI (k:=4) T.f_21 jP λcdv A outer s H E hr=>show Ess _ K Z0 (defBody dQ) b_21 from
  (aE (aR (i:=1) jP.nd (uQ (aD 0) aM))
  (aE (aY (aO opLt (bB callLen rfl T.z_len aAW (aC (aD 1) aG)) aF (nomark _))
  (aH (aK dD))
  aN)
  (aE (aR (i:=2) jP.nd (aI ((iI T).mono (by lia)) hr T.m_23 T.k_23 T.b_23 (aC aM (aC (aJ (aD 1) aF) aG)) (hlen:=λ_ _ h=>hW h)))
  (aE (aR (i:=3) jP.nd (aI ((iA T).mono (by lia)) hr T.m_15 T.k_15 T.b_15 (aC (aJ (aD 1) aF) (aC (oJ T.v_MOST_FIGURES_progtexts) aG)) (hlen:=λ_ _ h=>fY h)))
  (aE (aY (mJ (jI (aO opIs (aD 2) dD (nomark _)) (iO (aO opIs (aD 3) dD (nomark _)))))
  (aH (aK dD))
  aN)
  (aE (aY (mJ (rD (aO (opEq (aT hr)) (aJ (aD 1) aF) aM (nomark _)) (oF (aO (opEq (aT hr)) (bB callLen rfl T.z_len aAW (aC (aD 1) aG)) aF (nomark _)))))
  (aH (aK (aV (aC aM (aC (aD 2) (aC (aD 3) aG))))))
  aN)
  (aE (aY (aO (opEq (aT hr)) (aJ (aD 1) aF) aM (nomark _))
  (aH (aK (aI ((aBm T).mono (by lia)) hr T.m_22 T.k_22 T.b_22 (aC (aD 2) (aC (aD 3) (aC (bK (aD 1) (dB aF) lU) aG))) (hlen:=λ_ _ h=>yN h))))
  aN)
  (aH (aK dD)))))))))
theorem aOl(T:Tx K mg a):FnOk P w K mg base CX0 6 a.a_1f a.d_1f aHX (spF K Z0 1 tO) :=
 bI (k:=5) T.f_1f iV λcdv A outer s H E hr=>show Ess _ K Z0 (defBody lD) b_1f from
  (aE (aR (i:=1) iV.nd (uQ (aD 0) aM))
  (aE (aR (i:=2) iV.nd (aI ((zA T).mono (by lia)) hr T.m_20 T.k_20 T.b_20 (aC (aJ (aD 1) aF) aG) (hlen:=λ_ _ h=>wF h)))
  (aE (aY (aO opIs (aD 2) dD (nomark _))
  (aH gJ)
  aN)
  (aE (eN (aD 2) (eY rfl (aW (aP (i:=3) iV.nd) (aW (aP (i:=4) iV.nd) (aW (aP (i:=5) iV.nd) cS)))))
  (aE (aR (i:=6) iV.nd (qO aG))
  (aE (lF aBZ rfl (aIc T.z_enumerate (bK (aD 1) (dB aF) lU) aF) (eY rfl (aW (aP (i:=7) iV.nd) (aW (aP (i:=8) iV.nd) cS)))
  (aE (aR (i:=9) iV.nd (aI ((zW T).mono (by lia)) hr T.m_21 T.k_21 T.b_21 (aC (aD 8) aG) (hlen:=λ_ _ h=>vT h)))
  (aE (aY (mJ (jI (aO opIs (aD 9) dD (nomark _)) (iO (pF (jE (aI ((aEq T).mono (by lia)) hr T.m_2 T.k_2 T.b_2 (aC (aD 3) (aC (aD 4) (aC (aD 5) (aC (aD 9) aG)))) (hlen:=λ_ _ h=>aBp h)))))))
  (aH gJ)
  aN)
  (aH (aFm (wX (aD 6) (aD 9)))))))
  (aH (aK (aV (aC (aD 3) (aC (aD 4) (aC (aD 5) (aC (dW callTup rfl T.z_tuple hX (aC (aD 6) aG)) aG)))))))))))))
theorem oK(T:Tx K mg a):FnOk P w K mg base CX0 1 a.a_26 a.d_26 aID (spF K Z0 2 fU) :=
 bI (k:=0) T.f_26 iQ λcdv A outer s H E hr=>show Ess _ K Z0 (defBody cO) b_26 from
  (aE (aR (i:=2) iQ.nd aF)
  (aE (lF aBZ rfl (pX (aD 0)) (aP (i:=3) iQ.nd)
  (aH (aR (i:=2) iQ.nd (aS opMulA (aD 2) (aJ (aD 1) (aD 3))))))
  (aH (aK (aD 2)))))
theorem aMy(T:Tx K mg a):FnOk P w K mg base CX0 2 a.a_25 a.d_25 aIC (spF K Z0 4 rE) :=
 bI (k:=1) T.f_25 pW λcdv A outer s H E hr=>show Ess _ K Z0 (defBody kZ) b_25 from
  (aE (lE (i:=4) (j:=5) rfl pW.nd (aC (aJ (aD 1) aF) (aC (aJ (aD 1) aF) aG)))
  (aE (aR (i:=6) pW.nd (aJ (aD 3) (aD 4)))
  (aE (aY (aO (opEq (aT hr)) (aJ (aD 1) aF) aM (nomark _))
  (aH (aR (i:=6) pW.nd (aS opMulA (aD 6) (aD 5))))
  (aH (aR (i:=6) pW.nd (aS opAdd (aD 6) (aS opMulA (aS opMulA (aD 5) (aI ((oK T).mono (by lia)) hr T.m_26 T.k_26 T.b_26 (aC (aJ (aD 1) aF) (aC (aD 2) aG)) (hlen:=λ_ _ h=>nH h))) (aI ((oK T).mono (by lia)) hr T.m_26 T.k_26 T.b_26 (aC (aJ (aD 1) aF) (aC (aD 3) aG)) (hlen:=λ_ _ h=>nH h)))))))
  (aH (aK (aS opAdd (aS opAdd (bK (aD 3) lU (dB (aD 4))) (aV (aC (aS opMod (aD 6) (aD 0)) aG))) (bK (aD 3) (dB (aS opAdd (aD 4) aF)) lU)))))))
theorem aSz(T:Tx K mg a):FnOk P w K mg base CX0 3 a.a_24 a.d_24 aIB (spF K Z0 3 aBa) :=
 bI (k:=2) T.f_24 aDu λcdv A outer s H E hr=>show Ess _ K Z0 (defBody oT) b_24 from
  (aE (lF aBZ rfl (pX (aJ (aD 0) aF)) (aP (i:=3) aDu.nd)
  (aH (aR (i:=2) aDu.nd (aI ((aMy T).mono (by lia)) hr T.m_25 T.k_25 T.b_25 (aC (aJ (aD 0) aF) (aC (aD 3) (aC (aD 1) (aC (aD 2) aG)))) (hlen:=λ_ _ h=>aMh h)))))
  (aH (aK (aD 2))))
theorem wE(T:Tx K mg a):FnOk P w K mg base CX0 2 a.a_2a a.d_2a aIG (spF K Z0 2 gR) :=
 bI (k:=1) T.f_2a oR λcdv A outer s H E hr=>show Ess _ K Z0 (defBody cK) b_2a from
  (aE (aR (i:=2) oR.nd (aI ((oU T).mono (by lia)) hr T.m_1 T.k_1 T.b_1 (aC (aD 0) (aC (aD 1) aG)) (hlen:=λ_ _ h=>nI h)))
  (aE (aY (aO opIs (aD 2) dD (nomark _))
  (aH gJ)
  aN)
  (aH (aK (aD 2)))))
theorem sJ(T:Tx K mg a):FnOk P w K mg base CX0 3 a.a_29 a.d_29 ["n","row"] (spF K Z0 2 fM) :=
 bI (k:=2) T.f_29 dA λcdv A outer s H E hr=>show Ess _ K Z0 (defBody bO) b_29 from
  (aE (aR (i:=2) dA.nd (qO (aC (aS opMod (aJ (aD 1) aF) (aD 0)) aG)))
  (aE (aR (i:=3) dA.nd (aD 1))
  (aE (aR (i:=4) dA.nd aF)
  (aE (lF aBZ rfl (aHi T.z_range aF (bB callLen rfl T.z_len aAW (aC (aD 1) aG))) (aP (i:=5) dA.nd)
  (aE (sP (i:=3) dA.nd rfl (CompOk.of (N0:=aJA) (sc0:=defScope bO) (Nc:=["ahead","later"]) (js:=[none,none]) (by decide +kernel)) (aQu T.z_zip (aD 3) (bK (aD 3) (dB aF) lU)) (λ_ _ _ _ _ _=>(eY rfl (aW (aP (i:=0) (show(["ahead","later"]:List Str).Nodup by decide +kernel)) (aW (aP (i:=1) (show(["ahead","later"]:List Str).Nodup by decide +kernel)) cS)))) (λ_ _ _ _ _ _=>eW) (λ_ _ _ _ _ _=>(aS opSub (aD 1) (aD 0))))
  (aE (aR (i:=4) dA.nd (aS opMod (aS opMulA (aD 4) (aI ((wE T).mono (by lia)) hr T.m_2a T.k_2a T.b_2a (aC (aD 0) (aC (aD 5) aG)) (hlen:=λ_ _ h=>vD h))) (aD 0)))
  (aH (aFm (wX (aD 2) (aS opMod (aS opMulA (aJ (aD 3) aF) (aD 4)) (aD 0))))))))
  (aH (aK (aD 2)))))))
theorem vL(T:Tx K mg a):FnOk P w K mg base CX0 4 a.a_28 a.d_28 aIF (spF K Z0 3 gQ) :=
 bI (k:=3) T.f_28 cN λcdv A outer s H E hr=>show Ess _ K Z0 (defBody cC) b_28 from
  (aE (aR (i:=3) cN.nd (bB callLen rfl T.z_len aAW (aC (aD 2) aG)))
  (aE (aR (i:=4) cN.nd (aJ (aD 2) aF))
  (aE (lF aBZ rfl (pX (bK (aD 2) (dB aF) lU)) (aP (i:=5) cN.nd)
  (aH (aR (i:=4) cN.nd (aV (aC aM (aC (aD 4) (aC (aD 5) aG)))))))
  (aE (aR (i:=6) cN.nd (aI ((sJ T).mono (by lia)) hr T.m_29 T.k_29 T.b_29 (aC (aD 0) (aC (gX rfl (CompOk.of (N0:=aIZ) (sc0:=defScope cC) (Nc:=["j","k"]) (js:=[none,some 1]) (by decide +kernel)) (jS T.z_range (aS opAdd (aD 3) aF)) (λ_ _ _ _ _ _=>(aP (i:=0) (show(["j","k"]:List Str).Nodup by decide +kernel))) (λ_ _ _ _ _ _=>eW) (λ_ _ _ _ _ _=>(aLm (aO opGe (aD 0) (aD 1) (nomark _)) aF aF))) aG)) (hlen:=λ_ _ h=>rB h)))
  (aE (aR (i:=7) cN.nd (aV (aC aM (aC (aJ (aD 6) (aD 3)) aG))))
  (aE (lF aBZ rfl (aOz T.z_reversed T.z_range (aD 3)) (aP (i:=8) cN.nd)
  (aH (aR (i:=7) cN.nd (aV (aC aM (aC (aV (aC aM (aC (aJ (aD 6) (aD 8)) aG))) (aC (aV (aC aM (aC (aV (aC aM (aC (aD 4) (aC (aV (aC aM (aC (aD 8) aG))) aG)))) (aC (aD 7) aG)))) aG)))))))
  (aH (aK (aD 7)))))))))
theorem sH(T:Tx K mg a):∀d:Nat,FnOk P w K mg base CX0 (d+4) a.a_27 a.d_27 aIE (spF K Z0 2 (jH (d)))
 |0=>gP rfl
 |d+1=>by
  have ih:=sH T d
  have ih_said:=ih
  rw[show d+1+4=(d+4)+1 by lia]
  exact bI (k:=d+4) T.f_27 sU λcdv A outer s H E hr=>show Ess _ K Z0 (defBody kM) (b_27 (jH d))from
  (aE (aR (i:=2) sU.nd (aJ (aD 1) aF))
  (aE (aY (aO (opEq (aT hr)) (aD 2) aM (nomark _))
  (aH (aK (aV (aC aM (aC (aJ (aD 1) aF) aG)))))
  aN)
  (aE (aY (aO (opEq (aT hr)) (aD 2) aM (nomark _))
  (aH (aK (aV (aC aM (aC (aV (aC aM (aC aF aG))) (aC (aI ih_said hr T.m_27 T.k_27 T.b_27 (aC (aD 0) (aC (aJ (aD 1) aF) aG)) (hlen:=λ_ _ h=>nT h)) aG))))))
  aN)
  (aE (aY (aO (opEq (aT hr)) (aD 2) aM (nomark _))
  (aH (aK (aI ((vL T).mono (by lia)) hr T.m_28 T.k_28 T.b_28 (aC (aD 0) (aC (aJ (aD 1) aF) (aC (gX rfl (CompOk.of (N0:=aIY) (sc0:=defScope kM) (Nc:=["part","n"]) (js:=[none,some 0]) (by decide +kernel)) (pX (aJ (aD 1) aF)) (λ_ _ _ _ _ _=>(aP (i:=0) (show(["part","n"]:List Str).Nodup by decide +kernel))) (λ_ _ _ _ _ _=>eW) (λ_ _ _ _ _ _=>(aI ih_said hr T.m_27 T.k_27 T.b_27 (aC (aD 1) (aC (aD 0) aG)) (hlen:=λ_ _ h=>nT h)))) aG))) (hlen:=λ_ _ h=>uM h))))
  aN)
  (aE (aR (i:=3) sU.nd (aI ih_said hr T.m_27 T.k_27 T.b_27 (aC (aD 0) (aC (aJ (aD 1) aF) aG)) (hlen:=λ_ _ h=>nT h)))
  (aE (aR (i:=4) sU.nd (aI ih_said hr T.m_27 T.k_27 T.b_27 (aC (aD 0) (aC (aJ (aD 1) aF) aG)) (hlen:=λ_ _ h=>nT h)))
  (aE (aY (aO (opEq (aT hr)) (aD 2) aM (nomark _))
  (aH (aK (aV (aC aM (aC (aD 3) (aC (aD 4) aG))))))
  aN)
  (aH (aK (aV (aC aM (aC (aV (aC aM (aC (aD 3) (aC (aD 4) aG)))) (aC (aV (aC aM (aC (aD 3) (aC (aD 4) aG)))) aG)))))))))))))
theorem aPd(d:Nat)(T:Tx K mg a):FnOk P w K mg base CX0 (d+4) a.a_27 a.d_27 aIE (spF K Z0 2 (jH d)):=(sH T d)
theorem aLn(T:Tx K mg a):FnOk P w K mg base CX0 1 a.a_2b a.d_2b aIH (spF K Z0 2 sW) :=
 aSv (k:=0) T.f_2b nB λcdv A outer s H E hr=>show Ess _ K Z0 (defBody iS) b_2b from
  (aE (aR (i:=2) nB.nd (aS opAdd (aS opMulA aF (aD 1)) aF))
  (aE (aY (aO opLt (aD 1) (bB callLen rfl T.z_len aAW (aC (aD 0) aG)) (nomark _))
  (aH (aR (i:=2) nB.nd (aJ (aD 0) (aD 1))))
  (aH (aY (aO opGt (bB callLen rfl T.z_len aAW (aC (aD 0) aG)) aF (nomark _))
  (aH (aR (i:=2) nB.nd (aS opAdd (aD 2) (aS opMulA (aS opMod (aJ (aD 0) (aS opMod (aD 1) (bB callLen rfl T.z_len aAW (aC (aD 0) aG)))) aF) aF))))
  aN)))
  (aE (aR (i:=3) nB.nd (aS opAdd (aS opMod (aS opAdd (aS opMulA (aS opMod (aD 2) aF) aF) (aS opMulA aF (aD 1))) aF) aF))
  (aH (aK (qO (aC (aJ (nG (aC aF (aC (aD 2) aG))) (dW callIntS rfl T.z_int aDj (aC (mD opGe (aD 2) (aS opPow aF aF) (nomark _)) aG))) (aC (aD 3) (aC aF aG)))))))))
theorem bC(T:Tx K mg a):FnOk P w K mg base CX0 1 a.a_2c a.d_2c aII (spF K Z0 2 bF) :=
 bI (k:=0) T.f_2c rX λcdv A outer s H E hr=>show Ess _ K Z0 (defBody fX) b_2c from
  (aE (aY (aO opGt (aJ (aD 0) aF) aF (nomark _))
  (aE (aR (i:=2) rX.nd (aS opMod (aJ (aD 0) aF) (aD 1)))
  (aE (eN (aS opDiv (aJ (aD 0) aF) (aD 1)) (aDg (aD 0) aF))
  (aH (aK (aD 2)))))
  aN)
  (aE (eN (aS opAdd (aJ (aD 0) aF) aF) (aDg (aD 0) aF))
  (aE (aR (i:=3) rX.nd (aS opMod (aS opMulA (aS opAdd (aJ (aD 0) aF) (aS opMulA aF (aJ (aD 0) aF))) aF) aF))
  (aE (eN (aS opAdd (aS opMod (aS opAdd (aS opMulA (aD 3) aF) aF) aF) aF) (aDg (aD 0) aF))
  (aH (aK (aS opMod (aS opDiv (aS opAdd (aS opMulA (aD 3) aF) (aJ (aD 0) aF)) aF) (aD 1))))))))
theorem aTa(T:Tx K mg a):FnOk P w K mg base CX0 2 a.a_2d a.d_2d aIJ (spF K Z0 1 aCc) :=
 bI (k:=1) T.f_2d yL λcdv A outer s H E hr=>show Ess _ K Z0 (defBody oQ) b_2d from
  (aE (aR (i:=1) yL.nd (aI ((bC T).mono (by lia)) hr T.m_2c T.k_2c T.b_2c (aC (aD 0) (aC aF aG)) (hlen:=λ_ _ h=>bA h)))
  (aE (aR (i:=2) yL.nd (aNg (ns:=[2,3,4,5,6,7,8,9,12,16,30,36,49,64,91,97,210,1009,65536,999983,999999,1000000]) (by repeat constructor)))
  (aE (aR (i:=3) yL.nd (aJ (aD 2) (aI ((bC T).mono (by lia)) hr T.m_2c T.k_2c T.b_2c (aC (aD 0) (aC aF aG)) (hlen:=λ_ _ h=>bA h))))
  (aE (aY (aO (opEq (aT hr)) (aD 1) aF (nomark _))
  (aH (aK (aS opAdd aF (aI ((bC T).mono (by lia)) hr T.m_2c T.k_2c T.b_2c (aC (aD 0) (aC aF aG)) (hlen:=λ_ _ h=>bA h)))))
  aN)
  (aE (aY (aO opLt (aD 1) aF (nomark _))
  (aH (aK (aS opAdd aF (aI ((bC T).mono (by lia)) hr T.m_2c T.k_2c T.b_2c (aC (aD 0) (aC aF aG)) (hlen:=λ_ _ h=>bA h)))))
  aN)
  (aH (aK (aD 3))))))))
theorem aIa(T:Tx K mg a):FnOk P w K mg base CX0 2 a.a_2e a.d_2e aIK (spF K Z0 2 nN) :=
 bI (k:=1) T.f_2e xO λcdv A outer s H E hr=>show Ess _ K Z0 (defBody gD) b_2e from
  (aE (aR (i:=2) xO.nd (aI ((bC T).mono (by lia)) hr T.m_2c T.k_2c T.b_2c (aC (aD 0) (aC aF aG)) (hlen:=λ_ _ h=>bA h)))
  (aE (aY (aO (opEq (aT hr)) (aD 2) aF (nomark _))
  (aH (aK (aJ (nG (aC aF (aC (aS opMod aF (aD 1)) (aC (aS opSub (aD 1) aF) (aC (aS opMod (aS opSub (aD 1) aF) (aD 1)) aG))))) (aI ((bC T).mono (by lia)) hr T.m_2c T.k_2c T.b_2c (aC (aD 0) (aC aF aG)) (hlen:=λ_ _ h=>bA h)))))
  aN)
  (aH (aK (aI ((bC T).mono (by lia)) hr T.m_2c T.k_2c T.b_2c (aC (aD 0) (aC (aD 1) aG)) (hlen:=λ_ _ h=>bA h))))))
theorem oX(T:Tx K mg a):FnOk P w K mg base CX0 3 a.a_2f a.d_2f aIL (spF K Z0 3 iK) :=
 bI (k:=2) T.f_2f aDn λcdv A outer s H E hr=>show Ess _ K Z0 (defBody eQ) b_2f from
  (aH (aK (dW callTup rfl T.z_tuple hX (aC (gX rfl (CompOk.of (N0:=aIL) (sc0:=defScope eQ) (Nc:=aJD) (js:=[none,some 0,some 1]) (by decide +kernel)) (jS T.z_range (aD 2)) (λ_ _ _ _ _ _=>(aP (i:=0) (show(aJD:List Str).Nodup by decide +kernel))) (λ_ _ _ _ _ _=>eW) (λ_ _ _ _ _ _=>(aI ((aIa T).mono (by lia)) hr T.m_2e T.k_2e T.b_2e (aC (aD 1) (aC (aD 2) aG)) (hlen:=λ_ _ h=>aDf h)))) aG))))
theorem oN(T:Tx K mg a):∀d:Nat,FnOk P w K mg base CX0 (d+1) a.a_30 a.d_30 aIM (spF K Z0 4 (fB (d)))
 |0=>gP rfl
 |d+1=>by
  have ih:=oN T d
  have ih_l_expr:=ih
  rw[show d+1+1=(d+1)+1 by lia]
  exact bI (k:=d+1) T.f_30 jR λcdv A outer s H E hr=>show Ess _ K Z0 (defBody gE) (b_30 (fB d))from
  (aE (aR (i:=4) jR.nd (aI ((bC T).mono (by lia)) hr T.m_2c T.k_2c T.b_2c (aC (aD 0) (aC aF aG)) (hlen:=λ_ _ h=>bA h)))
  (aE (aY (mJ (jI (aO opLt (aD 2) aF (nomark _)) (jI (aO (opEq (aT hr)) (aD 3) aF (nomark _)) (iO (aO (opEq (aT hr)) (aD 4) aF (nomark _))))))
  (aE (aR (i:=5) jR.nd (aJ (nG (aC (aI ((bC T).mono (by lia)) hr T.m_2c T.k_2c T.b_2c (aC (aD 0) (aC aF aG)) (hlen:=λ_ _ h=>bA h)) (aC (aI ((bC T).mono (by lia)) hr T.m_2c T.k_2c T.b_2c (aC (aD 0) (aC aF aG)) (hlen:=λ_ _ h=>bA h)) aG))) (dW callIntS rfl T.z_int aDj (aC (mD (opEq (aT hr)) (aI ((bC T).mono (by lia)) hr T.m_2c T.k_2c T.b_2c (aC (aD 0) (aC aF aG)) (hlen:=λ_ _ h=>bA h)) aF (nomark _)) aG))))
  (aE (aY (mJ (rD (aO opGt (aD 1) aF (nomark _)) (oF (aO opGt (aI ((bC T).mono (by lia)) hr T.m_2c T.k_2c T.b_2c (aC (aD 0) (aC aF aG)) (hlen:=λ_ _ h=>bA h)) aF (nomark _)))))
  (aH (aK (aV (aC aM (aC (aI ((bC T).mono (by lia)) hr T.m_2c T.k_2c T.b_2c (aC (aD 0) (aC (aD 1) aG)) (hlen:=λ_ _ h=>bA h)) aG)))))
  aN)
  (aH (aK (aV (aC aM (aC (aD 5) aG)))))))
  aN)
  (aE (aR (i:=6) jR.nd (aS opAdd aF (aI ((bC T).mono (by lia)) hr T.m_2c T.k_2c T.b_2c (aC (aD 0) (aC (aS opSub (aD 2) aF) aG)) (hlen:=λ_ _ h=>bA h))))
  (aE (aR (i:=7) jR.nd (aJ (nG (aC aM (aC aM (aC aM (aC aM aG))))) (aI ((bC T).mono (by lia)) hr T.m_2c T.k_2c T.b_2c (aC (aD 0) (aC aF aG)) (hlen:=λ_ _ h=>bA h))))
  (aE (aR (i:=8) jR.nd (aI ih_l_expr hr T.m_30 T.k_30 T.b_30 (aC (aD 0) (aC (aD 1) (aC (aD 6) (aC (aS opSub (aD 3) aF) aG)))) (hlen:=λ_ _ h=>jY h)))
  (aH (aK (aV (aC (aD 7) (aC (aD 8) (aC (aI ih_l_expr hr T.m_30 T.k_30 T.b_30 (aC (aD 0) (aC (aD 1) (aC (aS opSub (aS opSub (aD 2) aF) (aD 6)) (aC (aS opSub (aD 3) aF) aG)))) (hlen:=λ_ _ h=>jY h)) aG)))))))))))
theorem rZ(d:Nat)(T:Tx K mg a):FnOk P w K mg base CX0 (d+1) a.a_30 a.d_30 aIM (spF K Z0 4 (fB d)):=(oN T d)
theorem nL(T:Tx K mg a):∀d:Nat,FnOk P w K mg base CX0 (d+0) a.a_31 a.d_31 aIN (spF K Z0 3 (dY (d)))
 |0=>gP rfl
 |d+1=>by
  have ih:=nL T d
  have ih_l_worth:=ih
  rw[show d+1+0=(d+0)+1 by lia]
  exact bI (k:=d+0) T.f_31 uW λcdv A outer s H E hr=>show Ess _ K Z0 (defBody fE) (b_31 (dY d))from
  (aE (aY (aO (opEq (aT hr)) (aJ (aD 1) aF) aM (nomark _))
  (aH (aK (aS opMod (aJ (aD 1) aF) (aD 0))))
  aN)
  (aE (aY (aO (opEq (aT hr)) (aJ (aD 1) aF) aM (nomark _))
  (aH (aK (aJ (aD 2) (aJ (aD 1) aF))))
  aN)
  (aE (lE (i:=3) (j:=4) rfl uW.nd (aC (aI ih_l_worth hr T.m_31 T.k_31 T.b_31 (aC (aD 0) (aC (aJ (aD 1) aF) (aC (aD 2) aG))) (hlen:=λ_ _ h=>nA h)) (aC (aI ih_l_worth hr T.m_31 T.k_31 T.b_31 (aC (aD 0) (aC (aJ (aD 1) aF) (aC (aD 2) aG))) (hlen:=λ_ _ h=>nA h)) aG)))
  (aE (aY (aO (opEq (aT hr)) (aJ (aD 1) aF) aM (nomark _))
  (aH (aK (aS opMod (aS opAdd (aD 3) (aD 4)) (aD 0))))
  aN)
  (aE (aY (aO (opEq (aT hr)) (aJ (aD 1) aF) aM (nomark _))
  (aH (aK (aS opMod (aS opSub (aD 3) (aD 4)) (aD 0))))
  aN)
  (aH (aK (aS opMod (aS opMulA (aD 3) (aD 4)) (aD 0)))))))))
theorem aEn(d:Nat)(T:Tx K mg a):FnOk P w K mg base CX0 (d+0) a.a_31 a.d_31 aIN (spF K Z0 3 (dY d)):=(nL T d)
theorem oM(T:Tx K mg a):∀d:Nat,FnOk P w K mg base CX0 (d+0) a.a_32 a.d_32 aIO (spF K Z0 1 (eR (d)))
 |0=>gP rfl
 |d+1=>by
  have ih:=oM T d
  have ih_l_text:=ih
  rw[show d+1+0=(d+0)+1 by lia]
  exact bI (k:=d+0) T.f_32 wZ λcdv A outer s H E hr=>show Ess _ K Z0 (defBody gF) (b_32 (eR d))from
  (aE (aY (aO (opEq (aT hr)) (aJ (aD 0) aF) aM (nomark _))
  (aH (aK (dW callStr rfl T.z_str aCn (aC (aJ (aD 0) aF) aG))))
  aN)
  (aE (aY (aO (opEq (aT hr)) (aJ (aD 0) aF) aM (nomark _))
  (aH (aK (aS opAdd aM (dW callStr rfl T.z_str aCn (aC (aJ (aD 0) aF) aG)))))
  aN)
  (aE (aR (i:=1) wZ.nd (aJ aM (aLp (nG (aC aM (aC aM (aC aM aG)))) (aJ (aD 0) aF))))
  (aH (aK (aS opAdd (aS opAdd (aS opAdd (aS opAdd (aS opAdd (aS opAdd aM (aI ih_l_text hr T.m_32 T.k_32 T.b_32 (aC (aJ (aD 0) aF) aG) (hlen:=λ_ _ h=>mI h))) aM) (aD 1)) aM) (aI ih_l_text hr T.m_32 T.k_32 T.b_32 (aC (aJ (aD 0) aF) aG) (hlen:=λ_ _ h=>mI h))) aM))))))
theorem wQ(d:Nat)(T:Tx K mg a):FnOk P w K mg base CX0 (d+0) a.a_32 a.d_32 aIO (spF K Z0 1 (eR d)):=(oM T d)
theorem kS(T:Tx K mg a):∀d:Nat,FnOk P w K mg base CX0 (d+0) a.a_33 a.d_33 aIP (spF K Z0 2 (bT (d)))
 |0=>gP rfl
 |d+1=>by
  have ih:=kS T d
  have ih_l_as_rests:=ih
  rw[show d+1+0=(d+0)+1 by lia]
  exact bI (k:=d+0) T.f_33 vY λcdv A outer s H E hr=>show Ess _ K Z0 (defBody cJ) (b_33 (bT d))from
  (aE (aY (aO (opEq (aT hr)) (aJ (aD 1) aF) aM (nomark _))
  (aH (aK (aV (aC aM (aC (aS opMod (aJ (aD 1) aF) (aD 0)) aG)))))
  aN)
  (aE (aY (aO (opEq (aT hr)) (aJ (aD 1) aF) aM (nomark _))
  (aH (aK (aD 1)))
  aN)
  (aH (aK (aV (aC (aJ (aD 1) aF) (aC (aI ih_l_as_rests hr T.m_33 T.k_33 T.b_33 (aC (aD 0) (aC (aJ (aD 1) aF) aG)) (hlen:=λ_ _ h=>jU h)) (aC (aI ih_l_as_rests hr T.m_33 T.k_33 T.b_33 (aC (aD 0) (aC (aJ (aD 1) aF) aG)) (hlen:=λ_ _ h=>jU h)) aG))))))))
theorem vU(d:Nat)(T:Tx K mg a):FnOk P w K mg base CX0 (d+0) a.a_33 a.d_33 aIP (spF K Z0 2 (bT d)):=(kS T d)
theorem aCt(T:Tx K mg a):FnOk P w K mg base CX0 106 a.a_34 a.d_34 aIQ (spF K Z0 5 lR) :=
 bI (k:=105) T.f_34 fS λcdv A outer s H E hr=>show Ess _ K Z0 (defBody fK) b_34 from
  (aE (aR (i:=5) fS.nd (aI ((aEe T).mono (by lia)) hr T.m_6 T.k_6 T.b_6 (aC (aKy ((vP T).mono (by lia)) hr T.m_e T.k_e T.bd_program_of (aC (aD 0) (aC (bB callLen rfl T.z_len aAW (aC (aD 3) aG)) (aC (aI ((zL T).mono (by lia)) hr T.m_17 T.k_17 T.b_17 (aC (aI ((wQ 50 T).mono (by lia)) hr T.m_32 T.k_32 T.b_32 (aC (aD 1) aG) (hlen:=λ_ _ h=>mI h)) aG) (hlen:=λ_ _ h=>vX h)) aG))) (hlen:=λ_ _ h=>uX h)) (aC (aD 2) aG)) (hlen:=λ_ _ h=>aAv h)))
  (aE (aR (i:=6) fS.nd (aI ((aFd T).mono (by lia)) hr T.m_1d T.k_1d T.b_1d (aC (aD 5) aG) (hlen:=λ_ _ h=>aCj h)))
  (aE (aR (i:=7) fS.nd (aI ((aOl T).mono (by lia)) hr T.m_1f T.k_1f T.b_1f (aC (aD 6) aG) (hlen:=λ_ _ h=>aIk h)))
  (aE (aY (mJ (jI (aO (opNe (aT hr)) (aI ((aFd T).mono (by lia)) hr T.m_1d T.k_1d T.b_1d (aC (aD 7) aG) (hlen:=λ_ _ h=>aCj h)) (aD 6) (nomark _)) (iO (aO (opNe (aT hr)) (aJ (aD 7) aF) (aS opAdd (bB (callMaxL rfl) rfl T.z_max aCu (aC (aD 2) aG)) aF) (nomark _)))))
  (aH (aK iC))
  aN)
  (aE (aR (i:=8) fS.nd (aJ (aD 2) aF))
  (aE (aR (i:=9) fS.nd (aS opMod (aS opAdd (aJ (aD 4) (aD 8)) (aI ((aEn 50 T).mono (by lia)) hr T.m_31 T.k_31 T.b_31 (aC (aD 0) (aC (aD 1) (aC (aD 3) aG))) (hlen:=λ_ _ h=>nA h))) (aD 0)))
  (aE (aR (i:=10) fS.nd (aS opAdd (aS opAdd (bK (aD 4) lU (dB (aD 8))) (aV (aC (aD 9) aG))) (bK (aD 4) (dB (aS opAdd (aD 8) aF)) lU)))
  (aE (aY (aO (opNe (aT hr)) (aI ((aSz T).mono (by lia)) hr T.m_24 T.k_24 T.b_24 (aC (aD 7) (aC (aD 3) (aC (bK (aD 4) lU (dB (aJ (aD 7) aF))) aG))) (hlen:=λ_ _ h=>aOn h)) (bK (aD 10) lU (dB (aJ (aD 7) aF))) (nomark _))
  (aH (aK iC))
  aN)
  (aE (aR (i:=11) fS.nd (aI ((aJt T).mono (by lia)) hr T.m_f T.k_f T.b_f (aC (aD 7) (aC (aI ((aAi 50 T).mono (by lia)) hr T.m_1c T.k_1c T.b_1c (aC (aD 1) aG) (hlen:=λ_ _ h=>mH h)) (aC (aJ (aD 2) aF) (aC (aJ (aD 2) aF) (aC (aJ (aD 2) aF) (aC iC aG)))))) (hlen:=λ_ _ h=>aHa h)))
  (aH (aK (aDp (mD (opEq (aT hr)) (aD 11) (aI ((vU 50 T).mono (by lia)) hr T.m_33 T.k_33 T.b_33 (aC (aD 0) (aC (aD 1) aG)) (hlen:=λ_ _ h=>jU h)) (nomark _)) (aKl (mD (opEq (aT hr)) (aI ((yP 50 T).mono (by lia)) hr T.m_16 T.k_16 T.b_16 (aC (aD 11) aG) (hlen:=λ_ _ h=>kX h)) (aI ((wQ 50 T).mono (by lia)) hr T.m_32 T.k_32 T.b_32 (aC (aD 11) aG) (hlen:=λ_ _ h=>mI h)) (nomark _)))))))))))))))
theorem aEa(T:Tx K mg a):FnOk P w K mg base CX0 52 a.a_35 a.d_35 aIR (spF K Z0 2 lS) :=
 bI (k:=51) T.f_35 kE λcdv A outer s H E hr=>show Ess _ K Z0 (defBody fJ) b_35 from
  (aE (aR (i:=2) kE.nd (aI ((rZ 50 T).mono (by lia)) hr T.m_30 T.k_30 T.b_30 (aC (aD 0) (aC (aD 1) (aC aF (aC aF aG)))) (hlen:=λ_ _ h=>jY h)))
  (aE (lF aBZ rfl (jS T.z_range aF) (aP (i:=3) kE.nd)
  (aE (aR (i:=4) kE.nd (aI ((rZ 50 T).mono (by lia)) hr T.m_30 T.k_30 T.b_30 (aC (aD 0) (aC (aD 1) (aC aF (aC aF aG)))) (hlen:=λ_ _ h=>jY h)))
  (aH (aR (i:=2) kE.nd (aS opAdd (aV (aC aM aG)) (aJ (nG (aC (aV (aC (aD 2) (aC (aD 4) aG))) (aC (aV (aC (aD 4) (aC (aD 2) aG))) aG))) (aI ((bC T).mono (by lia)) hr T.m_2c T.k_2c T.b_2c (aC (aD 0) (aC aF aG)) (hlen:=λ_ _ h=>bA h))))))))
  (aH (aK (aD 2)))))
theorem aEm(T:Tx K mg a):FnOk P w K mg base CX0 55 a.a_36 a.d_36 aIS (spF K Z0 3 lV) :=
 bI (k:=54) T.f_36 vH λcdv A outer s H E hr=>show Ess _ K Z0 (defBody eO) b_36 from
  (aE (aR (i:=3) vH.nd (dW callTup rfl T.z_tuple hX (aC (gX rfl (CompOk.of (N0:=aJB) (sc0:=defScope eO) (Nc:=aJE) (js:=[none,some 0,some 2]) (by decide +kernel)) (jS T.z_range (aS opAdd aF (aI ((bC T).mono (by lia)) hr T.m_2c T.k_2c T.b_2c (aC (aD 0) (aC aF aG)) (hlen:=λ_ _ h=>bA h)))) (λ_ _ _ _ _ _=>(aP (i:=0) (show(aJE:List Str).Nodup by decide +kernel))) (λ_ _ _ _ _ _=>eW) (λ_ _ _ _ _ _=>(aV (aC aM (aC (aI ((bC T).mono (by lia)) hr T.m_2c T.k_2c T.b_2c (aC (aD 1) (aC (aD 2) aG)) (hlen:=λ_ _ h=>bA h)) aG))))) aG)))
  (aH (aK (aI ((aPd 50 T).mono (by lia)) hr T.m_27 T.k_27 T.b_27 (aC (aD 1) (aC (aV (aC aM (aC (aS opAdd aF (aI ((bC T).mono (by lia)) hr T.m_2c T.k_2c T.b_2c (aC (aD 0) (aC aF aG)) (hlen:=λ_ _ h=>bA h))) (aC (aD 3) aG)))) aG)) (hlen:=λ_ _ h=>nT h)))))
theorem aPv(T:Tx K mg a):FnOk P w K mg base CX0 107 a.a_37 a.d_37 aIT (spF K Z0 1 tS) :=
 bI (k:=106) T.f_37 kG λcdv A outer s H E hr=>show Ess _ K Z0 (defBody mW) b_37 from
  (aE (lF aBZ rfl (jS T.z_range (bB (callMax2 rfl) rfl T.z_max aCu (aC aF (aC (bB (callMin2 rfl) rfl T.z_min aRo (aC aF (aC (bB callLen rfl T.z_len aAW (aC (aD 0) aG)) aG))) aG)))) (aP (i:=1) kG.nd)
  (aE (aR (i:=2) kG.nd (aI ((aLn T).mono (by lia)) hr T.m_2b T.k_2b T.b_2b (aC (aD 0) (aC (aD 1) aG)) (hlen:=λ_ _ h=>aHj h)))
  (aE (aIp (i:=3) (j:=4) (k:=5) rfl kG.nd (aC (aI ((aTa T).mono (by lia)) hr T.m_2d T.k_2d T.b_2d (aC (aD 2) aG) (hlen:=λ_ _ h=>aNa h)) (aC (aS opAdd aF (aI ((bC T).mono (by lia)) hr T.m_2c T.k_2c T.b_2c (aC (aD 2) (aC aF aG)) (hlen:=λ_ _ h=>bA h))) (aC (uN rfl T.z_list T.z_range (aS opAdd aF (aI ((bC T).mono (by lia)) hr T.m_2c T.k_2c T.b_2c (aC (aD 2) (aC aF aG)) (hlen:=λ_ _ h=>bA h)))) aG))))
  (aE (aR (i:=6) kG.nd (aI ((oX T).mono (by lia)) hr T.m_2f T.k_2f T.b_2f (aC (aD 2) (aC (aD 3) (aC (bB callLen rfl T.z_len aAW (aC (aD 5) aG)) aG))) (hlen:=λ_ _ h=>nQ h)))
  (aE (aR (i:=7) kG.nd (dW callTup rfl T.z_tuple hX (aC (gX rfl (CompOk.of (N0:=aJC) (sc0:=defScope mW) (Nc:=aJF) (js:=[none,some 5,some 2]) (by decide +kernel)) (jS T.z_range aF) (λ_ _ _ _ _ _=>(aP (i:=0) (show(aJF:List Str).Nodup by decide +kernel))) (λ_ _ _ _ _ _=>eW) (λ_ _ _ _ _ _=>(aIi (aD 1) (aI ((bC T).mono (by lia)) hr T.m_2c T.k_2c T.b_2c (aC (aD 2) (aC (bB callLen rfl T.z_len aAW (aC (aD 1) aG)) aG)) (hlen:=λ_ _ h=>bA h))))) aG)))
  (aE (lE (i:=8) (j:=9) rfl kG.nd (aC (aI ((rZ 50 T).mono (by lia)) hr T.m_30 T.k_30 T.b_30 (aC (aD 2) (aC (aD 4) (aC aF (aC aF aG)))) (hlen:=λ_ _ h=>jY h)) (aC (aI ((bC T).mono (by lia)) hr T.m_2c T.k_2c T.b_2c (aC (aD 2) (aC aF aG)) (hlen:=λ_ _ h=>bA h)) aG)))
  (aE (aY (mJ (rD (aO (opEq (aT hr)) (aD 1) aF (nomark _)) (oF (aO (opEq (aT hr)) (aD 9) aF (nomark _)))))
  (aH (aR (i:=8) kG.nd (aI ((aEa T).mono (by lia)) hr T.m_35 T.k_35 T.b_35 (aC (aD 2) (aC (aD 4) aG)) (hlen:=λ_ _ h=>aAo h))))
  aN)
  (aE (aY (aO (opEq (aT hr)) (aD 9) aF (nomark _))
  (aE (aR (i:=3) kG.nd (aJ (nG (aC aF (aC aF (aC aF (aC aF aG))))) (aI ((bC T).mono (by lia)) hr T.m_2c T.k_2c T.b_2c (aC (aD 2) (aC aF aG)) (hlen:=λ_ _ h=>bA h))))
  (aE (aR (i:=6) kG.nd (aI ((oX T).mono (by lia)) hr T.m_2f T.k_2f T.b_2f (aC (aD 2) (aC (aD 3) (aC (bB callLen rfl T.z_len aAW (aC (aD 6) aG)) aG))) (hlen:=λ_ _ h=>nQ h)))
  (aH (aR (i:=8) kG.nd (aI ((aEm T).mono (by lia)) hr T.m_36 T.k_36 T.b_36 (aC (aD 2) (aC (aD 3) (aC (aD 4) aG))) (hlen:=λ_ _ h=>aBh h))))))
  aN)
  (aH (aY (pF (jE (aI ((aCt T).mono (by lia)) hr T.m_34 T.k_34 T.b_34 (aC (aD 3) (aC (aD 8) (aC (aD 7) (aC (aI ((oX T).mono (by lia)) hr T.m_2f T.k_2f T.b_2f (aC (aD 2) (aC (aD 3) (aC (aD 4) aG))) (hlen:=λ_ _ h=>nQ h)) (aC (aD 6) aG))))) (hlen:=λ_ _ h=>aBi h))))
  (aH (aK iC))
  aN))))))))))
  (aH (aK iC)))
open PySem L2 EV LS
local macro_rules | `(tactic| rfl') => `(tactic| repeat decreasing_trivial_pre_omega)
local macro_rules | `(tactic| decreasing_trivial_pre_omega) => `(tactic| with_reducible first
 | apply iH
 | apply aEf
 | apply sA
 | apply aUa
 | refine aNi (by with_unfolding_all exact rfl) ?_
 | apply aLb
 | apply aVi
 | apply aUv
 | apply aPt
 | apply aPp
 | apply jV
 | apply aUm
 | apply aEc
 | apply aUt
 | apply aVc
 | apply aNb
 | apply aTm
 | apply aQn
 | apply aSc
 | (refine aKh ?hz ?_; case hz=>(with_unfolding_all first | exact rfl | decide | ((try simp only [aAU,true_and,and_true,aAL,aBA,List.length_nil,aAT,aFV]) <;> lia)))
 | (refine zR ?hz ?_; case hz=>(with_unfolding_all first | decide | ((try simp only [mulOk,aAU,aAL,aBA,List.length_nil,aAT,aFV]) <;> lia)))
 | apply aTi
 | apply aTl
 | apply aUn
 | apply aMf
 | apply aQv
 | refine kL (by with_unfolding_all exact rfl) ?_
 | refine dX (by with_unfolding_all exact rfl) ?_
 | refine aEv (by with_unfolding_all exact rfl) ?_
 | refine aKn (by assumption) (by with_unfolding_all exact rfl) ?_
 | refine aKn (aBV (by simpa only [List.length_set])) (by with_unfolding_all exact rfl) ?_
 | apply yK
 | apply aOr
 | apply aEj
 | apply aUx
 | apply aNy
 | apply aUs
 | apply aSe
 | refine aQm (by with_unfolding_all exact rfl) (by with_unfolding_all simp) ?_
 | refine aSb (by with_unfolding_all exact rfl) (by with_unfolding_all simp) ?_
 | refine aTf (by with_unfolding_all exact rfl) (by with_unfolding_all simp) ?_
 | apply aMz
 | apply aMx
 | apply aNp
 | apply aOt
 | refine yW (by assumption) ?_
 | apply aQd
 | apply aSx
 | apply aUu
 | apply aQi
 | apply aSo
 | apply aJs
 | apply aRp
 | apply aRd
 | apply aQq
 | refine aUi (s:=⟨[],none⟩) ?_
 | apply aSs
 | apply aPi
 | apply aKv
 | apply aRs
 | apply aOh
 | apply aLa
 | apply aUf
 | apply aUk
 | apply aFl
 | apply aTe
 | apply aNr
 | apply aPf
 | apply aTy
 | apply aRw
 | apply aRn
 | apply aNc
 | refine aUl (by with_unfolding_all exact rfl) ?_
 | refine aTo (by with_unfolding_all exact rfl) ?_
 | refine ⟨_,rfl,?_⟩
 | refine ⟨_,_,_,_,rfl,rfl,by assumption,by with_unfolding_all exact rfl,?_⟩
 | refine ⟨_,_,_,_,rfl,rfl,aBV (by simpa only [List.length_set]),by with_unfolding_all exact rfl,?_⟩
 | refine nD (by with_unfolding_all decide) ?_
 | refine eZ (by with_unfolding_all decide) ?_
 | refine ⟨fun h=>absurd h (by with_unfolding_all decide),fun _=>?_⟩
 | refine ⟨fun _=>?_,fun h=>absurd h (by with_unfolding_all decide)⟩
 | refine ⟨_,_,rfl,?_⟩
 | refine ⟨_,_,_,rfl,?_⟩)
theorem bE{b:Nat}{m:Int}(h:Bx M b)(h0:0 < m)(h1:m < 18446744073709551616):Ok (bF [.ref b,.d (.int m)] M) λw M'=>∃d:Int,w=.d (.int d)/\0<=d/\d < m/\Nx b M M':=by
 have hb:=h.lt
 obtain⟨x,y,z,e⟩:=h
 refine aX rfl ?_
 unfold b_2c
 rfl'
 refine iJ (λhx=>?_) (λhx=>?_)
 ·rfl'
  refine⟨aBM _ (by lia),aAY _ h0,x / m,y,z,?_⟩
  rw[aAS (by simp)];rfl
 ·rfl'
  refine⟨aBM _ (by lia),aAY _ h0,?_⟩
  rw[aAS (by simp)]
  exact⟨_,_,_,by rw[aCM];rfl⟩
theorem aIr{k:Int}(h0:0<=k)(hl:ns.length<=63):Ok (sW [.d (.fz (ns.map D.int)),.d (.int k)] M) λw M'=>∃x y z,w=.ref M.length/\M'=M++[[.int x,.int y,.int z]]:=by
 refine aRy rfl ?_
 have at_:∀i:Int,0<=i->i < (ns.length:Int)->∃n,atI (ns.map D.int) i=some (.int n):=λi a b=>by
  have hi:i.toNat < ns.length:=by lia
  refine⟨ns[i.toNat],?_⟩
  simp only[atI,ixN,aAL]
  rw[aAJ a,aAJ b]
  simp[hi]
 unfold b_2b
 rfl'
 refine iJ (λhx=>?_) (λhx=>?_)
 ·rw[aAL]at hx
  obtain⟨n,e⟩:=at_ k h0 hx
  rfl'
  refine aEv e ?_
  rfl'
  refine dX (atBox _) ?_
  rfl'
  exact⟨M.length,[.int _,.int _,.int _],rfl,aAH _,aEQ,_,_,_,rfl,by rw[aGN]⟩
 ·rfl'
  refine iJ (λhy=>?_) (λhy=>?_)
  ·rw[aAL]at hy
   obtain⟨n,e⟩:=at_ (k % ns.length) (aBM _ (by lia)) (aAY _ hy)
   rfl'
   rw[aAL]
   refine aEv e ?_
   rfl'
   refine dX (atBox _) ?_
   rfl'
   exact⟨M.length,[.int _,.int _,.int _],rfl,aAH _,aEQ,_,_,_,rfl,by rw[aGN]⟩
  ·rfl'
   refine dX (atBox _) ?_
   rfl'
   exact⟨M.length,[.int _,.int _,.int _],rfl,aAH _,aEQ,_,_,_,rfl,by rw[aGN]⟩
theorem aFn{xs:List Nat}{j:Nat}(h:∀c∈xs.take j,isF c=true)(hj:j<=xs.length)(he:∀c,xs[j]?=some c->isF c=false):(xs.takeWhile isF).length=j:=by
 have e:xs=xs.take j++xs.drop j:=(List.take_append_drop j xs).symm
 have hs:calm (xs.drop j):=λc hc=>he c (by rw[List.head?_drop]at hc;exact hc)
 have t:=(uP h hs).1
 rw[<- e]at t
 rw[t,aDY];lia
theorem figs(c:Nat):(!(Builtin.Str.occurrences (Str.ofString "0123456789") (T [c]) 0 (Str.ofString "0123456789").length 1).isEmpty)=isF c:=by
 rw[show T [c]=⟨#[c]⟩from rfl,StrLaws.found_one,eL]
 have:(T ("0123456789".toList.map Char.toNat)).cps.toList=List.range' 48 10:=by decide
 rw[this]
 unfold isF
 congr 1
 apply propext
 rw[List.mem_range'_1]
 exact⟨λh=>⟨h.1,Nat.le_of_lt_succ h.2⟩,λh=>⟨h.1,Nat.lt_succ_of_le h.2⟩⟩
variable{a:Nat}
theorem iN(hz:l.length<=16777216)(ha:a<=l.length):Ok (eH [.d (.str (T l)),.d (.int a)] M) λw M'=>w=.d (.int ((a+((l.drop a).takeWhile isF).length:Nat):Int))/\M'=M:=by
 unfold eH
 refine aX rfl ?_
 unfold b_14
 rfl'
 refine(rJ (QS:=λo M'=>M'=M/\o=.nx [some (.d (.str (T l))),some (.d (.int a)),some (.d (.int ((a+((l.drop a).takeWhile isF).length:Nat):Int)))]) (I:=λm L M'=>∃j:Nat,m=l.length - (a+j)/\a+j<=l.length/\(∀c∈(l.drop a).take j,isF c=true)/\M'=M/\L=[some (.d (.str (T l))),some (.d (.int a)),some (.d (.int ((a+j:Nat):Int)))]) ?_ NW (l.length - a) _ _ ⟨0,by lia,by lia,by simp,rfl,by simp⟩ (by rw[aKr];lia)).mono ?_
 ·rintro m L M' ⟨j,rfl,hj,hf,rfl,rfl⟩
  have hd:(l.drop a).length=l.length - a:=by simp
  rfl'
  refine qV (by rw[cU];exact hz) ?_
  rw[cU]
  rfl'
  refine⟨λh=>?_,λh=>?_⟩
  ·have hlt:a+j < l.length:=by have:=aDD h;lia
   have hat:atI l ((a+j:Nat):Int)=some l[a+j]:=by
    simp only[atI,ixN]
    rw[aAJ (by lia),aAJ (by lia)]
    rw[aBP];simp[hlt]
   rfl'
   refine aDa hat hz ?_
   rfl'
   rw[figs]
   have hjd:(l.drop a)[j]?=some l[a+j]:=by rw[List.getElem?_drop];simp[hlt]
   refine⟨λhc=>?_,λhc=>⟨rfl,?_⟩⟩
   ·refine aAa rfl (aLb (aKh rfl ?_))
    refine⟨l.length - (a+(j+1)),by lia,j+1,rfl,by lia,?_,rfl,by simp;lia⟩
    intro c hc'
    rw[aBU,hjd]at hc'
    rcases aBN.mp hc' with hc'|hc'
    ·exact hf c hc'
    ·simp at hc';subst hc';exact hc
   ·rw[aFn hf (by lia) (λc hc'=>by rw[hjd]at hc';cases hc';exact hc)]
  ·have hge:l.length<=a+j:=by have:=aFF h;lia
   refine⟨λh=>(by cases h),λ_=>⟨rfl,?_⟩⟩
   rw[aFn hf (by lia) (λc hc'=>by rw[aCL (by lia)]at hc';cases hc')]
 ·rintro _ _ ⟨rfl,rfl⟩
  rfl'
  exact⟨rfl,aAD⟩
theorem aBo:(l.takeWhile isF).length < l.length ↔ ¬l.all isF=true:=by
 induction l with
 |nil=>simp
 |cons c r ih =>
  rw[aCX]
  by_cases h:isF c=true
  ·simp only[h,aCQ,aBA,aEC,Bool.true_and]
   rw[<- ih];lia
  ·simp[h]
def optI:Option Nat->D
 |some n=>.int n
 |none=>.non
theorem fO(hz:l.length<=16777216)(hm:m<=640):Ok (eE [.d (.str (T l)),.d (.int m)] M) λw M'=>w=.d (optI (num? m l))/\M'=M:=by
 unfold eE
 refine aX rfl ?_
 unfold b_15
 refine iH (jV (Ok.mono (Q:=λc M'=>M'=M/\(c=true ↔ (l=[]\/m < l.length))) ?_ ?_))
 ·rfl'
  have e:(T l==Str.ofString "")=decide (l=[]):=by rw[eL,lL];rfl
  rw[e]
  refine⟨λh=>⟨rfl,by simp at h;simp[h]⟩,λh=>?_⟩
  rfl'
  refine qV (by rw[cU];exact hz) ?_
  rw[cU]
  rfl'
  refine⟨rfl,?_⟩
  simp only[decide_eq_false_iff_not]at h
  simp[h]
 rintro c M ⟨rfl,hc⟩
 refine aBx (λh=>?_) (λh=>?_)
 ·have:=hc.mp h
  rfl'
  rw[aAD]
  refine⟨?_,rfl⟩
  unfold num?
  rw[aAJ (by rcases this with h|h <;> simp[h])];rfl
 have h1:¬(l=[]\/m < l.length):=λz=>by rw[hc.mpr z]at h;cases h
 clear hc h
 rfl'
 refine(iN (l:=l) (a:=0) hz (by lia)).mono ?_
 rintro _ M ⟨rfl,rfl⟩
 rfl'
 refine qV (by rw[cU];exact hz) ?_
 rw[cU]
 rfl'
 refine iJ (λh=>?_) (λh=>?_)
 ·have h2:¬l.all isF=true:=aBo.mp (by simp only[aDJ]at h;lia)
  rfl'
  rw[aAD]
  refine⟨?_,rfl⟩
  unfold num?
  rw[aAJ (by simp[h2])];rfl
 have h2:l.all isF=true:=Classical.byContradiction λz=>h (by have:=aBo.mpr z;simp only[aDJ];lia)
 refine aEc ?_
 obtain⟨c,r,rfl⟩:∃c r,l=c::r:=by
  cases l with
  |nil=>simp at h1
  |cons c r=>exact⟨c,r,rfl⟩
 refine iH (jV (Ok.mono (Q:=λb M'=>M'=M/\(b=true ↔ (c=48/\1 < (c::r).length))) ?_ ?_))
 ·rfl'
  refine aDa (c:=c) (by simp[atI,ixN]) hz ?_
  rfl'
  have e:(T [c]==Str.ofString "0")=decide (c=48):=by rw[eL,lL];simp
  rw[e]
  refine⟨λh=>?_,λh=>⟨rfl,?_⟩⟩
  ·rfl'
   refine qV (by rw[cU];exact hz) ?_
   rw[cU]
   rfl'
   refine⟨rfl,?_⟩
   simp only[aAU]at h ⊢
   constructor
   ·intro z;exact⟨h,by lia⟩
   ·rintro⟨_,z⟩;lia
  ·simp only[decide_eq_false_iff_not]at h
   simp[h]
 rintro b M ⟨rfl,hb⟩
 refine aBx (λh=>?_) (λh=>?_)
 ·have:=hb.mp h
  rfl'
  rw[aAD]
  refine⟨?_,rfl⟩
  unfold num?
  rw[aAJ (.inr (.inr (.inr ⟨by simp[this.1],this.2⟩)))];rfl
 have h3:¬(c=48/\1 < (c::r).length):=λz=>by rw[hb.mpr z]at h;cases h
 have e:num? m (c::r)=some (NumText.digitsVal (c::r)):=by
  unfold num?
  rw[aAI]
  rintro(z|z|z|⟨z,z'⟩)
  ·exact h1 (.inl z)
  ·exact h1 (.inr z)
  ·exact z h2
  ·simp at z;exact h3 ⟨z,z'⟩
 obtain⟨i1,i2⟩:=tN e hm
 rfl'
 refine aNh i1 (by rw[cU];exact i2) ?_
 rfl'
 rw[e,aAD]
 exact⟨rfl,rfl⟩
theorem jX(s:String)(c:Nat)(h:s.toList.map Char.toNat=[c]):Str.ofString s=T [c]:=by rw[eL,h]
theorem pR(l:List α)(a:Nat):cut l (some (a:Int)) none=l.drop a:=by
 unfold cut
 rw[HT.sIx_nat,HT.sIx_none]
 by_cases ha:a<=l.length
 ·rw[show min a l.length=a by lia,aAS (by simp)]
 ·rw[show min a l.length=l.length by lia,aCI (aAH _),aCI (by lia)]
  simp
theorem aLd(l:List α)(a:Nat):cut l none (some (a:Int))=l.take a:=by
 unfold cut
 rw[HT.sIx_nat,HT.sIx_none,aDJ,Nat.sub_zero]
 by_cases ha:a<=l.length
 ·rw[show min a l.length=a by lia]
 ·rw[show min a l.length=l.length by lia,aAD,aAS (by lia)]
variable{c:Nat}
theorem gH{w:List Nat}(hz:w.length<=16777216):Ok (cW [.d (.str (T [c])),.d (.str (T w))] M) λr M'=>r=.d (optI (nb c w))/\M'=M:=by
 unfold cW
 refine aX rfl ?_
 unfold b_23
 rfl'
 refine wK ?_
 rw[aAs]
 rfl'
 refine vC (λh=>?_) (λh=>?_)
 ·rfl'
  refine pA hz ?_
  rw[show(1:Int)=((1:Nat):Int)from rfl,pR]
  rfl'
  refine(fO (m:=7) (by simp;lia) (by lia)).mono ?_
  rintro _ M ⟨rfl,rfl⟩
  rfl'
  rw[aAD]
  unfold nb
  rw[aAJ h]
  exact⟨rfl,rfl⟩
 ·rfl'
  rw[aAD]
  unfold nb
  rw[aAI h]
  exact⟨rfl,rfl⟩
def wordsD(ws:List (List Nat)):List D:=ws.map λw=>.str (T w)
theorem aKm{xs:List (List Nat)}{j:Nat}(h:∀c∈xs.take j,hx c=true)(hj:j<=xs.length)(he:∀c,xs[j]?=some c->hx c=false):(xs.takeWhile hx)=xs.take j/\xs.dropWhile hx=xs.drop j:=by
 induction xs generalizing j with
 |nil=>simp
 |cons x r ih =>
  cases j with
  |zero =>
   have:=he x rfl
   simp[aCX,aDF,this]
  |succ j =>
   have hx':=h x (by simp)
   have:=ih (j:=j) (λc hc=>h c (by simp[hc])) (by simp at hj;lia) (λc hc=>he c (by simpa using hc))
   simp[aCX,aDF,hx',this]
theorem rC:(os.map optI).any noD=(allS os).isNone:=by
 induction os with
 |nil=>rfl
 |cons o r ih =>
  cases o with
  |none=>rfl
  |some n =>
   simp only[aBC,aDQ,ih,allS,Option.isNone_map]
   rfl
variable{xs:List Nat}
theorem xP(h:allS os=some xs):os.map optI=xs.map λk=>D.int (k:Nat):=by
 induction os generalizing xs with
 |nil=>cases h;rfl
 |cons o r ih =>
  cases o with
  |none=>cases h
  |some n =>
   simp only[allS,aAN]at h
   obtain⟨ys,h,rfl⟩:=h
   simp only[aBC,ih h];rfl
def optD:Option Dd->D
 |some d=>encD d
 |none=>.non
theorem uL(os:List (Option Nat)):deps (os.map optI)<=1:=by
 induction os with
 |nil=>simp[deps]
 |cons o r ih=>cases o <;> simp[deps,optI,dep] <;> lia
def gW(c:Nat):D->D
 |.str t=>optI (nb c t.cps.toList)
 |_=>.non
theorem xD(c:Nat)(ws:List (List Nat)):(wordsD ws).map (gW c)=(ws.map (nb c)).map optI:=by
 simp[wordsD,gW,T]
theorem vV{s:Nat}{ws:List (List Nat)}(hl:ws.length<=16777216)(hz:∀w∈ws,w.length<=16777216):Ok (jZ [.d (.int s),.d (.int c),.d (.lst (wordsD ws))] M) λr M'=>r=.d (optD (rdA s c ws))/\M'=M:=by
 unfold jZ
 refine aX rfl ?_
 unfold b_22
 rfl'
 refine(rJ (QS:=λo M'=>M'=M/\∃j:Nat,o=.nx [some (.d (.int s)),some (.d (.int c)),some (.d (.lst (wordsD ws))),some (.d (.int j)),none,none]/\ws.takeWhile hx=ws.take j/\ws.dropWhile hx=ws.drop j) (I:=λm L M'=>∃j:Nat,m=ws.length - j/\j<=ws.length/\(∀c∈ws.take j,hx c=true)/\M'=M/\L=[some (.d (.int s)),some (.d (.int c)),some (.d (.lst (wordsD ws))),some (.d (.int j)),none,none]) ?_ NW ws.length _ _ ⟨0,by lia,by lia,by simp,rfl,by simp⟩ (by rw[aKr];lia)).mono ?_
 ·rintro m L M' ⟨j,rfl,hj,hf,rfl,rfl⟩
  rfl'
  refine⟨λh=>?_,λh=>?_⟩
  ·have hlt:j < ws.length:=by have:=aDD h;simp[wordsD]at this;lia
   have hat:atI (wordsD ws) (j:Int)=some (.str (T ws[j])):=by
    simp only[atI,ixN]
    rw[aAJ (by lia),aAJ (by simp[wordsD];lia)]
    rw[aBP];simp[wordsD,hlt]
   rfl'
   refine dX hat ?_
   rfl'
   rw[jX "x" 120 rfl]
   refine wK ?_
   rw[aAs]
   have hjd:ws[j]?=some ws[j]:=by simp[hlt]
   rfl'
   refine⟨λhc=>?_,λhc=>⟨rfl,j,rfl,?_⟩⟩
   ·refine aAa rfl (aLb (aKh rfl ?_))
    refine⟨ws.length - (j+1),by lia,j+1,rfl,by lia,?_,rfl,by simp⟩
    intro c hc'
    rw[aBU,hjd]at hc'
    rcases aBN.mp hc' with hc'|hc'
    ·exact hf c hc'
    ·simp at hc';subst hc';exact hc
   ·exact aKm hf (by lia) (λc hc'=>by rw[hjd]at hc';cases hc';exact hc)
  ·have hge:ws.length<=j:=by have:=aFF h;simp[wordsD]at this;lia
   refine⟨λh=>(by cases h),λ_=>⟨rfl,j,rfl,?_⟩⟩
   exact aKm hf (by lia) (λc hc'=>by rw[aCL (by lia)]at hc';cases hc')
 ·rintro _ M ⟨rfl,j,rfl,e1,e2⟩
  have ht:ws.takeWhile hx ⊆ ws:=(List.takeWhile_sublist hx).subset
  have hd:ws.dropWhile hx ⊆ ws:=(List.dropWhile_sublist hx).subset
  have lt:(ws.takeWhile hx).length<=ws.length:=(List.takeWhile_sublist hx).length_le
  have ld:(ws.dropWhile hx).length<=ws.length:=(List.dropWhile_sublist hx).length_le
  rfl'
  refine nP ?_
  rfl'
  refine sV ?_
  rw[aLd,show(wordsD ws).take j=wordsD (ws.takeWhile hx) by rw[e1];simp[wordsD]]
  refine⟨_,rfl,gW 120,by simp only[wordsD,aAL];lia,(λt e=>by cases e),?_,?_⟩
  ·intro d hd' acc
   obtain⟨w,hw,rfl⟩:=aBK.mp hd'
   rfl'
   rw[jX "x" 120 rfl]
   exact gH (hz w (ht hw))
  rw[xD]
  rfl'
  refine nP ?_
  rfl'
  refine sV ?_
  rw[pR,show(wordsD ws).drop j=wordsD (ws.dropWhile hx) by rw[e2];simp[wordsD]]
  refine⟨_,rfl,gW 115,by simp only[wordsD,aAL];lia,(λt e=>by cases e),?_,?_⟩
  ·intro d hd' acc
   obtain⟨w,hw,rfl⟩:=aBK.mp hd'
   rfl'
   rw[jX "s" 115 rfl]
   exact gH (hz w (hd hw))
  rw[xD]
  have q1:=uL ((ws.takeWhile hx).map (nb 120))
  have q2:=uL ((ws.dropWhile hx).map (nb 115))
  refine sA (iH (jV ?_))
  unfold rdA
  rfl'
  refine aEt (xs:=((ws.takeWhile hx).map (nb 120)).map optI) rfl (by lia) ?_
  rw[rC]
  cases h1:allS ((ws.takeWhile hx).map (nb 120))with
  |none =>
   rfl'
   rw[aAD]
   exact⟨rfl,rfl⟩
  |some gs =>
   rw[aGX]
   rfl'
   refine aEt (xs:=((ws.dropWhile hx).map (nb 115)).map optI) rfl (by lia) ?_
   rw[rC]
   cases h2:allS ((ws.dropWhile hx).map (nb 115))with
   |none =>
    rfl'
    rw[aAD]
    exact⟨rfl,rfl⟩
   |some ts =>
    rw[xP h1,xP h2,aGX]
    rfl'
    refine kY rfl ?_
    rfl'
    refine kY rfl ?_
    rfl'
    rw[aAD]
    exact⟨rfl,rfl⟩
theorem rG{xs:List D}{k:Nat}{d:D}(h:xs[k]?=some d):atI xs (k:Int)=some d:=by
 have:=(aAC.mp h).1
 simp only[atI,ixN]
 rw[aAJ (by lia),aAJ (by lia),aBP];exact h
theorem uC(hz:l.length < 16777216):Ok (jA [.d (.str (T l))] M) λr M'=>r=.d (optD (rdD (spl 32 l)))/\M'=M:=by
 have hw:∀w∈spl 32 l,w.length<=16777216:=λw h=>by have:=mZ h;lia
 have hn:=zH 32 l
 unfold jA
 refine aX rfl ?_
 unfold b_21
 rfl'
 rw[jX " " 32 rfl]
 refine uD (by rw[cU];decide) (by rw[cU];exact hz) ?_
 rw[rW,aCA,show(spl 32 l).map (D.str ∘ T)=wordsD (spl 32 l)from rfl]
 generalize spl 32 l=ws at *
 rfl'
 rw[show(wordsD ws).length=ws.length by simp[wordsD]]
 match ws,hw,hn with
 |[],_,_ =>
  refine nD (by simp) ?_
  rfl'
  rw[aAD]
  exact⟨rfl,rfl⟩
 |[_],_,_ =>
  refine nD (by simp) ?_
  rfl'
  rw[aAD]
  exact⟨rfl,rfl⟩
 |[_,_],_,_ =>
  refine nD (by simp) ?_
  rfl'
  rw[aAD]
  exact⟨rfl,rfl⟩
 |w0::w1::w2::r,hw,hn =>
  refine eZ (by simp;lia) ?_
  rfl'
  rw[jX "s" 115 rfl]
  simp only[wordsD,aBC]
  rfl'
  refine dX (rG (k:=0) rfl) ?_
  rfl'
  refine(gH (hw w0 (by simp))).mono ?_
  rintro _ M ⟨rfl,rfl⟩
  rfl'
  refine dX (rG (k:=2) rfl) ?_
  rfl'
  refine(fO (m:=7) (hw w2 (by simp)) (by lia)).mono ?_
  rintro _ M ⟨rfl,rfl⟩
  cases h0:nb 115 w0 with
  |none =>
   rfl'
   rw[aAD]
   exact⟨by simp only[rdD,h0];rfl,rfl⟩
  |some s =>
   rw[show optI (some s)=.int s from rfl]
   cases h2:num? 7 w2 with
   |none =>
    rfl'
    refine⟨λh=>by simp[isN]at h,λ_=>?_⟩
    rfl'
    rw[aAD]
    exact⟨by simp only[rdD,h0,h2];rfl,rfl⟩
   |some c =>
    rw[show optI (some c)=.int c from rfl]
    rfl'
    refine⟨λh=>by simp[isN]at h,λ_=>?_⟩
    rfl'
    refine eZ (by simp[isN]) ?_
    rfl'
    refine dX (rG (k:=1) rfl) ?_
    rfl'
    rw[jX "*" 42 rfl,lL]
    by_cases h1:w1=[42]
    ·subst h1
     refine⟨λ_=>?_,λh=>by simp at h⟩
     cases r with
     |nil =>
      rfl'
      refine nD (by simp) ?_
      rfl'
      rw[aAD]
      exact⟨by simp only[rdD,h0,h2];rfl,rfl⟩
     |cons x r =>
      rfl'
      refine eZ (by simp;lia) ?_
      rfl'
      refine dX (rG (k:=1) rfl) ?_
      rfl'
      rw[aAD]
      exact⟨by simp only[rdD,h0,h2];rfl,rfl⟩
    ·refine⟨λh=>absurd (aDD h) h1,λ_=>?_⟩
     rfl'
     refine dX (rG (k:=1) rfl) ?_
     rfl'
     rw[jX "+" 43 rfl,lL]
     refine iJ (λh3=>?_) (λh3=>?_)
     ·subst h3
      rfl'
      refine sV ?_
      rw[show(3:Int)=((3:Nat):Int)from rfl,pR]
      rfl'
      refine(vV (ws:=r) (by simp at hn;lia) (λw h=>hw w (by simp[h]))).mono ?_
      rintro _ M ⟨rfl,rfl⟩
      cases hr:rdA s c r with
      |none =>
       rfl'
       rw[aAD]
       refine⟨?_,rfl⟩
       simp only[rdD,h0,h2]
       rw[aAI (λz=>h1 z.1),aAJ trivial,hr]
      |some d =>
       rw[show optD (some d)=encD d from rfl]
       rfl'
       rw[aAD]
       refine⟨?_,rfl⟩
       simp only[rdD,h0,h2]
       rw[aAI (λz=>h1 z.1),aAJ trivial,hr];rfl
     ·rfl'
      rw[aAD]
      refine⟨?_,rfl⟩
      simp only[rdD,h0,h2]
      rw[aAI (λz=>h1 z.1),aAI h3];rfl
theorem uR:∀xs ys:List (List Nat),eqDs (wordsD xs) (wordsD ys)=decide (xs=ys)
 |[],[]=>rfl
 |[],_::_=>rfl
 |_::_,[]=>rfl
 |x::xs,y::ys=>by
  show(T x==T y&&eqDs (wordsD xs) (wordsD ys))=_
  rw[lL,uR xs ys]
  simp[Bool.decide_and]
theorem uI(xs:List (List Nat)):deps (wordsD xs)<=1:=by
 induction xs with
 |nil=>simp[wordsD,deps]
 |cons x r ih=>simp only[wordsD,aBC,deps,dep]at ih ⊢;lia
theorem dF(x y:α)(r:List α):two 0 (x::y::r)=x::two 0 r:=by
 unfold two
 rw[show((x::y::r).length+1 - 0) / 2=(r.length+1 - 0) / 2+1 by simp only[aBA];lia,aEJ]
 simp only[aCW,aFD]
 rfl
theorem qT(x y:α)(r:List α):two 1 (x::y::r)=y::two 1 r:=by
 unfold two
 rw[show((x::y::r).length+1 - 1) / 2=(r.length+1 - 1) / 2+1 by simp only[aBA];lia,aEJ]
 simp only[aCW,aFD]
 rfl
theorem wO(a:Nat)(ws:List (List Nat)):two a (wordsD ws)=wordsD (two a ws):=by
 unfold two wordsD
 rw[aAL,List.map_filterMap]
 congr 1
 funext k
 simp
theorem xM(a:Nat):two a ([]:List α)=[]:=by simp[two]
theorem yV(x:α):two 0 [x]=[x]:=by
 unfold two
 rw[show([x].length+1 - 0) / 2=0+1 by simp,aEJ]
 rfl
theorem aQj(x:α):two 1 [x]=[]:=by
 unfold two
 rw[show([x].length+1 - 1) / 2=0 by simp]
 rfl
theorem aPe{xs:List α}{x:α}(h:x∈two a xs):x∈xs:=by
 obtain⟨k,_,h⟩:=aGW.mp h
 exact aAZ h
theorem aNt{xs:List α}{a b c:α}(h:two 0 xs=[a,b,c]):∃x y,(xs=[a,x,b,y,c]\/∃z,xs=[a,x,b,y,c,z]):=by
 match xs with
 |[]=>rw[xM]at h;cases h
 |[x]=>rw[yV]at h;cases h
 |[x,y]=>rw[dF,xM]at h;cases h
 |[x,y,z]=>rw[dF,yV]at h;cases h
 |[x,y,z,u]=>rw[dF,dF,xM]at h;cases h
 |[x,y,z,u,v]=>rw[dF,dF,yV]at h;cases h;exact⟨_,_,.inl rfl⟩
 |[x,y,z,u,v,w]=>rw[dF,dF,dF,xM]at h;cases h;exact⟨_,_,.inr ⟨_,rfl⟩⟩
 |[x,y,z,u,v,w,t]=>rw[dF,dF,dF,yV]at h;cases h
 |x::y::z::u::v::w::t::s::r=>rw[dF,dF,dF,dF]at h;cases h
noncomputable def optH:Option (Nat×Nat×Nat)->D
 |some (n,g,s)=>.tup [.int n,.int g,.int s]
 |none=>.non
def gN7:D->D
 |.str t=>optI (num? 7 t.cps.toList)
 |_=>.non
theorem rng3{QT:Bool->Mm->Prop}{a b x:Int}(hf:L[i]?=some (some (.d (.int x))))(q:QT (decide (a<=x/\x<=b)) M):Ok (EV.tB (e3c pLe pLe (eC (.int a)) (eV i) (eC (.int b))) L M) QT:=by
 refine aPp (aJp (aLb (aNi hf ?_)))
 rfl'
 refine⟨λh=>?_,λh=>?_⟩
 ·have h:=aDD h
  rfl'
  simpa[h]using q
 ·have h:=aFF h
  rfl'
  simpa[h]using q
theorem tJ(hz:l.length < 16777216):Ok (iZ [.d (.str (T l))] M) λr M'=>r=.d (optH (rdH (spl 32 l)))/\M'=M:=by
 have hw:∀w∈spl 32 l,w.length<=16777216:=λw h=>by have:=mZ h;lia
 have hn:=zH 32 l
 have hne:=aRb 32 l
 unfold iZ
 refine aX rfl ?_
 unfold b_20
 rfl'
 rw[jX " " 32 rfl]
 refine uD (by rw[cU];decide) (by rw[cU];exact hz) ?_
 rw[rW,aCA,show(spl 32 l).map (D.str ∘ T)=wordsD (spl 32 l)from rfl]
 generalize spl 32 l=ws at *
 rfl'
 refine aFi ?_
 rfl'
 refine aKf (xs:=wordsD ws) rfl (by lia) (by simp[wordsD]) ?_
 rw[wO]
 rfl'
 refine aFh (a:=.lst (wordsD (two 0 ws))) (b:=.lst (wordsD [wRest,wGivens,wShelves])) rfl (by show some (D.lst [D.str (Str.ofString "rest"),D.str (Str.ofString "givens"),D.str (Str.ofString "shelves")])=_;rw[eL,eL,eL];rfl) (by have:=uI (two 0 ws);have:=uI [wRest,wGivens,wShelves];simp only[dep];lia) ?_
 rw[show eqD (.lst (wordsD (two 0 ws))) (.lst (wordsD [wRest,wGivens,wShelves]))=decide (two 0 ws=[wRest,wGivens,wShelves])from uR _ _]
 rfl'
 refine vC (λh=>?_) (λh=>?_)
 ·obtain⟨x,y,e⟩:=aNt h
  rfl'
  refine nP ?_
  rfl'
  refine aFi ?_
  rfl'
  refine aKf (xs:=wordsD ws) rfl (by lia) (by have:=List.length_pos_iff.mpr hne;simp[wordsD];lia) ?_
  rw[show Int.toNat 1=1 from rfl,wO]
  refine⟨_,rfl,gN7,?_,(λt e=>by cases e),?_,?_⟩
  ·have:=aFx 1 ws
   simp only[wordsD,aAL];lia
  ·intro d hd' acc
   obtain⟨w,hw',rfl⟩:=aBK.mp hd'
   rfl'
   exact fO (m:=7) (hw w (aPe hw')) (by lia)
  rcases e with e|⟨z,e⟩
  ·subst e
   rw[qT,qT,aQj,show({ds:=wordsD [x,y],k:=none}:Src).ds.map gN7=[optI (num? 7 x),optI (num? 7 y)]from rfl]
   rfl'
   refine⟨λ_=>?_,λh=>by simp at h⟩
   rfl'
   rw[aAD]
   exact⟨rfl,rfl⟩
  ·subst e
   rw[qT,qT,qT,xM,show({ds:=wordsD [x,y,z],k:=none}:Src).ds.map gN7=[optI (num? 7 x),optI (num? 7 y),optI (num? 7 z)]from rfl]
   have hno:(D.lst [optI (num? 7 x),optI (num? 7 y),optI (num? 7 z)])=.lst ([num? 7 x,num? 7 y,num? 7 z].map optI):=rfl
   have q:=uL [num? 7 x,num? 7 y,num? 7 z]
   refine sA (iH (jV ?_))
   rfl'
   refine⟨λh=>by simp at h,λ_=>?_⟩
   rfl'
   refine aEt (xs:=[num? 7 x,num? 7 y,num? 7 z].map optI) rfl (by lia) ?_
   rw[rC]
   cases hx:num? 7 x with
   |none =>
    refine⟨_,rfl,nD rfl ?_⟩
    rfl'
    rw[aAD]
    exact⟨by simp only[rdH,hx];rfl,rfl⟩
   |some n =>
   cases hy:num? 7 y with
   |none =>
    refine⟨_,rfl,nD rfl ?_⟩
    rfl'
    rw[aAD]
    exact⟨by simp only[rdH,hx,hy];rfl,rfl⟩
   |some g =>
   cases hz':num? 7 z with
   |none =>
    refine⟨_,rfl,nD rfl ?_⟩
    rfl'
    rw[aAD]
    exact⟨by simp only[rdH,hx,hy,hz'];rfl,rfl⟩
   |some s =>
    simp only[allS,aEZ,aGX]
    rw[show optI (some n)=.int n from rfl,show optI (some g)=.int g from rfl,show optI (some s)=.int s from rfl]
    rfl'
    refine aOc ?_
    iterate 9 decreasing_trivial_pre_omega
    refine jV (Ok.mono (Q:=λb M'=>M'=M/\b=decide (¬((2<=n/\n<=1000000)/\g<=8/\1<=s/\s<=9))) ?_ ?_)
    ·refine aEj (yK (rng3 rfl ?_))
     refine⟨λh=>⟨rfl,?_⟩,λh=>?_⟩
     ·simp at h;simp;lia
     have h1:(2:Int)<=n/\(n:Int)<=1000000:=by simpa using h
     refine aEj ?_
     rfl'
     refine⟨λh=>⟨rfl,?_⟩,λh=>?_⟩
     ·simp at h;simp;lia
     have h2:¬(8:Int) < g:=by simpa using h
     refine yK (rng3 rfl ?_)
     refine⟨rfl,?_⟩
     rw[<- decide_not]
     congr 1
     apply propext
     lia
    ·rintro b M' ⟨rfl,rfl⟩
     refine iJ (λh=>?_) (λh=>?_)
     ·rfl'
      rw[aAD]
      refine⟨?_,rfl⟩
      simp only[rdH,hx,hy,hz']
      rw[aAJ (by simp),aAI h];rfl
     ·rfl'
      rw[aAD]
      refine⟨?_,rfl⟩
      simp only[rdH,hx,hy,hz']
      rw[aAJ (by simp),aAJ (Decidable.not_not.mp h)];rfl
 ·rfl'
  rw[aAD]
  refine⟨?_,rfl⟩
  rw[show rdH ws=none from ?_]
  ·rfl
  ·unfold rdH
   split
   ·rw[aAI]
    rintro⟨rfl,rfl,rfl⟩
    exact h (by rw[dF,dF,dF,xM])
   ·rfl
variable{k:Int}
theorem mL(hn:2<=n)(hn2:n<=1000000):Ok (gK [.d (.int n),.d (.int k)] M) λw M'=>M'=M/\((∃v,IsIv n k v/\w=.d (.int v))\/((¬∃v,IsIv n k v)/\w=.d .non)):=by
 unfold gK
 refine aX rfl ?_
 unfold b_1
 rfl'
 refine(rJ (QS:=λo M'=>M'=M/\∃h p q t,o=.nx [some (.d (.int n)),some (.d (.int k)),some (.d (.int h)),some (.d (.int 0)),some (.d (.int p)),some (.d (.int q)),t]/\0 < h/\h<=n/\Cg n (p*k) h/\h ∣ n/\h ∣ k)
  (I:=λm L M'=>M'=M/\∃(h l p q:Int) (t:Option W),L=[some (.d (.int n)),some (.d (.int k)),some (.d (.int h)),some (.d (.int l)),some (.d (.int p)),some (.d (.int q)),t]/\m=l.toNat/\0 < h/\h<=n/\0<=l/\l<=n/\Cg n (p*k) h/\Cg n (q*k) l/\∀c:Int,c ∣ h->c ∣ l->c ∣ n/\c ∣ k) ?_ NW (k % n).toNat _ _
  ⟨rfl,n,k % n,0,1,none,rfl,rfl,by lia,by lia,aBM _ (by lia),Int.le_of_lt (aAY _ (by lia)),⟨-1,by grind⟩,?_,?_⟩ ?_).mono ?_
 ·rintro m L _ ⟨rfl,h,l,p,q,t,rfl,rfl,h0,h1,l0,l1,c1,c2,hd⟩
  rfl'
  refine⟨λhl=>?_,λhl=>?_⟩
  ·have hl:0 < l:=by simpa using hl
   have e:h - h / l*l=h % l:=by rw[Int.emod_def,Int.mul_comm]
   have ht0:0<=h / l:=Int.ediv_nonneg (by lia) (by lia)
   have ht1:h / l<=h:=Int.ediv_le_self _ (by lia)
   rfl'
   rw[e]
   have em1:=aBM h (by lia:l≠0)
   have em2:=aAY h hl
   refine⟨(h % l).toNat,by lia,rfl,l,h % l,q,p - h / l*q,_,rfl,rfl,hl,by lia,em1,by lia,c2,?_,?_⟩
   ·rw[<- e]
    exact(Cg.of_eq (by grind)).trans (Cg.sub c1 (Cg.mul (Cg.rfl (a:=h / l)) c2))
   ·intro c g1 g2
    refine hd c ?_ g1
    have:=Int.dvd_add g2 (Int.dvd_trans g1 (Int.dvd_mul_left (h / l) l))
    rwa[<- e,show h - h / l*l+h / l*l=h by lia]at this
  ·have hl:l=0:=by simp at hl;lia
   subst hl
   have:=hd h (Int.dvd_refl h) (Int.dvd_zero h)
   exact⟨rfl,h,p,q,t,rfl,h0,h1,c1,this.1,this.2⟩
 ·exact(Cg.of_eq (by grind)).trans (Cg.mod (a:=k)).symm
 ·intro c g1 g2
  refine⟨g1,?_⟩
  have:=Int.dvd_add g2 (Int.dvd_trans g1 (Int.dvd_mul_right n (k / n)))
  rwa[Int.emod_add_mul_ediv]at this
 ·rw[aKr];have:=aAY k (by lia:0 < n);lia
 ·rintro _ _ ⟨rfl,h,p,q,t,rfl,h0,h1,c1,d1,d2⟩
  have pn:=aBM p (by lia:n≠0)
  have pl:=aAY p (by lia:0 < n)
  rfl'
  refine vC (λhh=>?_) (λhh=>?_)
  ·subst hh
   rfl'
   refine⟨by simp,.inl ⟨p % n,⟨pn,pl,?_⟩,rfl⟩⟩
   exact Cg.emod ((Cg.mul Cg.rfl Cg.mod).trans ((Cg.of_eq (Int.mul_comm _ _)).trans c1))
  ·rfl'
   refine⟨by simp,.inr ⟨?_,rfl⟩⟩
   rintro⟨v,v0,v1,e⟩
   obtain⟨z,hz⟩:=Cg.of e
   have:h ∣ 1:=by
    have g1:h ∣ k*v:=Int.dvd_mul_of_dvd_left d2
    rw[hz]at g1
    exact(Int.dvd_add_left (Int.dvd_mul_of_dvd_left d1)).mp g1
   have:=Int.le_of_dvd (by lia) this
   lia
theorem aEk{u:Int}(hn:2<=n)(hn2:n<=1000000)(hu:Un n u):Ok (gK [.d (.int n),.d (.int u)] M) λw M'=>w=.d (.int (iv n u))/\M'=M:=by
 refine(mL hn hn2).mono ?_
 rintro w M' ⟨rfl,⟨v,h,rfl⟩|⟨h,_⟩⟩
 ·rw[aIg h];exact⟨rfl,rfl⟩
 ·exact(h hu.2.2).elim
def fok(m:Nat):Nat->List Nat->Bool
 |_,[]=>true
 |l,x::r=>if x < l\/m<=x then false else fok m x r
theorem aFt{m:Nat}:∀{xs:List Nat} {l:Nat},fok m l xs=true ↔ (∀x∈xs,l<=x/\x < m)/\xs.Pairwise (·<=·)
 |[],l=>by simp[fok]
 |x::r,l=>by
  simp only[fok]
  split
  ·rename_i h
   simp only[aBD,aGS]
   rintro⟨h1,_⟩
   have:=h1 x (by simp)
   lia
  ·rename_i h
   rw[aFt]
   constructor
   ·rintro⟨h1,h2⟩
    refine⟨?_,List.pairwise_cons.mpr ⟨λy hy=>(h1 y hy).1,h2⟩⟩
    intro y hy
    rcases aAO.mp hy with rfl|hy
    ·lia
    ·have:=h1 y hy;lia
   ·rintro⟨h1,h2⟩
    obtain⟨h3,h4⟩:=List.pairwise_cons.mp h2
    exact⟨λy hy=>⟨h3 y hy,(h1 y (by simp[hy])).2⟩,h4⟩
theorem lQ :Ok (fG [.d (natsD xs),.d (.int m)] M) λw M'=>w=.d (.bl (decide (xs.length<=4)&&fok m 0 xs))/\M'=M:=by
 unfold fG
 refine aX rfl ?_
 unfold b_3 natsD
 rfl'
 refine iJ (λh=>?_) (λh=>?_)
 ·rfl'
  rw[aAD]
  simp at h
  exact⟨by rw[aBI (by lia)];rfl,rfl⟩
 ·have h:xs.length<=4:=by simp at h;lia
  rw[aGO h,Bool.true_and]
  rfl'
  refine fZ (λi L M'=>M'=M/\∃(l:Nat) (o:Option W),L=[some (.d (natsD xs)),some (.d (.int m)),some (.d (.int l)),o]/\fok m 0 xs=fok m l (xs.drop i)) ⟨rfl,0,none,rfl,rfl⟩ (λi L M _ _ t e=>by cases e) ?_ ?_
  ·rintro i d L M' hd ⟨rfl,l,o,rfl,e⟩
   obtain⟨x,hx,rfl⟩:∃x,xs[i]?=some x/\d=.int (x:Nat):=by
    rw[aAV]at hd
    obtain⟨x,hx,rfl⟩:=aAN.mp hd
    exact⟨x,hx,rfl⟩
   have hdr:xs.drop i=x::xs.drop (i+1):=by
    obtain⟨hi,rfl⟩:=aAC.mp hx
    exact aCJ hi
   rw[hdr]at e
   simp only[fok]at e
   rfl'
   refine⟨λh=>?_,λh=>?_⟩
   ·rfl'
    rw[aAD,e,aAJ (by simp at h;lia)]
    exact⟨rfl,rfl⟩
   ·rfl'
    refine iJ (λh'=>?_) (λh'=>?_)
    ·rfl'
     rw[aAD,e,aAJ (by lia)]
     exact⟨rfl,rfl⟩
    ·rfl'
     refine⟨rfl,x,_,rfl,?_⟩
     rw[e,aAI (by simp at h;lia)]
  ·rintro L M' ⟨rfl,l,o,rfl,e⟩
   rfl'
   rw[aAD,e]
   simp only[aAL,List.drop_length]
   exact⟨rfl,trivial⟩
def okB(n:Int)(G S:Nat)(d:Dd):Prop:=OkD n G S d/\SrtD d
theorem rng3l{Q:W->Mm->Prop}{a x y:Int}(hf:L[i]?=some (some (.d (.int x))))(hg:L[j]?=some (some (.d (.int y))))(q:Q (.d (.bl (decide (a<=x/\x < y)))) M):Ok (e3c pLe pLt (eC (.int a)) (eV i) (eV j) L M) Q:=by
 refine(aJp (aLb (aNi hf ?_)))
 rfl'
 refine⟨λh=>?_,λh=>?_⟩
 ·have h:=aDD h
  refine aNi hg ?_
  rfl'
  simpa[h]using q
 ·have h:=aFF h
  simpa[h]using q
variable{d:Dd}
theorem yH{n:Nat}(hn:2<=n)(hn2:n<=1000000):Ok (lP [.d (.int n),.d (.int G),.d (.int S),.d (encD d)] M) λw M'=>(∃b:Bool,w=.d (.bl b)/\(b=true ↔ okB n G S d))/\M'=M:=by
 unfold lP
 refine aX rfl ?_
 unfold b_2
 cases d with
 |scale s u =>
  simp only[encD]
  rfl'
  refine rng3l rfl rfl ?_
  refine⟨_,rfl,λh=>?_,λh=>?_⟩
  ·rfl'
   rw[aAD]
   refine⟨⟨false,rfl,?_⟩,rfl⟩
   simp at h
   simp only[aBD,aGS]
   rintro⟨⟨h1,h2⟩,_⟩
   lia
  have hs:s < S:=by simp at h;lia
  rfl'
  refine rng3l rfl rfl ?_
  refine⟨_,rfl,?_⟩
  refine vC (λhu=>?_) (λhu=>?_)
  ·rfl'
   refine(mL (by lia) (by lia)).mono ?_
   rintro _ M ⟨rfl,⟨v,hv,rfl⟩|⟨hv,rfl⟩⟩
   ·rfl'
    rw[aAD]
    exact⟨⟨_,rfl,by simpa[isN]using⟨⟨hs,hu.1,hu.2,v,hv⟩,trivial⟩⟩,rfl⟩
   ·rfl'
    rw[aAD]
    exact⟨⟨_,rfl,by simp only[isN,Bool.not_true,aBD,aGS];rintro⟨⟨_,_,_,h⟩,_⟩;exact hv h⟩,rfl⟩
  ·rfl'
   rw[aAD]
   refine⟨⟨false,rfl,?_⟩,rfl⟩
   simp only[aBD,aGS]
   rintro⟨⟨h1,h2,h3,_⟩,_⟩
   exact hu ⟨h2,h3⟩
 |add s c g t =>
  simp only[encD]
  rfl'
  refine rng3l rfl rfl ?_
  refine⟨_,rfl,λh=>?_,λh=>?_⟩
  ·rfl'
   rw[aAD]
   refine⟨⟨false,rfl,?_⟩,rfl⟩
   simp at h
   simp only[aBD,aGS]
   rintro⟨⟨h1,h2⟩,_⟩
   lia
  have hs:s < S:=by simp at h;lia
  rfl'
  refine rng3l rfl rfl ?_
  refine⟨_,rfl,?_⟩
  refine vC (λhu=>?_) (λhu=>?_)
  ·rfl'
   refine lQ.mono ?_
   rintro _ M ⟨rfl,rfl⟩
   have e:okB n G S (.add s c g t) ↔ ((decide (g.length<=4)&&fok G 0 g)=true/\(decide (t.length<=4)&&fok S 0 t)=true/\s∉t):=by
    simp only[okB,OkD,SrtD,aCO,aAU,aFt]
    constructor
    ·rintro⟨⟨h1,h2,h3,h4,h5,h6,h7,h8⟩,h9,h10⟩
     exact⟨⟨h7,λx hx=>⟨by lia,h4 x hx⟩,h9⟩,⟨h8,λx hx=>⟨by lia,h5 x hx⟩,h10⟩,h6⟩
    ·rintro⟨⟨h7,h4,h9⟩,⟨h8,h5,h10⟩,h6⟩
     exact⟨⟨hs,hu.1,hu.2,λx hx=>(h4 x hx).2,λx hx=>(h5 x hx).2,h6,h7,h8⟩,h9,h10⟩
   generalize(decide (g.length<=4)&&fok G 0 g)=b1 at *
   cases b1 with
   |false =>
    rfl'
    rw[aAD]
    exact⟨⟨false,rfl,by rw[e];simp⟩,rfl⟩
   |true =>
    rfl'
    refine lQ.mono ?_
    rintro _ M ⟨rfl,rfl⟩
    generalize(decide (t.length<=4)&&fok S 0 t)=b2 at *
    cases b2 with
    |false =>
     rfl'
     rw[aAD]
     exact⟨⟨false,rfl,by rw[e];simp⟩,rfl⟩
    |true =>
     rfl'
     refine aPn (neg:=true) (xs:=t.map λk=>D.int (k:Nat)) rfl rfl (by simp[List.all_map,Function.comp_def,flatD,fv]) ?_
     rw[aJu]
     rfl'
     rw[aAD]
     exact⟨⟨_,rfl,by rw[e];simp⟩,rfl⟩
  ·rfl'
   rw[aAD]
   refine⟨⟨false,rfl,?_⟩,rfl⟩
   simp only[aBD,aGS]
   rintro⟨⟨h1,h2,h3,_⟩,_⟩
   exact hu ⟨h2,h3⟩
theorem aVf(hn:n<=1000000)(hG:G<=8)(hS:S<=9)(h:OkD n G S d):Fg d:=by
 cases d with
 |add s c g t =>
  obtain⟨h1,h2,h3,h4,h5,_⟩:=h
  exact⟨by lia,h2,by lia,λx hx=>by have:=h4 x hx;lia,λx hx=>by have:=h5 x hx;lia⟩
 |scale s u =>
  obtain⟨h1,h2,h3,_⟩:=h
  exact⟨by lia,h2,by lia⟩
theorem xS{c:Nat}:∀{ws:List (List Nat)} {w:List Nat},w∈ws->w.length<=(joinL c ws).length
 |[],w,h=>by cases h
 |[x],w,h=>by rw[aAQ.mp h];exact aAH _
 |x::y::r,w,h=>by
  rw[fA (by simp)]
  rcases aAO.mp h with rfl|h
  ·simp only[aAT];lia
  ·have:=xS (c:=c) h
   simp only[aAT,aBA];lia
theorem aLf{a b:List D}:(M++[a]).set M.length b=M++[b]:=by simp
theorem aIj{a:List D}:(M++[a])[M.length]?=some a:=by simp
variable{g:Nat}
theorem aHb{n s:Nat}{ds:List Dd}(hb:(2<=n/\n<=1000000)/\g<=8/\1<=s/\s<=9)(hd:∀d∈ds,okB n g s d)(hl:(prog n g s ds).length < 16777216)(hds:ds.length < 1000000):Ok (tO [.d (.str (T (prog n g s ds)))] M) λw M'=>w=.d (encP n g s ds)/\M'=M:=by
 have hm:∀w∈headR n g s::ds.map row,w.length < 16777216:=λw h=>Nat.lt_of_le_of_lt (xS h) hl
 unfold tO
 refine aX rfl ?_
 unfold b_1f
 rfl'
 rw[jX "\n" 10 rfl]
 refine uD (by rw[cU];decide) (by rw[cU];exact hl) ?_
 rw[rW,aKk,aCA,show(headR n g s::ds.map row).map (D.str ∘ T)=wordsD (headR n g s::ds.map row)from rfl]
 rfl'
 refine dX (rG (k:=0) rfl) ?_
 rfl'
 refine(tJ (hm _ (by simp))).mono ?_
 rintro _ M ⟨rfl,rfl⟩
 rw[aLi,aSt hb,show optH (some (n,g,s))=.tup [.int n,.int g,.int s]from rfl]
 rfl'
 refine eZ (by simp[isN]) ?_
 rfl'
 refine aEx ?_
 rfl'
 refine sV ?_
 rw[show(1:Int)=((1:Nat):Int)from rfl,pR,show(wordsD (headR n g s::ds.map row)).drop 1=wordsD (ds.map row)from rfl]
 rfl'
 refine⟨_,_,rfl,rfl,by lia,?_⟩
 refine fZ (λi L M'=>M'=M++[(ds.take i).map encD]/\∃o7 o8 o9:Option W,L=[some (.d (.str (T (prog n g s ds)))),some (.d (.lst (wordsD (headR n g s::ds.map row)))),some (.d (.tup [.int n,.int g,.int s])),some (.d (.int n)),some (.d (.int g)),some (.d (.int s)),some (.ref M.length),o7,o8,o9]) ⟨by simp,none,none,none,rfl⟩ (λi L M _ _ t e=>by cases e) ?_ ?_
 ·rintro i d L M' hx0 ⟨rfl,o7,o8,o9,rfl⟩
  obtain⟨x,hx,rfl⟩:=wN hx0
  clear hx0
  obtain⟨e,he,rfl⟩:∃e,ds[i]?=some e/\x=.str (T (row e)):=by
   simp only[wordsD,aAV,aAN]at hx
   obtain⟨_,⟨e,he,rfl⟩,rfl⟩:=hx
   exact⟨e,he,rfl⟩
  have hmem:=aAZ he
  have hok:=hd e hmem
  rfl'
  refine(uC (hm _ (by simp;exact .inr ⟨e,hmem,rfl⟩))).mono ?_
  rintro _ _ ⟨rfl,rfl⟩
  rw[aPc,aQg e (aVf (by lia) hb.2.1 hb.2.2.2 hok.1),show optD (some e)=encD e from rfl]
  rfl'
  refine⟨λh=>by cases e <;> simp[isN,encD]at h,λ_=>?_⟩
  rfl'
  refine(yH hb.1.1 hb.1.2).mono ?_
  rintro _ _ ⟨⟨b,rfl,hbt⟩,rfl⟩
  rw[hbt.mpr hok]
  rfl'
  refine xF aIj (by simp;lia) ?_
  rw[aLf]
  rfl'
  refine⟨?_,_,_,_,rfl⟩
  rw[aBU,he];simp
 ·rintro L M' ⟨rfl,o7,o8,o9,rfl⟩
  rfl'
  refine kY (xs:=ds.map encD) ?_ ?_
  ·rw[aAS (by simp[enumT,wordsD])]
   simp[sv,lr,lv]
  rfl'
  refine⟨rfl,by simp⟩
def pos(l s:List Nat):D:=.int ((l.length - s.length:Nat):Int)
theorem aFj(ha:a<=l.length):((a+((l.drop a).takeWhile isF).length:Nat):Int)=((l.length - ((l.drop a).dropWhile isF).length:Nat):Int):=by
 have h:=congrArg List.length (aFX (p:=isF) (l:=l.drop a))
 rw[aAT,aER]at h
 lia
variable{s:List Nat}
theorem oP{e:E}(hz:l.length<=16777216)(ha:a<=l.length)(h:rdN (l.drop a)=some (e,s)) :
  Ok (jW [.d (.str (T l)),.d (.int a)] M) λw M'=>w=.d (.tup [enc e,pos l s])/\M'=M:=by
 unfold rdN at h
 split at h
 ·rename_i n hn
  simp only[aAP,aDP]at h
  obtain⟨rfl,rfl⟩:=h
  unfold jW
  refine aX rfl ?_
  unfold b_1b
  rfl'
  refine(iN hz ha).mono ?_
  rintro _ M ⟨rfl,rfl⟩
  rfl'
  refine pA hz ?_
  rw[oG,aCU,nU]
  rfl'
  refine(fO (m:=6) (by have:=(List.takeWhile_prefix isF (l:=l.drop a)).length_le;simp at this;lia) (by lia)).mono ?_
  rintro _ M ⟨rfl,rfl⟩
  rw[hn,show optI (some n)=.int n from rfl]
  rfl'
  refine eZ (by simp[isN]) ?_
  rfl'
  rw[aAD,aFj ha]
  exact⟨rfl,rfl⟩
 ·cases h
theorem mM{e:E}(hz:l.length<=16777216)(ha:a<=l.length)(h:rdG (l.drop a)=some (e,s)) :
  Ok (hU [.d (.str (T l)),.d (.int a)] M) λw M'=>w=.d (.tup [enc e,pos l s])/\M'=M:=by
 unfold rdG at h
 split at h
 ·rename_i n hn
  split at h
  ·rename_i h7
   simp only[aAP,aDP]at h
   obtain⟨rfl,rfl⟩:=h
   unfold hU
   refine aX rfl ?_
   unfold b_1a
   rfl'
   refine(iN hz ha).mono ?_
   rintro _ M ⟨rfl,rfl⟩
   rfl'
   refine pA hz ?_
   rw[oG,aCU,nU]
   rfl'
   refine(fO (m:=1) (by have:=(List.takeWhile_prefix isF (l:=l.drop a)).length_le;simp at this;lia) (by lia)).mono ?_
   rintro _ M ⟨rfl,rfl⟩
   rw[hn,show optI (some n)=.int n from rfl]
   rfl'
   refine⟨λh=>by simp[isN]at h,λ_=>?_⟩
   rfl'
   refine eZ (by simp;lia) ?_
   rfl'
   rw[aAD,aFj ha]
   exact⟨rfl,rfl⟩
  ·cases h
 ·cases h
theorem aPy(x:List Nat):(PyProof.Rows.KTD.datumAt (T x) [(Str.ofString " + ",Str.ofString "sum"),(Str.ofString " - ",Str.ofString "less"),(Str.ofString " * ",Str.ofString "times")]).elim D.non D.str=match wd? x with
  |some w=>.str w.str
  |none=>.non:=by
 have e1:(Str.ofString " + ")=T [32,43,32]:=by rw[eL];rfl
 have e2:(Str.ofString " - ")=T [32,45,32]:=by rw[eL];rfl
 have e3:(Str.ofString " * ")=T [32,42,32]:=by rw[eL];rfl
 unfold wd?
 simp only[PyProof.Rows.KTD.datumAt,e1,e2,e3,aFw,aAU]
 split
 ·rfl
 ·split
  ·rfl
  ·split <;> rfl
theorem aCs(l:List Nat)(hz:l.length<=16777216):∀(k:Nat) (fuel:Nat),2*k < fuel->k<=20 ->
  ∀(M:Mm) (a:Nat) (e:E) (s:List Nat),a<=l.length->rd k (l.drop a)=some (e,s)->Ok (bV fuel [.d (.str (T l)),.d (.int a),.d (.int ((20 - k:Nat):Int))] M) λw M'=>w=.d (.tup [enc e,pos l s])/\M'=M:=by
 intro k
 induction k with
 |zero =>
  intro fuel hf hk M a e s ha h
  obtain⟨f,rfl⟩:∃f,fuel=f+1:=⟨fuel - 1,by lia⟩
  unfold bV
  refine aX rfl ?_
  unfold b_18
  rfl'
  refine pA hz ?_
  rw[show(a:Int)+1=((a+1:Nat):Int) by lia,oG,aCU]
  unfold rd at h
  split at h
  ·cases h
  ·rename_i h1
   rfl'
   rw[show(T ((l.drop a).take 1)==Str.ofString "(")=false by rw[eL,lL];simpa using h1]
   rfl'
   split at h
   ·rename_i h2
    rw[show(T ((l.drop a).take 1)==Str.ofString "x")=true by rw[eL,lL];simpa using h2]
    rfl'
    rw[show(a:Int)+1=((a+1:Nat):Int) by lia]
    have hl:a+1<=l.length:=by
     have:=congrArg List.length h2
     simp at this;lia
    rw[aGP]at h
    refine(mM hz hl h).mono ?_
    rintro _ M ⟨rfl,rfl⟩
    rfl'
    rw[aAD]
    exact⟨rfl,rfl⟩
   ·rename_i h2
    rw[show(T ((l.drop a).take 1)==Str.ofString "x")=false by rw[eL,lL];simpa using h2]
    rfl'
    refine(oP hz ha h).mono ?_
    rintro _ M ⟨rfl,rfl⟩
    rfl'
    rw[aAD]
    exact⟨rfl,rfl⟩
 |succ k ih =>
  intro fuel hf hk M a e s ha h
  obtain⟨f,rfl⟩:∃f,fuel=f+1+1:=⟨fuel - 2,by lia⟩
  have ih:=ih f (by lia) (by lia)
  unfold bV
  refine aX rfl ?_
  unfold b_18
  rfl'
  refine pA hz ?_
  rw[show(a:Int)+1=((a+1:Nat):Int) by lia,oG,aCU]
  unfold rd at h
  split at h
  ·rename_i h1
   rfl'
   rw[show(T ((l.drop a).take 1)==Str.ofString "(")=true by rw[eL,lL];simpa using h1]
   rfl'
   have hl:a+1<=l.length:=by
    have:=congrArg List.length h1
    simp at this;lia
   dsimp only at h
   rw[aGP]at h
   unfold rdP at h
   split at h
   ·rename_i x s1 hx
    split at h
    ·rename_i w hw
     split at h
     ·rename_i y s2 hy
      split at h
      ·rename_i h41
       simp only[aAP,aDP]at h
       obtain⟨rfl,rfl⟩:=h
       have f1:=yU _ _ _ _ hx
       have f2:=yU _ _ _ _ hy
       have g1:s1 <:+ l:=f1.trans (aDV _ _)
       have g2:s2 <:+ l:=f2.trans ((aDV _ _).trans g1)
       have n1:=g1.length_le
       have n2:=g2.length_le
       have hw3:3<=s1.length:=by
        have:s1.take 3=sg w:=by unfold wd? at hw;split at hw <;> (try split at hw) <;> (try split at hw) <;> (try cases hw) <;> assumption
        have:=congrArg List.length this
        have h3:(sg w).length=3:=by cases w <;> rfl
        rw[h3]at this;simp at this;lia
       have n3:1<=s2.length:=by have:=congrArg List.length h41;simp at this;lia
       unfold eB
       refine aX rfl ?_
       unfold b_19
       rfl'
       refine eZ (by simp;lia) ?_
       rfl'
       rw[show((20 - (k+1):Nat):Int)+1=((20 - k:Nat):Int) by lia,show(a:Int)+1=((a+1:Nat):Int) by lia]
       refine(ih M (a+1) x s1 hl hx).mono ?_
       rintro _ M ⟨rfl,rfl⟩
       unfold pos
       rfl'
       refine pA hz ?_
       rw[show((l.length - s1.length:Nat):Int)+3=((l.length - s1.length+3:Nat):Int) by lia,oG,aCU,uK g1]
       rfl'
       refine aPh ?_
       rw[aPy,hw]
       simp only
       rfl'
       refine eZ (by simp[isN]) ?_
       rfl'
       have e3:l.drop (l.length - s1.length+3)=s1.drop 3:=by rw[<- aGP,uK g1]
       refine(ih M (l.length - s1.length+3) y s2 (by lia) (by rw[e3];exact hy)).mono ?_
       rintro _ M ⟨rfl,rfl⟩
       unfold pos
       rfl'
       refine pA hz ?_
       rw[show((l.length - s2.length:Nat):Int)+1=((l.length - s2.length+1:Nat):Int) by lia,oG,aCU,uK g2]
       rfl'
       rw[show(T (s2.take 1)==Str.ofString ")")=true by rw[eL,lL];simpa using h41]
       rfl'
       rw[aAD,aAD]
       refine⟨?_,rfl⟩
       rw[aER,show((l.length - s2.length:Nat):Int)+1=((l.length - (s2.length - 1):Nat):Int) by lia]
       rfl
      ·cases h
     ·cases h
    ·cases h
   ·cases h
  ·rename_i h1
   rfl'
   rw[show(T ((l.drop a).take 1)==Str.ofString "(")=false by rw[eL,lL];simpa using h1]
   rfl'
   split at h
   ·rename_i h2
    rw[show(T ((l.drop a).take 1)==Str.ofString "x")=true by rw[eL,lL];simpa using h2]
    rfl'
    rw[show(a:Int)+1=((a+1:Nat):Int) by lia]
    have hl:a+1<=l.length:=by
     have:=congrArg List.length h2
     simp at this;lia
    rw[aGP]at h
    refine(mM hz hl h).mono ?_
    rintro _ M ⟨rfl,rfl⟩
    rfl'
    rw[aAD]
    exact⟨rfl,rfl⟩
   ·rename_i h2
    rw[show(T ((l.drop a).take 1)==Str.ofString "x")=false by rw[eL,lL];simpa using h2]
    rfl'
    refine(oP hz ha h).mono ?_
    rintro _ M ⟨rfl,rfl⟩
    rfl'
    rw[aAD]
    exact⟨rfl,rfl⟩
theorem vI{e:E}(hd:dp e<=20)(hw:wf 8 e)(hz:(txt e).length<=16777216):Ok (iY [.d (.str (T (txt e)))] M) λw M'=>w=.d (enc e)/\M'=M:=by
 unfold iY
 refine aX rfl ?_
 unfold b_17
 rfl'
 have h:=aEg e 20 [] hd hw (λc hc=>by cases hc)
 rw[aEG]at h
 refine(aCs (txt e) hz 20 50 (by lia) (by lia) M 0 e [] (by lia) h).mono ?_
 rintro _ M ⟨rfl,rfl⟩
 unfold pos
 rfl'
 refine qV (by rw[cU];exact hz) ?_
 rw[cU]
 rfl'
 refine eZ (by simp) ?_
 rfl'
 rw[aAD]
 exact⟨rfl,rfl⟩
variable{i:Int}
theorem kK(h0:0<=i)(h:i < 10000000):i.natAbs.log2 < 1920:=by
 by_cases hz:i.natAbs=0
 ·rw[hz];decide
 ·rw[Nat.log2_lt hz]
  exact aAR (show i.natAbs < 2 ^ 24 by lia) (aCG (by lia) (by lia))
theorem qL(h0:0<=i):Str.ofString (toString i)=T (dig i.toNat):=by
 obtain⟨n,rfl⟩:=Int.eq_ofNat_of_zero_le h0
 exact aUz n
theorem nZ(a:List Nat):Str.empty++T a=T a:=gM [] a
theorem lJ(a b:List Nat):(T a++T b).length=a.length+b.length:=by rw[gM,cU,aAT]
theorem aKc(w:Wd):(w.str==Str.ofString "num")=false:=by cases w <;> decide
theorem aAq(w:Wd):(w.str==Str.ofString "given")=false:=by cases w <;> decide
theorem aRf(w:Wd):PyProof.Rows.KTD.datumAt w.str [(Str.ofString "sum",Str.ofString " + "),(Str.ofString "less",Str.ofString " - "),(Str.ofString "times",Str.ofString " * ")]=some (T (sg w)):=by
 cases w <;> decide
theorem tP:∀(e:E) (fuel:Nat) (M:Mm),dp e < fuel->wf 8 e->nw e<=1000000->Ok (cI fuel [.d (enc e)] M) λw M'=>w=.d (.str (T (txt e)))/\M'=M:=by
 intro e
 induction e with
 |num c =>
  intro fuel M hf hw hn
  obtain⟨f,rfl⟩:∃f,fuel=f+1:=⟨fuel - 1,by lia⟩
  unfold cI
  refine aX rfl ?_
  unfold b_16
  rw[show enc (E.num c)=.tup [.str "num",.int c]from rfl]
  rfl'
  refine aAc (kK hw.1 (by have:=hw.2;lia)) ?_
  rfl'
  rw[qL hw.1,aAD]
  exact⟨rfl,rfl⟩
 |giv i =>
  intro fuel M hf hw hn
  obtain⟨f,rfl⟩:∃f,fuel=f+1:=⟨fuel - 1,by lia⟩
  have hi:i < 8:=hw
  unfold cI
  refine aX rfl ?_
  unfold b_16
  rw[show enc (E.giv i)=.tup [.str "given",.int i]from rfl]
  have e1:Str.ofString "x"=T [120]:=by rw[eL];rfl
  have hl:=kQ (k:=1) (n:=i) (by lia) (by lia)
  rfl'
  rw[e1]
  refine pJ (by rw[nZ,cU];decide) ?_
  rw[nZ]
  rfl'
  refine⟨T (dig i),?_,⟨by rw[cU];lia,by rw[lJ];simp;lia⟩,?_⟩
  ·simp only[fmtD]
   rw[aAJ (kK (by lia) (by lia)),qL (by lia)]
   rfl
  rw[gM]
  refine yA (by rw[cU];simp;lia) ?_
  rfl'
  rw[aAD]
  exact⟨rfl,rfl⟩
 |op w a b iha ihb =>
  intro fuel M hf hw hn
  obtain⟨f,rfl⟩:∃f,fuel=f+1:=⟨fuel - 1,by lia⟩
  simp only[dp]at hf
  simp only[nw]at hn
  have l1:=mG a hw.1
  have l2:=mG b hw.2
  have l3:(sg w).length=3:=by cases w <;> rfl
  have e1:Str.ofString "("=T [40]:=by rw[eL];rfl
  have e2:Str.ofString ")"=T [41]:=by rw[eL];rfl
  unfold cI
  refine aX rfl ?_
  unfold b_16
  rw[show enc (E.op w a b)=.tup [.str w.str,enc a,enc b]from rfl]
  rfl'
  rw[aKc]
  rfl'
  rw[aAq]
  rfl'
  rw[e1]
  refine pJ (by rw[nZ,cU];decide) ?_
  rw[nZ]
  rfl'
  refine(iha f _ (by lia) hw.1 (by lia)).mono ?_
  rintro _ M ⟨rfl,rfl⟩
  refine⟨T (txt a),rfl,⟨by rw[cU];lia,by rw[lJ];simp;lia⟩,?_⟩
  rw[gM]
  rfl'
  refine aTp (aRf w) ?_
  refine⟨T (sg w),rfl,⟨by rw[cU];lia,by rw[lJ];simp;lia⟩,?_⟩
  rw[gM]
  rfl'
  refine(ihb f _ (by lia) hw.2 (by lia)).mono ?_
  rintro _ M ⟨rfl,rfl⟩
  refine⟨T (txt b),rfl,⟨by rw[cU];lia,by rw[lJ];simp;lia⟩,?_⟩
  rw[gM,e2]
  refine pJ (by rw[lJ];simp;lia) ?_
  rw[gM]
  refine yA (by rw[cU];simp;lia) ?_
  rfl'
  rw[aAD]
  exact⟨by simp[txt],rfl⟩
theorem dig7(h:i < 10000000):(dig i.toNat).length<=7:=kQ (by lia) (by lia)
variable{QJ:Str->Mm->Prop}{j:FJ}{s:String}{y:List Nat}
theorem jlit0(hs:s.toList.map Char.toNat=y)(hz:y.length<=16777216)(h:Ok (j (T y) L M) QJ):Ok (jLit s j Str.empty L M) QJ:=by
 have e:Str.ofString s=T y:=by rw[eL,hs]
 rw[e]
 refine pJ (by rw[nZ,cU];exact hz) ?_
 rw[nZ];exact h
theorem jlit(hs:s.toList.map Char.toNat=y)(hz:acc.length+y.length<=16777216)(h:Ok (j (T (acc++y)) L M) QJ):Ok (jLit s j (T acc) L M) QJ:=by
 have e:Str.ofString s=T y:=by rw[eL,hs]
 rw[e]
 refine pJ (by rw[gM,cU,aAT];exact hz) ?_
 rw[gM];exact h
theorem jnum(hz:acc.length+7<=16777216)(h:Ok (f L M) λw M1=>∃i:Int,w=.d (.int i)/\0<=i/\i < 10000000/\Ok (j (T (acc++dig i.toNat)) L M1) QJ):Ok (jVal f j (T acc) L M) QJ:=by
 refine aFl (h.mono ?_)
 rintro _ M1 ⟨i,rfl,h0,h1,q⟩
 have hl:=dig7 h1
 refine⟨T (dig i.toNat),?_,⟨by rw[cU];lia,by rw[gM,cU,aAT];lia⟩,?_⟩
 ·simp only[fmtD]
  rw[aAJ (kK h0 h1),qL h0]
 rw[gM];exact q
theorem jnil(hz:acc.length<=16777216)(q:QJ (T acc) M):Ok (jNil (T acc) L M) QJ:=yA (by rw[cU];exact hz) q
theorem xV{c:Nat}:∀{as bs:List (List Nat)},as≠[]->bs≠[]->joinL c (as++bs)=joinL c as++c::joinL c bs
 |[],_,h,_=>(h rfl).elim
 |[x],bs,_,h=>by rw[List.singleton_append,fA h];rfl
 |x::y::r,bs,_,h=>by
  have ih:=xV (c:=c) (as:=y::r) (bs:=bs) (by simp) h
  rw[aDZ,fA (r:=y::r++bs) (by simp),ih,fA (r:=y::r) (by simp)]
  simp
theorem aCq{as bs:List (List Nat)}(h:as≠[]):joinL c (joinL c as::bs)=joinL c (as++bs):=by
 cases bs with
 |nil=>simp[joinL]
 |cons b bs=>rw[fA (by simp),xV h (by simp)]
def gL(c:Nat):D->D
 |.int k=>.str (T (c::dig k.toNat))
 |_=>.non
theorem aLw(c:Nat)(xs:List Nat):(xs.map λk=>D.int (k:Nat)).map (gL c)=(xs.map λk=>c::dig k).map λw=>D.str (T w):=by
 simp[gL]
theorem rP{a b:List D}:(M++[a]).set M.length b=M++[b]:=by simp
theorem rF{a:List D}:(M++[a])[M.length]?=some a:=by simp
theorem aDh{ws:List (List Nat)}(h:∀w∈ws,w.length<=c):(ws.map List.length).sum<=c*ws.length:=by
 induction ws with
 |nil=>simp
 |cons w r ih =>
  have h1:=h w (by simp)
  have h2:=ih λx hx=>h x (by simp[hx])
  simp only[aBC,List.sum_cons,aBA,Nat.mul_succ];lia
theorem aAx{Q:W->Mm->Prop}{y:W}(h:sv M y=some (wordsD ws))(hz:(ws.map List.length).sum+ws.length<=16777216)(q:Q (.d (.str (T (joinL c ws)))) M):Ok (pJoin (T [c]) y M) Q:=by
 refine aNz (ys:=ws.map T) (by rw[h];simp[wordsD]) ?_ (by rw[aCz];exact q)
 have e:((ws.map T).map (·.length))=ws.map List.length:=by rw[aCA];exact aCY λw _=>cU w
 rw[e,aAL,cU]
 simpa using hz
theorem aNn(s:Nat)(c:Int)(g t:List Nat):joinL 32 (([115]++dig s++[32,43,32]++dig c.toNat)::(g.map (λk=>120::dig k)++t.map λk=>115::dig k))=row (.add s c g t):=by
 have e:[115]++dig s++[32,43,32]++dig c.toNat=joinL 32 [sw s,[43],dig c.toNat]:=by simp[joinL,sw]
 rw[e,aCq (by simp)]
 rfl
def fw:Dd->Prop
 |.add _ _ g t=>g.length<=4/\t.length<=4
 |.scale _ _=>True
theorem uS(hf:Fg d)(h4:fw d):Ok (jB [.d (encD d)] M) λw M'=>w=.d (.str (T (row d)))/\M'=M:=by
 unfold jB
 refine aX rfl ?_
 unfold b_1e
 cases d with
 |scale s u =>
  obtain⟨h1,h2,h3⟩:=hf
  simp only[encD]
  rfl'
  refine jlit0 (y:=[115]) rfl (by decide) (jnum (by decide) ?_)
  have l1:=dig7 (i:=(s:Int)) (by lia)
  have l2:=dig7 h3
  rfl'
  refine⟨by lia,by lia,jlit (y:=[32,42,32]) rfl (by simp at l1 ⊢;lia) (jnum (by simp at l1 ⊢;lia) ?_)⟩
  rfl'
  refine⟨h2,h3,jnil (by simp at l1 ⊢;lia) ?_⟩
  rfl'
  rw[aAD]
  exact⟨by simp[row,dw,joinL,sw],rfl⟩
 |add s c g t =>
  obtain⟨h1,h2,h3,hg,ht⟩:=hf
  obtain⟨hg4,ht4⟩:=h4
  have l1:=dig7 (i:=(s:Int)) (by lia)
  have l2:=dig7 h3
  simp only[encD,natsD]
  rfl'
  refine jlit0 (y:=[115]) rfl (by decide) (jnum (by decide) ?_)
  rfl'
  refine⟨by lia,by lia,jlit (y:=[32,43,32]) rfl (by simp at l1 ⊢;lia) (jnum (by simp at l1 ⊢;lia) ?_)⟩
  rfl'
  refine⟨h2,h3,jnil (by simp at l1 ⊢;lia) ?_⟩
  rfl'
  refine zU rfl (nP ?_)
  rfl'
  refine⟨gL 120,by simp;lia,(λt e=>by cases e),?_,?_⟩
  ·intro d hd acc
   obtain⟨k,hk,rfl⟩:=aBK.mp hd
   have hk7:=hg k hk
   have l3:=dig7 (i:=(k:Int)) (by lia)
   rfl'
   refine jlit0 (y:=[120]) rfl (by decide) (jnum (by decide) ?_)
   rfl'
   refine⟨by lia,by lia,jnil (by simp at l3 ⊢;lia) ?_⟩
   exact⟨rfl,rfl⟩
  rw[aLw]
  refine⟨_,_,rF,rfl,by simp;lia,?_⟩
  rw[rP]
  rfl'
  refine zU rfl (nP ?_)
  rfl'
  refine⟨gL 115,by simp;lia,(λt e=>by cases e),?_,?_⟩
  ·intro d hd acc
   obtain⟨k,hk,rfl⟩:=aBK.mp hd
   have hk7:=ht k hk
   have l3:=dig7 (i:=(k:Int)) (by lia)
   rfl'
   refine jlit0 (y:=[115]) rfl (by decide) (jnum (by decide) ?_)
   rfl'
   refine⟨by lia,by lia,jnil (by simp at l3 ⊢;lia) ?_⟩
   exact⟨rfl,rfl⟩
  rw[aLw]
  refine⟨_,_,rF,rfl,by simp;lia,?_⟩
  rw[rP]
  rfl'
  rw[jX " " 32 rfl]
  refine aAx (ws:=([115]++dig s++[32,43,32]++dig c.toNat)::(g.map (λk=>120::dig k)++t.map λk=>115::dig k)) (by simp[sv,lr,lv,wordsD]) ?_ ?_
  ·have:=aDh (c:=20) (ws:=([115]++dig s++[32,43,32]++dig c.toNat)::(g.map (λk=>120::dig k)++t.map λk=>115::dig k)) (by
    intro w hw
    rcases aAO.mp hw with rfl|hw
    ·simp at l1 ⊢;lia
    rcases aBN.mp hw with hw|hw
    ·obtain⟨k,hk,rfl⟩:=aBK.mp hw
     have hk7:=hg k hk
     have l3:=dig7 (i:=(k:Int)) (by lia)
     simp at l3 ⊢;lia
    ·obtain⟨k,hk,rfl⟩:=aBK.mp hw
     have hk7:=ht k hk
     have l3:=dig7 (i:=(k:Int)) (by lia)
     simp at l3 ⊢;lia)
   simp only[aBA,aAT,aAL]at this ⊢
   lia
  rw[aNn]
  rfl'
  exact⟨rfl,by simp⟩
theorem aOs(hf:Fg d)(h4:fw d):(row d).length<=200:=by
 have h:=rO 32 (dw d)
 cases d with
 |scale s u =>
  obtain⟨h1,h2,h3⟩:=hf
  have l1:=dig7 (i:=(s:Int)) (by lia)
  have l2:=dig7 h3
  simp[dw,sw]at h l1
  unfold row;simp only[dw,sw];lia
 |add s c g t =>
  obtain⟨h1,h2,h3,hg,ht⟩:=hf
  have l1:=dig7 (i:=(s:Int)) (by lia)
  have l2:=dig7 h3
  have:=aDh (c:=10) (ws:=dw (.add s c g t)) (by
   intro w hw
   simp only[dw,aAO,aBN,aBK]at hw
   rcases hw with rfl|rfl|rfl|⟨k,hk,rfl⟩|⟨k,hk,rfl⟩
   ·simp[sw]at l1 ⊢;lia
   ·simp
   ·lia
   ·have hk7:=hg k hk
    have l3:=dig7 (i:=(k:Int)) (by lia)
    simp[xw]at l3 ⊢;lia
   ·have hk7:=ht k hk
    have l3:=dig7 (i:=(k:Int)) (by lia)
    simp[sw]at l3 ⊢;lia)
  have hl:(dw (.add s c g t)).length=3+(g.length+t.length):=by simp[dw];lia
  unfold row
  obtain⟨q1,q2⟩:=h4
  lia
variable{s:Nat}
theorem aJz{n:Nat}(h:(2<=n/\n<=1000000)/\g<=8/\1<=s/\s<=9):(headR n g s).length<=100:=by
 have l1:=dig7 (i:=(n:Int)) (by lia)
 have l2:=dig7 (i:=(g:Int)) (by lia)
 have l3:=dig7 (i:=(s:Int)) (by lia)
 simp[headR,hw,joinL,wRest,wGivens,wShelves]at l1 l2 l3 ⊢
 lia
def Wr(d:Dd):Prop:=Fg d/\fw d
theorem aTx(hn:n<=1000000)(hG:G<=8)(hS:S<=9)(h:OkD n G S d):Wr d:=by
 cases d with
 |add s c g t =>
  obtain⟨h1,h2,h3,h4,h5,_,h7,h8⟩:=h
  exact⟨⟨by lia,h2,by lia,λx hx=>by have:=h4 x hx;lia,λx hx=>by have:=h5 x hx;lia⟩,h7,h8⟩
 |scale s u =>
  obtain⟨h1,h2,h3,_⟩:=h
  exact⟨⟨by lia,h2,by lia⟩,trivial⟩
theorem aIx(n g s:Nat):[114,101,115,116,32]++dig n++[32,103,105,118,101,110,115,32]++dig g++[32,115,104,101,108,118,101,115,32]++dig s=headR n g s:=by
 simp[headR,hw,joinL,wRest,wGivens,wShelves]
variable{n:Nat}
theorem aBe{ds:List Dd}(hb:(2<=n/\n<=1000000)/\g<=8/\1<=s/\s<=9)(hd:∀d∈ds,Wr d):((headR n g s::ds.map row).map List.length).sum+(headR n g s::ds.map row).length<=201*(ds.length+1):=by
 have:=aDh (c:=200) (ws:=headR n g s::ds.map row) (by
  intro w hw
  rcases aAO.mp hw with rfl|hw
  ·have:=aJz hb;lia
  ·obtain⟨d,hd',rfl⟩:=aBK.mp hw
   exact aOs (hd d hd').1 (hd d hd').2)
 simp only[aBA,aAL]at this ⊢
 lia
theorem aLe{ds:List Dd}(hb:(2<=n/\n<=1000000)/\g<=8/\1<=s/\s<=9)(hd:∀d∈ds,Wr d):(prog n g s ds).length<=201*(ds.length+1):=aBO (rO _ _) (aBe hb hd)
variable{i:Nat}
theorem aDi(h:ds[i]?=some d):wordsD ((ds.take (i+1)).map row)=wordsD ((ds.take i).map row)++[.str (T (row d))]:=by
 rw[aBU,h];simp[wordsD]
theorem xR{ds:List Dd}(hb:(2<=n/\n<=1000000)/\g<=8/\1<=s/\s<=9)(hd:∀d∈ds,Wr d)(hl:ds.length<=2000):Ok (rA [.d (encP n g s ds)] M) λw M'=>w=.d (.str (T (prog n g s ds)))/\M'=M:=by
 have l1:=dig7 (i:=(n:Int)) (by lia)
 have l2:=dig7 (i:=(g:Int)) (by lia)
 have l3:=dig7 (i:=(s:Int)) (by lia)
 unfold rA
 refine aX rfl ?_
 unfold b_1d encP
 rfl'
 refine jlit0 (y:=[114,101,115,116,32]) rfl (by decide) (jnum (by decide) ?_)
 rfl'
 refine⟨by lia,by lia,jlit (y:=[32,103,105,118,101,110,115,32]) rfl (by simp at l1 ⊢;lia) (jnum (by simp at l1 ⊢;lia) ?_)⟩
 rfl'
 refine⟨by lia,by lia,jlit (y:=[32,115,104,101,108,118,101,115,32]) rfl (by simp at l1 l2 ⊢;lia) (jnum (by simp at l1 l2 ⊢;lia) ?_)⟩
 rfl'
 refine⟨by lia,by lia,jnil (by simp at l1 l2 l3 ⊢;lia) ?_⟩
 rw[aBP,aBP,aBP,aIx]
 rfl'
 refine zU rfl (fC (λi acc L' M'=>acc=wordsD ((ds.take i).map row)/\M'=M++[[.str (T (headR n g s))]]/\∃a,L'=[a]) ?_)
 rfl'
 refine⟨⟨rfl,rfl,none,rfl⟩,?_,by simp;lia,?_,?_⟩
 ·rintro i acc L' M' hi ⟨rfl,rfl,_⟩
  exact⟨rfl,(λt e=>by cases e),by simp[wordsD];lia⟩
 ·rintro i d acc _ _ hx ⟨rfl,rfl,a,rfl⟩
  obtain⟨e,he,rfl⟩:∃e,ds[i]?=some e/\d=encD e:=by
   simp only[aAV,aAN]at hx
   obtain⟨e,he,rfl⟩:=hx
   exact⟨e,he,rfl⟩
  have hw:=hd e (aAZ he)
  rfl'
  refine(uS hw.1 hw.2).mono ?_
  rintro _ _ ⟨rfl,rfl⟩
  exact⟨_,_,rfl,rfl,(aDi he).symm,rfl,_,rfl⟩
 ·rintro acc _ _ ⟨rfl,rfl,a,rfl⟩
  rw[aAL,aAD]
  refine⟨_,_,rF,rfl,by simp[wordsD];lia,?_⟩
  rw[rP]
  rfl'
  rw[jX "\n" 10 rfl]
  refine aAx (ws:=headR n g s::ds.map row) (by simp[sv,lr,lv,wordsD]) (by have:=aBe hb hd;lia) ?_
  rfl'
  exact⟨rfl,by simp⟩
theorem aMn(w:Wd):∃(j:Nat) (c:Nat),atS w.str ["sum","less","times"]=some j/\atI [43,45,42] (j:Int)=some c/\sg w=[32,c,32]:=by
 cases w
 ·exact⟨0,43,by decide,rfl,rfl⟩
 ·exact⟨1,45,by decide,rfl,rfl⟩
 ·exact⟨2,42,by decide,rfl,rfl⟩
theorem sD:∀(e:E) (fuel:Nat) (M:Mm),dp e < fuel->wf 8 e->nw e<=1000000->Ok (eR fuel [.d (enc e)] M) λw M'=>w=.d (.str (T (txt e)))/\M'=M:=by
 intro e
 induction e with
 |num c =>
  intro fuel M hf hw hn
  obtain⟨f,rfl⟩:∃f,fuel=f+1:=⟨fuel - 1,by lia⟩
  unfold eR
  refine aX rfl ?_
  unfold b_32
  rw[show enc (E.num c)=.tup [.str "num",.int c]from rfl]
  rfl'
  refine aAc (kK hw.1 (by have:=hw.2;lia)) ?_
  rfl'
  rw[qL hw.1,aAD]
  exact⟨rfl,rfl⟩
 |giv i =>
  intro fuel M hf hw hn
  obtain⟨f,rfl⟩:∃f,fuel=f+1:=⟨fuel - 1,by lia⟩
  have hi:i < 8:=hw
  have e1:Str.ofString "x"=T [120]:=by rw[eL];rfl
  have hl:=kQ (k:=1) (n:=i) (by lia) (by lia)
  unfold eR
  refine aX rfl ?_
  unfold b_32
  rw[show enc (E.giv i)=.tup [.str "given",.int i]from rfl]
  rfl'
  refine aAc (kK (by lia) (by lia)) ?_
  rw[qL (by lia),aBP,e1]
  refine mE (by simp[Str.length];lia) ?_
  rw[gM]
  rfl'
  rw[aAD]
  exact⟨rfl,rfl⟩
 |op w a b iha ihb =>
  intro fuel M hf hw hn
  obtain⟨f,rfl⟩:∃f,fuel=f+1:=⟨fuel - 1,by lia⟩
  simp only[dp]at hf
  simp only[nw]at hn
  have l1:=mG a hw.1
  have l2:=mG b hw.2
  have l3:(sg w).length=3:=by cases w <;> rfl
  have e1:Str.ofString "("=T [40]:=by rw[eL];rfl
  have e2:Str.ofString ")"=T [41]:=by rw[eL];rfl
  have e3:Str.ofString " "=T [32]:=by rw[eL];rfl
  unfold eR
  refine aX rfl ?_
  unfold b_32
  rw[show enc (E.op w a b)=.tup [.str w.str,enc a,enc b]from rfl]
  rfl'
  rw[aKc]
  rfl'
  rw[aAq]
  rfl'
  refine aVd ?_
  rfl'
  obtain⟨j,c,hj,hat,hsg⟩:=aMn w
  refine aJj (ys:=["sum","less","times"]) rfl hj ?_
  rw[show Str.ofString "+-*"=T [43,45,42] by rw[eL];rfl]
  refine aDa hat (by simp) ?_
  rfl'
  refine(iha f _ (by lia) hw.1 (by lia)).mono ?_
  rintro _ M ⟨rfl,rfl⟩
  rw[e1]
  refine mE (by simp[Str.length];lia) ?_
  rw[gM]
  rfl'
  rw[e3]
  refine mE (by simp[Str.length];lia) ?_
  rw[gM]
  rfl'
  refine mE (by simp[Str.length];lia) ?_
  rw[gM]
  rfl'
  refine mE (by simp[Str.length];lia) ?_
  rw[gM]
  rfl'
  refine(ihb f _ (by lia) hw.2 (by lia)).mono ?_
  rintro _ M ⟨rfl,rfl⟩
  refine mE (by simp[Str.length];lia) ?_
  rw[gM]
  rfl'
  rw[e2]
  refine mE (by simp[Str.length];lia) ?_
  rw[gM]
  rfl'
  rw[aAD]
  exact⟨by simp[txt,hsg],rfl⟩
variable{b:Nat}
theorem aSd(hb:Bx M b):Ok (aCc [.ref b] M) λw M'=>∃n:Int,w=.d (.int n)/\2<=n/\n<=1000000/\Nx b M M':=by
 have n:=Nx.refl hb
 unfold aCc
 refine aX rfl ?_
 unfold b_2d
 rfl'
 (refine(bE hb (by lia) (by lia)).mono ?_;rintro _ _ ⟨d1,rfl,l_d1,u_d1,n'⟩;replace n:=n.trans n';replace hb:=n'.bx hb;clear n')
 rfl'
 (refine(bE hb (by lia) (by lia)).mono ?_;rintro _ _ ⟨d2,rfl,l_d2,u_d2,n'⟩;replace n:=n.trans n';replace hb:=n'.bx hb;clear n')
 obtain⟨v,ev,mv⟩:=atInts (ns:=[2,3,4,5,6,7,8,9,12,16,30,36,49,64,91,97,210,1009,65536,999983,999999,1000000]) l_d2 (by simpa using u_d2)
 have hv:∀x∈[2,3,4,5,6,7,8,9,12,16,30,36,49,64,91,97,210,1009,65536,999983,999999,(1000000:Int)],2<=x/\x<=1000000:=by decide
 refine dX ev ?_
 rfl'
 refine iJ (λ_=>?_) (λ_=>?_)
 ·rfl'
  (refine(bE hb (by lia) (by lia)).mono ?_;rintro _ _ ⟨d3,rfl,l_d3,u_d3,n'⟩;replace n:=n.trans n';replace hb:=n'.bx hb;clear n')
  rfl'
  rw[n.take]
  exact⟨by lia,by lia,n⟩
 ·rfl'
  refine iJ (λ_=>?_) (λ_=>?_)
  ·rfl'
   (refine(bE hb (by lia) (by lia)).mono ?_;rintro _ _ ⟨d3,rfl,l_d3,u_d3,n'⟩;replace n:=n.trans n';replace hb:=n'.bx hb;clear n')
   rfl'
   rw[n.take]
   exact⟨by lia,by lia,n⟩
  ·rfl'
   rw[n.take]
   exact⟨(hv v mv).1,(hv v mv).2,n⟩
variable{m:Int}
theorem aHy(hb:Bx M b)(h2:2<=m)(hn:m<=1000000):Ok (nN [.ref b,.d (.int m)] M) λw M'=>∃r:Int,w=.d (.int r)/\0<=r/\r < m/\Nx b M M':=by
 have n:=Nx.refl hb
 unfold nN
 refine aX rfl ?_
 unfold b_2e
 rfl'
 (refine(bE hb (by lia) (by lia)).mono ?_;rintro _ _ ⟨d1,rfl,l_d1,u_d1,n'⟩;replace n:=n.trans n';replace hb:=n'.bx hb;clear n')
 rfl'
 refine iJ (λ_=>?_) (λ_=>?_)
 ·rfl'
  (refine(bE hb (by lia) (by lia)).mono ?_;rintro _ _ ⟨d2,rfl,l_d2,u_d2,n'⟩;replace n:=n.trans n';replace hb:=n'.bx hb;clear n')
  have e1:(1:Int) % m=1:=aDS (by lia) (by lia)
  obtain⟨w,ew,hw⟩:=at4 l_d2 u_d2 (.int 0) (.int (1 % m)) (.int (m - 1)) (.int ((m - 2) % m))
  refine dX ew ?_
  rcases hw with rfl|rfl|rfl|rfl
  ·rfl'
   rw[n.take]
   exact⟨by lia,by lia,n⟩
  ·rfl'
   rw[n.take]
   exact⟨by lia,by lia,n⟩
  ·rfl'
   rw[n.take]
   exact⟨by lia,by lia,n⟩
  ·rfl'
   rw[n.take]
   exact⟨aBM _ (by lia),aAY _ (by lia),n⟩
 ·rfl'
  (refine(bE hb (by lia) (by lia)).mono ?_;rintro _ _ ⟨d2,rfl,l_d2,u_d2,n'⟩;replace n:=n.trans n';replace hb:=n'.bx hb;clear n')
  rfl'
  rw[n.take]
  exact⟨l_d2,u_d2,n⟩
variable{n:Int}
theorem pD(hb:Bx M b)(h2:2<=n)(hn:n<=1000000)(m0:0<=m)(m1:m < 1000):Ok (iK [.ref b,.d (.int n),.d (.int m)] M) λw M'=>∃cs:List Int,w=.d (intsD cs)/\(cs.length:Int)=m/\Rs n cs/\Nx b M M':=by
 unfold iK
 refine aX rfl ?_
 unfold b_2f
 rfl'
 refine fC (λi acc L' M'=>∃cs:List Int,acc=cs.map D.int/\cs.length=i/\Rs n cs/\Nx b M M'/\Bx M' b/\∃a,L'=[a,some (.ref b),some (.d (.int n))]) ?_
 rfl'
 refine⟨by simp only[in62,aAU];lia,⟨[],rfl,rfl,(λc h=>by cases h),Nx.refl hb,hb,none,rfl⟩,?_,by simp only[rngD,aAL,aCK];lia,?_,?_⟩
 ·rintro i acc L' M' hi ⟨cs,rfl,hl,_,n',_⟩
  exact⟨n'.len,(λt e=>by cases e),by simp[hl]⟩
 ·rintro i d acc _ M1 hx ⟨cs,rfl,hl,hr,n',hb',a,rfl⟩
  obtain⟨hi,rfl⟩:=lW hx
  rfl'
  refine(aHy (hb'.app (J:=[cs.map D.int])) h2 hn).mono ?_
  rintro _ _ ⟨r,rfl,l,u,n2⟩
  obtain⟨M2,rfl,n3⟩:=n2.unapp hb'.lt
  refine⟨_,M2,rfl,rfl,cs++[r],by simp,by simp[hl],?_,n'.trans n3,n3.bx hb',_,rfl⟩
  intro c hc
  rcases aBN.mp hc with hc|hc
  ·exact hr c hc
  ·rw[aAQ.mp hc];exact⟨l,u⟩
 ·rintro acc _ M1 ⟨cs,rfl,hl,hr,n',hb',a,rfl⟩
  rfl'
  refine kY (xs:=cs.map D.int) rfl ?_
  rfl'
  rw[n'.take]
  simp only[rngD,aAL,aCK]at hl
  exact⟨by lia,hr,n'⟩
theorem rK(g1:G < 1000):∀(k:Nat) (fuel:Nat) (M:Mm) (b:Nat) (r e:Int),Bx M b->r < 1000->e=k->k < fuel->Ok (fB fuel [.ref b,.d (.int G),.d (.int r),.d (.int e)] M) λw M'=>∃e:E,w=.d (enc e)/\dp e<=k/\wf G e/\Nx b M M':=by
 intro k
 induction k using Nat.strongRecOn with
 |ind k ih =>
 intro fuel M b r e hb r1 he hf
 obtain⟨f,rfl⟩:∃f,fuel=f+1:=⟨fuel - 1,by lia⟩
 subst he
 have n:=Nx.refl hb
 unfold fB
 refine aX rfl ?_
 unfold b_30
 rfl'
 (refine(bE hb (by lia) (by lia)).mono ?_;rintro _ _ ⟨d1,rfl,l_d1,u_d1,n'⟩;replace n:=n.trans n';replace hb:=n'.bx hb;clear n')
 rename_i M1
 refine sA (iH (jV (Ok.mono (Q:=λc M2=>M2=M1/\(c=false->3<=r/\k≠0)) ?_ ?_)))
 ·rfl'
  refine⟨λh=>⟨rfl,λh=>by simp at h⟩,λh=>?_⟩
  rfl'
  refine⟨λh=>⟨rfl,λh=>by simp at h⟩,λh'=>?_⟩
  rfl'
  exact⟨rfl,λ_=>⟨by simpa using h,by simpa using h'⟩⟩
 rintro c _ ⟨rfl,hc⟩
 refine aBx (λh=>?_) (λh=>?_)
 ·rfl'
  (refine(bE hb (by lia) (by lia)).mono ?_;rintro _ _ ⟨d2,rfl,l_d2,u_d2,n'⟩;replace n:=n.trans n';replace hb:=n'.bx hb;clear n')
  rfl'
  (refine(bE hb (by lia) (by lia)).mono ?_;rintro _ _ ⟨d3,rfl,l_d3,u_d3,n'⟩;replace n:=n.trans n';replace hb:=n'.bx hb;clear n')
  rfl'
  (refine(bE hb (by lia) (by lia)).mono ?_;rintro _ _ ⟨d4,rfl,l_d4,u_d4,n'⟩;replace n:=n.trans n';replace hb:=n'.bx hb;clear n')
  rfl'
  refine dX (at2I _ _ _) ?_
  refine sA (iH (jV (Ok.mono (Q:=λc M2=>Nx b M M2/\Bx M2 b/\(c=true->0 < G)) ?_ ?_)))
  ·rfl'
   refine⟨λh=>?_,λ_=>⟨n,hb,by simp⟩⟩
   rfl'
   (refine(bE hb (by lia) (by lia)).mono ?_;rintro _ _ ⟨d5,rfl,l_d5,u_d5,n'⟩;replace n:=n.trans n';replace hb:=n'.bx hb;clear n')
   rfl'
   exact⟨n,hb,λ_=>by simpa using h⟩
  clear n hb
  rintro c M2 ⟨n,hb,hg⟩
  refine aBx (λh=>?_) (λ_=>?_)
  ·have hg:=hg h
   rfl'
   (refine(bE hb (by lia) (by lia)).mono ?_;rintro _ _ ⟨d6,rfl,l_d6,u_d6,n'⟩;replace n:=n.trans n';replace hb:=n'.bx hb;clear n')
   obtain⟨i,rfl⟩:∃i:Nat,d6=i:=⟨d6.toNat,by lia⟩
   rfl'
   rw[n.take]
   exact⟨.giv i,rfl,by simp[dp],by simp only[wf];lia,n⟩
  ·rfl'
   rw[n.take]
   exact⟨.num _,rfl,by simp[dp],by simp only[wf];split <;> lia,n⟩
 ·obtain⟨hr,hk⟩:=hc h
  obtain⟨k',rfl⟩:∃k',k=k'+1:=⟨k - 1,by lia⟩
  rfl'
  (refine(bE hb (by lia) (by lia)).mono ?_;rintro _ _ ⟨d2,rfl,l_d2,u_d2,n'⟩;replace n:=n.trans n';replace hb:=n'.bx hb;clear n')
  rfl'
  (refine(bE hb (by lia) (by lia)).mono ?_;rintro _ _ ⟨d3,rfl,l_d3,u_d3,n'⟩;replace n:=n.trans n';replace hb:=n'.bx hb;clear n')
  obtain⟨w,ew,hw⟩:=at4 l_d3 u_d3 (.str "sum") (.str "less") (.str "times") (.str "times")
  refine dX ew ?_
  rfl'
  refine(ih k' (by lia) f _ b _ _ hb (by lia) (by lia) (by lia)).mono ?_
  rintro _ _ ⟨a1,rfl,i1,w1,n'⟩
  replace n:=n.trans n'
  replace hb:=n'.bx hb
  clear n'
  rfl'
  refine(ih k' (by lia) f _ b _ _ hb (by lia) (by lia) (by lia)).mono ?_
  rintro _ _ ⟨a2,rfl,i2,w2,n'⟩
  replace n:=n.trans n'
  rfl'
  rw[n.take]
  have hw':∃s:Wd,w=.str s.str:=by
   rcases hw with rfl|rfl|rfl|rfl
   ·exact⟨.sum,rfl⟩
   ·exact⟨.less,rfl⟩
   ·exact⟨.times,rfl⟩
   ·exact⟨.times,rfl⟩
  obtain⟨s,rfl⟩:=hw'
  exact⟨.op s a1 a2,rfl,by simp only[dp];lia,⟨w1,w2⟩,n⟩
theorem aDx(hn:2<=n)(hn2:n<=1000000)(hg:Rs n gs):∀{e:E},wf gs.length e->∀fuel,dp e < fuel->∀M:Mm,
  Ok (dY fuel [.d (.int n),.d (enc e),.d (intsD gs)] M) (λw M'=>w=.d (.int (val n gs e))/\M'=M):=by
 intro e
 induction e with
 |num c =>
  intro _ fuel hf M
  obtain⟨f,rfl⟩:∃f,fuel=f+1:=⟨fuel - 1,by lia⟩
  unfold dY
  simp only[enc,val]
  refine aX rfl ?_
  unfold b_31
  rfl'
  exact⟨rfl,by simp⟩
 |giv i =>
  intro h fuel hf M
  obtain⟨f,rfl⟩:∃f,fuel=f+1:=⟨fuel - 1,by lia⟩
  unfold dY
  simp only[enc,val]
  refine aX rfl ?_
  unfold b_31 intsD
  rfl'
  refine kL (kT h) ?_
  rfl'
  exact⟨rfl,by simp⟩
 |op w a b iha ihb =>
  intro h fuel hf M
  obtain⟨f,rfl⟩:∃f,fuel=f+1:=⟨fuel - 1,by lia⟩
  have d1:dp a < f:=by simp only[dp]at hf;lia
  have d2:dp b < f:=by simp only[dp]at hf;lia
  have x:=rR (by lia:0 < n) hg (e:=a)
  have y:=rR (by lia:0 < n) hg (e:=b)
  have wa:=λM=>iha h.1 f d1 M
  have wb:=λM=>ihb h.2 f d2 M
  unfold dY
  simp only[enc,val]
  revert wa wb x y
  generalize val n gs a=x
  generalize val n gs b=y
  intro rx ry wa wb
  refine aX rfl ?_
  unfold b_31
  cases w with
  |sum =>
   simp only[Wd.str,Wd.ev]
   rfl'
   refine(wa _).mono ?_
   rintro _ _ ⟨rfl,rfl⟩
   rfl'
   refine(wb _).mono ?_
   rintro _ _ ⟨rfl,rfl⟩
   rfl'
   exact⟨rfl,by simp⟩
  |less =>
   simp only[Wd.str,Wd.ev]
   rfl'
   refine(wa _).mono ?_
   rintro _ _ ⟨rfl,rfl⟩
   rfl'
   refine(wb _).mono ?_
   rintro _ _ ⟨rfl,rfl⟩
   rfl'
   exact⟨rfl,by simp⟩
  |times =>
   simp only[Wd.str,Wd.ev]
   rfl'
   refine(wa _).mono ?_
   rintro _ _ ⟨rfl,rfl⟩
   rfl'
   refine(wb _).mono ?_
   rintro _ _ ⟨rfl,rfl⟩
   rfl'
   exact⟨rfl,by simp⟩
theorem pY{xs:List Int}{is:List Nat}(hx:Rs n xs)(hn:n<=1000000)(hi:∀i∈is,i < xs.length):Ok (fU [.d (natsD is),.d (intsD xs)] M) λw M'=>w=.d (.int (pr xs is))/\M'=M:=by
 unfold fU
 refine aX rfl ?_
 unfold b_26 natsD intsD
 rfl'
 refine fZ (λi L M'=>M'=M/\∃a,L=[some (.d (.tup (is.map λk=>.int (k:Nat)))),some (.d (.tup (xs.map .int))),some (.d (.int (pr xs (is.take i)))),a]) ⟨rfl,none,rfl⟩ (λi L M _ _ t e=>by cases e) ?_ ?_
 ·rintro i d _ _ hd ⟨rfl,a,rfl⟩
  simp only[aAV,aAN]at hd
  obtain⟨k,hk,rfl⟩:=hd
  have hm:=hi k (aAZ hk)
  have hr:=hx.getD hm
  have hb:=aKs hr.1 hr.2 hn
  rfl'
  refine kL (kT hm) ?_
  refine zR (by simp only[mulOk,aAU];exact .inr (.inl hb)) ?_
  rfl'
  refine⟨rfl,some (.d (.int k)),?_⟩
  rw[aBU,hk]
  simp[pr]
 ·rintro _ _ ⟨rfl,a,rfl⟩
  rfl'
  rw[aAS (by simp)]
  exact⟨rfl,by simp⟩
theorem aGl(hn:2<=n)(hn2:n<=1000000)(hg:Rs n gs)(hc:Rs n cs)(h:OkD n gs.length cs.length d)(hz:cs.length<=1000):Ok (rE [.d (.int n),.d (encD d),.d (intsD gs),.d (intsD cs)] M) λw M'=>w=.d (intsD (dn n gs cs d))/\M'=M:=by
 cases d with
 |add s c g t =>
  obtain⟨hs,c0,c1,hgi,hti,_,hgl,htl⟩:=h
  have hr:=hc.getD hs
  unfold rE
  refine aX rfl ?_
  unfold b_25 encD
  have e1:atI (cs.map D.int) (s:Int)=some (.int (cs.getD s 0)):=kT hs
  rfl'
  simp only[intsD]
  refine kL e1 ?_
  rfl'
  refine(pY (xs:=gs) (is:=g) hg hn2 hgi).mono ?_
  rintro _ _ ⟨rfl,rfl⟩
  refine zR (by simp only[mulOk,aAU];exact .inl (aKs c0 c1 hn2)) ?_
  rfl'
  refine(pY (xs:=cs) (is:=t) hc hn2 hti).mono ?_
  rintro _ _ ⟨rfl,rfl⟩
  have b1:=aJa hg (by lia) hn2 hgl
  have b2:=aJa hc (by lia) hn2 htl
  have b3:=uG (a:=c) (x:=1000000) (by lia) b1
  refine zR (by simp only[mulOk,aAU];exact .inr (.inr ⟨aIq b3 (by decide),aIq b2 (by decide)⟩)) ?_
  rfl'
  rw[tE (by simp;lia)]
  refine eX (by simp;lia) ?_
  rfl'
  rw[show((s:Int)+1)=((s+1:Nat):Int) by simp,tX (by simp;lia)]
  refine eX (by simp;lia) ?_
  rfl'
  rw[yS hs]
  exact⟨rfl,by simp⟩
 |scale s u =>
  obtain⟨hs,hu⟩:=h
  have hr:=hc.getD hs
  unfold rE
  refine aX rfl ?_
  unfold b_25 encD
  have e1:atI (cs.map D.int) (s:Int)=some (.int (cs.getD s 0)):=kT hs
  rfl'
  simp only[intsD]
  refine kL e1 ?_
  rfl'
  rw[tE (by simp;lia)]
  refine eX (by simp;lia) ?_
  rfl'
  rw[show((s:Int)+1)=((s+1:Nat):Int) by simp,tX (by simp;lia)]
  refine eX (by simp;lia) ?_
  rfl'
  rw[yS hs]
  exact⟨rfl,by simp⟩
theorem aIo{G S:Int}{ds:List Dd}(hn:2<=n)(hn2:n<=1000000)(hg:Rs n gs)(hc:Rs n cs)(h:∀d∈ds,OkD n gs.length cs.length d)(hz:cs.length<=1000):Ok (aBa [.d (encP n G S ds),.d (intsD gs),.d (intsD cs)] M) λw M'=>w=.d (intsD (rn n gs ds cs))/\M'=M:=by
 unfold aBa
 refine aX rfl ?_
 unfold b_24 encP
 rfl'
 refine fZ (λi L M'=>M'=M/\∃a,L=[some (.d (encP n G S ds)),some (.d (intsD gs)),some (.d (intsD (rn n gs (ds.take i) cs))),a]) ⟨rfl,none,rfl⟩ (λi L M _ _ t e=>by cases e) ?_ ?_
 ·rintro i d _ _ hd ⟨rfl,a,rfl⟩
  simp only[aAV,aAN]at hd
  obtain⟨k,hk,rfl⟩:=hd
  have hm:=h k (aAZ hk)
  unfold encP
  rfl'
  refine(aGl (cs:=rn n gs (ds.take i) cs) hn hn2 hg (hc.rn (by lia)) (by rw[xN];exact hm) (by rw[xN];exact hz)).mono ?_
  rintro _ _ ⟨rfl,rfl⟩
  rfl'
  refine⟨rfl,some (.d (encD k)),?_⟩
  rw[aBU,hk]
  simp only[Option.toList_some,dZ,kO,vA]
  rfl
 ·rintro _ _ ⟨rfl,a,rfl⟩
  rfl'
  rw[aAS (by simp)]
  exact⟨rfl,by simp⟩
variable{ps:List Nat}
theorem aHk{fi:FI}{ts:List Nat}{Q:W->Mm->Prop}(e:outL js L=[none,some (.d (natsD ps))])(ht:∀i∈ts,i < ps.length)(hz:ts.length<=1000)(hi:Ok (fi L M) λs M1=>s=⟨ts.map λx=>.int (x:Nat),none⟩/\M1=M)
  (q:Q (.d (.lst ((ts.map (pl ps)).map λx=>.int (x:Nat)))) M):Ok (eComp js fi (gN 0) EV.tYes (e2 pIx (eV 1) (eV 0)) L M) Q:=by
 refine fC (λi acc L' M'=>acc=((ts.take i).map (pl ps)).map (λx=>.int (x:Nat))/\M'=M/\∃a,L'=[a,some (.d (natsD ps))]) ?_
 refine hi.mono ?_
 rintro _ _ ⟨rfl,rfl⟩
 refine⟨⟨rfl,rfl,none,e⟩,?_,by simp;lia,?_,?_⟩
 ·rintro i acc L' M' hi ⟨rfl,rfl,_⟩
  exact⟨rfl,(λt e=>by cases e),by simp;lia⟩
 ·rintro i d acc _ _ hx ⟨rfl,rfl,a,rfl⟩
  simp only[aAV,aAN]at hx
  obtain⟨k,hk,rfl⟩:=hx
  unfold natsD
  rfl'
  refine kL (aAe (ht k (aAZ hk))) ?_
  exact⟨_,_,rfl,rfl,by rw[aBU,hk];simp,rfl,_,rfl⟩
 ·rintro acc _ _ ⟨rfl,rfl,a,rfl⟩
  rw[aAS (by simp)]
  exact q
theorem qJ(h:OkD n G ps.length d):Ok (fR [.d (encD d),.d (natsD ps)] M) λw M'=>w=.d (encD (rnD ps d))/\M'=M:=by
 unfold fR
 refine aX rfl ?_
 unfold b_7
 cases d with
 |scale s u =>
  simp only[encD,natsD,rnD]
  rfl'
  refine kL (aAe h.1) ?_
  rfl'
  exact⟨rfl,by simp⟩
 |add s c g t =>
  obtain⟨hs,c0,c1,hg,ht,hst,gl,tl⟩:=h
  simp only[encD,natsD,rnD]
  rfl'
  refine kL (aAe hs) ?_
  rfl'
  refine aHk (ps:=ps) (ts:=t) rfl ht (by lia) ?_ ?_
  ·rfl'
   exact⟨rfl,rfl⟩
  rfl'
  refine aGj (ns:=(t.map (pl ps)).map λk:Nat=>(k:Int)) rfl (kP _) (by simp;lia) ?_
  rw[aHo]
  rfl'
  refine kY (xs:=((srtN (t.map (pl ps))).map λk:Nat=>(k:Int)).map D.int) rfl ?_
  rfl'
  exact⟨by rw[kP (srtN _)],by simp⟩
theorem zY{G S:Int}{G':Nat}{ds:List Dd}(h:∀d∈ds,OkD n G' ps.length d)(hp:ps≠[])(hz:ds.length<=16777216):Ok (lM [.d (encP n G S ds),.d (natsD ps)] M) λw M'=>w=.d (encP n G (mxN ps+1:Nat) (ds.map (rnD ps)))/\M'=M:=by
 unfold lM
 refine aX rfl ?_
 unfold b_6
 simp only[encP]
 rfl'
 refine fC (λi acc L' M'=>acc=((ds.take i).map (rnD ps)).map encD/\M'=M/\∃a,L'=[a,some (.d (natsD ps))]) ?_
 rfl'
 refine⟨⟨rfl,rfl,none,rfl⟩,?_,by simp;lia,?_,?_⟩
 ·rintro i acc L' M' hi ⟨rfl,rfl,_⟩
  exact⟨rfl,(λt e=>by cases e),by simp;lia⟩
 ·rintro i d acc _ _ hx ⟨rfl,rfl,a,rfl⟩
  simp only[aAV,aAN]at hx
  obtain⟨k,hk,rfl⟩:=hx
  rfl'
  refine(qJ (h k (aAZ hk))).mono ?_
  rintro _ _ ⟨rfl,rfl⟩
  exact⟨_,_,rfl,rfl,by rw[aBU,hk];simp,rfl,_,rfl⟩
 ·rintro acc _ M ⟨rfl,rfl,a,rfl⟩
  rw[aAS (by simp)]
  rfl'
  refine kY (xs:=(ds.map (rnD ps)).map encD) rfl ?_
  rfl'
  unfold natsD
  refine aFu (ns:=ps.map λk:Nat=>(k:Int)) rfl (kP _) (by simpa using hp) ?_
  rw[pQ hp]
  rfl'
  exact⟨rfl,by simp⟩
theorem uT(hn:2<=n)(hn2:n<=1000000)(h:OkD n G S d):Ok (eU [.d (.int n),.d (encD d)] M) λw M'=>w=.d (encD (bD n d))/\M'=M:=by
 cases d with
 |add s c g t =>
  unfold eU
  refine aX rfl ?_
  unfold b_5
  simp only[encD,bD]
  rfl'
  exact⟨rfl,by simp⟩
 |scale s u =>
  unfold eU
  refine aX rfl ?_
  unfold b_5
  simp only[encD,bD]
  rfl'
  refine(aEk hn hn2 h.2).mono ?_
  rintro _ _ ⟨rfl,rfl⟩
  rfl'
  exact⟨rfl,by simp⟩
theorem jD{ds:List Dd}(hn:2<=n)(hn2:n<=1000000)(hd:∀d∈ds,OkD n G S d)(hl:ds.length<=16777216):Ok (cD [.d (.int n),.d (.tup (ds.map encD))] M) λw M'=>w=.d (.tup ((bDs n ds).map encD))/\M'=M:=by
 unfold cD
 refine aX rfl ?_
 unfold b_4
 rfl'
 refine fC (λi acc L' M'=>acc=((ds.reverse.take i).map (bD n)).map encD/\M'=M/\∃a,L'=[a,some (.d (.int n))]) ?_
 rfl'
 refine⟨ds.map encD,.inl rfl,⟨rfl,rfl,none,rfl⟩,?_,by simpa using hl,?_,?_⟩
 ·rintro i acc L' M' hi ⟨rfl,rfl,_⟩
  exact⟨rfl,(λt e=>by cases e),by simp;lia⟩
 ·rintro i d acc _ _ hx ⟨rfl,rfl,a,rfl⟩
  rw[<- aFT]at hx
  simp only[aAV,aAN]at hx
  obtain⟨k,hk,rfl⟩:=hx
  have hm:k∈ds:=aET.mp (aAZ hk)
  rfl'
  refine(uT hn hn2 (hd k hm)).mono ?_
  rintro _ _ ⟨rfl,rfl⟩
  exact⟨_,_,rfl,rfl,by rw[aBU,hk];simp,rfl,_,rfl⟩
 ·rintro acc L' M' ⟨rfl,rfl,_⟩
  rfl'
  refine kY rfl ?_
  rfl'
  exact⟨by rw[aAS (by simp)];rfl,by simp⟩
theorem bM{s:Str}{ds:List D}:Ok (eT [.d (.tup (.str s::ds))] M) λw M'=>w=.d (.bl (("num"==s) || ("given"==s) || ("one"==s)))/\M'=M:=by
 unfold eT
 refine aX rfl ?_
 unfold b_0
 rfl'
 refine kL (at0 (.str s) ds) ?_
 rfl'
 refine aPn (by rfl) (by rfl) (by rfl) ?_
 rfl'
 simp[eqD,Bool.or_assoc]
theorem mQ{c:Int}(hn:2<=n):Ok (dM [.d (.int n),.d (enc (.num c)),.d (.int s),.d (natsD ts)] M) λw M'=>w=.d (encD (.add s (c % n) [] ts))/\M'=M:=by
 unfold dM
 refine aX rfl ?_
 unfold b_a
 simp only[enc]
 rfl'
 exact⟨rfl,by simp⟩
theorem mP :Ok (dM [.d (.int n),.d (enc (.giv i)),.d (.int s),.d (natsD ts)] M) λw M'=>w=.d (encD (.add s 1 [i] ts))/\M'=M:=by
 unfold dM
 refine aX rfl ?_
 unfold b_a
 simp only[enc]
 rfl'
 exact⟨rfl,by simp⟩
theorem aCf{d1 d2:List Dd}(hz:d1.length+d2.length<=16777216):Ok (nE [.d (.int n),.d (.str Wd.sum.str),.d (.tup (d1.map encD)),.d (.tup (d2.map encD))] M) λw M'=>w=.d (.tup ((d1++d2).map encD))/\M'=M:=by
 unfold nE
 refine aX rfl ?_
 unfold b_b
 simp only[Wd.str]
 rfl'
 refine eX (by simpa using hz) ?_
 rfl'
 exact⟨by simp,by simp⟩
theorem wU{d1 d2:List Dd}(hn:2<=n)(hn2:n<=1000000)(hd:∀d∈d2,OkD n G S d)(hz:d1.length+d2.length<=16777216):Ok (nE [.d (.int n),.d (.str Wd.less.str),.d (.tup (d1.map encD)),.d (.tup (d2.map encD))] M) λw M'=>w=.d (.tup ((d1++bDs n d2).map encD))/\M'=M:=by
 unfold nE
 refine aX rfl ?_
 unfold b_b
 simp only[Wd.str]
 rfl'
 refine(jD hn hn2 hd (by lia)).mono ?_
 rintro _ _ ⟨rfl,rfl⟩
 refine eX (by simpa[cF]using hz) ?_
 rfl'
 exact⟨by simp,by simp⟩
theorem vF{d1 d2:List Dd}(hn:2<=n)(hn2:n<=1000000)(h1:∀d∈d1,OkD n G S d)(h2:∀d∈d2,OkD n G S d)(hz:2*(d1.length+d2.length)<=16777216):Ok (dS [.d (.int n),.d (.tup (d1.map encD)),.d (.tup (d2.map encD))] M) λw M'=>w=.d (.tup ((d1++d2++bDs n d1++bDs n d2).map encD))/\M'=M:=by
 unfold dS
 refine aX rfl ?_
 unfold b_c
 rfl'
 refine eX (by simp;lia) ?_
 rfl'
 refine(jD hn hn2 h1 (by lia)).mono ?_
 rintro _ _ ⟨rfl,rfl⟩
 refine eX (by simp[cF];lia) ?_
 rfl'
 refine(jD hn hn2 h2 (by lia)).mono ?_
 rintro _ _ ⟨rfl,rfl⟩
 refine eX (by simp[cF];lia) ?_
 rfl'
 exact⟨by simp,by simp⟩
theorem vM(hn:2<=n)(hn2:n<=1000000):∀{e:E} {s b c:Nat},wf G e->s < S->b < S->c < S->s≠b->s≠c->b≠c->many e<=4194304->∀fuel,dp e < fuel->∀M:Mm,
  Ok (cZ fuel [.d (.int n),.d (enc e),.d (.int s),.d (.int b),.d (.int c)] M) (λw M'=>w=.d (.tup ((rowBy n e s b c).map encD))/\M'=M):=by
 intro e
 induction e with
 |num k =>
  intro s b c _ _ _ _ _ _ _ _ fuel hf M
  obtain⟨f,rfl⟩:∃f,fuel=f+1:=⟨fuel - 1,by lia⟩
  unfold cZ
  refine aX rfl ?_
  unfold b_8
  simp only[enc]
  rfl'
  refine bM.mono ?_
  rintro _ _ ⟨rfl,rfl⟩
  rfl'
  refine(mQ (ts:=[b]) hn).mono ?_
  rintro _ _ ⟨rfl,rfl⟩
  rfl'
  exact⟨rfl,by simp⟩
 |giv k =>
  intro s b c _ _ _ _ _ _ _ _ fuel hf M
  obtain⟨f,rfl⟩:∃f,fuel=f+1:=⟨fuel - 1,by lia⟩
  unfold cZ
  refine aX rfl ?_
  unfold b_8
  simp only[enc]
  rfl'
  refine bM.mono ?_
  rintro _ _ ⟨rfl,rfl⟩
  rfl'
  refine(mP (ts:=[b])).mono ?_
  rintro _ _ ⟨rfl,rfl⟩
  rfl'
  exact⟨rfl,by simp⟩
 |op w x y ihx ihy =>
  intro s b c hw hs hb hc h1 h2 h3 hm fuel hf M
  obtain⟨f,rfl⟩:∃f,fuel=f+1:=⟨fuel - 1,by lia⟩
  have hm':=aFz (w:=w) (x:=x) (y:=y)
  have d1:dp x < f:=by simp only[dp]at hf;lia
  have d2:dp y < f:=by simp only[dp]at hf;lia
  unfold cZ
  refine aX rfl ?_
  unfold b_8
  cases w with
  |sum =>
   simp only[enc,Wd.str]
   rfl'
   refine bM.mono ?_
   rintro _ _ ⟨rfl,rfl⟩
   rfl'
   refine(ihx hw.1 hs hb hc h1 h2 h3 (by lia) f d1 _).mono ?_
   rintro _ _ ⟨rfl,rfl⟩
   rfl'
   refine(ihy hw.2 hs hb hc h1 h2 h3 (by lia) f d2 _).mono ?_
   rintro _ _ ⟨rfl,rfl⟩
   rfl'
   refine(aCf (by rw[bJ,bJ];lia)).mono ?_
   rintro _ _ ⟨rfl,rfl⟩
   rfl'
   exact⟨rfl,by simp⟩
  |less =>
   simp only[enc,Wd.str]
   rfl'
   refine bM.mono ?_
   rintro _ _ ⟨rfl,rfl⟩
   rfl'
   refine(ihx hw.1 hs hb hc h1 h2 h3 (by lia) f d1 _).mono ?_
   rintro _ _ ⟨rfl,rfl⟩
   rfl'
   refine(ihy hw.2 hs hb hc h1 h2 h3 (by lia) f d2 _).mono ?_
   rintro _ _ ⟨rfl,rfl⟩
   rfl'
   refine(wU hn hn2 (cG (by lia) hw.2 hs hb hc h1 h2 h3) (by rw[bJ,bJ];lia)).mono ?_
   rintro _ _ ⟨rfl,rfl⟩
   rfl'
   exact⟨rfl,by simp⟩
  |times =>
   have hm2:2*(many x+many y)<=4194304:=by simp only[many]at hm;lia
   simp only[enc,Wd.str]
   rfl'
   refine bM.mono ?_
   rintro _ _ ⟨rfl,rfl⟩
   rfl'
   refine(ihy hw.2 hc hb hs h3.symm h2.symm h1.symm (by lia) f d2 _).mono ?_
   rintro _ _ ⟨rfl,rfl⟩
   rfl'
   refine(ihx hw.1 hs hc hb h2 h1 h3.symm (by lia) f d1 _).mono ?_
   rintro _ _ ⟨rfl,rfl⟩
   rfl'
   refine(vF hn hn2 (cG (by lia) hw.2 hc hb hs h3.symm h2.symm h1.symm) (cG (by lia) hw.1 hs hc hb h2 h1 h3.symm) (by rw[bJ,bJ];lia)).mono ?_
   rintro _ _ ⟨rfl,rfl⟩
   rfl'
   exact⟨rfl,by simp⟩
theorem rV(hn:2<=n)(hn2:n<=1000000):∀{e:E} {s b c:Nat},wf G e->s < S->b < S->c < S->s≠b->s≠c->b≠c->many e<=4194304->∀fuel,dp e < fuel->fuel<=50->∀M:Mm,
  Ok (bS fuel [.d (.int n),.d (enc e),.d (.int s),.d (.int b),.d (.int c)] M) (λw M'=>w=.d (.tup ((rowAl n e s b c).map encD))/\M'=M):=by
 intro e
 induction e with
 |num k =>
  intro s b c _ _ _ _ _ _ _ _ fuel hf hf2 M
  obtain⟨f,rfl⟩:∃f,fuel=f+1:=⟨fuel - 1,by lia⟩
  unfold bS
  refine aX rfl ?_
  unfold b_9
  simp only[enc]
  rfl'
  refine bM.mono ?_
  rintro _ _ ⟨rfl,rfl⟩
  rfl'
  refine(mQ (ts:=[]) hn).mono ?_
  rintro _ _ ⟨rfl,rfl⟩
  rfl'
  exact⟨rfl,by simp⟩
 |giv k =>
  intro s b c _ _ _ _ _ _ _ _ fuel hf hf2 M
  obtain⟨f,rfl⟩:∃f,fuel=f+1:=⟨fuel - 1,by lia⟩
  unfold bS
  refine aX rfl ?_
  unfold b_9
  simp only[enc]
  rfl'
  refine bM.mono ?_
  rintro _ _ ⟨rfl,rfl⟩
  rfl'
  refine(mP (ts:=[])).mono ?_
  rintro _ _ ⟨rfl,rfl⟩
  rfl'
  exact⟨rfl,by simp⟩
 |op w x y ihx ihy =>
  intro s b c hw hs hb hc h1 h2 h3 hm fuel hf hf2 M
  obtain⟨f,rfl⟩:∃f,fuel=f+1:=⟨fuel - 1,by lia⟩
  have hm':=aFz (w:=w) (x:=x) (y:=y)
  have d1:dp x < f:=by simp only[dp]at hf;lia
  have d2:dp y < f:=by simp only[dp]at hf;lia
  unfold bS
  refine aX rfl ?_
  unfold b_9
  cases w with
  |sum =>
   simp only[enc,Wd.str]
   rfl'
   refine bM.mono ?_
   rintro _ _ ⟨rfl,rfl⟩
   rfl'
   refine(ihx hw.1 hs hb hc h1 h2 h3 (by lia) f d1 (by lia) _).mono ?_
   rintro _ _ ⟨rfl,rfl⟩
   rfl'
   refine(ihy hw.2 hs hb hc h1 h2 h3 (by lia) f d2 (by lia) _).mono ?_
   rintro _ _ ⟨rfl,rfl⟩
   rfl'
   refine(aCf (by rw[bU,bU];lia)).mono ?_
   rintro _ _ ⟨rfl,rfl⟩
   rfl'
   exact⟨rfl,by simp⟩
  |less =>
   simp only[enc,Wd.str]
   rfl'
   refine bM.mono ?_
   rintro _ _ ⟨rfl,rfl⟩
   rfl'
   refine(ihx hw.1 hs hb hc h1 h2 h3 (by lia) f d1 (by lia) _).mono ?_
   rintro _ _ ⟨rfl,rfl⟩
   rfl'
   refine(ihy hw.2 hs hb hc h1 h2 h3 (by lia) f d2 (by lia) _).mono ?_
   rintro _ _ ⟨rfl,rfl⟩
   rfl'
   refine(wU hn hn2 (eP (by lia) hw.2 hs hb hc h1 h2 h3) (by rw[bU,bU];lia)).mono ?_
   rintro _ _ ⟨rfl,rfl⟩
   rfl'
   exact⟨rfl,by simp⟩
  |times =>
   have hm2:2*(many x+many y)<=4194304:=by simp only[many]at hm;lia
   simp only[enc,Wd.str]
   rfl'
   refine bM.mono ?_
   rintro _ _ ⟨rfl,rfl⟩
   rfl'
   refine(ihy hw.2 hc hb hs h3.symm h2.symm h1.symm (by lia) f d2 (by lia) _).mono ?_
   rintro _ _ ⟨rfl,rfl⟩
   rfl'
   refine(vM hn hn2 hw.1 hs hc hb h2 h1 h3.symm (by lia) 50 (by lia) _).mono ?_
   rintro _ _ ⟨rfl,rfl⟩
   rfl'
   refine(vF hn hn2 (eP (by lia) hw.2 hc hb hs h3.symm h2.symm h1.symm) (cG (by lia) hw.1 hs hc hb h2 h1 h3.symm) (by rw[bU,bJ];lia)).mono ?_
   rintro _ _ ⟨rfl,rfl⟩
   rfl'
   exact⟨rfl,by simp⟩
theorem vQ:∀{e:E},∀fuel,dp e < fuel->∀M:Mm,Ok (cY fuel [.d (enc e)] M) λw M'=>w=.d (.int (many e:Nat))/\M'=M:=by
 intro e
 induction e with
 |num k =>
  intro fuel hf M
  obtain⟨f,rfl⟩:∃f,fuel=f+1:=⟨fuel - 1,by lia⟩
  unfold cY
  refine aX rfl ?_
  unfold b_d
  simp only[enc]
  rfl'
  refine bM.mono ?_
  rintro _ _ ⟨rfl,rfl⟩
  rfl'
  exact⟨rfl,by simp⟩
 |giv k =>
  intro fuel hf M
  obtain⟨f,rfl⟩:∃f,fuel=f+1:=⟨fuel - 1,by lia⟩
  unfold cY
  refine aX rfl ?_
  unfold b_d
  simp only[enc]
  rfl'
  refine bM.mono ?_
  rintro _ _ ⟨rfl,rfl⟩
  rfl'
  exact⟨rfl,by simp⟩
 |op w x y ihx ihy =>
  intro fuel hf M
  obtain⟨f,rfl⟩:∃f,fuel=f+1:=⟨fuel - 1,by lia⟩
  have d1:dp x < f:=by simp only[dp]at hf;lia
  have d2:dp y < f:=by simp only[dp]at hf;lia
  unfold cY
  refine aX rfl ?_
  unfold b_d
  cases w <;>
  ·simp only[enc,Wd.str]
   rfl'
   refine bM.mono ?_
   rintro _ _ ⟨rfl,rfl⟩
   rfl'
   refine(ihx f d1 _).mono ?_
   rintro _ _ ⟨rfl,rfl⟩
   rfl'
   refine(ihy f d2 _).mono ?_
   rintro _ _ ⟨rfl,rfl⟩
   rfl'
   exact⟨by simp[many],by simp⟩
theorem sN{e:E}(hn:2<=n)(hn2:n<=1000000)(hw:wf G e)(hd:dp e<=12)(hm:many e<=5000) :
  Ok (hV [.d (.int n),.d (.int G),.d (enc e),.d (.int 5000)] M) λw M'=>w=.d (encP n G 3 (rowAl n e 0 1 2))/\M'=M:=by
 unfold hV
 refine aX rfl ?_
 unfold b_e
 rfl'
 refine(vQ 50 (by lia) _).mono ?_
 rintro _ M ⟨rfl,rfl⟩
 rfl'
 refine eZ (by simp;lia) ?_
 rfl'
 refine(rV (S:=3) (s:=0) (b:=1) (c:=2) hn hn2 hw (by lia) (by lia) (by lia) (by lia) (by lia) (by lia) (by lia) 50 (by lia) (by lia) _).mono ?_
 rintro _ M ⟨rfl,rfl⟩
 rfl'
 exact⟨rfl,by simp⟩
noncomputable def AddD:Dd->Prop
 |.add _ _ _ _=>True
 |.scale _ _=>False
theorem AddD.backs{n:Int}{ds:List Dd}(h:∀d∈ds,AddD d):∀d∈bDs n ds,AddD d:=by
 intro d hd
 obtain⟨x,hx,rfl⟩:=aBK.mp hd
 have:=h x (aET.mp hx)
 cases x with
 |add s c g t=>trivial
 |scale s u=>exact this
theorem eM{n:Int}:∀{e:E} {s b c:Nat},∀d∈rowBy n e s b c,AddD d
 |.num _,_,_,_=>λd hd=>by rw[aAQ.mp hd];trivial
 |.giv _,_,_,_=>λd hd=>by rw[aAQ.mp hd];trivial
 |.op .sum x y,s,b,c=>aZ eM eM
 |.op .less x y,s,b,c=>aZ eM (AddD.backs eM)
 |.op .times x y,s,b,c=>aZ (aZ (aZ eM eM) (AddD.backs eM)) (AddD.backs eM)
theorem iG{n:Int}:∀{e:E} {s b c:Nat},∀d∈rowAl n e s b c,AddD d
 |.num _,_,_,_=>λd hd=>by rw[aAQ.mp hd];trivial
 |.giv _,_,_,_=>λd hd=>by rw[aAQ.mp hd];trivial
 |.op .sum x y,s,b,c=>aZ iG iG
 |.op .less x y,s,b,c=>aZ iG (AddD.backs iG)
 |.op .times x y,s,b,c=>aZ (aZ (aZ iG eM) (AddD.backs iG)) (AddD.backs eM)
theorem aCl(hn:2<=n)(h:AddD d):Ok (eU [.d (.int n),.d (encD d)] M) λw M'=>w=.d (encD (bD n d))/\M'=M:=by
 cases d with
 |add s c g t =>
  unfold eU
  refine aX rfl ?_
  unfold b_5
  simp only[encD,bD]
  rfl'
  exact⟨rfl,by simp⟩
 |scale s u=>exact h.elim
theorem kW{ds:List Dd}(hn:2<=n)(hd:∀d∈ds,AddD d)(hl:ds.length<=16777216):Ok (cD [.d (.int n),.d (.tup (ds.map encD))] M) λw M'=>w=.d (.tup ((bDs n ds).map encD))/\M'=M:=by
 unfold cD
 refine aX rfl ?_
 unfold b_4
 rfl'
 refine fC (λi acc L' M'=>acc=((ds.reverse.take i).map (bD n)).map encD/\M'=M/\∃a,L'=[a,some (.d (.int n))]) ?_
 rfl'
 refine⟨ds.map encD,.inl rfl,⟨rfl,rfl,none,rfl⟩,?_,by simpa using hl,?_,?_⟩
 ·rintro i acc L' M' hi ⟨rfl,rfl,_⟩
  exact⟨rfl,(λt e=>by cases e),by simp;lia⟩
 ·rintro i d acc _ _ hx ⟨rfl,rfl,a,rfl⟩
  rw[<- aFT]at hx
  simp only[aAV,aAN]at hx
  obtain⟨k,hk,rfl⟩:=hx
  have hm:k∈ds:=aET.mp (aAZ hk)
  rfl'
  refine(aCl hn (hd k hm)).mono ?_
  rintro _ _ ⟨rfl,rfl⟩
  exact⟨_,_,rfl,rfl,by rw[aBU,hk];simp,rfl,_,rfl⟩
 ·rintro acc L' M' ⟨rfl,rfl,_⟩
  rfl'
  refine kY rfl ?_
  rfl'
  exact⟨by rw[aAS (by simp)];rfl,by simp⟩
noncomputable def pap:E->D
 |.num _=>.tup [.str "one"]
 |.giv _=>.tup [.str "one"]
 |.op w a b=>.tup [.str w.str,pap a,pap b]
theorem vJ:∀{e:E},∀fuel,dp e < fuel->∀M:Mm,Ok (cX fuel [.d (enc e)] M) λw M'=>w=.d (pap e)/\M'=M:=by
 intro e
 induction e with
 |num k =>
  intro fuel hf M
  obtain⟨f,rfl⟩:∃f,fuel=f+1:=⟨fuel - 1,by lia⟩
  unfold cX
  refine aX rfl ?_
  unfold b_1c
  simp only[enc]
  rfl'
  refine bM.mono ?_
  rintro _ _ ⟨rfl,rfl⟩
  rfl'
  exact⟨rfl,by simp⟩
 |giv k =>
  intro fuel hf M
  obtain⟨f,rfl⟩:∃f,fuel=f+1:=⟨fuel - 1,by lia⟩
  unfold cX
  refine aX rfl ?_
  unfold b_1c
  simp only[enc]
  rfl'
  refine bM.mono ?_
  rintro _ _ ⟨rfl,rfl⟩
  rfl'
  exact⟨rfl,by simp⟩
 |op w x y ihx ihy =>
  intro fuel hf M
  obtain⟨f,rfl⟩:∃f,fuel=f+1:=⟨fuel - 1,by lia⟩
  have d1:dp x < f:=by simp only[dp]at hf;lia
  have d2:dp y < f:=by simp only[dp]at hf;lia
  unfold cX
  refine aX rfl ?_
  unfold b_1c
  have e1:("num"==w.str || "given"==w.str || "one"==w.str)=false:=by cases w <;> decide
  simp only[enc]
  rfl'
  refine bM.mono ?_
  rintro _ _ ⟨rfl,rfl⟩
  rw[e1]
  rfl'
  refine(ihx f d1 _).mono ?_
  rintro _ _ ⟨rfl,rfl⟩
  rfl'
  refine(ihy f d2 _).mono ?_
  rintro _ _ ⟨rfl,rfl⟩
  rfl'
  exact⟨by simp[pap],by simp⟩
noncomputable def asR(n:Int):E->E
 |.num c=>.num (c % n)
 |.giv i=>.giv i
 |.op w a b=>.op w (asR n a) (asR n b)
theorem vO(hn:2<=n):∀{e:E},∀fuel,dp e < fuel->∀M:Mm,Ok (bT fuel [.d (.int n),.d (enc e)] M) λw M'=>w=.d (enc (asR n e))/\M'=M:=by
 intro e
 induction e with
 |num k =>
  intro fuel hf M
  obtain⟨f,rfl⟩:∃f,fuel=f+1:=⟨fuel - 1,by lia⟩
  unfold bT
  refine aX rfl ?_
  unfold b_33
  simp only[enc]
  rfl'
  exact⟨rfl,by simp⟩
 |giv k =>
  intro fuel hf M
  obtain⟨f,rfl⟩:∃f,fuel=f+1:=⟨fuel - 1,by lia⟩
  unfold bT
  refine aX rfl ?_
  unfold b_33
  simp only[enc]
  rfl'
  exact⟨rfl,by simp⟩
 |op w x y ihx ihy =>
  intro fuel hf M
  obtain⟨f,rfl⟩:∃f,fuel=f+1:=⟨fuel - 1,by lia⟩
  have d1:dp x < f:=by simp only[dp]at hf;lia
  have d2:dp y < f:=by simp only[dp]at hf;lia
  unfold bT
  refine aX rfl ?_
  unfold b_33
  simp only[enc]
  rfl'
  refine eZ (by cases w <;> decide) ?_
  rfl'
  refine eZ (by cases w <;> decide) ?_
  rfl'
  refine(ihx f d1 _).mono ?_
  rintro _ _ ⟨rfl,rfl⟩
  rfl'
  refine(ihy f d2 _).mono ?_
  rintro _ _ ⟨rfl,rfl⟩
  rfl'
  exact⟨by simp[asR,enc],by simp⟩
def At(ds:List Dd)(i:Nat)(X:List Dd):Prop:=∃p q,ds=p++X++q/\p.length=i
variable{X:List Dd}
theorem At.left{Y:List Dd}:At ds i (X++Y)->At ds i X:=by
 rintro⟨p,q,rfl,rfl⟩
 exact⟨p,Y++q,by simp,rfl⟩
theorem At.right{Y:List Dd}:At ds i (X++Y)->At ds (i+X.length) Y:=by
 rintro⟨p,q,rfl,rfl⟩
 exact⟨p++X,q,by simp,by simp⟩
theorem At.le :At ds i X->i+X.length<=ds.length:=by
 rintro⟨p,q,rfl,rfl⟩
 simp
theorem At.cut{ds:List Dd}{i:Nat}{X:List Dd}:At ds i X->∀{a b:Int},a=i->b=i+X.length->EV.cut (ds.map encD) (some a) (some b)=X.map encD:=by
 rintro⟨p,q,rfl,rfl⟩ a b rfl rfl
 rw[show((p.length:Int)+X.length)=((p.length+X.length:Nat):Int) by lia]
 simp only[EV.cut,HT.sIx_nat]
 rw[aEY (by simp),aEY (by simp)]
 simp
theorem At.get{ds:List Dd}{i:Nat}{d:Dd}{X:List Dd}:At ds i (d::X)->∀{a:Int},a=i->atI (ds.map encD) a=some (encD d):=by
 rintro⟨p,q,rfl,rfl⟩ a rfl
 simp only[atI,ixN]
 rw[aAJ (by lia),aAJ (by simp;lia)]
 simp
theorem aAp:∀xs:List Nat,deps (xs.map λk=>D.int (k:Nat))=0:=λxs=>by induction xs with|nil=>rfl|cons x r ih=>simp[deps,dep,ih]
theorem aHg(d:Dd):dep (encD d)<=10:=by
 cases d <;> simp[encD,natsD,dep,deps,aAp]
variable{a:Int}
theorem mR(h:At ds i X)(ha:a=i):Ok (gO [.d (.tup (ds.map encD)),.d (.int a),.d (.tup (X.map encD))] M) λw M'=>w=.d (.int (a+X.length))/\M'=M:=by
 unfold gO
 refine aX rfl ?_
 unfold b_13
 rfl'
 refine fZ (λj L M'=>M'=M/\∃o,L=[some (.d (.tup (ds.map encD))),some (.d (.int (a+j))),some (.d (.tup (X.map encD))),o]) ⟨rfl,none,by simp⟩ (λi L M _ _ t e=>by cases e) ?_ ?_
 ·rintro j d _ _ hx ⟨rfl,o,rfl⟩
  simp only[aAV,aAN]at hx
  obtain⟨k,hk,rfl⟩:=hx
  obtain⟨hj,hk⟩:=aAC.mp hk
  have h1:At ds (i+j) [k]:=by
   have e1:X=X.take j++([k]++X.drop (j+1)):=by
    have:=List.take_append_drop j X
    rw[aCJ hj,hk]at this
    exact this.symm
   rw[e1]at h
   have:=h.right.left
   rwa[aDY,aEY (by lia)]at this
  rfl'
  rw[h1.cut (a:=a+j) (b:=a+j+1) (by lia) (by simp;lia)]
  rfl'
  refine aCp (a:=.tup [encD k]) rfl rfl rfl (by have:=aHg k;simp only[dep,deps];lia) ?_
  rfl'
  refine aAa (by rfl) ?_
  rfl'
  exact⟨rfl,_,by rw[show a+j+1=a+((j+1:Nat):Int) by lia];rfl⟩
 ·rintro _ _ ⟨rfl,o,rfl⟩
  rfl'
  exact⟨by simp,by simp⟩
theorem nC{r:List Dd}{v:Int}{ks:List Nat}{back:Bool}{res:D}(hn:2<=n)(h:At ds i (.add s v ks ts::r))(ha:a=i)(ht:ts=if byb then[b]else[])
  (hk:(ks=[]/\res=.tup [.str "num",.int (if back then -v % n else v)])\/∃j:Nat,ks=[j]/\(if back then -v % n else v)=1/\res=.tup [.str "given",.int j]) :
  Ok (iX [.d (.int n),.d (.tup (ds.map encD)),.d (.int a),.d (.tup [.int s,.int b,.int c]),.d (.bl byb),.d (.bl back)] M) λw M'=>w=.d (.tup [res,.int (a+1)])/\M'=M:=by
 have hl:=h.le
 simp only[aBA]at hl
 unfold iX
 refine aX rfl ?_
 unfold b_11
 refine iH (aEf (Ok.mono (Q:=λw M2=>w=.d (natsD ts)/\M2=M) ?_ ?_))
 ·subst ht
  cases byb
  ·rfl'
   exact⟨rfl,rfl⟩
  ·rfl'
   exact⟨rfl,rfl⟩
 rintro _ M ⟨rfl,rfl⟩
 rfl'
 refine eZ (by simp;lia) ?_
 rfl'
 refine kL (h.get ha) ?_
 refine sA (iH (jV (Ok.mono (Q:=λc M2=>c=false/\M2=M) ?_ ?_)))
 ·simp only[encD]
  rfl'
  refine⟨λh=>absurd h (by simp),λ_=>?_⟩
  rfl'
  refine aCp (a:=natsD ts) rfl rfl rfl (by simp[natsD,dep,aAp]) ?_
  exact⟨_,rfl,rfl,rfl⟩
 rintro _ M ⟨rfl,rfl⟩
 refine eZ rfl (aEc (iH (aEf (Ok.mono (Q:=λw M2=>w=.d (.int (if back then -v % n else v))/\M2=M) ?_ ?_))))
 ·simp only[encD]
  cases back
  ·rfl'
   exact⟨rfl,rfl⟩
  ·rfl'
   exact⟨rfl,rfl⟩
 rintro _ M ⟨rfl,rfl⟩
 simp only[encD]
 rcases hk with⟨rfl,rfl⟩|⟨j,rfl,hj,rfl⟩
 ·simp only[natsD,aDW]
  rfl'
  exact⟨rfl,by simp⟩
 ·rw[hj]
  simp only[natsD,aBC,aDW]
  rfl'
  refine eZ (by simp) ?_
  rfl'
  refine⟨λh=>absurd h (by simp),λ_=>?_⟩
  rfl'
  exact⟨rfl,by simp⟩
def rowB(n:Int)(byb:Bool)(e:E)(s b c:Nat):List Dd:=if byb then rowBy n e s b c else rowAl n e s b c
def sgB(n:Int)(back:Bool)(ds:List Dd):List Dd:=if back then bDs n ds else ds
theorem yX{n:Int}{byb:Bool}(hn:1 < n){e:E}{s b c:Nat}(hw:wf G e)(hs:s < S)(hb:b < S)(hc:c < S)(h1:s≠b)(h2:s≠c)(h3:b≠c):∀d∈rowB n byb e s b c,OkD n G S d:=by
 cases byb
 ·exact eP hn hw hs hb hc h1 h2 h3
 ·exact cG hn hw hs hb hc h1 h2 h3
theorem aBl{n:Int}{byb:Bool}{e:E}{s b c:Nat}:∀d∈rowB n byb e s b c,AddD d:=by
 cases byb
 ·exact iG
 ·exact eM
theorem fP{e:E}:(rowB n byb e s b c).length=many e:=by
 cases byb
 ·exact bU
 ·exact bJ
theorem sC{v:Int}(hn:2<=n) : -(-(v % n) % n) % n=v % n:=by
 refine Cg.emod ?_
 exact(Cg.neg (Cg.modT (Cg.neg Cg.mod))).trans (Cg.of_eq (by lia))
theorem aEh(hn:2<=n)(hn2:n<=1000000)(hz:ds.length<=16777216):∀{e:E} {s b c:Nat} {byb back:Bool} {i:Nat} {a:Int},wf G e->s < S->b < S->c < S->s≠b->s≠c->b≠c->At ds i (sgB n back (rowB n byb e s b c))->a=i->∀fuel,2*dp e < fuel->∀M:Mm,
  Ok (fL fuel [.d (.int n),.d (.tup (ds.map encD)),.d (.int a),.d (pap e),.d (.tup [.int s,.int b,.int c]),.d (.bl byb),.d (.bl back)] M) λw M'=>w=.d (.tup [enc (asR n e),.int (a+(many e:Nat))])/\M'=M:=by
 intro e
 induction e with
 |num k =>
  intro s b c byb back i a hw hs hb hc h1 h2 h3 h ha fuel hf M
  obtain⟨f,rfl⟩:∃f,fuel=f+1:=⟨fuel - 1,by lia⟩
  unfold fL
  refine aX rfl ?_
  unfold b_10
  simp only[pap]
  rfl'
  have h':At ds i [.add s (if back then -(k % n) % n else k % n) [] (if byb then[b]else[])]:=by
   cases byb <;> cases back <;> exact h
  refine(nC (res:=.tup [.str "num",.int (k % n)]) hn h' ha rfl (.inl ⟨rfl,?_⟩)).mono ?_
  ·cases back
   ·rfl
   ·simp only[aCQ]
    rw[sC hn]
  rintro _ _ ⟨rfl,rfl⟩
  rfl'
  exact⟨rfl,by simp⟩
 |giv k =>
  intro s b c byb back i a hw hs hb hc h1 h2 h3 h ha fuel hf M
  obtain⟨f,rfl⟩:∃f,fuel=f+1:=⟨fuel - 1,by lia⟩
  unfold fL
  refine aX rfl ?_
  unfold b_10
  simp only[pap]
  rfl'
  have h':At ds i [.add s (if back then -(1:Int) % n else 1) [k] (if byb then[b]else[])]:=by
   cases byb <;> cases back <;> exact h
  have e1:(1:Int) % n=1:=aDS (by lia) (by lia)
  refine(nC (res:=.tup [.str "given",.int k]) hn h' ha rfl (.inr ⟨k,rfl,?_,rfl⟩)).mono ?_
  ·cases back
   ·rfl
   ·simp only[aCQ]
    have:=sC (v:=1) hn
    rwa[e1]at this
  rintro _ _ ⟨rfl,rfl⟩
  rfl'
  exact⟨rfl,by simp⟩
 |op w x y ihx ihy =>
  intro s b c byb back i a hw hs hb hc h1 h2 h3 h ha fuel hf M
  obtain⟨f,rfl⟩:∃f,fuel=f+1:=⟨fuel - 1,by lia⟩
  have d1:2*dp x+1 < f:=by simp only[dp]at hf;lia
  have d2:2*dp y+1 < f:=by simp only[dp]at hf;lia
  unfold fL
  refine aX rfl ?_
  unfold b_10
  cases w with
  |sum =>
   have e1:rowB n byb (.op .sum x y) s b c=rowB n byb x s b c++rowB n byb y s b c:=by cases byb <;> rfl
   rw[e1]at h
   simp only[pap,Wd.str]
   cases back with
   |false =>
    have g2:=h.right
    rw[fP]at g2
    rfl'
    refine(ihx (back:=false) hw.1 hs hb hc h1 h2 h3 h.left ha f (by lia) _).mono ?_
    rintro _ _ ⟨rfl,rfl⟩
    rfl'
    refine(ihy (back:=false) hw.2 hs hb hc h1 h2 h3 g2 (by lia) f (by lia) _).mono ?_
    rintro _ _ ⟨rfl,rfl⟩
    rfl'
    exact⟨by simp[asR,enc,many,Wd.str];lia,by simp⟩
   |true =>
    have h:At ds i (bDs n (rowB n byb x s b c++rowB n byb y s b c)):=h
    rw[kD]at h
    have g2:=h.right
    rw[cF,fP]at g2
    rfl'
    refine(ihy (back:=true) hw.2 hs hb hc h1 h2 h3 h.left ha f (by lia) _).mono ?_
    rintro _ _ ⟨rfl,rfl⟩
    rfl'
    refine(ihx (back:=true) hw.1 hs hb hc h1 h2 h3 g2 (by lia) f (by lia) _).mono ?_
    rintro _ _ ⟨rfl,rfl⟩
    rfl'
    exact⟨by simp[asR,enc,many,Wd.str];lia,by simp⟩
  |less =>
   have e1:rowB n byb (.op .less x y) s b c=rowB n byb x s b c++bDs n (rowB n byb y s b c):=by cases byb <;> rfl
   rw[e1]at h
   simp only[pap,Wd.str]
   cases back with
   |false =>
    have g2:=h.right
    rw[fP]at g2
    rfl'
    refine(ihx (back:=false) hw.1 hs hb hc h1 h2 h3 h.left ha f (by lia) _).mono ?_
    rintro _ _ ⟨rfl,rfl⟩
    rfl'
    refine(ihy (back:=true) hw.2 hs hb hc h1 h2 h3 g2 (by lia) f (by lia) _).mono ?_
    rintro _ _ ⟨rfl,rfl⟩
    rfl'
    exact⟨by simp[asR,enc,many,Wd.str];lia,by simp⟩
   |true =>
    have h:At ds i (bDs n (rowB n byb x s b c++bDs n (rowB n byb y s b c))):=h
    rw[kD,xZ (G:=G) (S:=S) (by lia) (yX (by lia) hw.2 hs hb hc h1 h2 h3)]at h
    have g2:=h.right
    rw[fP]at g2
    rfl'
    refine(ihy (back:=false) hw.2 hs hb hc h1 h2 h3 h.left ha f (by lia) _).mono ?_
    rintro _ _ ⟨rfl,rfl⟩
    rfl'
    refine(ihx (back:=true) hw.1 hs hb hc h1 h2 h3 g2 (by lia) f (by lia) _).mono ?_
    rintro _ _ ⟨rfl,rfl⟩
    rfl'
    exact⟨by simp[asR,enc,many,Wd.str];lia,by simp⟩
  |times =>
   have e1:rowB n byb (.op .times x y) s b c=rowB n byb y c b s++rowB n true x s c b++bDs n (rowB n byb y c b s)++bDs n (rowB n true x s c b):=by cases byb <;> rfl
   rw[e1]at h
   have kA:∀d∈rowB n byb y c b s,OkD n G S d:=yX (by lia) hw.2 hc hb hs h3.symm h2.symm h1.symm
   have kB:∀d∈rowB n true x s c b,OkD n G S d:=yX (by lia) hw.1 hs hc hb h2 h1 h3.symm
   have aA:∀d∈rowB n byb y c b s,AddD d:=aBl
   have aB:∀d∈rowB n true x s c b,AddD d:=aBl
   have lA:(rowB n byb y c b s).length=many y:=fP
   have lB:(rowB n true x s c b).length=many x:=fP
   simp only[pap,Wd.str]
   rfl'
   obtain⟨f,rfl⟩:∃f',f=f'+1:=⟨f - 1,by lia⟩
   unfold cP
   refine aX rfl ?_
   unfold b_12
   cases back with
   |false =>
    have h:At ds i (rowB n byb y c b s++rowB n true x s c b++bDs n (rowB n byb y c b s)++bDs n (rowB n true x s c b)):=h
    have hl:=h.le
    simp only[aAT,cF,lA,lB]at hl
    have gA:=h.left.left.left
    have gB:=h.left.left.right
    have gT:At ds (i+(many y+many x)) (bDs n (rowB n byb y c b s)++bDs n (rowB n true x s c b)):=by
     have:=(aHB ..▸h).right
     rwa[aAT,lA,lB]at this
    rw[lA]at gB
    rfl'
    refine(ihy (back:=false) hw.2 hc hb hs h3.symm h2.symm h1.symm gA ha f (by lia) _).mono ?_
    rintro _ _ ⟨rfl,rfl⟩
    rfl'
    refine(ihx (byb:=true) (back:=false) hw.1 hs hc hb h2 h1 h3.symm gB (by lia) f (by lia) _).mono ?_
    rintro _ _ ⟨rfl,rfl⟩
    rfl'
    rw[gA.cut (a:=a) (b:=a+(many y:Nat)) (by lia) (by lia)]
    rfl'
    refine(kW hn aA (by lia)).mono ?_
    rintro _ _ ⟨rfl,rfl⟩
    rfl'
    rw[gB.cut (a:=a+(many y:Nat)) (b:=a+(many y:Nat)+(many x:Nat)) (by lia) (by lia)]
    rfl'
    refine(kW hn aB (by lia)).mono ?_
    rintro _ _ ⟨rfl,rfl⟩
    refine eX (by simp[cF];lia) ?_
    rfl'
    rw[<- aCV]
    refine(mR gT (by lia)).mono ?_
    rintro _ _ ⟨rfl,rfl⟩
    rfl'
    exact⟨by simp[asR,enc,many,Wd.str,cF,lA,lB];lia,by simp⟩
   |true =>
    have h:At ds i (bDs n (rowB n byb y c b s++rowB n true x s c b++bDs n (rowB n byb y c b s)++bDs n (rowB n true x s c b))):=h
    rw[kD,kD,kD,xZ (by lia) kA,xZ (by lia) kB]at h
    have hl:=h.le
    simp only[aAT,cF,lA,lB]at hl
    have gB:=h.left
    have gA:=h.right.left
    have gT:=h.right.right
    rw[lB]at gA
    rw[lA,lB]at gT
    rfl'
    refine(ihx (byb:=true) (back:=false) hw.1 hs hc hb h2 h1 h3.symm gB ha f (by lia) _).mono ?_
    rintro _ _ ⟨rfl,rfl⟩
    rfl'
    refine(ihy (back:=false) hw.2 hc hb hs h3.symm h2.symm h1.symm gA (by lia) f (by lia) _).mono ?_
    rintro _ _ ⟨rfl,rfl⟩
    rfl'
    rw[gB.cut (a:=a) (b:=a+(many x:Nat)) (by lia) (by lia)]
    rfl'
    refine(kW hn aB (by lia)).mono ?_
    rintro _ _ ⟨rfl,rfl⟩
    rfl'
    rw[gA.cut (a:=a+(many x:Nat)) (b:=a+(many x:Nat)+(many y:Nat)) (by lia) (by lia)]
    rfl'
    refine(kW hn aA (by lia)).mono ?_
    rintro _ _ ⟨rfl,rfl⟩
    refine eX (by simp[cF];lia) ?_
    rfl'
    rw[<- aCV]
    refine(mR gT (by lia)).mono ?_
    rintro _ _ ⟨rfl,rfl⟩
    rfl'
    exact⟨by simp[asR,enc,many,Wd.str,cF,lA,lB];lia,by simp⟩
theorem aCv{g' s':Int}{e:E}(hn:2<=n)(hn2:n<=1000000)(hw:wf G e)(hd:dp e<=20)(hs:s < S)(hb:b < S)(hc:c < S)(h1:s≠b)(h2:s≠c)(h3:b≠c)(hm:many e<=16777216) :
  Ok (qX [.d (encP n g' s' (rowB n byb e s b c)),.d (pap e),.d (.int s),.d (.int b),.d (.int c),.d (.bl byb)] M) λw M'=>w=.d (enc (asR n e))/\M'=M:=by
 have hl:(rowB n byb e s b c).length=many e:=fP
 unfold qX
 refine aX rfl ?_
 unfold b_f encP
 rfl'
 refine(aEh (i:=0) (back:=false) hn hn2 (by lia) hw hs hb hc h1 h2 h3 ⟨[],[],by simp[sgB],rfl⟩ rfl 50 (by lia) _).mono ?_
 rintro _ M ⟨rfl,rfl⟩
 rfl'
 refine eZ (by simp[hl]) ?_
 rfl'
 exact⟨rfl,by simp⟩
theorem zE :(bDs n ds).map (rnD ps)=bDs n (ds.map (rnD ps)):=by
 unfold bDs
 rw[aCA,<- aFT,aCA]
 refine aCY λd _=>?_
 cases d <;> rfl
theorem aBu:srtN []=[]:=List.Perm.eq_nil (xA [])
theorem aCa(x:Nat):srtN [x]=[x]:=List.perm_singleton.mp (xA [x])
theorem pT{n:Int}{ps:List Nat}:∀{e:E} {s b c:Nat},(rowBy n e s b c).map (rnD ps)=rowBy n e (pl ps s) (pl ps b) (pl ps c)
 |.num k,s,b,c=>by simp only[rowBy,aBC,aDW,rnD,aCa]
 |.giv i,s,b,c=>by simp only[rowBy,aBC,aDW,rnD,aCa]
 |.op .sum x y,s,b,c=>by simp only[rowBy,aCV,pT]
 |.op .less x y,s,b,c=>by simp only[rowBy,aCV,zE,pT]
 |.op .times x y,s,b,c=>by simp only[rowBy,aCV,zE,pT]
theorem qG{n:Int}{ps:List Nat}:∀{e:E} {s b c:Nat},(rowAl n e s b c).map (rnD ps)=rowAl n e (pl ps s) (pl ps b) (pl ps c)
 |.num k,s,b,c=>by simp only[rowAl,aBC,aDW,rnD,aBu]
 |.giv i,s,b,c=>by simp only[rowAl,aBC,aDW,rnD,aBu]
 |.op .sum x y,s,b,c=>by simp only[rowAl,aCV,qG]
 |.op .less x y,s,b,c=>by simp only[rowAl,aCV,zE,qG]
 |.op .times x y,s,b,c=>by simp only[rowAl,aCV,zE,qG,pT]
theorem sM{j:Int}(hn:2<=n)(hn2:n<=1000000)(h:∃v,IsIv n j v):Ok (gR [.d (.int n),.d (.int j)] M) λw M'=>(∃v,w=.d (.int v)/\0<=v/\v < n)/\M'=M:=by
 unfold gR
 refine aX rfl ?_
 unfold b_2a
 rfl'
 refine(mL hn hn2).mono ?_
 rintro _ M ⟨rfl,h'|h'⟩
 ·obtain⟨v,hv,rfl⟩:=h'
  rfl'
  refine eZ (by simp[isN]) ?_
  rfl'
  exact⟨⟨v,rfl,hv.1,hv.2.1⟩,by simp⟩
 ·exact(h'.1 h).elim
theorem aGu{row:List Int}(hn:2<=n)(hn2:n<=1000000)(h1:1<=row.length)(h6:row.length<=5)(hr:∀x∈row,-1<=x/\x<=1)(hi:∀j:Nat,1<=j->j < row.length->∃v,IsIv n j v) :
  Ok (fM [.d (.int n),.d (.lst (row.map D.int))] M) λw M'=>(∃us:List Int,w=.d (.lst (us.map D.int))/\us.length=row.length/\(∀x∈us,0<=x/\x < n))/\M'=M:=by
 unfold fM
 refine aX rfl ?_
 unfold b_29
 have g0:atI (row.map D.int) 0=some (.int (row.getD 0 0)):=kT (i:=0) (by lia)
 have b0:=hr (row.getD 0 0) (by simp[List.getD,aBB (show 0 < row.length by lia)])
 rfl'
 refine dX g0 ?_
 rfl'
 refine⟨1,_,rfl,rfl,⟨by decide,by simp only[in62,aAU,aAL];lia⟩,?_⟩
 refine fZ (λt L M'=>∃(us ls:List Int) (ov:Int) (o5:Option W),M'=M++[us.map D.int]/\us.length=1+t/\(∀x∈us,0<=x/\x < n)/\0<=ov/\ov < n/\ls.length+t=row.length/\(∀x∈ls,-(2 ^ t:Int)<=x/\x<=2 ^ t)/\L=[some (.d (.int n)),some (.d (.lst (row.map D.int))),some (.ref M.length),some (.d (.lst (ls.map D.int))),some (.d (.int ov)),o5])
  ⟨[row.getD 0 0 % n],row,1,_,rfl,rfl,?_,by lia,by lia,rfl,hr,rfl⟩ (λi L M _ _ t e=>by cases e) ?_ ?_
 ·intro x hx
  rw[aAQ.mp hx]
  exact⟨aBM _ (by lia),aAY _ (by lia)⟩
 ·rintro t d _ _ hd ⟨us,ls,ov,o5,rfl,ul,ur,ov0,ov1,ll,lb,rfl⟩
  obtain⟨ht,rfl⟩:=lW hd
  have ht:t+1 < row.length:=by simp only[aAL]at ht;lia
  have c1:cut (ls.map D.int) (some ((1:Nat):Int)) none=(ls.map D.int).drop 1:=tX (by simp;lia)
  rfl'
  refine fC (λi acc L' M'=>∃ks:List Int,acc=ks.map D.int/\ks.length=i/\(∀x∈ks,-(2 ^ (t+1):Int)<=x/\x<=2 ^ (t+1))/\M'=M++[us.map D.int]/\∃a b,L'=[a,b]) ?_
  rfl'
  refine aEu (xs:=ls.map D.int) (x:=.d (.lst (ls.map D.int))) (λz h=>by cases h) rfl ?_
  rw[show(some (1:Int))=some ((1:Nat):Int)from rfl,c1]
  refine⟨_,_,rfl,rfl,⟨[],rfl,rfl,by simp,rfl,none,none,rfl⟩,?_,by simp[kN];lia,?_,?_⟩
  ·rintro i acc L' M' hi ⟨ks,rfl,kl,_,rfl,_⟩
   exact⟨rfl,(λt e=>by cases e),by simp[kl]⟩
  ·rintro i d acc _ _ hx ⟨ks,rfl,kl,kb,rfl,a,b,rfl⟩
   obtain⟨x,y,hx1,hx2,rfl⟩:=uZ hx
   simp only[aAV,List.getElem?_drop,aAN]at hx1 hx2
   obtain⟨x,ex,rfl⟩:=hx1
   obtain⟨y,ey,rfl⟩:=hx2
   have q1:=lb x (aAZ ex)
   have q2:=lb y (aAZ ey)
   rfl'
   refine⟨_,_,rfl,rfl,ks++[y - x],by simp,by simp[kl],?_,rfl,_,_,rfl⟩
   intro z hz
   rcases aBN.mp hz with hz|hz
   ·exact kb z hz
   ·rw[aAQ.mp hz,Int.pow_succ];lia
  rintro acc _ _ ⟨ks,rfl,kl,kb,rfl,a,b,rfl⟩
  have kl:ks.length+(t+1)=row.length:=by
   rw[kl];simp only[kN,aER,aAL];lia
  rfl'
  refine(sM hn hn2 (by have:=hi (1+t) (by lia) (by lia);simpa using this)).mono ?_
  rintro _ _ ⟨⟨v,rfl,v0,v1⟩,rfl⟩
  have gd:atI (ks.map D.int) 0=some (.int (ks.getD 0 0)):=kT (i:=0) (by lia)
  have bd:=kb (ks.getD 0 0) (by simp[List.getD,aBB (show 0 < ks.length by lia)])
  have p64:(2 ^ (t+1):Int)<=64:=by
   have:t=0\/t=1\/t=2\/t=3\/t=4:=by lia
   rcases this with rfl|rfl|rfl|rfl|rfl <;> decide
  have m0:=aBM (ov*v) (by lia:n≠0)
  have m1:=aAY (ov*v) (by lia:0 < n)
  rfl'
  refine dX gd ?_
  rfl'
  refine xF (xs:=us.map D.int) (by simp) (by simp;lia) ?_
  rfl'
  refine⟨us++[ks.getD 0 0*(ov*v % n) % n],ks,ov*v % n,_,by simp,by simp[ul];lia,?_,m0,m1,by lia,kb,rfl⟩
  intro x hx
  rcases aBN.mp hx with hx|hx
  ·exact ur x hx
  ·rw[aAQ.mp hx]
   exact⟨aBM _ (by lia),aAY _ (by lia)⟩
 ·rintro _ _ ⟨us,ls,ov,o5,rfl,ul,ur,ov0,ov1,ll,lb,rfl⟩
  simp only[rngD,aAL,aCK]at ul
  rfl'
  show Ok (retc M.length (.ref M.length) (M++[us.map D.int])) _
  unfold retc
  simp only[aDE,aDC,aCE (aAH _),Nat.sub_self,List.getElem?_cons_zero]
  exact aU ⟨⟨us,rfl,by lia,ur⟩,by simp⟩
noncomputable def tot(e:E)(r:List E):E:=r.foldl (λt p=>.op .sum t p) e
theorem aIn{G:Nat}:∀{r:List E} {e:E},wf G e->(∀x∈r,wf G x)->wf G (tot e r)
 |[],_,h,_=>h
 |x::r,e,h,hr=>aIn (r:=r) (e:=.op .sum e x) ⟨h,hr x (by simp)⟩ λy hy=>hr y (by simp[hy])
theorem aIu:∀{gs:List Nat} {e:E},dp (tot e (gs.map .giv))=dp e+gs.length/\many (tot e (gs.map .giv))=many e+gs.length
 |[],_=>⟨rfl,rfl⟩
 |x::r,e=>by
  have:=aIu (gs:=r) (e:=.op .sum e (.giv x))
  have e1:tot e ((x::r).map .giv)=tot (.op .sum e (.giv x)) (r.map .giv):=rfl
  rw[e1,this.1,this.2]
  simp only[dp,many,aBA]
  lia
noncomputable def tld(t:E)(us:List Int)(m:Nat):Nat->E
 |0=>.num (us.getD m 0)
 |j+1=>.op .sum (.num (us.getD (m - 1 - j) 0)) (.op .times (.op .less t (.num ((m - 1 - j:Nat):Int))) (tld t us m j))
theorem aIz{G:Nat}{t:E}{us:List Int}{m:Nat}(ht:wf G t)(hu:∀i,i<=m->0<=us.getD i 0/\us.getD i 0 < 1000000)(hm:m < 1000):∀j:Nat,wf G (tld t us m j)
 |0=>hu m (aAH _)
 |j+1=>⟨hu _ (by lia),⟨ht,⟨by lia,by lia⟩⟩,aIz ht hu hm j⟩
theorem aLk{t:E}{us:List Int}{m:Nat}:∀j:Nat,dp (tld t us m j)<=dp t+1+2*j
 |0=>by simp[tld,dp]
 |j+1=>by have:=aLk (t:=t) (us:=us) (m:=m) j;simp only[tld,dp];lia
theorem aAn{t:E}{us:List Int}{m:Nat}:∀j:Nat,many (tld t us m j)+(2*many t+3)=(2*many t+4)*2 ^ j
 |0=>by simp[tld,many];lia
 |j+1=>by have:=aAn (t:=t) (us:=us) (m:=m) j;simp only[tld,many];rw[aFC,<- Nat.mul_assoc,<- this];lia
structure Ex(G:Nat)(e:E):Prop where
 w:wf G e
 d:dp e<=12
 m:many e<=1000
theorem aEo{x0:Nat}{r:List Nat}(hn:2<=n)(hn2:n<=1000000)(h5:r.length<=3)(hg:∀x∈x0::r,x < G)(hi:∀j:Nat,1<=j->j<=4->∃v,IsIv n j v)(k0:0<=k)(k6:k<=6) :
  Ok (gQ [.d (.int n),.d (.int k),.d (.lst (((x0::r).map E.giv).map enc))] M) λw M'=>(∃e,w=.d (enc e)/\Ex G e)/\M'=M:=by
 unfold gQ
 refine aX rfl ?_
 unfold b_28
 rfl'
 refine dX (at0 _ _) ?_
 rfl'
 refine aEu (xs:=((x0::r).map E.giv).map enc) (x:=.d (.lst (((x0::r).map E.giv).map enc))) (λz h=>by cases h) rfl ?_
 have c1:cut (((x0::r).map E.giv).map enc) (some ((1:Nat):Int)) none=(r.map E.giv).map enc:=by rw[tX (by simp)];rfl
 rw[show(some (1:Int))=some ((1:Nat):Int)from rfl,c1]
 rfl'
 refine fZ (λt L M'=>M'=M/\∃o5,L=[some (.d (.int n)),some (.d (.int k)),some (.d (.lst (((x0::r).map E.giv).map enc))),some (.d (.int (((x0::r).map E.giv).map enc).length)),some (.d (enc (tot (.giv x0) ((r.map E.giv).take t)))),o5,none,none,none]) ⟨rfl,_,rfl⟩ (λi L M _ _ t e=>by cases e) ?_ ?_
 ·rintro t d _ M hd ⟨rfl,o5,rfl⟩
  rw[show({ds:=(r.map E.giv).map enc,k:=none}:Src).ds=(r.map E.giv).map enc from rfl,aAV,aAN]at hd
  obtain⟨x,ex,rfl⟩:=hd
  rfl'
  have:tot (.giv x0) ((r.map E.giv).take (t+1))=.op .sum (tot (.giv x0) ((r.map E.giv).take t)) x:=by rw[aBU,ex];simp[tot]
  rw[this]
  exact⟨rfl,_,rfl⟩
 rintro _ M ⟨rfl,o5,rfl⟩
 rw[show(r.map E.giv).take {ds:=(r.map E.giv).map enc,k:=none:Src}.ds.length=r.map E.giv from aAS (by simp)]
 rfl'
 refine fC (λi acc L' M'=>(∃ks:List Int,acc=ks.map D.int/\ks.length=i/\∀x∈ks,-1<=x/\x<=1)/\M'=M/\∃a,L'=[a,some (.d (.int k))]) ?_
 rfl'
 refine⟨by simp only[in62,aAU,aAL,aBA];lia,⟨⟨[],rfl,rfl,by simp⟩,rfl,none,rfl⟩,?_,by simp only[rngD,aAL,aCK,aBA];lia,?_,?_⟩
 ·rintro i acc L' M' hi ⟨⟨ks,rfl,kl,_⟩,rfl,_⟩
  exact⟨rfl,(λt e=>by cases e),by simp[kl]⟩
 ·rintro i d acc _ M hx ⟨⟨ks,rfl,kl,kb⟩,rfl,a,rfl⟩
  obtain⟨_,rfl⟩:=lW hx
  have kb':∀y:Int,-1<=y/\y<=1->∀x∈ks++[y],-1<=x/\x<=1:=λy hy x hx=>by
   rcases aBN.mp hx with hx|hx
   ·exact kb x hx
   ·rw[aAQ.mp hx];exact hy
  rfl'
  refine iJ (λh=>?_) (λh=>?_)
  ·rfl'
   exact⟨_,_,rfl,rfl,⟨ks++[1],by simp,by simp[kl],kb' 1 (by lia)⟩,rfl,_,rfl⟩
  ·rfl'
   exact⟨_,_,rfl,rfl,⟨ks++[0],by simp,by simp[kl],kb' 0 (by lia)⟩,rfl,_,rfl⟩
 rintro acc _ M ⟨⟨ks,rfl,kl,kb⟩,rfl,a,rfl⟩
 have kl:ks.length=r.length+2:=by rw[kl];simp[rngD];lia
 rfl'
 refine(aGu (row:=ks) hn hn2 (by lia) (by lia) kb ?_).mono ?_
 ·intro j h1 h2
  exact hi j h1 (by lia)
 rintro _ M ⟨⟨us,rfl,ul,ur⟩,rfl⟩
 have um:∀i,i<=r.length+1->us.getD i 0∈us:=by
  intro i hi
  simp[List.getD,aBB (show i < us.length by lia)]
 have gm:∀i:Nat,i<=r.length+1->atI (us.map D.int) (i:Int)=some (.int (us.getD i 0)):=by
  intro i hi
  exact kT (by lia)
 have hlen:(((x0::r).map E.giv).map enc).length=r.length+1:=by simp
 rw[hlen]
 rfl'
 refine dX (gm (r.length+1) (aAH _)) ?_
 rfl'
 refine⟨by lia,by lia,?_⟩
 rw[aBP]
 refine fZ (λt L M'=>M'=M/\∃o8,L=[some (.d (.int n)),some (.d (.int k)),some (.d (.lst (((x0::r).map E.giv).map enc))),some (.d (.int (r.length+1:Nat))),some (.d (enc (tot (.giv x0) (r.map E.giv)))),o5,some (.d (.lst (us.map D.int))),some (.d (enc (tld (tot (.giv x0) (r.map E.giv)) us (r.length+1) t))),o8]) ⟨rfl,_,rfl⟩ (λi L M _ _ t e=>by cases e) ?_ ?_
 ·rintro t d _ M hd ⟨rfl,o8,rfl⟩
  obtain⟨ht,rfl⟩:=wV hd
  rw[show((r.length+1:Nat):Int) - 1 - (t:Nat)=((r.length+1 - 1 - t:Nat):Int) by lia]
  rfl'
  refine dX (gm (r.length+1 - 1 - t) (by lia)) ?_
  rfl'
  exact⟨rfl,_,rfl⟩
 ·rintro _ M ⟨rfl,o8,rfl⟩
  rw[show(Src.ds {ds:=downD (r.length+1),k:=none:Src}).length=r.length+1 from pV]
  rfl'
  have t1:=aIu (gs:=r) (e:=.giv x0)
  simp only[dp,many]at t1
  refine⟨⟨_,rfl,aIz (aIn (show wf G (.giv x0)from hg x0 (by simp)) ?_) ?_ (by lia) _,?_,?_⟩,by simp⟩
  ·intro x hx
   obtain⟨y,hy,rfl⟩:=aBK.mp hx
   exact hg y (by simp[hy])
  ·intro i hi
   have:=ur _ (um i hi)
   lia
  ·have:=aLk (t:=tot (.giv x0) (r.map E.giv)) (us:=us) (m:=r.length+1) (r.length+1)
   lia
  ·have:=aAn (t:=tot (.giv x0) (r.map E.giv)) (us:=us) (m:=r.length+1) (r.length+1)
   rw[t1.2]at this
   have h2:(2*(1+r.length)+4)*2 ^ (r.length+1)<=12*2 ^ 4:=Nat.mul_le_mul (by lia) (aCG (by lia) (by lia))
   lia
theorem aKe{f:Nat}:Ok (jH (f+1) [.d (.int n),.d (.tup [.str "yes",.int i])] M) λw M'=>w=.d (enc (.giv i))/\M'=M:=by
 unfold jH
 refine aX rfl ?_
 unfold b_27
 rfl'
 exact⟨rfl,by simp⟩
def yesD(i:Nat):D:=.tup [.str "yes",.int i]
theorem aHc{gs:List Nat}(hn:2<=n)(hn2:n<=1000000)(h5:gs.length<=4)(h1:1<=gs.length)(hg:∀x∈gs,x < G)(hi:∀j:Nat,1<=j->j<=4->∃v,IsIv n j v)(k0:0<=k)(k6:k<=6) :
  Ok (jH 50 [.d (.int n),.d (.tup [.str "least",.int k,.tup (gs.map yesD)])] M) λw M'=>(∃e,w=.d (enc e)/\Ex G e)/\M'=M:=by
 rw[jH]
 refine aX rfl ?_
 unfold b_27
 rfl'
 refine fC (λi acc L' M'=>acc=((gs.take i).map E.giv).map enc/\M'=M/\∃a,L'=[a,some (.d (.int n))]) ?_
 rfl'
 refine⟨⟨rfl,rfl,none,rfl⟩,?_,by simp;lia,?_,?_⟩
 ·rintro i acc L' M' hi ⟨rfl,rfl,_⟩
  exact⟨rfl,(λt e=>by cases e),by simp;lia⟩
 ·rintro i d acc _ M hd ⟨rfl,rfl,a,rfl⟩
  simp only[aAV,aAN]at hd
  obtain⟨x,ex,rfl⟩:=hd
  rfl'
  refine aKe.mono ?_
  rintro _ M ⟨rfl,rfl⟩
  exact⟨_,_,rfl,rfl,by rw[aBU,ex];simp,rfl,_,rfl⟩
 ·rintro acc L' M ⟨rfl,rfl,_⟩
  rw[aAS (by simp)]
  rfl'
  cases gs with
  |nil=>simp at h1
  |cons x0 r =>
   refine(aEo hn hn2 (by simpa using h5) hg hi k0 k6).mono ?_
   rintro _ M ⟨⟨e,rfl,ee⟩,rfl⟩
   rfl'
   exact⟨⟨e,rfl,ee⟩,by simp⟩
theorem aAh{e:E}(h:dp e<=0):many e=1:=by
 cases e with
 |num c=>rfl
 |giv c=>rfl
 |op w a b=>simp[dp]at h
theorem aEw(hb:Bx M b)(g1:G < 1000):Ok (lS [.ref b,.d (.int G)] M) λw M'=>∃e:E,w=.d (enc e)/\Ex G e/\Nx b M M':=by
 have n:=Nx.refl hb
 unfold lS
 refine aX rfl ?_
 unfold b_35
 rfl'
 refine(rK g1 0 50 _ b 1 0 hb (by lia) rfl (by lia)).mono ?_
 rintro _ _ ⟨e0,rfl,d0,w0,n'⟩
 replace n:=n.trans n'
 replace hb:=n'.bx hb
 clear n'
 rfl'
 refine⟨by decide,?_⟩
 refine fZ (λi L M'=>∃(e:E) (o3 o4:Option W),wf G e/\dp e<=i/\many e+2<=3*2 ^ i/\Nx b M M'/\Bx M' b/\L=[some (.ref b),some (.d (.int G)),some (.d (enc e)),o3,o4]) ⟨e0,_,_,w0,d0,by rw[aAh d0];decide,n,hb,rfl⟩ (λi L M _ _ t e=>by cases e) ?_ ?_
 ·clear n hb
  rintro i d _ M1 hd ⟨e,o3,o4,we,de,me,n,hb,rfl⟩
  rfl'
  refine(rK g1 0 50 _ b 1 0 hb (by lia) rfl (by lia)).mono ?_
  rintro _ _ ⟨s,rfl,ds,ws,n'⟩
  replace n:=n.trans n'
  replace hb:=n'.bx hb
  clear n'
  have ms:=aAh ds
  rfl'
  (refine(bE hb (by lia) (by lia)).mono ?_;rintro _ _ ⟨d2,rfl,l_d2,u_d2,n'⟩;replace n:=n.trans n';replace hb:=n'.bx hb;clear n')
  have h01:d2=0\/d2=1:=by lia
  rcases h01 with rfl|rfl
  ·refine dX (d:=.tup [enc e,enc s]) rfl ?_
   refine eX (by simp) ?_
   rfl'
   exact⟨.op .times e s,_,_,⟨we,ws⟩,by simp only[dp];lia,by simp only[many];rw[aFC];lia,n,hb,rfl⟩
  ·refine dX (d:=.tup [enc s,enc e]) rfl ?_
   refine eX (by simp) ?_
   rfl'
   exact⟨.op .times s e,_,_,⟨ws,we⟩,by simp only[dp];lia,by simp only[many];rw[aFC];lia,n,hb,rfl⟩
 ·clear n hb
  rintro _ M1 ⟨e,o3,o4,we,de,me,n,hb,rfl⟩
  rw[show(Src.ds {ds:=rngD 0 (Int.toNat 8),k:=none:Src}).length=8 from rfl]at de me
  rfl'
  rw[n.take]
  exact⟨⟨we,by lia,by lia⟩,n⟩
theorem aAd(hb:Bx M b)(g0:0 < G)(g1:G < 1000)(hn:2<=n)(hn2:n<=1000000)(hi:∀j:Nat,1<=j->j<=4->∃v,IsIv n j v):Ok (lV [.ref b,.d (.int n),.d (.int G)] M) λw M'=>∃e:E,w=.d (enc e)/\Ex G e/\Nx b M M':=by
 have n0:=Nx.refl hb
 unfold lV
 refine aX rfl ?_
 unfold b_36
 rfl'
 refine fC (λi acc L' M'=>∃gs:List Nat,acc=gs.map yesD/\gs.length=i/\(∀x∈gs,x < G)/\Nx b M M'/\Bx M' b/\∃a,L'=[a,some (.ref b),some (.d (.int G))]) ?_
 rfl'
 refine(bE hb (by lia) (by lia)).mono ?_
 rintro _ M0 ⟨d1,rfl,l1,u1,n'⟩
 replace n0:=n0.trans n'
 replace hb:=n'.bx hb
 clear n'
 rfl'
 refine⟨by simp only[in62,aAU];lia,⟨[],rfl,rfl,by simp,n0,hb,none,rfl⟩,?_,by simp only[rngD,aAL,aCK];lia,?_,?_⟩
 ·rintro i acc L' M' hi ⟨gs,rfl,hl,_,n',_⟩
  exact⟨n'.len.trans n0.len.symm,(λt e=>by cases e),by simp[hl]⟩
 ·rintro i d acc _ M1 hx ⟨gs,rfl,hl,hr,n',hb',a,rfl⟩
  rfl'
  refine(bE (hb'.app (J:=[gs.map yesD])) (by lia) (by lia)).mono ?_
  rintro _ _ ⟨r,rfl,l,u,n2⟩
  obtain⟨M2,rfl,n3⟩:=n2.unapp hb'.lt
  obtain⟨r,rfl⟩:∃k:Nat,r=k:=⟨r.toNat,by lia⟩
  rfl'
  refine⟨_,M2,rfl,rfl,gs++[r],by simp[yesD],by simp[hl],?_,n'.trans n3,n3.bx hb',_,rfl⟩
  intro c hc
  rcases aBN.mp hc with hc|hc
  ·exact hr c hc
  ·rw[aAQ.mp hc];lia
 ·clear n0 hb
  rintro acc _ M1 ⟨gs,rfl,hl,hr,n0,hb,a,rfl⟩
  simp only[rngD,aAL,aCK]at hl
  rfl'
  refine kY (xs:=gs.map yesD) rfl ?_
  rfl'
  refine(bE hb (by lia) (by lia)).mono ?_
  rintro _ M2 ⟨d2,rfl,l2,u2,n'⟩
  replace n0:=n0.trans n'
  rfl'
  refine(aHc hn hn2 (by lia) (by lia) hr hi (by lia) (by lia)).mono ?_
  rintro _ M2 ⟨⟨e,rfl,ee⟩,rfl⟩
  rfl'
  rw[n0.take]
  exact⟨ee,n0⟩
theorem SrtD.backs{n:Int}{ds:List Dd}(h:∀d∈ds,SrtD d):∀d∈bDs n ds,SrtD d:=by
 intro d hd
 obtain⟨x,hx,rfl⟩:=aBK.mp hd
 have:=h x (aET.mp hx)
 cases x with
 |add s c g t=>exact this
 |scale s u=>exact this
theorem fH{n:Int}:∀{e:E} {s b c:Nat},∀d∈rowBy n e s b c,SrtD d
 |.num _,_,_,_=>λd hd=>by rw[aAQ.mp hd];simp[SrtD]
 |.giv _,_,_,_=>λd hd=>by rw[aAQ.mp hd];simp[SrtD]
 |.op .sum x y,s,b,c=>aZ fH fH
 |.op .less x y,s,b,c=>aZ fH (SrtD.backs fH)
 |.op .times x y,s,b,c=>aZ (aZ (aZ fH fH) (SrtD.backs fH)) (SrtD.backs fH)
theorem iF{n:Int}:∀{e:E} {s b c:Nat},∀d∈rowAl n e s b c,SrtD d
 |.num _,_,_,_=>λd hd=>by rw[aAQ.mp hd];simp[SrtD]
 |.giv _,_,_,_=>λd hd=>by rw[aAQ.mp hd];simp[SrtD]
 |.op .sum x y,s,b,c=>aZ iF iF
 |.op .less x y,s,b,c=>aZ iF (SrtD.backs iF)
 |.op .times x y,s,b,c=>aZ (aZ (aZ iF fH) (SrtD.backs iF)) (SrtD.backs fH)
theorem zX:∀e:E,dep (enc e)<=dp e+3
 |.num c=>by simp[enc,dep,deps,dp]
 |.giv c=>by simp[enc,dep,deps,dp]
 |.op w a b=>by have:=zX a;have:=zX b;simp[enc,dep,deps,dp];lia
theorem aEp{n:Int}:∀{e:E},dp (asR n e)=dp e
 |.num _=>rfl
 |.giv _=>rfl
 |.op _ a b=>by simp only[asR,dp,aEp (e:=a),aEp (e:=b)]
theorem aDs{n:Int}(h0:0 < n)(h1:n<=1000000){G:Nat}:∀{e:E},wf G e->wf G (asR n e)
 |.num c,_=>⟨aBM _ (by lia),by have:=aAY c h0;lia⟩
 |.giv _,h=>h
 |.op _ _ _,h=>⟨aDs h0 h1 h.1,aDs h0 h1 h.2⟩
theorem aCy{n:Nat}{e:E}{p q r:Nat}(hn:2<=n)(hn2:n<=1000000)(he:Ex gs.length e)(hG:gs.length<=8)(hg:Rs n gs)(hc:Rs n cs)(hz:cs.length<=9)(h1:p≠q)(h2:p≠r)(h3:q≠r)(hp:p < cs.length)(hq:q < cs.length)(hr:r < cs.length) :
  Ok (lR [.d (.int n),.d (enc e),.d (natsD [p,q,r]),.d (intsD gs),.d (intsD cs)] M) λw M'=>w=.d (.bl true)/\M'=M:=by
 have hw:=he.w
 have hd:=he.d
 have hm:=he.m
 have w8:wf 8 e:=wf.mono hG hw
 have hnw:nw e<=1000000:=by have:=aEz e 12 hd;lia
 have htx:=mG e w8
 have hn':(2:Int)<=n:=by lia
 have hn2':(n:Int)<=1000000:=by lia
 obtain⟨S,hS⟩:∃S,mxN [p,q,r]+1=S:=⟨_,rfl⟩
 have pS:p < S:=by have:=aDr (ps:=[p,q,r]) (k:=p) (by simp);lia
 have qS:q < S:=by have:=aDr (ps:=[p,q,r]) (k:=q) (by simp);lia
 have rS:r < S:=by have:=aDr (ps:=[p,q,r]) (k:=r) (by simp);lia
 have Sc:S<=cs.length:=by
  have:=aOe (ps:=[p,q,r]) (by simp)
  simp only[aAO,aBL,aDB]at this
  lia
 have hrow:(rowAl n e 0 1 2).map (rnD [p,q,r])=rowAl n e p q r:=qG
 have ok3:∀d∈rowAl n e 0 1 2,OkD n gs.length [p,q,r].length d:=eP (by lia) hw (by simp) (by simp) (by simp) (by lia) (by lia) (by lia)
 have okS:∀d∈rowAl n e p q r,OkD n gs.length S d:=eP (by lia) hw pS qS rS h1 h2 h3
 have hlen:∀s b c,(rowAl n e s b c).length<=1000:=λs b c=>by rw[bU];exact hm
 have hb:(2<=n/\n<=1000000)/\gs.length<=8/\1<=S/\S<=9:=⟨⟨hn,hn2⟩,hG,by lia,by lia⟩
 have wr:∀d∈rowAl n e p q r,Wr d:=λd h=>aTx hn2' hG hb.2.2.2 (okS d h)
 have pl:=aLe hb wr
 have hl':=hlen p q r
 unfold lR
 refine aX rfl ?_
 unfold b_34
 rfl'
 rw[show intsD gs=.tup (gs.map D.int)from rfl]
 rfl'
 rw[aAL]
 refine(sD e 50 _ (by lia) w8 hnw).mono ?_
 rintro _ M ⟨rfl,rfl⟩
 rfl'
 refine(vI (by lia) w8 (by lia)).mono ?_
 rintro _ M ⟨rfl,rfl⟩
 rfl'
 refine(sN hn' hn2' hw hd (by lia)).mono ?_
 rintro _ M ⟨rfl,rfl⟩
 rfl'
 refine(zY ok3 (by simp) (by have:=hlen 0 1 2;lia)).mono ?_
 rintro _ M ⟨rfl,rfl⟩
 rw[hrow,hS]
 rfl'
 refine(xR hb wr (by lia)).mono ?_
 rintro _ M ⟨rfl,rfl⟩
 rfl'
 refine(aHb hb (λd h=>⟨okS d h,iF d h⟩) (by lia) (by lia)).mono ?_
 rintro _ M ⟨rfl,rfl⟩
 refine sA (iH (jV (Ok.mono (Q:=λc M2=>c=false/\M2=M) ?_ ?_)))
 ·rfl'
  refine(xR hb wr (by lia)).mono ?_
  rintro _ M ⟨rfl,rfl⟩
  rfl'
  refine⟨λh=>absurd h (by simp),λ_=>?_⟩
  unfold encP
  rfl'
  unfold natsD
  refine aFu (ns:=[p,q,r].map λk:Nat=>(k:Int)) rfl (kP _) (by simp) ?_
  rw[pQ (by simp)]
  rfl'
  exact⟨by simp;lia,rfl⟩
 rintro _ M ⟨rfl,rfl⟩
 refine eZ rfl ?_
 rw[show natsD [p,q,r]=.tup [.int p,.int q,.int r]from rfl,show intsD cs=.tup (cs.map D.int)from rfl]
 rfl'
 refine kL (kT hp) ?_
 rfl'
 rw[show D.tup (gs.map D.int)=intsD gs from rfl]
 refine(aDx hn' hn2' hg hw 50 (by lia) _).mono ?_
 rintro _ M ⟨rfl,rfl⟩
 have v0:=hc.getD hp
 have v1:=rR (n:=(n:Int)) (by lia) hg (e:=e)
 rfl'
 rw[tE (by simp;lia)]
 refine eX (by simp;lia) ?_
 rfl'
 rw[show((p:Int)+1)=((p+1:Nat):Int)from rfl,tX (by simp;lia)]
 refine eX (by simp;lia) ?_
 rw[yS hp]
 unfold encP
 rfl'
 rw[tE (by simp;lia),<- List.map_take,show D.tup ((cs.take S).map D.int)=intsD (cs.take S)from rfl]
 have tl:(cs.take S).length=S:=by simp;lia
 refine(aIo hn' hn2' hg (λc h=>hc c (aCP h)) (by rw[tl];exact okS) (by lia)).mono ?_
 rintro _ M ⟨rfl,rfl⟩
 rw[jT (S:=S) (by lia) hw pS qS rS h1 h2 h3 _ (λc h=>hc c (aCP h)) tl]
 rfl'
 rw[tE (by simp;lia),<- List.map_take,List.take_set,show(cs.take S).getD p 0=cs.getD p 0 by simp[List.getD,aFE,pS]]
 refine aCp rfl rfl rfl (aBy _) ?_
 rfl'
 refine(vJ 50 (by lia) _).mono ?_
 rintro _ M ⟨rfl,rfl⟩
 rfl'
 rw[show D.tup [.int (n:Int),.int (gs.length:Nat),.int (S:Nat),.tup ((rowAl n e p q r).map encD)]=encP n gs.length S (rowB n false e p q r)from rfl]
 refine(aCv (G:=gs.length) (S:=S) hn' hn2' hw (by lia) pS qS rS h1 h2 h3 (by lia)).mono ?_
 rintro _ M ⟨rfl,rfl⟩
 rfl'
 refine(vO hn' 50 (by lia) _).mono ?_
 rintro _ M ⟨rfl,rfl⟩
 have dR:dp (asR (n:Int) e)=dp e:=aEp
 have wR:wf 8 (asR (n:Int) e):=aDs (by lia) hn2' w8
 have nR:nw (asR (n:Int) e)<=1000000:=by have:=aEz (asR (n:Int) e) 12 (by lia);lia
 rfl'
 refine aRz rfl rfl rfl (by have:=zX (asR n e);lia) ?_
 rfl'
 refine(tP _ 50 _ (by lia) wR nR).mono ?_
 rintro _ M ⟨rfl,rfl⟩
 rfl'
 refine(sD _ 50 _ (by lia) wR nR).mono ?_
 rintro _ M ⟨rfl,rfl⟩
 rfl'
 exact⟨by simp,by simp⟩
theorem aCd{M0:Mm}{m:Nat}{Q:W->Mm->Prop}(hb:Bx M0 b)(h0:3<=m)(h1:m<=9)(e:outL js L=[none,some (.ref M0.length),some (.ref b)])
  (q:∀(x y z:Nat) (M':Mm),x≠y->x≠z->y≠z->x < m->y < m->z < m->Bx M' b->Q (.d (.lst [.int x,.int y,.int z])) M') :
  Ok (eComp js (iR1 (eC (.int 3))) (gN 0) EV.tYes (eM1 pPopAt (eV 1) (eA bF (aCons (eV 2) (aCons (eA cLen (aCons (eV 1) aNil)) aNil)))) L (M0++[rngD 0 m])) Q:=by
 refine fC (λi acc L' M'=>∃(Mi:Mm) (lf ns:List Int),M'=Mi++[lf.map D.int]/\Mi.length=M0.length/\Bx Mi b/\(lf.length:Int)=m - i/\acc=ns.map D.int/\ns.length=i/\(ns++lf).Nodup/\(∀x∈ns++lf,0<=x/\x < m)/\∃a,L'=[a,some (.ref M0.length),some (.ref b)]) ?_
 rfl'
 refine⟨by decide,⟨M0,(List.range m).map λk=>(0:Int)+(k:Nat),[],?_,rfl,hb,by simp,rfl,rfl,?_,?_,none,e⟩,?_,by decide,?_,?_⟩
 ·rw[xG];simp[rInts]
 ·simp only[aFZ]
  refine List.Pairwise.map _ (λa b h=>?_) List.nodup_range
  lia
 ·intro x hx
  obtain⟨k,hk,rfl⟩:=aBK.mp (by simpa only[aFZ]using hx)
  have:=List.mem_range.mp hk
  lia
 ·rintro i acc L' M' hi ⟨Mi,lf,ns,rfl,n,_,_,rfl,hl,_⟩
  exact⟨by simp[n],(λt e=>by cases e),by simp[hl]⟩
 ·rintro i d acc _ _ hx ⟨Mi,lf,ns,rfl,n,hb',hlf,rfl,hl,nd,rg,a,rfl⟩
  obtain⟨hi,rfl⟩:=lW hx
  have e1:M0.length=Mi.length:=n.symm
  rfl'
  refine yW (xs:=lf.map D.int) (by rw[e1];simp) ?_
  rfl'
  rw[show Mi++[lf.map D.int]++[ns.map D.int]=Mi++[lf.map D.int,ns.map D.int] by simp]
  refine(bE (hb'.app (J:=[lf.map D.int,ns.map D.int])) (by simp;lia) (by simp;lia)).mono ?_
  rintro _ _ ⟨d2,rfl,l2,u2,n'⟩
  obtain⟨M2,rfl,n2⟩:=n'.unapp hb'.lt
  have e2:M0.length=M2.length:=by rw[n2.len,e1]
  have u2':d2.toNat < lf.length:=by simp at u2;lia
  refine aKi (xs:=lf.map D.int) (d:=.int lf[d2.toNat]) (by rw[e2];simp) l2 u2 (by simp;lia) (by simp[u2']) ?_
  have hp:List.Perm ((ns++[lf[d2.toNat]])++lf.eraseIdx d2.toNat) (ns++lf):=by
   rw[aHB]
   refine List.Perm.append_left ns ?_
   exact aCx lf _ u2'
  refine⟨_,M2++[(lf.eraseIdx d2.toNat).map D.int],rfl,?_,M2,lf.eraseIdx d2.toNat,ns++[lf[d2.toNat]],rfl,e2.symm,n2.bx hb',?_,by simp,by simp[hl],(hp.nodup_iff).mpr nd,λx hx=>rg x (hp.mem_iff.mp hx),_,rfl⟩
  ·rw[e2];simp[aHu]
  ·rw[List.length_eraseIdx_of_lt u2'];lia
 ·rintro acc _ _ ⟨Mi,lf,ns,rfl,n,hb',hlf,rfl,hl,nd,rg,a,rfl⟩
  have hl3:ns.length=3:=hl
  match ns,hl3 with
  |[x,y,z],_ =>
   have gx:=rg x (by simp)
   have gy:=rg y (by simp)
   have gz:=rg z (by simp)
   obtain⟨x,rfl⟩:∃k:Nat,x=k:=⟨x.toNat,by lia⟩
   obtain⟨y,rfl⟩:∃k:Nat,y=k:=⟨y.toNat,by lia⟩
   obtain⟨z,rfl⟩:∃k:Nat,z=k:=⟨z.toNat,by lia⟩
   simp at nd
   exact q x y z _ (by lia) (by lia) (by lia) (by lia) (by lia) (by lia) hb'.app
theorem aOk(h:n=7\/n=97\/n=1009\/n=999983):∀j:Nat,1<=j->j<=4->∃v,IsIv n j v:=by
 intro j h1 h2
 have hj:j=1\/j=2\/j=3\/j=4:=by lia
 have key:∃v:Int,0<=v/\v < n/\(j:Int)*v % n=1 % n:=by
  rcases h with rfl|rfl|rfl|rfl <;> rcases hj with rfl|rfl|rfl|rfl
  all_goals first|exact⟨1,by decide⟩|exact⟨4,by decide⟩|exact⟨5,by decide⟩|exact⟨2,by decide⟩|exact⟨49,by decide⟩|exact⟨65,by decide⟩|exact⟨73,by decide⟩|exact⟨505,by decide⟩|exact⟨673,by decide⟩|exact⟨757,by decide⟩|exact⟨499992,by decide⟩|exact⟨333328,by decide⟩|exact⟨249996,by decide⟩
 exact key
theorem aTh(ns:List Int)(hn:ns.length<=63):Ok (tS [.d (.fz (ns.map D.int))] []) λw _=>w=.d (.bl true):=by
 unfold tS
 refine aX rfl ?_
 unfold b_37
 rfl'
 refine⟨by simp only[in62,aAU];repeat split <;> lia,?_⟩
 refine fZ (λi L M=>∃(o1 o2 o3 o4 o5 o6 o7 o8 o9:Option W),L=[some (.d (.fz (ns.map D.int))),o1,o2,o3,o4,o5,o6,o7,o8,o9]) ⟨_,_,_,_,_,_,_,_,_,rfl⟩ (λi L M _ _ t e=>by cases e) ?_ ?_
 ·rintro i d _ M hd ⟨o1,o2,o3,o4,o5,o6,o7,o8,o9,rfl⟩
  obtain⟨hi,rfl⟩:=lW hd
  rfl'
  refine(aIr (by lia) hn).mono ?_
  rintro _ _ ⟨x,y,z,rfl,rfl⟩
  have hb:Bx (M++[[.int x,.int y,.int z]]) M.length:=⟨x,y,z,by simp⟩
  obtain⟨b,hbe⟩:∃b,M.length=b:=⟨_,rfl⟩
  rw[hbe]at hb ⊢
  have n:=Nx.refl hb
  rfl'
  refine(aSd hb).mono ?_
  rintro _ _ ⟨m,rfl,m2,m1,n'⟩
  replace n:=n.trans n'
  replace hb:=n'.bx hb
  clear n'
  rfl'
  (refine(bE hb (by lia) (by lia)).mono ?_;rintro _ _ ⟨d1,rfl,l_d1,u_d1,n'⟩;replace n:=n.trans n';replace hb:=n'.bx hb;clear n')
  rfl'
  (refine(bE hb (by lia) (by lia)).mono ?_;rintro _ _ ⟨d2,rfl,l_d2,u_d2,n'⟩;replace n:=n.trans n';replace hb:=n'.bx hb;clear n')
  rfl'
  rename_i M1
  have ml:M1.length=b+1:=by rw[n.len];simp[hbe]
  obtain⟨c,hc⟩:∃c:Nat,3+d2=c:=⟨(3+d2).toNat,by lia⟩
  obtain⟨G,hG⟩:∃G:Nat,1+d1=G:=⟨(1+d1).toNat,by lia⟩
  rw[hc]
  refine aQw (by lia) (by lia) ?_
  rw[aBP,hG]
  clear n
  rfl'
  refine yW (xs:=rngD 0 c) (by simp) ?_
  rfl'
  rw[show(rngD 0 c).length=c by simp[rngD]]
  refine(pD (hb.app (J:=[rngD 0 c])) m2 m1 (by lia) (by lia)).mono ?_
  rintro _ _ ⟨cs,rfl,csl,csr,n'⟩
  obtain⟨M2,rfl,n2⟩:=n'.unapp hb.lt
  rw[<- n2.len]
  replace hb:=n2.bx hb
  clear n' n2
  rfl'
  refine aCd hb (by lia) (by lia) rfl ?_
  clear hb
  intro p q r M3 h1 h2 h3 hp hq hr hb
  rfl'
  refine kY rfl ?_
  rfl'
  refine(rK (G:=G) (by lia) 4 50 _ b 9 4 hb (by lia) rfl (by lia)).mono ?_
  rintro _ M4 ⟨e,rfl,ed,ew,n'⟩
  replace hb:=n'.bx hb
  clear n'
  have ex:Ex G e:=⟨ew,by lia,aBO zN (aBO (aCG (by lia) ed) (by decide))⟩
  clear ed ew
  rfl'
  refine(bE hb (by lia) (by lia)).mono ?_
  rintro _ M5 ⟨d3,rfl,l3,u3,n'⟩
  replace hb:=n'.bx hb
  clear n'
  refine aPt ⟨_,_,rfl,iH (jV (Ok.mono (Q:=λc M6=>M6=M5) ?_ ?_))⟩
  ·rfl'
   refine⟨λh=>?_,λ_=>rfl⟩
   rfl'
   rfl
  rintro cc _ rfl
  refine Ok.mono (Q:=λo M6=>Bx M6 b/\∃e,Ex G e/\o=.nx [some (.d (.fz (ns.map D.int))),some (.d (.int (0+i))),some (.ref b),some (.d (.int m)),some (.d (.int G)),some (.ref M2.length),some (.d (intsD cs)),some (.d (.tup [.int p,.int q,.int r])),some (.d (enc e)),some (.d (.int d3))]) ?_ ?_
  ·refine aBx (λ_=>?_) (λ_=>?_)
   ·rfl'
    refine(aEw hb (by lia)).mono ?_
    rintro _ M6 ⟨e,rfl,ex,n'⟩
    rfl'
    exact⟨n'.bx hb,e,ex,rfl⟩
   ·rfl'
    exact⟨hb,e,ex,rfl⟩
  clear ex hb
  rintro _ M6 ⟨hb,e,ex,rfl⟩
  refine iH (Ok.mono (Q:=λo M7=>Bx M7 b/\∃(m:Nat) (e:E) (cs:List Int),2<=m/\m<=1000000/\cs.length=c/\Rs m cs/\Ex G e/\o=.nx [some (.d (.fz (ns.map D.int))),some (.d (.int (0+i))),some (.ref b),some (.d (.int m)),some (.d (.int G)),some (.ref M2.length),some (.d (intsD cs)),some (.d (.tup [.int p,.int q,.int r])),some (.d (enc e)),some (.d (.int d3))]) ?_ ?_)
  ·rfl'
   refine iJ (λ_=>?_) (λ_=>?_)
   ·rfl'
    refine(bE hb (by lia) (by lia)).mono ?_
    rintro _ M7 ⟨d4,rfl,l4,u4,n'⟩
    replace hb:=n'.bx hb
    clear n'
    obtain⟨w4,e4,h4⟩:=at4 l4 u4 (.int 7) (.int 97) (.int 1009) (.int 999983)
    obtain⟨k,rfl,hk⟩:∃k:Nat,w4=.int k/\((k:Int)=7\/(k:Int)=97\/(k:Int)=1009\/(k:Int)=999983):=by
     rcases h4 with rfl|rfl|rfl|rfl
     ·exact⟨7,rfl,by lia⟩
     ·exact⟨97,rfl,by lia⟩
     ·exact⟨1009,rfl,by lia⟩
     ·exact⟨999983,rfl,by lia⟩
    refine dX e4 ?_
    have iv:=aOk hk
    have k2:2<=(k:Int)/\(k:Int)<=1000000:=by lia
    rfl'
    rw[show intsD cs=.tup (cs.map D.int)from rfl]
    rfl'
    rw[aAL]
    refine(pD hb k2.1 k2.2 (by lia) (by lia)).mono ?_
    rintro _ M8 ⟨cs',rfl,csl',csr',n'⟩
    replace hb:=n'.bx hb
    clear n'
    rfl'
    refine(aAd hb (by lia) (by lia) k2.1 k2.2 iv).mono ?_
    rintro _ M9 ⟨e',rfl,ex',n'⟩
    rfl'
    exact⟨n'.bx hb,k,e',cs',by lia,by lia,by lia,csr',ex',rfl⟩
   ·rfl'
    obtain⟨m,rfl⟩:∃k:Nat,m=k:=⟨m.toNat,by lia⟩
    exact⟨hb,m,e,cs,by lia,by lia,by lia,csr,ex,rfl⟩
  clear ex hb csr csl m1 m2 e cs m
  rintro _ M7 ⟨hb,m,e,cs,m2,m1,csl,csr,ex,rfl⟩
  rfl'
  refine(pD hb (by lia) (by lia) (by lia) (by lia)).mono ?_
  rintro _ M8 ⟨gs,rfl,gsl,gsr,n'⟩
  rfl'
  rw[show D.tup [.int (p:Int),.int (q:Int),.int (r:Int)]=natsD [p,q,r]from rfl]
  refine(aCy m2 m1 (by rw[show gs.length=G by lia];exact ex) (by lia) gsr csr (by lia) h1 h2 h3 (by lia) (by lia) (by lia)).mono ?_
  rintro _ M8 ⟨rfl,rfl⟩
  rfl'
  exact⟨_,_,_,_,_,_,_,_,_,rfl⟩
 ·rintro _ M ⟨o1,o2,o3,o4,o5,o6,o7,o8,o9,rfl⟩
  rfl'
  rfl
theorem aJc(ns:List Int)(hn:ns.length<=63):∃M',tS [.d (.fz (ns.map D.int))] []=.ok (.d (.bl true)) M':=by
 obtain⟨_,M,e,rfl⟩:=zK.mp (aTh ns hn)
 exact⟨M,e⟩
theorem aTk{l:PySem.W.OpenLaw}{fa:Addr}{f1 f2 f3 f4 f5 f6 f7 f8 f9 f10 f11 f12 f13 f14 f15 dt15 f16 f17 f18 f19 f20 f21 f22 f23 f24 f25 f26 f27 f28 f29 f30 f31 f32 f33 f34 f35 f36 f37 f38 f39 f40 f41 f42 f43 f44 f45 f46 f47 f48 f49 f50 f51 f52 f53 f54 f55 f56 tSIGNS tWORDS:Addr}{od1 an1 od2 an2 od3 an3 od4 an4 od5 an5 od6 an6 od7 an7 od8 an8 od9 an9 od10 an10 od11 an11 od12 an12 od13 an13 od14 an14 od15 an15 dd15 od16 an16 od17 an17 od18 an18 od19 an19 od20 an20 od21 an21 od22 an22 od23 an23 od24 an24 od25 an25 od26 an26 od27 an27 od28 an28 od29 an29 od30 an30 od31 an31 od32 an32 od33 an33 od34 an34 od35 an35 od36 an36 od37 an37 od38 an38 od39 an39 od40 an40 od41 an41 od42 an42 od43 an43 od44 an44 od45 an45 od46 an46 od47 an47 od48 an48 od49 an49 od50 an50 od51 an51 od52 an52 od53 an53 od54 an54 od55 an55 od56 an56:Option Addr}{sl1 sl2 sl3 sl4 sl5 sl6 sl7 sl8 sl9 sl10 sl11 sl12 sl13 sl14 sl15 ds15 sl16 sl17 sl18 sl19 sl20 sl21 sl22 sl23 sl24 sl25 sl26 sl27 sl28 sl29 sl30 sl31 sl32 sl33 sl34 sl35 sl36 sl37 sl38 sl39 sl40 sl41 sl42 sl43 sl44 sl45 sl46 sl47 sl48 sl49 sl50 sl51 sl52 sl53 sl54 sl55 sl56:Array (Option Value)}{oc1 kV1 dc1 pm1 cd1 ct1 oc2 kV2 dc2 pm2 cd2 ct2 oc3 kV3 dc3 pm3 cd3 ct3 oc4 kV4 dc4 pm4 cd4 ct4 oc5 kV5 dc5 pm5 cd5 ct5 oc6 kV6 dc6 pm6 cd6 ct6 oc7 kV7 dc7 pm7 cd7 ct7 oc8 kV8 dc8 pm8 cd8 ct8 oc9 kV9 dc9 pm9 cd9 ct9 oc10 kV10 dc10 pm10 cd10 ct10 oc11 kV11 dc11 pm11 cd11 ct11 oc12 kV12 dc12 pm12 cd12 ct12 oc13 kV13 dc13 pm13 cd13 ct13 oc14 kV14 dc14 pm14 cd14 ct14 oc15 kV15 dc15 pm15 cd15 ct15 dc015 oc16 kV16 dc16 pm16 cd16 ct16 oc17 kV17 dc17 pm17 cd17 ct17 oc18 kV18 dc18 pm18 cd18 ct18 oc19 kV19 dc19 pm19 cd19 ct19 oc20 kV20 dc20 pm20 cd20 ct20 oc21 kV21 dc21 pm21 cd21 ct21 oc22 kV22 dc22 pm22 cd22 ct22 oc23 kV23 dc23 pm23 cd23 ct23 oc24 kV24 dc24 pm24 cd24 ct24 oc25 kV25 dc25 pm25 cd25 ct25 oc26 kV26 dc26 pm26 cd26 ct26 oc27 kV27 dc27 pm27 cd27 ct27 oc28 kV28 dc28 pm28 cd28 ct28 oc29 kV29 dc29 pm29 cd29 ct29 oc30 kV30 dc30 pm30 cd30 ct30 oc31 kV31 dc31 pm31 cd31 ct31 oc32 kV32 dc32 pm32 cd32 ct32 oc33 kV33 dc33 pm33 cd33 ct33 oc34 kV34 dc34 pm34 cd34 ct34 oc35 kV35 dc35 pm35 cd35 ct35 oc36 kV36 dc36 pm36 cd36 ct36 oc37 kV37 dc37 pm37 cd37 ct37 oc38 kV38 dc38 pm38 cd38 ct38 oc39 kV39 dc39 pm39 cd39 ct39 oc40 kV40 dc40 pm40 cd40 ct40 oc41 kV41 dc41 pm41 cd41 ct41 oc42 kV42 dc42 pm42 cd42 ct42 oc43 kV43 dc43 pm43 cd43 ct43 oc44 kV44 dc44 pm44 cd44 ct44 oc45 kV45 dc45 pm45 cd45 ct45 oc46 kV46 dc46 pm46 cd46 ct46 oc47 kV47 dc47 pm47 cd47 ct47 oc48 kV48 dc48 pm48 cd48 ct48 oc49 kV49 dc49 pm49 cd49 ct49 oc50 kV50 dc50 pm50 cd50 ct50 oc51 kV51 dc51 pm51 cd51 ct51 oc52 kV52 dc52 pm52 cd52 ct52 oc53 kV53 dc53 pm53 cd53 ct53 oc54 kV54 dc54 pm54 cd54 ct54 oc55 kV55 dc55 pm55 cd55 ct55 oc56 kV56 dc56 pm56 cd56 ct56:Value}{dk15 tFIGURES tGREATEST_N tLAST_GIVEN tMOST_BRACKETS tMOST_FACTORS tMOST_FIGURES_exprtexts tMOST_FIGURES_progtexts tMOST_GIVENS tMOST_SHELVES:Tok}{dn15:Nat}(X:K.In h)(G:h.Ns mainGlobals mg)(hfa:mg "law"=some (.ref fa))
  (a1:nsIn K mainGlobals "is_single"=some (some (.ref f1)))
  (l1:K.lookup f1=some ⟨oc1,od1,.func (fnOf "is_single" "is_single" (defArgs dH) (defBody dH) (defScope dH) .none kV1 dc1 pm1 an1 cd1 ct1),sl1⟩)
  (c1:codeIn K cd1 "is_single"=true)
  (k1:keepIn K (.ref f1)=true)
  (a2:nsIn K mainGlobals "inverse"=some (some (.ref f2)))
  (l2:K.lookup f2=some ⟨oc2,od2,.func (fnOf "inverse" "inverse" (defArgs fD) (defBody fD) (defScope fD) .none kV2 dc2 pm2 an2 cd2 ct2),sl2⟩)
  (c2:codeIn K cd2 "inverse"=true)
  (k2:keepIn K (.ref f2)=true)
  (a3:nsIn K mainGlobals "is_deed"=some (some (.ref f3)))
  (l3:K.lookup f3=some ⟨oc3,od3,.func (fnOf "is_deed" "is_deed" (defArgs fF) (defBody fF) (defScope fF) .none kV3 dc3 pm3 an3 cd3 ct3),sl3⟩)
  (c3:codeIn K cd3 "is_deed"=true)
  (k3:keepIn K (.ref f3)=true)
  (a4:nsIn K mainGlobals "are_factors"=some (some (.ref f4)))
  (l4:K.lookup f4=some ⟨oc4,od4,.func (fnOf "are_factors" "are_factors" (defArgs bW) (defBody bW) (defScope bW) .none kV4 dc4 pm4 an4 cd4 ct4),sl4⟩)
  (c4:codeIn K cd4 "are_factors"=true)
  (k4:keepIn K (.ref f4)=true)
  (a5:nsIn K mainGlobals "deeds_back"=some (some (.ref f5)))
  (l5:K.lookup f5=some ⟨oc5,od5,.func (fnOf "deeds_back" "deeds_back" (defArgs cE) (defBody cE) (defScope cE) .none kV5 dc5 pm5 an5 cd5 ct5),sl5⟩)
  (c5:codeIn K cd5 "deeds_back"=true)
  (k5:keepIn K (.ref f5)=true)
  (a6:nsIn K mainGlobals "deed_back"=some (some (.ref f6)))
  (l6:K.lookup f6=some ⟨oc6,od6,.func (fnOf "deed_back" "deed_back" (defArgs dO) (defBody dO) (defScope dO) .none kV6 dc6 pm6 an6 cd6 ct6),sl6⟩)
  (c6:codeIn K cd6 "deed_back"=true)
  (k6:keepIn K (.ref f6)=true)
  (a7:nsIn K mainGlobals "renamed"=some (some (.ref f7)))
  (l7:K.lookup f7=some ⟨oc7,od7,.func (fnOf "renamed" "renamed" (defArgs eS) (defBody eS) (defScope eS) .none kV7 dc7 pm7 an7 cd7 ct7),sl7⟩)
  (c7:codeIn K cd7 "renamed"=true)
  (k7:keepIn K (.ref f7)=true)
  (a8:nsIn K mainGlobals "deed_renamed"=some (some (.ref f8)))
  (l8:K.lookup f8=some ⟨oc8,od8,.func (fnOf "deed_renamed" "deed_renamed" (defArgs bQ) (defBody bQ) (defScope bQ) .none kV8 dc8 pm8 an8 cd8 ct8),sl8⟩)
  (c8:codeIn K cd8 "deed_renamed"=true)
  (k8:keepIn K (.ref f8)=true)
  (a9:nsIn K mainGlobals "bring_by"=some (some (.ref f9)))
  (l9:K.lookup f9=some ⟨oc9,od9,.func (fnOf "bring_by" "bring_by" (defArgs eI) (defBody eI) (defScope eI) .none kV9 dc9 pm9 an9 cd9 ct9),sl9⟩)
  (c9:codeIn K cd9 "bring_by"=true)
  (k9:keepIn K (.ref f9)=true)
  (a10:nsIn K mainGlobals "bring_alone"=some (some (.ref f10)))
  (l10:K.lookup f10=some ⟨oc10,od10,.func (fnOf "bring_alone" "bring_alone" (defArgs bZ) (defBody bZ) (defScope bZ) .none kV10 dc10 pm10 an10 cd10 ct10),sl10⟩)
  (c10:codeIn K cd10 "bring_alone"=true)
  (k10:keepIn K (.ref f10)=true)
  (a11:nsIn K mainGlobals "single_deed"=some (some (.ref f11)))
  (l11:K.lookup f11=some ⟨oc11,od11,.func (fnOf "single_deed" "single_deed" (defArgs bX) (defBody bX) (defScope bX) .none kV11 dc11 pm11 an11 cd11 ct11),sl11⟩)
  (c11:codeIn K cd11 "single_deed"=true)
  (k11:keepIn K (.ref f11)=true)
  (a12:nsIn K mainGlobals "both"=some (some (.ref f12)))
  (l12:K.lookup f12=some ⟨oc12,od12,.func (fnOf "both" "both" (defArgs lH) (defBody lH) (defScope lH) .none kV12 dc12 pm12 an12 cd12 ct12),sl12⟩)
  (c12:codeIn K cd12 "both"=true)
  (k12:keepIn K (.ref f12)=true)
  (a13:nsIn K mainGlobals "there_and_back"=some (some (.ref f13)))
  (l13:K.lookup f13=some ⟨oc13,od13,.func (fnOf "there_and_back" "there_and_back" (defArgs bL) (defBody bL) (defScope bL) .none kV13 dc13 pm13 an13 cd13 ct13),sl13⟩)
  (c13:codeIn K cd13 "there_and_back"=true)
  (k13:keepIn K (.ref f13)=true)
  (a14:nsIn K mainGlobals "how_many"=some (some (.ref f14)))
  (l14:K.lookup f14=some ⟨oc14,od14,.func (fnOf "how_many" "how_many" (defArgs eG) (defBody eG) (defScope eG) .none kV14 dc14 pm14 an14 cd14 ct14),sl14⟩)
  (c14:codeIn K cd14 "how_many"=true)
  (k14:keepIn K (.ref f14)=true)
  (a15:nsIn K mainGlobals "program_of"=some (some (.ref f15)))
  (l15:K.lookup f15=some ⟨oc15,od15,.func (fnOf "program_of" "program_of" (defArgs cB) (defBody cB) (defScope cB) (.ref dt15) kV15 dc15 pm15 an15 cd15 ct15),sl15⟩)
  (c15:codeIn K cd15 "program_of"=true)
  (k15:keepIn K (.ref f15)=true)
  (t15:K.lookup dt15=some ⟨dc015,dd15,.seq #[.int 5000 dk15] dn15,ds15⟩)
  (a16:nsIn K mainGlobals "shown"=some (some (.ref f16)))
  (l16:K.lookup f16=some ⟨oc16,od16,.func (fnOf "shown" "shown" (defArgs iT) (defBody iT) (defScope iT) .none kV16 dc16 pm16 an16 cd16 ct16),sl16⟩)
  (c16:codeIn K cd16 "shown"=true)
  (k16:keepIn K (.ref f16)=true)
  (a17:nsIn K mainGlobals "along"=some (some (.ref f17)))
  (l17:K.lookup f17=some ⟨oc17,od17,.func (fnOf "along" "along" (defArgs iR) (defBody iR) (defScope iR) .none kV17 dc17 pm17 an17 cd17 ct17),sl17⟩)
  (c17:codeIn K cd17 "along"=true)
  (k17:keepIn K (.ref f17)=true)
  (a18:nsIn K mainGlobals "along_one"=some (some (.ref f18)))
  (l18:K.lookup f18=some ⟨oc18,od18,.func (fnOf "along_one" "along_one" (defArgs dG) (defBody dG) (defScope dG) .none kV18 dc18 pm18 an18 cd18 ct18),sl18⟩)
  (c18:codeIn K cd18 "along_one"=true)
  (k18:keepIn K (.ref f18)=true)
  (a19:nsIn K mainGlobals "along_times"=some (some (.ref f19)))
  (l19:K.lookup f19=some ⟨oc19,od19,.func (fnOf "along_times" "along_times" (defArgs cA) (defBody cA) (defScope cA) .none kV19 dc19 pm19 an19 cd19 ct19),sl19⟩)
  (c19:codeIn K cd19 "along_times"=true)
  (k19:keepIn K (.ref f19)=true)
  (a20:nsIn K mainGlobals "just_these"=some (some (.ref f20)))
  (l20:K.lookup f20=some ⟨oc20,od20,.func (fnOf "just_these" "just_these" (defArgs cM) (defBody cM) (defScope cM) .none kV20 dc20 pm20 an20 cd20 ct20),sl20⟩)
  (c20:codeIn K cd20 "just_these"=true)
  (k20:keepIn K (.ref f20)=true)
  (a21:nsIn K mainGlobals "figures_end"=some (some (.ref f21)))
  (l21:K.lookup f21=some ⟨oc21,od21,.func (fnOf "figures_end" "figures_end" (defArgs bY) (defBody bY) (defScope bY) .none kV21 dc21 pm21 an21 cd21 ct21),sl21⟩)
  (c21:codeIn K cd21 "figures_end"=true)
  (k21:keepIn K (.ref f21)=true)
  (a22:nsIn K mainGlobals "number_of"=some (some (.ref f22)))
  (l22:K.lookup f22=some ⟨oc22,od22,.func (fnOf "number_of" "number_of" (defArgs dN) (defBody dN) (defScope dN) .none kV22 dc22 pm22 an22 cd22 ct22),sl22⟩)
  (c22:codeIn K cd22 "number_of"=true)
  (k22:keepIn K (.ref f22)=true)
  (a23:nsIn K mainGlobals "show_expr"=some (some (.ref f23)))
  (l23:K.lookup f23=some ⟨oc23,od23,.func (fnOf "show_expr" "show_expr" (defArgs dL) (defBody dL) (defScope dL) .none kV23 dc23 pm23 an23 cd23 ct23),sl23⟩)
  (c23:codeIn K cd23 "show_expr"=true)
  (k23:keepIn K (.ref f23)=true)
  (a24:nsIn K mainGlobals "read_expr"=some (some (.ref f24)))
  (l24:K.lookup f24=some ⟨oc24,od24,.func (fnOf "read_expr" "read_expr" (defArgs dI) (defBody dI) (defScope dI) .none kV24 dc24 pm24 an24 cd24 ct24),sl24⟩)
  (c24:codeIn K cd24 "read_expr"=true)
  (k24:keepIn K (.ref f24)=true)
  (a25:nsIn K mainGlobals "read_part"=some (some (.ref f25)))
  (l25:K.lookup f25=some ⟨oc25,od25,.func (fnOf "read_part" "read_part" (defArgs dJ) (defBody dJ) (defScope dJ) .none kV25 dc25 pm25 an25 cd25 ct25),sl25⟩)
  (c25:codeIn K cd25 "read_part"=true)
  (k25:keepIn K (.ref f25)=true)
  (a26:nsIn K mainGlobals "read_pair"=some (some (.ref f26)))
  (l26:K.lookup f26=some ⟨oc26,od26,.func (fnOf "read_pair" "read_pair" (defArgs dP) (defBody dP) (defScope dP) .none kV26 dc26 pm26 an26 cd26 ct26),sl26⟩)
  (c26:codeIn K cd26 "read_pair"=true)
  (k26:keepIn K (.ref f26)=true)
  (a27:nsIn K mainGlobals "read_given"=some (some (.ref f27)))
  (l27:K.lookup f27=some ⟨oc27,od27,.func (fnOf "read_given" "read_given" (defArgs cL) (defBody cL) (defScope cL) .none kV27 dc27 pm27 an27 cd27 ct27),sl27⟩)
  (c27:codeIn K cd27 "read_given"=true)
  (k27:keepIn K (.ref f27)=true)
  (a28:nsIn K mainGlobals "read_num"=some (some (.ref f28)))
  (l28:K.lookup f28=some ⟨oc28,od28,.func (fnOf "read_num" "read_num" (defArgs eK) (defBody eK) (defScope eK) .none kV28 dc28 pm28 an28 cd28 ct28),sl28⟩)
  (c28:codeIn K cd28 "read_num"=true)
  (k28:keepIn K (.ref f28)=true)
  (a29:nsIn K mainGlobals "paper_of"=some (some (.ref f29)))
  (l29:K.lookup f29=some ⟨oc29,od29,.func (fnOf "paper_of" "paper_of" (defArgs eF) (defBody eF) (defScope eF) .none kV29 dc29 pm29 an29 cd29 ct29),sl29⟩)
  (c29:codeIn K cd29 "paper_of"=true)
  (k29:keepIn K (.ref f29)=true)
  (a30:nsIn K mainGlobals "show"=some (some (.ref f30)))
  (l30:K.lookup f30=some ⟨oc30,od30,.func (fnOf "show" "show" (defArgs kF) (defBody kF) (defScope kF) .none kV30 dc30 pm30 an30 cd30 ct30),sl30⟩)
  (c30:codeIn K cd30 "show"=true)
  (k30:keepIn K (.ref f30)=true)
  (a31:nsIn K mainGlobals "show_deed"=some (some (.ref f31)))
  (l31:K.lookup f31=some ⟨oc31,od31,.func (fnOf "show_deed" "show_deed" (defArgs cH) (defBody cH) (defScope cH) .none kV31 dc31 pm31 an31 cd31 ct31),sl31⟩)
  (c31:codeIn K cd31 "show_deed"=true)
  (k31:keepIn K (.ref f31)=true)
  (a32:nsIn K mainGlobals "read"=some (some (.ref f32)))
  (l32:K.lookup f32=some ⟨oc32,od32,.func (fnOf "read" "read" (defArgs lD) (defBody lD) (defScope lD) .none kV32 dc32 pm32 an32 cd32 ct32),sl32⟩)
  (c32:codeIn K cd32 "read"=true)
  (k32:keepIn K (.ref f32)=true)
  (a33:nsIn K mainGlobals "read_head"=some (some (.ref f33)))
  (l33:K.lookup f33=some ⟨oc33,od33,.func (fnOf "read_head" "read_head" (defArgs cR) (defBody cR) (defScope cR) .none kV33 dc33 pm33 an33 cd33 ct33),sl33⟩)
  (c33:codeIn K cd33 "read_head"=true)
  (k33:keepIn K (.ref f33)=true)
  (a34:nsIn K mainGlobals "read_deed"=some (some (.ref f34)))
  (l34:K.lookup f34=some ⟨oc34,od34,.func (fnOf "read_deed" "read_deed" (defArgs dQ) (defBody dQ) (defScope dQ) .none kV34 dc34 pm34 an34 cd34 ct34),sl34⟩)
  (c34:codeIn K cd34 "read_deed"=true)
  (k34:keepIn K (.ref f34)=true)
  (a35:nsIn K mainGlobals "read_add"=some (some (.ref f35)))
  (l35:K.lookup f35=some ⟨oc35,od35,.func (fnOf "read_add" "read_add" (defArgs cV) (defBody cV) (defScope cV) .none kV35 dc35 pm35 an35 cd35 ct35),sl35⟩)
  (c35:codeIn K cd35 "read_add"=true)
  (k35:keepIn K (.ref f35)=true)
  (a36:nsIn K mainGlobals "number_behind"=some (some (.ref f36)))
  (l36:K.lookup f36=some ⟨oc36,od36,.func (fnOf "number_behind" "number_behind" (defArgs bR) (defBody bR) (defScope bR) .none kV36 dc36 pm36 an36 cd36 ct36),sl36⟩)
  (c36:codeIn K cd36 "number_behind"=true)
  (k36:keepIn K (.ref f36)=true)
  (a37:nsIn K mainGlobals "run"=some (some (.ref f37)))
  (l37:K.lookup f37=some ⟨oc37,od37,.func (fnOf "run" "run" (defArgs oT) (defBody oT) (defScope oT) .none kV37 dc37 pm37 an37 cd37 ct37),sl37⟩)
  (c37:codeIn K cd37 "run"=true)
  (k37:keepIn K (.ref f37)=true)
  (a38:nsIn K mainGlobals "done"=some (some (.ref f38)))
  (l38:K.lookup f38=some ⟨oc38,od38,.func (fnOf "done" "done" (defArgs kZ) (defBody kZ) (defScope kZ) .none kV38 dc38 pm38 an38 cd38 ct38),sl38⟩)
  (c38:codeIn K cd38 "done"=true)
  (k38:keepIn K (.ref f38)=true)
  (a39:nsIn K mainGlobals "product_of"=some (some (.ref f39)))
  (l39:K.lookup f39=some ⟨oc39,od39,.func (fnOf "product_of" "product_of" (defArgs cO) (defBody cO) (defScope cO) .none kV39 dc39 pm39 an39 cd39 ct39),sl39⟩)
  (c39:codeIn K cd39 "product_of"=true)
  (k39:keepIn K (.ref f39)=true)
  (a40:nsIn K mainGlobals "said"=some (some (.ref f40)))
  (l40:K.lookup f40=some ⟨oc40,od40,.func (fnOf "said" "said" (defArgs kM) (defBody kM) (defScope kM) .none kV40 dc40 pm40 an40 cd40 ct40),sl40⟩)
  (c40:codeIn K cd40 "said"=true)
  (k40:keepIn K (.ref f40)=true)
  (a41:nsIn K mainGlobals "said_least"=some (some (.ref f41)))
  (l41:K.lookup f41=some ⟨oc41,od41,.func (fnOf "said_least" "said_least" (defArgs cC) (defBody cC) (defScope cC) .none kV41 dc41 pm41 an41 cd41 ct41),sl41⟩)
  (c41:codeIn K cd41 "said_least"=true)
  (k41:keepIn K (.ref f41)=true)
  (a42:nsIn K mainGlobals "step_numbers"=some (some (.ref f42)))
  (l42:K.lookup f42=some ⟨oc42,od42,.func (fnOf "step_numbers" "step_numbers" (defArgs bO) (defBody bO) (defScope bO) .none kV42 dc42 pm42 an42 cd42 ct42),sl42⟩)
  (c42:codeIn K cd42 "step_numbers"=true)
  (k42:keepIn K (.ref f42)=true)
  (a43:nsIn K mainGlobals "inverse_of"=some (some (.ref f43)))
  (l43:K.lookup f43=some ⟨oc43,od43,.func (fnOf "inverse_of" "inverse_of" (defArgs cK) (defBody cK) (defScope cK) .none kV43 dc43 pm43 an43 cd43 ct43),sl43⟩)
  (c43:codeIn K cd43 "inverse_of"=true)
  (k43:keepIn K (.ref f43)=true)
  (a44:nsIn K mainGlobals "_law_box"=some (some (.ref f44)))
  (l44:K.lookup f44=some ⟨oc44,od44,.func (fnOf "_law_box" "_law_box" (defArgs iS) (defBody iS) (defScope iS) .none kV44 dc44 pm44 an44 cd44 ct44),sl44⟩)
  (c44:codeIn K cd44 "_law_box"=true)
  (k44:keepIn K (.ref f44)=true)
  (a45:nsIn K mainGlobals "_law_take"=some (some (.ref f45)))
  (l45:K.lookup f45=some ⟨oc45,od45,.func (fnOf "_law_take" "_law_take" (defArgs fX) (defBody fX) (defScope fX) .none kV45 dc45 pm45 an45 cd45 ct45),sl45⟩)
  (c45:codeIn K cd45 "_law_take"=true)
  (k45:keepIn K (.ref f45)=true)
  (a46:nsIn K mainGlobals "_law_n"=some (some (.ref f46)))
  (l46:K.lookup f46=some ⟨oc46,od46,.func (fnOf "_law_n" "_law_n" (defArgs oQ) (defBody oQ) (defScope oQ) .none kV46 dc46 pm46 an46 cd46 ct46),sl46⟩)
  (c46:codeIn K cd46 "_law_n"=true)
  (k46:keepIn K (.ref f46)=true)
  (a47:nsIn K mainGlobals "_law_rest"=some (some (.ref f47)))
  (l47:K.lookup f47=some ⟨oc47,od47,.func (fnOf "_law_rest" "_law_rest" (defArgs gD) (defBody gD) (defScope gD) .none kV47 dc47 pm47 an47 cd47 ct47),sl47⟩)
  (c47:codeIn K cd47 "_law_rest"=true)
  (k47:keepIn K (.ref f47)=true)
  (a48:nsIn K mainGlobals "_law_rests"=some (some (.ref f48)))
  (l48:K.lookup f48=some ⟨oc48,od48,.func (fnOf "_law_rests" "_law_rests" (defArgs eQ) (defBody eQ) (defScope eQ) .none kV48 dc48 pm48 an48 cd48 ct48),sl48⟩)
  (c48:codeIn K cd48 "_law_rests"=true)
  (k48:keepIn K (.ref f48)=true)
  (a49:nsIn K mainGlobals "_law_expr"=some (some (.ref f49)))
  (l49:K.lookup f49=some ⟨oc49,od49,.func (fnOf "_law_expr" "_law_expr" (defArgs gE) (defBody gE) (defScope gE) .none kV49 dc49 pm49 an49 cd49 ct49),sl49⟩)
  (c49:codeIn K cd49 "_law_expr"=true)
  (k49:keepIn K (.ref f49)=true)
  (a50:nsIn K mainGlobals "_law_worth"=some (some (.ref f50)))
  (l50:K.lookup f50=some ⟨oc50,od50,.func (fnOf "_law_worth" "_law_worth" (defArgs fE) (defBody fE) (defScope fE) .none kV50 dc50 pm50 an50 cd50 ct50),sl50⟩)
  (c50:codeIn K cd50 "_law_worth"=true)
  (k50:keepIn K (.ref f50)=true)
  (a51:nsIn K mainGlobals "_law_text"=some (some (.ref f51)))
  (l51:K.lookup f51=some ⟨oc51,od51,.func (fnOf "_law_text" "_law_text" (defArgs gF) (defBody gF) (defScope gF) .none kV51 dc51 pm51 an51 cd51 ct51),sl51⟩)
  (c51:codeIn K cd51 "_law_text"=true)
  (k51:keepIn K (.ref f51)=true)
  (a52:nsIn K mainGlobals "_law_as_rests"=some (some (.ref f52)))
  (l52:K.lookup f52=some ⟨oc52,od52,.func (fnOf "_law_as_rests" "_law_as_rests" (defArgs cJ) (defBody cJ) (defScope cJ) .none kV52 dc52 pm52 an52 cd52 ct52),sl52⟩)
  (c52:codeIn K cd52 "_law_as_rests"=true)
  (k52:keepIn K (.ref f52)=true)
  (a53:nsIn K mainGlobals "_law_right"=some (some (.ref f53)))
  (l53:K.lookup f53=some ⟨oc53,od53,.func (fnOf "_law_right" "_law_right" (defArgs fK) (defBody fK) (defScope fK) .none kV53 dc53 pm53 an53 cd53 ct53),sl53⟩)
  (c53:codeIn K cd53 "_law_right"=true)
  (k53:keepIn K (.ref f53)=true)
  (a54:nsIn K mainGlobals "_law_great"=some (some (.ref f54)))
  (l54:K.lookup f54=some ⟨oc54,od54,.func (fnOf "_law_great" "_law_great" (defArgs fJ) (defBody fJ) (defScope fJ) .none kV54 dc54 pm54 an54 cd54 ct54),sl54⟩)
  (c54:codeIn K cd54 "_law_great"=true)
  (k54:keepIn K (.ref f54)=true)
  (a55:nsIn K mainGlobals "_law_least"=some (some (.ref f55)))
  (l55:K.lookup f55=some ⟨oc55,od55,.func (fnOf "_law_least" "_law_least" (defArgs eO) (defBody eO) (defScope eO) .none kV55 dc55 pm55 an55 cd55 ct55),sl55⟩)
  (c55:codeIn K cd55 "_law_least"=true)
  (k55:keepIn K (.ref f55)=true)
  (a56:nsIn K mainGlobals "law"=some (some (.ref f56)))
  (l56:K.lookup f56=some ⟨oc56,od56,.func (fnOf "law" "law" (defArgs mW) (defBody mW) (defScope mW) .none kV56 dc56 pm56 an56 cd56 ct56),sl56⟩)
  (c56:codeIn K cd56 "law"=true)
  (k56:keepIn K (.ref f56)=true)
  (vFIGURES:nsIn K mainGlobals "FIGURES"=some (some (.str "0123456789" tFIGURES)))
  (vGREATEST_N:nsIn K mainGlobals "GREATEST_N"=some (some (.int 1000000 tGREATEST_N)))
  (vLAST_GIVEN:nsIn K mainGlobals "LAST_GIVEN"=some (some (.int 7 tLAST_GIVEN)))
  (vMOST_BRACKETS:nsIn K mainGlobals "MOST_BRACKETS"=some (some (.int 20 tMOST_BRACKETS)))
  (vMOST_FACTORS:nsIn K mainGlobals "MOST_FACTORS"=some (some (.int 4 tMOST_FACTORS)))
  (vMOST_FIGURES_exprtexts:nsIn K mainGlobals "MOST_FIGURES_exprtexts"=some (some (.int 6 tMOST_FIGURES_exprtexts)))
  (vMOST_FIGURES_progtexts:nsIn K mainGlobals "MOST_FIGURES_progtexts"=some (some (.int 7 tMOST_FIGURES_progtexts)))
  (vMOST_GIVENS:nsIn K mainGlobals "MOST_GIVENS"=some (some (.int 8 tMOST_GIVENS)))
  (vMOST_SHELVES:nsIn K mainGlobals "MOST_SHELVES"=some (some (.int 9 tMOST_SHELVES)))
  (vSIGNS:nsIn K mainGlobals "SIGNS"=some (some (.ref tSIGNS)))
  (wSIGNS:tabB K tSIGNS [("sum"," + "),("less"," - "),("times"," * ")]=true)
  (vWORDS:nsIn K mainGlobals "WORDS"=some (some (.ref tWORDS)))
  (wWORDS:tabB K tWORDS [(" + ","sum"),(" - ","less"),(" * ","times")]=true)
  (z_enumerate:nsIn K mainGlobals "enumerate"=some none)
  (z_int:nsIn K mainGlobals "int"=some none)
  (z_len:nsIn K mainGlobals "len"=some none)
  (z_list:nsIn K mainGlobals "list"=some none)
  (z_max:nsIn K mainGlobals "max"=some none)
  (z_min:nsIn K mainGlobals "min"=some none)
  (z_range:nsIn K mainGlobals "range"=some none)
  (z_reversed:nsIn K mainGlobals "reversed"=some none)
  (z_sorted:nsIn K mainGlobals "sorted"=some none)
  (z_str:nsIn K mainGlobals "str"=some none)
  (z_tuple:nsIn K mainGlobals "tuple"=some none)
  (z_zip:nsIn K mainGlobals "zip"=some none)
  : ∃fd:FuncData,(∀(s:Shared) (v:Value),BindsTo s fd ⟨[v],[]⟩ [("_law_script",v)])/\∀base:Heap,K.In base->base.Ns mainGlobals mg->FnOk l.prog w K mg base CX0 107 fa fd aIT (spF K Z0 1 tS):=by
 have e:=hfa.symm.trans (aAG X G a56)
 cases e
 have T:Tx K mg ⟨f1,(fnOf "is_single" "is_single" (defArgs dH) (defBody dH) (defScope dH) .none kV1 dc1 pm1 an1 cd1 ct1),f2,(fnOf "inverse" "inverse" (defArgs fD) (defBody fD) (defScope fD) .none kV2 dc2 pm2 an2 cd2 ct2),f3,(fnOf "is_deed" "is_deed" (defArgs fF) (defBody fF) (defScope fF) .none kV3 dc3 pm3 an3 cd3 ct3),f4,(fnOf "are_factors" "are_factors" (defArgs bW) (defBody bW) (defScope bW) .none kV4 dc4 pm4 an4 cd4 ct4),f5,(fnOf "deeds_back" "deeds_back" (defArgs cE) (defBody cE) (defScope cE) .none kV5 dc5 pm5 an5 cd5 ct5),f6,(fnOf "deed_back" "deed_back" (defArgs dO) (defBody dO) (defScope dO) .none kV6 dc6 pm6 an6 cd6 ct6),f7,(fnOf "renamed" "renamed" (defArgs eS) (defBody eS) (defScope eS) .none kV7 dc7 pm7 an7 cd7 ct7),f8,(fnOf "deed_renamed" "deed_renamed" (defArgs bQ) (defBody bQ) (defScope bQ) .none kV8 dc8 pm8 an8 cd8 ct8),f9,(fnOf "bring_by" "bring_by" (defArgs eI) (defBody eI) (defScope eI) .none kV9 dc9 pm9 an9 cd9 ct9),f10,(fnOf "bring_alone" "bring_alone" (defArgs bZ) (defBody bZ) (defScope bZ) .none kV10 dc10 pm10 an10 cd10 ct10),f11,(fnOf "single_deed" "single_deed" (defArgs bX) (defBody bX) (defScope bX) .none kV11 dc11 pm11 an11 cd11 ct11),f12,(fnOf "both" "both" (defArgs lH) (defBody lH) (defScope lH) .none kV12 dc12 pm12 an12 cd12 ct12),f13,(fnOf "there_and_back" "there_and_back" (defArgs bL) (defBody bL) (defScope bL) .none kV13 dc13 pm13 an13 cd13 ct13),f14,(fnOf "how_many" "how_many" (defArgs eG) (defBody eG) (defScope eG) .none kV14 dc14 pm14 an14 cd14 ct14),f15,(fnOf "program_of" "program_of" (defArgs cB) (defBody cB) (defScope cB) (.ref dt15) kV15 dc15 pm15 an15 cd15 ct15),dk15,f16,(fnOf "shown" "shown" (defArgs iT) (defBody iT) (defScope iT) .none kV16 dc16 pm16 an16 cd16 ct16),f17,(fnOf "along" "along" (defArgs iR) (defBody iR) (defScope iR) .none kV17 dc17 pm17 an17 cd17 ct17),f18,(fnOf "along_one" "along_one" (defArgs dG) (defBody dG) (defScope dG) .none kV18 dc18 pm18 an18 cd18 ct18),f19,(fnOf "along_times" "along_times" (defArgs cA) (defBody cA) (defScope cA) .none kV19 dc19 pm19 an19 cd19 ct19),f20,(fnOf "just_these" "just_these" (defArgs cM) (defBody cM) (defScope cM) .none kV20 dc20 pm20 an20 cd20 ct20),f21,(fnOf "figures_end" "figures_end" (defArgs bY) (defBody bY) (defScope bY) .none kV21 dc21 pm21 an21 cd21 ct21),f22,(fnOf "number_of" "number_of" (defArgs dN) (defBody dN) (defScope dN) .none kV22 dc22 pm22 an22 cd22 ct22),f23,(fnOf "show_expr" "show_expr" (defArgs dL) (defBody dL) (defScope dL) .none kV23 dc23 pm23 an23 cd23 ct23),f24,(fnOf "read_expr" "read_expr" (defArgs dI) (defBody dI) (defScope dI) .none kV24 dc24 pm24 an24 cd24 ct24),f25,(fnOf "read_part" "read_part" (defArgs dJ) (defBody dJ) (defScope dJ) .none kV25 dc25 pm25 an25 cd25 ct25),f26,(fnOf "read_pair" "read_pair" (defArgs dP) (defBody dP) (defScope dP) .none kV26 dc26 pm26 an26 cd26 ct26),f27,(fnOf "read_given" "read_given" (defArgs cL) (defBody cL) (defScope cL) .none kV27 dc27 pm27 an27 cd27 ct27),f28,(fnOf "read_num" "read_num" (defArgs eK) (defBody eK) (defScope eK) .none kV28 dc28 pm28 an28 cd28 ct28),f29,(fnOf "paper_of" "paper_of" (defArgs eF) (defBody eF) (defScope eF) .none kV29 dc29 pm29 an29 cd29 ct29),f30,(fnOf "show" "show" (defArgs kF) (defBody kF) (defScope kF) .none kV30 dc30 pm30 an30 cd30 ct30),f31,(fnOf "show_deed" "show_deed" (defArgs cH) (defBody cH) (defScope cH) .none kV31 dc31 pm31 an31 cd31 ct31),f32,(fnOf "read" "read" (defArgs lD) (defBody lD) (defScope lD) .none kV32 dc32 pm32 an32 cd32 ct32),f33,(fnOf "read_head" "read_head" (defArgs cR) (defBody cR) (defScope cR) .none kV33 dc33 pm33 an33 cd33 ct33),f34,(fnOf "read_deed" "read_deed" (defArgs dQ) (defBody dQ) (defScope dQ) .none kV34 dc34 pm34 an34 cd34 ct34),f35,(fnOf "read_add" "read_add" (defArgs cV) (defBody cV) (defScope cV) .none kV35 dc35 pm35 an35 cd35 ct35),f36,(fnOf "number_behind" "number_behind" (defArgs bR) (defBody bR) (defScope bR) .none kV36 dc36 pm36 an36 cd36 ct36),f37,(fnOf "run" "run" (defArgs oT) (defBody oT) (defScope oT) .none kV37 dc37 pm37 an37 cd37 ct37),f38,(fnOf "done" "done" (defArgs kZ) (defBody kZ) (defScope kZ) .none kV38 dc38 pm38 an38 cd38 ct38),f39,(fnOf "product_of" "product_of" (defArgs cO) (defBody cO) (defScope cO) .none kV39 dc39 pm39 an39 cd39 ct39),f40,(fnOf "said" "said" (defArgs kM) (defBody kM) (defScope kM) .none kV40 dc40 pm40 an40 cd40 ct40),f41,(fnOf "said_least" "said_least" (defArgs cC) (defBody cC) (defScope cC) .none kV41 dc41 pm41 an41 cd41 ct41),f42,(fnOf "step_numbers" "step_numbers" (defArgs bO) (defBody bO) (defScope bO) .none kV42 dc42 pm42 an42 cd42 ct42),f43,(fnOf "inverse_of" "inverse_of" (defArgs cK) (defBody cK) (defScope cK) .none kV43 dc43 pm43 an43 cd43 ct43),f44,(fnOf "_law_box" "_law_box" (defArgs iS) (defBody iS) (defScope iS) .none kV44 dc44 pm44 an44 cd44 ct44),f45,(fnOf "_law_take" "_law_take" (defArgs fX) (defBody fX) (defScope fX) .none kV45 dc45 pm45 an45 cd45 ct45),f46,(fnOf "_law_n" "_law_n" (defArgs oQ) (defBody oQ) (defScope oQ) .none kV46 dc46 pm46 an46 cd46 ct46),f47,(fnOf "_law_rest" "_law_rest" (defArgs gD) (defBody gD) (defScope gD) .none kV47 dc47 pm47 an47 cd47 ct47),f48,(fnOf "_law_rests" "_law_rests" (defArgs eQ) (defBody eQ) (defScope eQ) .none kV48 dc48 pm48 an48 cd48 ct48),f49,(fnOf "_law_expr" "_law_expr" (defArgs gE) (defBody gE) (defScope gE) .none kV49 dc49 pm49 an49 cd49 ct49),f50,(fnOf "_law_worth" "_law_worth" (defArgs fE) (defBody fE) (defScope fE) .none kV50 dc50 pm50 an50 cd50 ct50),f51,(fnOf "_law_text" "_law_text" (defArgs gF) (defBody gF) (defScope gF) .none kV51 dc51 pm51 an51 cd51 ct51),f52,(fnOf "_law_as_rests" "_law_as_rests" (defArgs cJ) (defBody cJ) (defScope cJ) .none kV52 dc52 pm52 an52 cd52 ct52),f53,(fnOf "_law_right" "_law_right" (defArgs fK) (defBody fK) (defScope fK) .none kV53 dc53 pm53 an53 cd53 ct53),f54,(fnOf "_law_great" "_law_great" (defArgs fJ) (defBody fJ) (defScope fJ) .none kV54 dc54 pm54 an54 cd54 ct54),f55,(fnOf "_law_least" "_law_least" (defArgs eO) (defBody eO) (defScope eO) .none kV55 dc55 pm55 an55 cd55 ct55),fa,(fnOf "law" "law" (defArgs mW) (defBody mW) (defScope mW) .none kV56 dc56 pm56 an56 cd56 ct56),tFIGURES,tGREATEST_N,tLAST_GIVEN,tMOST_BRACKETS,tMOST_FACTORS,tMOST_FIGURES_exprtexts,tMOST_FIGURES_progtexts,tMOST_GIVENS,tMOST_SHELVES,tSIGNS,tWORDS⟩ :=
  ⟨aL l1 c1 k1,
   (aL (st:=dH) l1 c1 k1).binds (ps:=aHF) (λ_ _ _ _ _ _=>ex1 λ_=>rfl),
   k1,
   aAG X G a1,
   aL l2 c2 k2,
   (aL (st:=fD) l2 c2 k2).binds (ps:=["n","k"]) (λ_ _ _ _ _ _=>ex2 λ_ _=>rfl),
   k2,
   aAG X G a2,
   aL l3 c3 k3,
   (aL (st:=fF) l3 c3 k3).binds (ps:=aHG) (λ_ _ _ _ _ _=>ex4 λ_ _ _ _=>rfl),
   k3,
   aAG X G a3,
   aL l4 c4 k4,
   (aL (st:=bW) l4 c4 k4).binds (ps:=aHH) (λ_ _ _ _ _ _=>ex2 λ_ _=>rfl),
   k4,
   aAG X G a4,
   aL l5 c5 k5,
   (aL (st:=cE) l5 c5 k5).binds (ps:=aHI) (λ_ _ _ _ _ _=>ex2 λ_ _=>rfl),
   k5,
   aAG X G a5,
   aL l6 c6 k6,
   (aL (st:=dO) l6 c6 k6).binds (ps:=aHJ) (λ_ _ _ _ _ _=>ex2 λ_ _=>rfl),
   k6,
   aAG X G a6,
   aL l7 c7 k7,
   (aL (st:=eS) l7 c7 k7).binds (ps:=aHK) (λ_ _ _ _ _ _=>ex2 λ_ _=>rfl),
   k7,
   aAG X G a7,
   aL l8 c8 k8,
   (aL (st:=bQ) l8 c8 k8).binds (ps:=aHL) (λ_ _ _ _ _ _=>ex2 λ_ _=>rfl),
   k8,
   aAG X G a8,
   aL l9 c9 k9,
   (aL (st:=eI) l9 c9 k9).binds (ps:=aHM) (λ_ _ _ _ _ _=>ex5 λ_ _ _ _ _=>rfl),
   k9,
   aAG X G a9,
   aL l10 c10 k10,
   (aL (st:=bZ) l10 c10 k10).binds (ps:=aHM) (λ_ _ _ _ _ _=>ex5 λ_ _ _ _ _=>rfl),
   k10,
   aAG X G a10,
   aL l11 c11 k11,
   (aL (st:=bX) l11 c11 k11).binds (ps:=aHN) (λ_ _ _ _ _ _=>ex4 λ_ _ _ _=>rfl),
   k11,
   aAG X G a11,
   aL l12 c12 k12,
   (aL (st:=lH) l12 c12 k12).binds (ps:=aHO) (λ_ _ _ _ _ _=>ex4 λ_ _ _ _=>rfl),
   k12,
   aAG X G a12,
   aL l13 c13 k13,
   (aL (st:=bL) l13 c13 k13).binds (ps:=aHP) (λ_ _ _ _ _ _=>ex3 λ_ _ _=>rfl),
   k13,
   aAG X G a13,
   aL l14 c14 k14,
   (aL (st:=eG) l14 c14 k14).binds (ps:=aHF) (λ_ _ _ _ _ _=>ex1 λ_=>rfl),
   k14,
   aAG X G a14,
   yZ l15 c15 t15,
   (yZ (st:=cB) l15 c15 t15).binds (λ_ _ _ _ _ _ _=>(ex4 λ_ _ _ _=>⟨_,rfl,rfl⟩)),
   (yZ (st:=cB) l15 c15 t15).binds1 (λ_ _ _ _ _ _ _ us hl=>by have h3:us.length=3:=(by simpa using hl);clear hl;revert us;exact(ex3 λ_ _ _=>⟨_,rfl,rfl⟩)),
   k15,
   aAG X G a15,
   aL l16 c16 k16,
   (aL (st:=iT) l16 c16 k16).binds (ps:=aHR) (λ_ _ _ _ _ _=>ex6 λ_ _ _ _ _ _=>rfl),
   k16,
   aAG X G a16,
   aL l17 c17 k17,
   (aL (st:=iR) l17 c17 k17).binds (ps:=aHS) (λ_ _ _ _ _ _=>ex7 λ_ _ _ _ _ _ _=>rfl),
   k17,
   aAG X G a17,
   aL l18 c18 k18,
   (aL (st:=dG) l18 c18 k18).binds (ps:=aHT) (λ_ _ _ _ _ _=>ex6 λ_ _ _ _ _ _=>rfl),
   k18,
   aAG X G a18,
   aL l19 c19 k19,
   (aL (st:=cA) l19 c19 k19).binds (ps:=aHS) (λ_ _ _ _ _ _=>ex7 λ_ _ _ _ _ _ _=>rfl),
   k19,
   aAG X G a19,
   aL l20 c20 k20,
   (aL (st:=cM) l20 c20 k20).binds (ps:=aHU) (λ_ _ _ _ _ _=>ex3 λ_ _ _=>rfl),
   k20,
   aAG X G a20,
   aL l21 c21 k21,
   (aL (st:=bY) l21 c21 k21).binds (ps:=aHV) (λ_ _ _ _ _ _=>ex2 λ_ _=>rfl),
   k21,
   aAG X G a21,
   aL l22 c22 k22,
   (aL (st:=dN) l22 c22 k22).binds (ps:=aHW) (λ_ _ _ _ _ _=>ex2 λ_ _=>rfl),
   k22,
   aAG X G a22,
   aL l23 c23 k23,
   (aL (st:=dL) l23 c23 k23).binds (ps:=aHF) (λ_ _ _ _ _ _=>ex1 λ_=>rfl),
   k23,
   aAG X G a23,
   aL l24 c24 k24,
   (aL (st:=dI) l24 c24 k24).binds (ps:=aHX) (λ_ _ _ _ _ _=>ex1 λ_=>rfl),
   k24,
   aAG X G a24,
   aL l25 c25 k25,
   (aL (st:=dJ) l25 c25 k25).binds (ps:=aHY) (λ_ _ _ _ _ _=>ex3 λ_ _ _=>rfl),
   k25,
   aAG X G a25,
   aL l26 c26 k26,
   (aL (st:=dP) l26 c26 k26).binds (ps:=aHY) (λ_ _ _ _ _ _=>ex3 λ_ _ _=>rfl),
   k26,
   aAG X G a26,
   aL l27 c27 k27,
   (aL (st:=cL) l27 c27 k27).binds (ps:=aHV) (λ_ _ _ _ _ _=>ex2 λ_ _=>rfl),
   k27,
   aAG X G a27,
   aL l28 c28 k28,
   (aL (st:=eK) l28 c28 k28).binds (ps:=aHV) (λ_ _ _ _ _ _=>ex2 λ_ _=>rfl),
   k28,
   aAG X G a28,
   aL l29 c29 k29,
   (aL (st:=eF) l29 c29 k29).binds (ps:=aHF) (λ_ _ _ _ _ _=>ex1 λ_=>rfl),
   k29,
   aAG X G a29,
   aL l30 c30 k30,
   (aL (st:=kF) l30 c30 k30).binds (ps:=["program"]) (λ_ _ _ _ _ _=>ex1 λ_=>rfl),
   k30,
   aAG X G a30,
   aL l31 c31 k31,
   (aL (st:=cH) l31 c31 k31).binds (ps:=["deed"]) (λ_ _ _ _ _ _=>ex1 λ_=>rfl),
   k31,
   aAG X G a31,
   aL l32 c32 k32,
   (aL (st:=lD) l32 c32 k32).binds (ps:=aHX) (λ_ _ _ _ _ _=>ex1 λ_=>rfl),
   k32,
   aAG X G a32,
   aL l33 c33 k33,
   (aL (st:=cR) l33 c33 k33).binds (ps:=["row"]) (λ_ _ _ _ _ _=>ex1 λ_=>rfl),
   k33,
   aAG X G a33,
   aL l34 c34 k34,
   (aL (st:=dQ) l34 c34 k34).binds (ps:=["row"]) (λ_ _ _ _ _ _=>ex1 λ_=>rfl),
   k34,
   aAG X G a34,
   aL l35 c35 k35,
   (aL (st:=cV) l35 c35 k35).binds (ps:=aHZ) (λ_ _ _ _ _ _=>ex3 λ_ _ _=>rfl),
   k35,
   aAG X G a35,
   aL l36 c36 k36,
   (aL (st:=bR) l36 c36 k36).binds (ps:=aIA) (λ_ _ _ _ _ _=>ex2 λ_ _=>rfl),
   k36,
   aAG X G a36,
   aL l37 c37 k37,
   (aL (st:=oT) l37 c37 k37).binds (ps:=aIB) (λ_ _ _ _ _ _=>ex3 λ_ _ _=>rfl),
   k37,
   aAG X G a37,
   aL l38 c38 k38,
   (aL (st:=kZ) l38 c38 k38).binds (ps:=aIC) (λ_ _ _ _ _ _=>ex4 λ_ _ _ _=>rfl),
   k38,
   aAG X G a38,
   aL l39 c39 k39,
   (aL (st:=cO) l39 c39 k39).binds (ps:=aID) (λ_ _ _ _ _ _=>ex2 λ_ _=>rfl),
   k39,
   aAG X G a39,
   aL l40 c40 k40,
   (aL (st:=kM) l40 c40 k40).binds (ps:=aIE) (λ_ _ _ _ _ _=>ex2 λ_ _=>rfl),
   k40,
   aAG X G a40,
   aL l41 c41 k41,
   (aL (st:=cC) l41 c41 k41).binds (ps:=aIF) (λ_ _ _ _ _ _=>ex3 λ_ _ _=>rfl),
   k41,
   aAG X G a41,
   aL l42 c42 k42,
   (aL (st:=bO) l42 c42 k42).binds (ps:=["n","row"]) (λ_ _ _ _ _ _=>ex2 λ_ _=>rfl),
   k42,
   aAG X G a42,
   aL l43 c43 k43,
   (aL (st:=cK) l43 c43 k43).binds (ps:=aIG) (λ_ _ _ _ _ _=>ex2 λ_ _=>rfl),
   k43,
   aAG X G a43,
   aL l44 c44 k44,
   (aL (st:=iS) l44 c44 k44).binds (ps:=aIH) (λ_ _ _ _ _ _=>ex2 λ_ _=>rfl),
   k44,
   aAG X G a44,
   aL l45 c45 k45,
   (aL (st:=fX) l45 c45 k45).binds (ps:=aII) (λ_ _ _ _ _ _=>ex2 λ_ _=>rfl),
   k45,
   aAG X G a45,
   aL l46 c46 k46,
   (aL (st:=oQ) l46 c46 k46).binds (ps:=aIJ) (λ_ _ _ _ _ _=>ex1 λ_=>rfl),
   k46,
   aAG X G a46,
   aL l47 c47 k47,
   (aL (st:=gD) l47 c47 k47).binds (ps:=aIK) (λ_ _ _ _ _ _=>ex2 λ_ _=>rfl),
   k47,
   aAG X G a47,
   aL l48 c48 k48,
   (aL (st:=eQ) l48 c48 k48).binds (ps:=aIL) (λ_ _ _ _ _ _=>ex3 λ_ _ _=>rfl),
   k48,
   aAG X G a48,
   aL l49 c49 k49,
   (aL (st:=gE) l49 c49 k49).binds (ps:=aIM) (λ_ _ _ _ _ _=>ex4 λ_ _ _ _=>rfl),
   k49,
   aAG X G a49,
   aL l50 c50 k50,
   (aL (st:=fE) l50 c50 k50).binds (ps:=aIN) (λ_ _ _ _ _ _=>ex3 λ_ _ _=>rfl),
   k50,
   aAG X G a50,
   aL l51 c51 k51,
   (aL (st:=gF) l51 c51 k51).binds (ps:=aIO) (λ_ _ _ _ _ _=>ex1 λ_=>rfl),
   k51,
   aAG X G a51,
   aL l52 c52 k52,
   (aL (st:=cJ) l52 c52 k52).binds (ps:=aIP) (λ_ _ _ _ _ _=>ex2 λ_ _=>rfl),
   k52,
   aAG X G a52,
   aL l53 c53 k53,
   (aL (st:=fK) l53 c53 k53).binds (ps:=aIQ) (λ_ _ _ _ _ _=>ex5 λ_ _ _ _ _=>rfl),
   k53,
   aAG X G a53,
   aL l54 c54 k54,
   (aL (st:=fJ) l54 c54 k54).binds (ps:=aIR) (λ_ _ _ _ _ _=>ex2 λ_ _=>rfl),
   k54,
   aAG X G a54,
   aL l55 c55 k55,
   (aL (st:=eO) l55 c55 k55).binds (ps:=aIS) (λ_ _ _ _ _ _=>ex3 λ_ _ _=>rfl),
   k55,
   aAG X G a55,
   aL l56 c56 k56,
   (aL (st:=mW) l56 c56 k56).binds (ps:=aIT) (λ_ _ _ _ _ _=>ex1 λ_=>rfl),
   k56,
   aAG X G a56,
   aAG X G vFIGURES,
   aAG X G vGREATEST_N,
   aAG X G vLAST_GIVEN,
   aAG X G vMOST_BRACKETS,
   aAG X G vMOST_FACTORS,
   aAG X G vMOST_FIGURES_exprtexts,
   aAG X G vMOST_FIGURES_progtexts,
   aAG X G vMOST_GIVENS,
   aAG X G vMOST_SHELVES,
   aAG X G vSIGNS,
   wSIGNS,
   aAG X G vWORDS,
   wWORDS,
   aBW X G z_enumerate,
   aBW X G z_int,
   aBW X G z_len,
   aBW X G z_list,
   aBW X G z_max,
   aBW X G z_min,
   aBW X G z_range,
   aBW X G z_reversed,
   aBW X G z_sorted,
   aBW X G z_str,
   aBW X G z_tuple,
   aBW X G z_zip⟩
 exact⟨_,λs v=>.of_eq rfl,λbase _ _=>(aPv T).mono (by lia)⟩
theorem aMd{l:PySem.W.OpenLaw}{q:Program}{d:DefRec}{K:Params->Frag}(hn:l.most=some 63)(hdf:d.params.defaults=[])
  (hY:∀(w:World) (h:Heap),YP w h->(K w.params).In h)
  (F:∀(w:World) (mg:Str->Option Value) (fa:Addr) (h:Heap),(K w.params).In h->h.Ns mainGlobals mg->mg d.name=some (.ref fa) ->
   ∃fd:FuncData,(∀(s:Shared) (u:Value),BindsTo s fd ⟨[u],[]⟩ [("_law_script",u)])/\∀base:Heap,(K w.params).In base->base.Ns mainGlobals mg->FnOk l.prog w (K w.params) mg base CX0 107 fa fd aIT (spF (K w.params) Z0 1 tS)) :
  PySem.W.WalkO q loose XP YP l.row.toRowW d [] (λf vs=>PySem.call f vs) :=
 L2.aFf (n:=63) (k:=107) (x:="_law_script") (CX:=λw=>CX0) (sp:=λw=>(spF (K w.params) Z0 1 tS)) hn (by decide) hdf ⟨rfl,by decide,by decide⟩ hY F (λ_ _ a ns hl hO hS=>aRe hO hS (aJc ns hl)) λ_ _ _ _ _ z=>z
end K91
open PySem PySem.W PyProof.Rows
end
namespace PySem.W.Fast
def zo:Params->Obj:=fun _=>default
def zs:List Stmt:=[]
def zb:Params->BT:=fun _=>BT.nil
theorem zq{α:Type _}(a:α):a=a:=rfl
def tw17529919446525992402:=zs
def te17529919446525992402:=zq tw17529919446525992402
def tw9942842484638509469:=zs
def te9942842484638509469:=zq tw9942842484638509469
def tw8092416845436131271:=zo
def te8092416845436131271:=zq tw8092416845436131271
def tw18301227752249209329:=zs
def te18301227752249209329:=zq tw18301227752249209329
def tw5707288216308567183:=zo
def te5707288216308567183:=zq tw5707288216308567183
def tw5184856821597112880:=zs
def te5184856821597112880:=zq tw5184856821597112880
def tw18123584457823760530:=zs
def te18123584457823760530:=zq tw18123584457823760530
def tw4407150659892644481:=zo
def te4407150659892644481:=zq tw4407150659892644481
def tw6518460717129561638:=zo
def te6518460717129561638:=zq tw6518460717129561638
def tw8856656151805413667:=zo
def te8856656151805413667:=zq tw8856656151805413667
def tw4019989892547238211:=zs
def te4019989892547238211:=zq tw4019989892547238211
def tw1955055296269083026:=zo
def te1955055296269083026:=zq tw1955055296269083026
def tw7375879940714791188:=zb
def te7375879940714791188:=zq tw7375879940714791188
def tw16191532033960727425:=zo
def te16191532033960727425:=zq tw16191532033960727425
def tw7307920933249685938:=zo
def te7307920933249685938:=zq tw7307920933249685938
def tw13005713184700392080:=zo
def te13005713184700392080:=zq tw13005713184700392080
def tw930974682050134533:=zo
def te930974682050134533:=zq tw930974682050134533
def tw5185599873562765440:=zo
def te5185599873562765440:=zq tw5185599873562765440
def tw11423649609176391402:=zo
def te11423649609176391402:=zq tw11423649609176391402
def tw4025976040734200801:=zo
def te4025976040734200801:=zq tw4025976040734200801
def tw3320854631587547954:=zo
def te3320854631587547954:=zq tw3320854631587547954
def tw548936922257981229:=zo
def te548936922257981229:=zq tw548936922257981229
def tw10226558773911267682:=zo
def te10226558773911267682:=zq tw10226558773911267682
def tw12121533452274113412:=zo
def te12121533452274113412:=zq tw12121533452274113412
def tw8788461960874107687:=zo
def te8788461960874107687:=zq tw8788461960874107687
def tw3808901479287599358:=zo
def te3808901479287599358:=zq tw3808901479287599358
def tw5411568693463231240:=zo
def te5411568693463231240:=zq tw5411568693463231240
def tw1393312655115594167:=zo
def te1393312655115594167:=zq tw1393312655115594167
def tw7509224613105921182:=zo
def te7509224613105921182:=zq tw7509224613105921182
def tw15259730274184910443:=zo
def te15259730274184910443:=zq tw15259730274184910443
def tw12943684639474732243:=zo
def te12943684639474732243:=zq tw12943684639474732243
def tw17596140697023167750:=zo
def te17596140697023167750:=zq tw17596140697023167750
def tw18303515327142196389:=zo
def te18303515327142196389:=zq tw18303515327142196389
def tw4571430175232452503:=zo
def te4571430175232452503:=zq tw4571430175232452503
def tw18376724886152611638:=zo
def te18376724886152611638:=zq tw18376724886152611638
def tw14823176174045138553:=zo
def te14823176174045138553:=zq tw14823176174045138553
def tw6355387472702737211:=zo
def te6355387472702737211:=zq tw6355387472702737211
def tw13478372009673750809:=zo
def te13478372009673750809:=zq tw13478372009673750809
def tw7388844718253962937:=zo
def te7388844718253962937:=zq tw7388844718253962937
def tw4158429174017229905:=zo
def te4158429174017229905:=zq tw4158429174017229905
def tw8514213440647444106:=zo
def te8514213440647444106:=zq tw8514213440647444106
def tw3519596044920771448:=zo
def te3519596044920771448:=zq tw3519596044920771448
def tw14302508844698149267:=zo
def te14302508844698149267:=zq tw14302508844698149267
def tw10622129601596283024:=zo
def te10622129601596283024:=zq tw10622129601596283024
def tw12583584185027017442:=zo
def te12583584185027017442:=zq tw12583584185027017442
def tw14789543329778566615:=zo
def te14789543329778566615:=zq tw14789543329778566615
def tw17241988840998224072:Params->Heap:=fun _=>⟨#[],default⟩
theorem te17241988840998224072:tw17241988840998224072=tw17241988840998224072:=rfl
def tw10034482519291663381:Params->Heap:=fun _=>⟨#[],default⟩
theorem te10034482519291663381:tw10034482519291663381=tw10034482519291663381:=rfl
def tw6986701388679193756:=zb
def te6986701388679193756:=zq tw6986701388679193756
def tw4091042579732818288:Program:=Challenge.pw_lentshelf_k91_whole_from_text_to_shelves
theorem te4091042579732818288:tw4091042579732818288=tw4091042579732818288:=rfl
def tw3102007886878749099:=zb
def te3102007886878749099:=zq tw3102007886878749099
def tw11030686833515777197:Program:=Challenge.pw_lentshelf_k91_whole_from_text_to_shelves
theorem te11030686833515777197:Challenge.pw_lentshelf_k91_whole_from_text_to_shelves=tw11030686833515777197:=rfl
def tw4282660119317623072:=zb
def te4282660119317623072:=zq tw4282660119317623072
def tw10282855184010631088:=zb
def te10282855184010631088:=zq tw10282855184010631088
def tw14159054748266424503:=zb
def te14159054748266424503:=zq tw14159054748266424503
def tw16067807012671513236:=zs
def te16067807012671513236:=zq tw16067807012671513236
def tw17651965639562920657:=zs
def te17651965639562920657:=zq tw17651965639562920657
def tw5202187265970195119:=zo
def te5202187265970195119:=zq tw5202187265970195119
def tw7082068907467487667:=zs
def te7082068907467487667:=zq tw7082068907467487667
def tw11397757687130704778:=zb
def te11397757687130704778:=zq tw11397757687130704778
def tw9955770694943249979:=zs
def te9955770694943249979:=zq tw9955770694943249979
def tw10058376954214596098:=zo
def te10058376954214596098:=zq tw10058376954214596098
def tw17904575218142486408:=zs
def te17904575218142486408:=zq tw17904575218142486408
def tw5368073799006584192:=zo
def te5368073799006584192:=zq tw5368073799006584192
def tw3573314230772721886:=zb
def te3573314230772721886:=zq tw3573314230772721886
def tw538527700412265646:=zo
def te538527700412265646:=zq tw538527700412265646
def tw5525602887970205021:=zo
def te5525602887970205021:=zq tw5525602887970205021
def tw145977287324400254:=zo
def te145977287324400254:=zq tw145977287324400254
def tw13909543561009370853:=zo
def te13909543561009370853:=zq tw13909543561009370853
def tw14696338820240973798:=zo
def te14696338820240973798:=zq tw14696338820240973798
def tw16065190585438963394:=zb
def te16065190585438963394:=zq tw16065190585438963394
def tw4551789994355835285:=zo
def te4551789994355835285:=zq tw4551789994355835285
def tw9872858453357924437:=zs
def te9872858453357924437:=zq tw9872858453357924437
def tw1743163541460282446:=zo
def te1743163541460282446:=zq tw1743163541460282446
def tw10552176483538208246:=zo
def te10552176483538208246:=zq tw10552176483538208246
def tw13571773313889273327:=zo
def te13571773313889273327:=zq tw13571773313889273327
def tw17335798881178898465:=zo
def te17335798881178898465:=zq tw17335798881178898465
def tw16478963490033144359:=zo
def te16478963490033144359:=zq tw16478963490033144359
def tw14702199885584178050:=zo
def te14702199885584178050:=zq tw14702199885584178050
def tw1904838717208333940:=zo
def te1904838717208333940:=zq tw1904838717208333940
def tw15464348511826258125:=zo
def te15464348511826258125:=zq tw15464348511826258125
def tw17358801988982731430:=zo
def te17358801988982731430:=zq tw17358801988982731430
def tw2805307459965006825:=zo
def te2805307459965006825:=zq tw2805307459965006825
def tw10648896745066865629:=zo
def te10648896745066865629:=zq tw10648896745066865629
def tw53436275004604963:=zo
def te53436275004604963:=zq tw53436275004604963
def tw4586008834812924651:=zo
def te4586008834812924651:=zq tw4586008834812924651
def tw3149149674129853472:=zo
def te3149149674129853472:=zq tw3149149674129853472
def tw15749526378404643965:=zo
def te15749526378404643965:=zq tw15749526378404643965
def tw5889309037528958827:=zs
def te5889309037528958827:=zq tw5889309037528958827
def tw299152062709609974:=zo
def te299152062709609974:=zq tw299152062709609974
def tw16320684014604573816:=zo
def te16320684014604573816:=zq tw16320684014604573816
def tw5949238953829373105:=zo
def te5949238953829373105:=zq tw5949238953829373105
def tw17818347653475390443:=zo
def te17818347653475390443:=zq tw17818347653475390443
def tw4874089114181587688:=zo
def te4874089114181587688:=zq tw4874089114181587688
def tw360645543814394659:=zo
def te360645543814394659:=zq tw360645543814394659
def tw10220255386914842578:=zo
def te10220255386914842578:=zq tw10220255386914842578
def tw15479855144410762138:=zo
def te15479855144410762138:=zq tw15479855144410762138
def tw12787206223040182015:=zo
def te12787206223040182015:=zq tw12787206223040182015
def tw12958140369748797603:=zo
def te12958140369748797603:=zq tw12958140369748797603
def tw13481681140862174731:=zo
def te13481681140862174731:=zq tw13481681140862174731
def tw13394980253576997931:=zo
def te13394980253576997931:=zq tw13394980253576997931
def tw5188368136145725743:=zo
def te5188368136145725743:=zq tw5188368136145725743
def tw13133451268200760853:=zo
def te13133451268200760853:=zq tw13133451268200760853
def tw3018723143165841454:=zo
def te3018723143165841454:=zq tw3018723143165841454
def tw13058892734986814344:=zo
def te13058892734986814344:=zq tw13058892734986814344
def tw14935873650677518920:=zo
def te14935873650677518920:=zq tw14935873650677518920
def tw2210217413503049307:=zo
def te2210217413503049307:=zq tw2210217413503049307
def tw12383371841011939031:=zo
def te12383371841011939031:=zq tw12383371841011939031
def tw15602504093823477432:=zo
def te15602504093823477432:=zq tw15602504093823477432
def tw8621203224491752848:=zo
def te8621203224491752848:=zq tw8621203224491752848
def tw14805520025320596993:=zo
def te14805520025320596993:=zq tw14805520025320596993
def tw8875234214573553465:=zo
def te8875234214573553465:=zq tw8875234214573553465
def tw4704718069103333034:=zo
def te4704718069103333034:=zq tw4704718069103333034
def tw16432075362556661959:=zo
def te16432075362556661959:=zq tw16432075362556661959
def tw5915201980485423820:=zo
def te5915201980485423820:=zq tw5915201980485423820
def tw17936916892581888569:=zo
def te17936916892581888569:=zq tw17936916892581888569
def tw17881110642801170597:=zo
def te17881110642801170597:=zq tw17881110642801170597
def tw926276439266917537:=zo
def te926276439266917537:=zq tw926276439266917537
def tw5528994152247351402:=zb
def te5528994152247351402:=zq tw5528994152247351402
def tw3580128117682083411:=zo
def te3580128117682083411:=zq tw3580128117682083411
def tw228915420269712777:=zo
def te228915420269712777:=zq tw228915420269712777
def tw9553639419888152950:=zo
def te9553639419888152950:=zq tw9553639419888152950
def tw13971329576920555113:=zo
def te13971329576920555113:=zq tw13971329576920555113
def tw16713593886527678409:=zo
def te16713593886527678409:=zq tw16713593886527678409
def tw15671481522778499156:=zo
def te15671481522778499156:=zq tw15671481522778499156
def tw16539169622788958665:=zo
def te16539169622788958665:=zq tw16539169622788958665
def tw1691302582222687383:=zo
def te1691302582222687383:=zq tw1691302582222687383
def tw17150005649286394821:=zo
def te17150005649286394821:=zq tw17150005649286394821
def tw7018425146984879233:=zo
def te7018425146984879233:=zq tw7018425146984879233
def tw379082785648299131:=zo
def te379082785648299131:=zq tw379082785648299131
def tw18184518991866305139:=zo
def te18184518991866305139:=zq tw18184518991866305139
def tw2312644385868641109:=zo
def te2312644385868641109:=zq tw2312644385868641109
def tw1210562476021602267:=zo
def te1210562476021602267:=zq tw1210562476021602267
def tw12828793879655707603:=zo
def te12828793879655707603:=zq tw12828793879655707603
def tw10167045293182092404:=zo
def te10167045293182092404:=zq tw10167045293182092404
def tw2001922949138330598:=zo
def te2001922949138330598:=zq tw2001922949138330598
def tw10044290793668480000:=zo
def te10044290793668480000:=zq tw10044290793668480000
def tw17553204612975338638:=zo
def te17553204612975338638:=zq tw17553204612975338638
def tw13892735505845479939:=zo
def te13892735505845479939:=zq tw13892735505845479939
def tw14976173195589840733:=zo
def te14976173195589840733:=zq tw14976173195589840733
def tw18293309258697813809:=zo
def te18293309258697813809:=zq tw18293309258697813809
def tw4158077111253602293:=zo
def te4158077111253602293:=zq tw4158077111253602293
def tw13158130943265355507:=zo
def te13158130943265355507:=zq tw13158130943265355507
def tw104255739770964542:=zo
def te104255739770964542:=zq tw104255739770964542
def tw12482279657124763719:=zo
def te12482279657124763719:=zq tw12482279657124763719
def tw14568275331999896301:=zo
def te14568275331999896301:=zq tw14568275331999896301
def tw9294709583429364227:=zo
def te9294709583429364227:=zq tw9294709583429364227
def tw2349583924584144938:=zo
def te2349583924584144938:=zq tw2349583924584144938
def tw9310761222052365846:=zo
def te9310761222052365846:=zq tw9310761222052365846
def tw9704902737907162566:=zo
def te9704902737907162566:=zq tw9704902737907162566
def tw11611935086648467665:=zo
def te11611935086648467665:=zq tw11611935086648467665
def tw17165385498747345784:=zo
def te17165385498747345784:=zq tw17165385498747345784
def tw3780348685519794821:=zo
def te3780348685519794821:=zq tw3780348685519794821
def tw11373445523115690306:=zo
def te11373445523115690306:=zq tw11373445523115690306
def tw8582688136519841792:=zo
def te8582688136519841792:=zq tw8582688136519841792
def tw16239144185439748608:=zo
def te16239144185439748608:=zq tw16239144185439748608
def tw6046030368552402048:=zo
def te6046030368552402048:=zq tw6046030368552402048
def tw9327564711228322940:=zo
def te9327564711228322940:=zq tw9327564711228322940
def tw9876121231215111582:=zo
def te9876121231215111582:=zq tw9876121231215111582
def tw15246062654036395645:=zs
def te15246062654036395645:=zq tw15246062654036395645
def tw3751940221823156115:=zo
def te3751940221823156115:=zq tw3751940221823156115
def tw11758509587270386581:=zo
def te11758509587270386581:=zq tw11758509587270386581
def tw5230785454116140242:=zo
def te5230785454116140242:=zq tw5230785454116140242
def tw13474701600560038112:=zs
def te13474701600560038112:=zq tw13474701600560038112
def tw3966451407500962757:=zs
def te3966451407500962757:=zq tw3966451407500962757
def tw15967067120144472931:=zo
def te15967067120144472931:=zq tw15967067120144472931
def tw3753928205177466193:=zo
def te3753928205177466193:=zq tw3753928205177466193
def tw13796714786354666882:=zo
def te13796714786354666882:=zq tw13796714786354666882
def tw6232727013793251636:=zo
def te6232727013793251636:=zq tw6232727013793251636
def tw1844901271338655448:=zo
def te1844901271338655448:=zq tw1844901271338655448
def tw9063721194233374257:=zo
def te9063721194233374257:=zq tw9063721194233374257
def tw3725797272901532031:=zo
def te3725797272901532031:=zq tw3725797272901532031
def tw9499590680294701517:=zo
def te9499590680294701517:=zq tw9499590680294701517
def tw10377086735297127116:=zo
def te10377086735297127116:=zq tw10377086735297127116
def tw10647823840829324963:=zo
def te10647823840829324963:=zq tw10647823840829324963
def tw881420817177498664:=zo
def te881420817177498664:=zq tw881420817177498664
def tw7518708940637080344:=zo
def te7518708940637080344:=zq tw7518708940637080344
def tw8410114428619682251:=zo
def te8410114428619682251:=zq tw8410114428619682251
def tw5797394964717511941:=zo
def te5797394964717511941:=zq tw5797394964717511941
def tw1611115777607055119:=zo
def te1611115777607055119:=zq tw1611115777607055119
def tw8518838795296087102:=zo
def te8518838795296087102:=zq tw8518838795296087102
def tw14608267242275656401:=zo
def te14608267242275656401:=zq tw14608267242275656401
def tw3885789367209161681:=zo
def te3885789367209161681:=zq tw3885789367209161681
def tw9005924807576117353:=zo
def te9005924807576117353:=zq tw9005924807576117353
def tw6389726446186765672:=zo
def te6389726446186765672:=zq tw6389726446186765672
end PySem.W.Fast
set_option maxRecDepth 100000 in
set_option maxHeartbeats 0 in
theorem PySem.Challenge.cw_lentshelf_k91_whole_from_text_to_shelves_holds : PySem.Challenge.rw_lentshelf_k91_whole_from_text_to_shelves.Holds := by
 w_on; o_law; k_head; (case hw=>w_witness2)
 k_fill
 refine K91.aMd (l:=PySem.Challenge.rw_lentshelf_k91_whole_from_text_to_shelves) rfl rfl (fun w h Y=>PySem.W.kIn_of Y) ?F
 case F =>
  intro w mg fa h KX G hmg
  refine' K91.aTk KX G hmg ?a1 ?l1 ?c1 ?k1 ?a2 ?l2 ?c2 ?k2 ?a3 ?l3 ?c3 ?k3 ?a4 ?l4 ?c4 ?k4 ?a5 ?l5 ?c5 ?k5 ?a6 ?l6 ?c6 ?k6 ?a7 ?l7 ?c7 ?k7 ?a8 ?l8 ?c8 ?k8 ?a9 ?l9 ?c9 ?k9 ?a10 ?l10 ?c10 ?k10 ?a11 ?l11 ?c11 ?k11 ?a12 ?l12 ?c12 ?k12 ?a13 ?l13 ?c13 ?k13 ?a14 ?l14 ?c14 ?k14 ?a15 ?l15 ?c15 ?k15 ?t15 ?a16 ?l16 ?c16 ?k16 ?a17 ?l17 ?c17 ?k17 ?a18 ?l18 ?c18 ?k18 ?a19 ?l19 ?c19 ?k19 ?a20 ?l20 ?c20 ?k20 ?a21 ?l21 ?c21 ?k21 ?a22 ?l22 ?c22 ?k22 ?a23 ?l23 ?c23 ?k23 ?a24 ?l24 ?c24 ?k24 ?a25 ?l25 ?c25 ?k25 ?a26 ?l26 ?c26 ?k26 ?a27 ?l27 ?c27 ?k27 ?a28 ?l28 ?c28 ?k28 ?a29 ?l29 ?c29 ?k29 ?a30 ?l30 ?c30 ?k30 ?a31 ?l31 ?c31 ?k31 ?a32 ?l32 ?c32 ?k32 ?a33 ?l33 ?c33 ?k33 ?a34 ?l34 ?c34 ?k34 ?a35 ?l35 ?c35 ?k35 ?a36 ?l36 ?c36 ?k36 ?a37 ?l37 ?c37 ?k37 ?a38 ?l38 ?c38 ?k38 ?a39 ?l39 ?c39 ?k39 ?a40 ?l40 ?c40 ?k40 ?a41 ?l41 ?c41 ?k41 ?a42 ?l42 ?c42 ?k42 ?a43 ?l43 ?c43 ?k43 ?a44 ?l44 ?c44 ?k44 ?a45 ?l45 ?c45 ?k45 ?a46 ?l46 ?c46 ?k46 ?a47 ?l47 ?c47 ?k47 ?a48 ?l48 ?c48 ?k48 ?a49 ?l49 ?c49 ?k49 ?a50 ?l50 ?c50 ?k50 ?a51 ?l51 ?c51 ?k51 ?a52 ?l52 ?c52 ?k52 ?a53 ?l53 ?c53 ?k53 ?a54 ?l54 ?c54 ?k54 ?a55 ?l55 ?c55 ?k55 ?a56 ?l56 ?c56 ?k56 ?vFIGURES ?vGREATEST_N ?vLAST_GIVEN ?vMOST_BRACKETS ?vMOST_FACTORS ?vMOST_FIGURES_exprtexts ?vMOST_FIGURES_progtexts ?vMOST_GIVENS ?vMOST_SHELVES ?vSIGNS ?wSIGNS ?vWORDS ?wWORDS ?z_enumerate ?z_int ?z_len ?z_list ?z_max ?z_min ?z_range ?z_reversed ?z_sorted ?z_str ?z_tuple ?z_zip
  (case a1=>k_is)
  (case l1=>k_is)
  (case c1=>k_is)
  (case k1=>k_is)
  (case a2=>k_is)
  (case l2=>k_is)
  (case c2=>k_is)
  (case k2=>k_is)
  (case a3=>k_is)
  (case l3=>k_is)
  (case c3=>k_is)
  (case k3=>k_is)
  (case a4=>k_is)
  (case l4=>k_is)
  (case c4=>k_is)
  (case k4=>k_is)
  (case a5=>k_is)
  (case l5=>k_is)
  (case c5=>k_is)
  (case k5=>k_is)
  (case a6=>k_is)
  (case l6=>k_is)
  (case c6=>k_is)
  (case k6=>k_is)
  (case a7=>k_is)
  (case l7=>k_is)
  (case c7=>k_is)
  (case k7=>k_is)
  (case a8=>k_is)
  (case l8=>k_is)
  (case c8=>k_is)
  (case k8=>k_is)
  (case a9=>k_is)
  (case l9=>k_is)
  (case c9=>k_is)
  (case k9=>k_is)
  (case a10=>k_is)
  (case l10=>k_is)
  (case c10=>k_is)
  (case k10=>k_is)
  (case a11=>k_is)
  (case l11=>k_is)
  (case c11=>k_is)
  (case k11=>k_is)
  (case a12=>k_is)
  (case l12=>k_is)
  (case c12=>k_is)
  (case k12=>k_is)
  (case a13=>k_is)
  (case l13=>k_is)
  (case c13=>k_is)
  (case k13=>k_is)
  (case a14=>k_is)
  (case l14=>k_is)
  (case c14=>k_is)
  (case k14=>k_is)
  (case a15=>k_is)
  (case l15=>k_is)
  (case c15=>k_is)
  (case k15=>k_is)
  (case t15=>k_is)
  (case a16=>k_is)
  (case l16=>k_is)
  (case c16=>k_is)
  (case k16=>k_is)
  (case a17=>k_is)
  (case l17=>k_is)
  (case c17=>k_is)
  (case k17=>k_is)
  (case a18=>k_is)
  (case l18=>k_is)
  (case c18=>k_is)
  (case k18=>k_is)
  (case a19=>k_is)
  (case l19=>k_is)
  (case c19=>k_is)
  (case k19=>k_is)
  (case a20=>k_is)
  (case l20=>k_is)
  (case c20=>k_is)
  (case k20=>k_is)
  (case a21=>k_is)
  (case l21=>k_is)
  (case c21=>k_is)
  (case k21=>k_is)
  (case a22=>k_is)
  (case l22=>k_is)
  (case c22=>k_is)
  (case k22=>k_is)
  (case a23=>k_is)
  (case l23=>k_is)
  (case c23=>k_is)
  (case k23=>k_is)
  (case a24=>k_is)
  (case l24=>k_is)
  (case c24=>k_is)
  (case k24=>k_is)
  (case a25=>k_is)
  (case l25=>k_is)
  (case c25=>k_is)
  (case k25=>k_is)
  (case a26=>k_is)
  (case l26=>k_is)
  (case c26=>k_is)
  (case k26=>k_is)
  (case a27=>k_is)
  (case l27=>k_is)
  (case c27=>k_is)
  (case k27=>k_is)
  (case a28=>k_is)
  (case l28=>k_is)
  (case c28=>k_is)
  (case k28=>k_is)
  (case a29=>k_is)
  (case l29=>k_is)
  (case c29=>k_is)
  (case k29=>k_is)
  (case a30=>k_is)
  (case l30=>k_is)
  (case c30=>k_is)
  (case k30=>k_is)
  (case a31=>k_is)
  (case l31=>k_is)
  (case c31=>k_is)
  (case k31=>k_is)
  (case a32=>k_is)
  (case l32=>k_is)
  (case c32=>k_is)
  (case k32=>k_is)
  (case a33=>k_is)
  (case l33=>k_is)
  (case c33=>k_is)
  (case k33=>k_is)
  (case a34=>k_is)
  (case l34=>k_is)
  (case c34=>k_is)
  (case k34=>k_is)
  (case a35=>k_is)
  (case l35=>k_is)
  (case c35=>k_is)
  (case k35=>k_is)
  (case a36=>k_is)
  (case l36=>k_is)
  (case c36=>k_is)
  (case k36=>k_is)
  (case a37=>k_is)
  (case l37=>k_is)
  (case c37=>k_is)
  (case k37=>k_is)
  (case a38=>k_is)
  (case l38=>k_is)
  (case c38=>k_is)
  (case k38=>k_is)
  (case a39=>k_is)
  (case l39=>k_is)
  (case c39=>k_is)
  (case k39=>k_is)
  (case a40=>k_is)
  (case l40=>k_is)
  (case c40=>k_is)
  (case k40=>k_is)
  (case a41=>k_is)
  (case l41=>k_is)
  (case c41=>k_is)
  (case k41=>k_is)
  (case a42=>k_is)
  (case l42=>k_is)
  (case c42=>k_is)
  (case k42=>k_is)
  (case a43=>k_is)
  (case l43=>k_is)
  (case c43=>k_is)
  (case k43=>k_is)
  (case a44=>k_is)
  (case l44=>k_is)
  (case c44=>k_is)
  (case k44=>k_is)
  (case a45=>k_is)
  (case l45=>k_is)
  (case c45=>k_is)
  (case k45=>k_is)
  (case a46=>k_is)
  (case l46=>k_is)
  (case c46=>k_is)
  (case k46=>k_is)
  (case a47=>k_is)
  (case l47=>k_is)
  (case c47=>k_is)
  (case k47=>k_is)
  (case a48=>k_is)
  (case l48=>k_is)
  (case c48=>k_is)
  (case k48=>k_is)
  (case a49=>k_is)
  (case l49=>k_is)
  (case c49=>k_is)
  (case k49=>k_is)
  (case a50=>k_is)
  (case l50=>k_is)
  (case c50=>k_is)
  (case k50=>k_is)
  (case a51=>k_is)
  (case l51=>k_is)
  (case c51=>k_is)
  (case k51=>k_is)
  (case a52=>k_is)
  (case l52=>k_is)
  (case c52=>k_is)
  (case k52=>k_is)
  (case a53=>k_is)
  (case l53=>k_is)
  (case c53=>k_is)
  (case k53=>k_is)
  (case a54=>k_is)
  (case l54=>k_is)
  (case c54=>k_is)
  (case k54=>k_is)
  (case a55=>k_is)
  (case l55=>k_is)
  (case c55=>k_is)
  (case k55=>k_is)
  (case a56=>k_is)
  (case l56=>k_is)
  (case c56=>k_is)
  (case k56=>k_is)
  (case vFIGURES=>k_is)
  (case vGREATEST_N=>k_is)
  (case vLAST_GIVEN=>k_is)
  (case vMOST_BRACKETS=>k_is)
  (case vMOST_FACTORS=>k_is)
  (case vMOST_FIGURES_exprtexts=>k_is)
  (case vMOST_FIGURES_progtexts=>k_is)
  (case vMOST_GIVENS=>k_is)
  (case vMOST_SHELVES=>k_is)
  (case vSIGNS=>k_is)
  (case wSIGNS=>kernel_rfl)
  (case vWORDS=>k_is)
  (case wWORDS=>kernel_rfl)
  (case z_enumerate=>k_is)
  (case z_int=>k_is)
  (case z_len=>k_is)
  (case z_list=>k_is)
  (case z_max=>k_is)
  (case z_min=>k_is)
  (case z_range=>k_is)
  (case z_reversed=>k_is)
  (case z_sorted=>k_is)
  (case z_str=>k_is)
  (case z_tuple=>k_is)
  (case z_zip=>k_is)

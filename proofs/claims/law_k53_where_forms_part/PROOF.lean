import PyProof.Rows.All
import Wide.All
import OpenK.AllK
import Wide.FinOn
import Lean
import PyProof.EqAt
import PyProof.EqKinds
import PyProof.TupleCall
import PyProof.WalksMore
import PyProof.Rows.SortShell
import KE.KDictSum
import PySem.Challenge.RW_lentshelf_k53_where_forms_part
set_option autoImplicit true
set_option compiler.extract_closed false
noncomputable section
set_option Elab.async false
set_option linter.all false
set_option bootstrap.genMatcherCode false
set_option maxRecDepth 100000
set_option maxHeartbeats 4000000
section
open PySem.W (Frag fnOf keepIn nsIn codeIn)
section
open PySem PySem.Spec PyProof.Rows
def aAA:=@wpAny_bind
def aAB:=@Heap.get?_push_of_some
def aAC:=@wpAny_pure
def aAD:=@Nat.le_refl
def aAE:=@Heap.lt_size
def aAF:=@List.getElem?_eq_some_iff
def aAG:=@if_pos
def aAH:=@if_neg
def aAI:=@Heap.get?_push_size
def aAJ:=@wpS_bind
def aAK:=@List.map_cons
def aAL:=@List.size_toArray
def aAM:=@List.length_map
def aAN:=@wpS_pure
def aAO:=@Nat.ne_of_lt
def aAP:=@List.getElem?_eq_getElem
def aAQ:=@List.mem_of_getElem?
def aAR:=@Option.map_eq_some_iff
def aAS:=@Option.some.injEq
def aAT:=@Bool.false_eq_true
def aAU:=@List.mem_cons
def aAV:=@List.getElem?_map
def aAW:=@List.getElem?_append_left
def aAX:=@List.mem_map
def aAY:=@Bool.false_ne_true
def aAZ:=@Nat.lt_of_lt_of_le
def aBA:=@List.take_length
def aBB:=@wpAny_field
def aBC:=@wpAny_holding
def aBD:=@List.pairwise_iff_getElem
def aBE:=@sizeLine_eq
def aBF:=@List.mem_cons_of_mem
def aBG:=@List.mem_cons_self
def aBH:=@wpAny_call_entry
def aBI:=@PassesOwn.never
def aBJ:=@Nat.ne_of_gt
def aBK:=@List.map_map
def aBL:=@wpAny_callSpecial?_slot
def aBM:=@if_true
def aBN:=@List.mem_append_right
def aBO:=@decide_eq_true_eq
def aBP:=@List.mem_singleton
def aBQ:=@wpAny_loadPart'
def aBR:=@wpAny_newObj_type
def aBS:=@Nat.le_trans
def aBT:=@List.nodup_iff_pairwise_ne
def aBU:=@List.getElem?_append_right
def aBV:=@List.length_cons
def aBW:=@if_false
def aBX:=@List.take_add_one
def aBY:=@List.map_congr_left
def aBZ:=@List.getElem?_set_self
def aCA:=@decide_eq_false
def aCB:=@List.pairwise_map
def aCC:=@List.length_append
def aCD:=@wpAny_setField_rec
def aCE:=@Nat.zero_le
def aCF:=@Heap.get?_update_self
def aCG:=@Heap.get?_update_ne
def aCH:=@List.mem_append
def aCI:=@List.drop_eq_getElem_cons
def aCJ:=@List.take_of_length_le
def aCK:=@List.mem_iff_getElem
def aCL:=@Heap.get?_update_other
def aCM:=@wpAny_rule
def aCN:=@Int.emod_lt_of_pos
def aCO:=@Int.emod_nonneg
def aCP:=@List.mem_range
def aCQ:=@List.getElem_mem
def aCR:=@List.not_mem_nil
def aCS:=@wpAny_seqItems
def aCT:=@wpS_forRange
def aCU:=@wpAny_mono
def aCV:=@Nat.mul_div_cancel'
def aCW:=@PyProof.Rows.slot_tuple_getitem
def aCX:=@Array.perm_iff_toList_perm
def aCY:=@PySem.boot_len
def aCZ:=@List.mem_of_mem_take
def aDA:=@Nat.gcd_dvd_left
def aDB:=@Array.toList_append
def aDC:=@bind_congr
def aDD:=@Int.toNat_natCast
def aDE:=@List.append_assoc
def aDF:=@wpAny_setField
def aDG:=@Heap.size_push
def aDH:=@PySem.W.kia_one
def aDI:=@PyProof.Rows.callWith_type1
def aDJ:=@Nat.gcd_pos_of_pos_left
def aDK:=@List.lookup_cons
def aDL:=@wpAny_attempt
def aDM:=@F.slot_tuple_iterator_next
def aDN:=@wpAny_dictEntries
def aDO:=@List.mem_map_of_mem
def aDP:=@List.getElem?_zip_eq_some
def aDQ:=@List.extract_eq_take_drop
def aDR:=@List.map_append
def aDS:=@F.slot_dict_itemiterator_next
def aDT:=@List.length_take
def aDU:=@wpAny_Call_Name_kw
def aDV:=@wpAny_isInstance
def aDW:=@wpS_mono
def aDX:=@List.getElem?_set_ne
def aDY:=@Array.toList_extract
def aDZ:=@F.slot_dict_keyiterator_next
def aEA:=@Heap.get?_none_of_le
def aEB:=@Nat.gcd_dvd_right
def aEC:=@Nat.lt_succ_of_lt
def aED:=@List.nodup_cons
def aEE:=@codeAny_builtin
def aEF:=@List.append_nil
def aEG:=@Array.length_toList
def aEH:=@List.getD_cons_zero
def aEI:=@List.drop_eq_nil_of_le
def aEJ:=@Nat.lt_succ_self
def aEK:=@Classical.byContradiction
def aEL:=@Array.getElem?_eq_getElem
def aEM:=@Int.le_refl
def aEN:=@wpAny_updateSeq
def aEO:=@Option.map_some
def aEP:=@call_meets
def aEQ:=@List.length_nil
def aER:=@Around.under_plainId
def aES:=@Array.getElem_toList
def aET:=@wpAny_typeNameOfWhole_itemiter
def aEU:=@plainId_quiet
def aEV:=@wpAny_typeNameOfWhole_keyiter
def aEW:=@Int.dvd_of_emod_eq_zero
def aEX:=@Int.natCast_dvd_natCast
def aEY:=@List.length_eq_zero_iff
def aEZ:=@List.getD_cons_succ
def aFA:=@List.replicate_succ
def aFB:=@List.filter_cons
def aFC:=@List.getElem?_concat_length
def aFD:=@wpAny_notOrdered_dict
def aFE:=@List.mem_iff_getElem?
def aFF:=@List.find?_cons
def aFG:=@List.nil_append
def aFH:=@wpAny_passesOwn
def aFI:=@List.getD_eq_getElem?_getD
def aFJ:=@or_false
def aFK:=@of_decide_eq_true
def aFL:=@wpS_modify
def aFM:=@Array.toList_reverse
def aFN:=@wpAny_letGo
def aFO:=@decide_true
def aFP:=@Bool.and_eq_true
def aFQ:=@wpAny_typeOf
def aFR:=@decide_false
def aFS:=@F.plain_max_loop
def aFT:=@PySem.mem_of_lookup
def aFU:=@Int.emod_eq_zero_of_dvd
def aFV:=@wpAny_standAt
def aFW:=@Option.isSome_some
def aFX:=@wpAny_specialOf
def aFY:=@List.cons.injEq
def aFZ:=@List.set_cons_zero
def aGA:=@List.zip_cons_cons
def aGB:=@wpAny_pyIter_tuple
def aGC:=@wpAny_dictEpoch
def aGD:=@List.forIn_cons
def aGE:=@Calls.callWith_builtin
def aGF:=@List.reverse_perm
def aGG:=@List.nodup_append
def aGH:=@wpAny_truthy_bool
def aGI:=@isSubtype_stop
def aGJ:=@F.args_tuple_iterator_next_1
def aGK:=@List.getElem?_eq_none
def aGL:=@Array.getElem?_setIfInBounds
def aGM:=@Nat.sub_self
def aGN:=@List.pairwise_reverse
def aGO:=@List.take_append_drop
def aGP:=@Array.getElem?_toList
def aGQ:=@F.entry_tuple_iterator_next
def aGR:=@List.ext_getElem
def aGS:=@F.slot_tuple_mul
def aGT:=@Option.getD_some
def aGU:=@wpAny_newList
def aGV:=@Int.mul_assoc
def aGW:=@Nat.lt_irrefl
def aGX:=@Nat.le_succ
def aGY:=@List.filterMap_cons
def aGZ:=@F.plain_extend_loop
def aHA:=@List.reverse_append
def aHB:=@List.foldl_cons
def aHC:=@F.slot_tuple_getattribute
def aHD:=@F.slot_zip_next
def aHE:=@Obj.data_mapFields
def aHF:=@List.mem_filterMap
def aHG:=@List.getElem?_take_of_lt
def aHH:=@PySem.F.args_tuple_add_2
def aHI:=@sub_AttributeError
def aHJ:=@tupleKind_room_in1
def aHK:=@F.slot_list_getattribute
def aHL:=@Calls.spliced_cons
def aHM:=@wpAny_comprehension_free
def aHN:=@List.drop_zero
def aHO:=@wpAny_newTuple
def aHP:=@wpS_get
def aHQ:=@wpAny_pyNext_tuple_item
def aHR:=@PySem.F.entry_tuple_add
def aHS:=@PySem.F.plainAttrs_list
def aHT:=@Nat.add_sub_cancel_left
def aHU:=@wpAny_pyIter_list
def aHV:=@wpAny_pyIter_slot
def aHW:=@List.length_range
def aHX:=@List.flatten_cons
def aHY:=@Int.dvd_mul_right
def aHZ:=@List.getElem?_inj
def aIA:=@PySem.F.slot_tuple_add
def aIB:=@wpAny_pyNext_list_item
def aIC:=@List.drop_of_length_le
def aID:=@wpAny_isOneOf_itemiter
def aIE:=@Int.dvd_add
def aIF:=@Int.dvd_trans
def aIG:=@Bool.not_true
def aIH:=@AutoSeq1.idx_int
def aII:=@PySem.F.slot_dict_get
def aIJ:=@List.set_append_right
def aIK:=@List.length_replicate
def aIL:=@F.args_dict_itemiterator_next_1
def aIM:=@F.slot_int_rmul
def aIN:=@F.kt_typeCall_dict_1
def aIO:=@List.pairwise_append
def aIP:=@List.getElem?_append
def aIQ:=@List.reverse_reverse
def aIR:=@List.mem_of_mem_drop
def aIS:=@wpAny_ite_false
def aIT:=@beq_false_of_ne
def aIU:=@List.length_set
def aIV:=@wpAny_execs_nil
def aIW:=@Bool.or_eq_false_iff
def aIX:=@Nat.le_of_lt
def aIY:=@List.mem_filter
def aIZ:=@Array.mem_toList_iff
def aJA:=@wpAny_updateSeq_pair
def aJB:=@List.length_pos_iff
def aJC:=@Heap.SameBut.update
def aJD:=@List.getElem?_range
def aJE:=@List.forIn_nil
def aJF:=@wpAny_fieldsOf
def aJG:=@wpAny_tryCatch
def aJH:=@List.take_left
def aJI:=@List.drop_drop
def aJJ:=@callType_codes
def aJK:=@wpS_lift
def aJL:=@List.getElem?_take
def aJM:=@F.args_tuple_mul_2
def aJN:=@Int.natAbs_natCast
def aJO:=@assignInOrder_cons
def aJP:=@F.args_dict_init_2
def aJQ:=@Int.lt_or_eq_of_le
def aJR:=@Nat.add_sub_cancel
def aJS:=@listUpdate_at
def aJT:=@wpAny_onRaise
def aJU:=@List.take_sublist
def aJV:=@F.entry_tuple_mul
def aJW:=@List.ext_getElem?
def aJX:=@F.entry_dict_init
def aJY:=@Calls.spliced_nil
def aJZ:=@Nat.le_succ_of_le
def aKA:=@typeIs_int
end
variable{A A':PySem.Around}{h h' base:PySem.Heap}{w:PySem.World}{s s' s₂:PySem.Shared}{α β:Type}{l C dx LE src z i1 i2 l1 l2:PySem.Addr}{i t' j n ia ib na ep:Nat}{items xs ys:Array PySem.Value}{Q:PySem.Value->PySem.Shared->Prop}{x name qual:PySem.Str}{us its bm its2:List PySem.Value}{u doc pm cdv ct oc u2:PySem.Value}{κ:PyProof.Rows.SortKind}{P:PySem.Program}{pins:List (PySem.Addr×PySem.Obj)}{ch fp μ μ1:List PySem.Addr}{N ps loose Nc:List PySem.Str}{pos pos' p tpos apos p2 cpos pos2:PySem.Pos}{K:Frag}{c:List Nat->Int}{cP q qq:Prop}{body:List PySem.Stmt}{tn:Nat->PySem.Heap->Prop}{R:PySem.Result->PySem.Shared->Prop}{hi:Option Int}{op:PySem.CmpOp}{mA mg m:PySem.Str->Option PySem.Value}{fd:PySem.FuncData}{outer:List PySem.Env}{an od d:Option PySem.Addr}{osl sl:Array (Option PySem.Value)}{ns:List Int}{zs cs:List Nat}{XP:(PySem.Str->Option PySem.Value)->PySem.Heap->Prop}{YP:PySem.World->PySem.Heap->Prop}{env:PySem.Env}{js:List (Option Nat)}{cl:List (PySem.Str×PySem.Addr)}{RR:PySem.Value->PySem.Addr->PySem.Result->PySem.Shared->Prop}{S:PyProof.Rows.Keyed->Prop}{ky:PyProof.Rows.Keyed->Int}{arr:Array PyProof.Rows.Keyed}{st0:PyProof.Rows.SortSt}{at_:PySem.Heap->Nat->Prop}{qs:List (List Nat)}
section
open PySem PySem.Spec PyProof.Rows
namespace L2
def Calm(A:Around)(h:Heap):Prop:=A.handled=none\/∃e c d vs sl,A.handled=some (.ref e)/\h.get? e=some ⟨c,d,.fields vs,sl⟩/\vs[2]?=some .none
def Calm.mono(c:Calm A h)(k:∀e c d vs sl,h.get? e=some ⟨c,d,.fields vs,sl⟩->vs[2]?=some .none->A.handled=some (.ref e)->h'.get? e=some ⟨c,d,.fields vs,sl⟩):Calm A h':=by
 rcases c with c|⟨e,c,d,vs,sl,h1,h2,h3⟩
 ·exact .inl c
 ·exact .inr ⟨e,c,d,vs,sl,h1,k e c d vs sl h2 h3 h1,h3⟩
def pM:entryFor table "proto.unchain"=some Builtin.«proto.unchain»:=entryFor_of_fast (by kernel_rfl)
variable{prog:Program}{E:Value->Shared->Prop}
def cY{Q:α->Shared->Prop}(c:Calm A s.heap)(h:∀h' a,(∀b o,s.heap.get? b=some o->h'.get? b=some o)->(∃o,h'.get? a=some o/\o.cls=.type "StopIteration")->E (.ref a) {s with heap:=h'}) :
  wpAny (model prog w) A (newExc (.type "StopIteration") [] >>= λe=>(raiseNew e:Sem α)) Q E s:=by
 refine aAA ?_;simp only[newExc,newTuple];refine aAA (aBR (aAA (m:=firstArgMember _ _) (wpAny_of_eq (a:=Value.none) (by first|rfl|(simp only[firstArgMember];rfl)) (aBR ?_ (by size_fits)))) (by size_fits));generalize eo:({cls:=.type "StopIteration",data:=.fields _}:Obj)=oS;generalize eh:s.heap.push _=h1;have k1:∀b o,s.heap.get? b=some o->h1.get? b=some o:=λb o q=>by rw[<- eh];exact aAB _ q
 have e1:(h1.push oS).get? h1.objs.size=some oS:=aAI _ (by rw[<- eo];rfl);have hx:(∀b o,s.heap.get? b=some o->(h1.push oS).get? b=some o):=λb o q=>aAB _ (k1 b o q)
 simp only[raiseNew];refine aAA (wpAny_handled ?_);rcases c with c|⟨e,cc,d,vs,sl,q1,q2,q3⟩
 ·rw[c]
  exact aAA (aAC (wpAny_throw (h _ _ hx ⟨oS,e1,by rw[<- eo]⟩)))
 ·rw[q1]
  dsimp only;have lt:=aAE (k1 _ _ q2);rw[aAG (by simpa using aAO lt)];refine aAA (aBC (wpAny_runValue (aEE (id:="proto.unchain") pM ?_)));show wpAny _ _ (field (.ref e) 2 >>= _) _ _ _;refine aAA (aBB (hx _ _ q2) rfl (x:=.none) q3 ?_);rw[aAG (show(Value.none==Value.none)=true from rfl)];refine aAC ?_;show wpAny (model prog w) A (updateField h1.objs.size 2 (.ref e) >>= λ_=>throw (.ref h1.objs.size)) Q E _;have e1':(h1.push oS).get? h1.objs.size=some oS:=e1;refine aAA (aDF (x:=.ref e) e1 (by rw[<- eo]) (by simp;lia) (wpAny_throw (h _ _ (λb o q=>?_) ⟨_,aCF _ e1 ?_,?_⟩)))
  ·rw[aCG _ _ _ _ (aAO (aAE (k1 b o q)))]
   exact hx b o q
  ·rw[<- eo];rfl
  ·rw[<- eo];rfl
variable{it:Addr}{Q:Option Value->Shared->Prop}
def lB(c:Calm A s.heap)(hit:s.heap.IsListIter it l i)(hl:s.heap.IsList l items)(hx:items[i]?=none)
  (q:∀h',Heap.ExtBut it s.heap h'->Q none {s with heap:=h'}):wpAny (model prog w) A (pyNext (.ref it)) Q E s:=by
 obtain⟨o,ho,hc,hd⟩:=id hit;obtain⟨ol,hol,_,nl,hdl⟩:=hl;unfold pyNext;refine aAA (aDL (aBL (name:=Str.ofString "__next__") hit.typeIs slot_listiter_next (aBH slot_listiter_next hit.typeIs entry_listiter_next ?_ (args_listiter_next _))));show wpAny _ _ (field (.ref it) 0 >>= _) _ _ s;refine aAA (aBB ho hd (x:=.ref l) rfl ?_);show wpAny _ _ (if(Value.ref l==Value.none)=true then _ else _) _ _ s;rw[aAH (λz:(Value.ref l==Value.none)=true=>aAY z)];refine aAA (m:=field (.ref it) 1) (aBB ho hd (x:=.int i 0) rfl (aAA (m:=seqItems? (.ref l)) (aCS hol hdl ?_)));simp only[aDD,hx];refine aAA (aCM (aAA (aDF ho hd (by simp) ?_)));refine cY (c.mono λe cc d vs sl q2 q3 _=>?_) λh' a k ⟨oa,ea,ca⟩=>?_
 ·have ne:e≠it:=by
   rintro rfl;rw[ho]at q2;cases q2;cases hd;simp at q3
  rw[aCG _ _ _ _ ne];exact q2
 ·refine aAA (aDV (T:="StopIteration") (b:=true) ⟨oa,ea,ca⟩ aGI (aAC (q _ λb ob hb z=>k b ob ?_)))
  rw[aCG _ _ _ _ hb];exact z
def eE(c:Calm A s.heap)(hit:s.heap.IsTupleIter it l i)(hl:s.heap.IsTuple l items)(hx:items[i]?=none)
  (q:∀h',Heap.ExtBut it s.heap h'->Q none {s with heap:=h'}):wpAny (model prog w) A (pyNext (.ref it)) Q E s:=by
 obtain⟨o,ho,hc,hd⟩:=id hit;obtain⟨ol,hol,_,nl,hdl⟩:=hl;unfold pyNext;refine aAA (aDL (aBL (name:=Str.ofString "__next__") hit.typeIs aDM (aBH aDM hit.typeIs aGQ ?_ (aGJ _))));show wpAny _ _ (field (.ref it) 0 >>= _) _ _ s;refine aAA (aBB ho hd (x:=.ref l) rfl ?_);show wpAny _ _ (if(Value.ref l==Value.none)=true then _ else _) _ _ s;rw[aAH (λz:(Value.ref l==Value.none)=true=>aAY z)];refine aAA (m:=field (.ref it) 1) (aBB ho hd (x:=.int i 0) rfl (aAA (m:=seqItems? (.ref l)) (aCS hol hdl ?_)));simp only[aDD,hx];refine aAA (aCM (aAA (aDF ho hd (by simp) ?_)));refine cY (c.mono λe cc d vs sl q2 q3 _=>?_) λh' a k ⟨oa,ea,ca⟩=>?_
 ·have ne:e≠it:=by
   rintro rfl;rw[ho]at q2;cases q2;cases hd;simp at q3
  rw[aCG _ _ _ _ ne];exact q2
 ·refine aAA (aDV (T:="StopIteration") (b:=true) ⟨oa,ea,ca⟩ aGI (aAC (q _ λb ob hb z=>k b ob ?_)))
  rw[aCG _ _ _ _ hb];exact z
theorem sO{x left step:Int}(c:Calm A s.heap)(hit:IsRangeIter s.heap it x left step)(hl:left<=0)
  (q:∀h',Heap.ExtBut it s.heap h'->Q none {s with heap:=h'}):wpAny (model prog w) A (pyNext (.ref it)) Q E s:=by
 have hT:s.TypeIs (.ref it) "range_iterator":=⟨_,hit,rfl⟩
 unfold pyNext;refine aAA (aDL (aBL (name:=Str.ofString "__next__") hT F.slot_range_iterator_next (aBH F.slot_range_iterator_next hT F.entry_range_iterator_next ?_ (F.args_range_iterator_next_1 _))));show wpAny _ _ (field (.ref it) 0 >>= _) _ _ s;refine aAA (aBB hit rfl (x:=rawInt x) rfl ?_);refine aAA (m:=field (.ref it) 1) (aBB hit rfl (x:=rawInt left) rfl ?_);refine aAA (m:=field (.ref it) 2) (aBB hit rfl (x:=rawInt step) rfl ?_);show wpAny _ _ (if left<=0 then _ else _) _ _ s;rw[aAG hl];refine aAA (aCM ?_);refine aAA ?_;show wpAny _ _ (newExc (.type "StopIteration") [] >>= _) _ _ _;refine cY (A:=A.in1) c λh' a k ⟨oa,ea,ca⟩=>?_
 exact aAA (aDV (T:="StopIteration") (b:=true) ⟨oa,ea,ca⟩ aGI (aAC (q _ λb ob hb z=>k b ob z)))
def aGu{t:Addr}{Q:List Value->Shared->Prop}(c:Calm A s.heap)(ht:IsTup s.heap t items)
  (q:∀h',Heap.ExtBut s.heap.objs.size s.heap h'->Q items.toList {s with heap:=h'}):wpAny (model prog w) A (unpackItems (.ref t) items.size none) Q E s:=by
 have lt:t≠s.heap.objs.size:=by obtain⟨o,ho,_⟩:=ht;exact aAO (aAE ho)
 unfold unpackItems notIterableAtAll;refine aAA (aAA (aFX ht.typeIs slot_tuple_iter.lookup (aAC ?_)));simp only[aAT,aBW];refine aAA (aBC (iter_tuple ht (aAA (aBC (draw_tuple lt items.size 0 _ _ ⟨_,aAI _ rfl,rfl,rfl⟩ (ht.push _) (by lia) λh₁ it₁ s₁=>?_)))));have all:List.take items.size (List.drop 0 items.toList)=items.toList:=by
  rw[aHN,aCJ (by simp)]
 rw[all,aAH (by simp)];have t1:IsTup h₁ t items:=(ht.push _).extBut s₁.extBut lt;refine aAA (aBC (eE (s:={s with heap:=h₁}) (c.mono λe cc d vs sl q2 q3 _=>?_) it₁ t1 (by simp) λh₂ e₂=>?_))
 ·exact s₁.extBut e _ (aAO (aAE q2)) (aAB _ q2)
 ·simp only[Option.isSome_none,aAT,aBW]
  exact aAC (q h₂ λb o hb z=>e₂ b o hb (s₁.extBut b o hb (aAB _ z)))
abbrev Key:=Sum Int Str
def keyIs:Key->Value->Bool
 |.inl k,v=>Value.isInt k v|.inr x,v=>Value.isStrOf x v
def keyH(w:World):Key->Int
 |.inl k=>hashInt k|.inr x=>hashStr w x
def bA:∀{k:Key} {v:Value},keyIs k v=true->(∃i t,k=Sum.inl i/\v=Value.int i t)\/(∃x t,k=Sum.inr x/\v=Value.str x t)
 |.inl i,v,h=>by
  obtain⟨t,e⟩:=Value.isInt_shape (k:=i) (v:=v) h;exact .inl ⟨i,t,rfl,e⟩
 |.inr x,v,h=>by
  obtain⟨t,e⟩:=Value.isStrOf_shape (x:=x) (v:=v) h;exact .inr ⟨x,t,rfl,e⟩
def aDm(i:Int)(t:Tok):keyIs (.inl i) (.int i t)=true:=by simp[keyIs,Value.isInt]
def aBv(x:Str)(t:Tok):keyIs (.inr x) (.str x t)=true:=by simp[keyIs,Value.isStrOf]
def aNh(a b:Int):decide ((Sum.inl a:Key)=Sum.inl b)=(a==b):=by
 by_cases e:a=b
 ·subst e;simp
 ·have h:¬(Sum.inl a:Key)=Sum.inl b:=λq=>e (Sum.inl.inj q)
  rw[aCA h];exact(beq_eq_false_iff_ne.mpr e).symm
def aPo(a b:Str):decide ((Sum.inr a:Key)=Sum.inr b)=decide (a=b):=by
 by_cases e:a=b
 ·subst e;simp
 ·have h:¬(Sum.inr a:Key)=Sum.inr b:=λq=>e (Sum.inr.inj q)
  rw[aCA h,aCA e]
def aNc(a:Int)(b:Str):decide ((Sum.inl a:Key)=Sum.inr b)=false:=aCA (λq=>nomatch q)
def aNs(a:Str)(b:Int):decide ((Sum.inr a:Key)=Sum.inl b)=false:=aCA (λq=>nomatch q)
def mixKind(prog:Program)(w:World):PySem.KeyKind prog w Key where
 is:=keyIs
 hash:=keyH w
 inj:=λv a b ha hb=>by
  rcases bA ha with⟨i,t,rfl,rfl⟩|⟨x,t,rfl,rfl⟩
  ·rcases bA hb with⟨j,u,rfl,e⟩|⟨y,u,rfl,e⟩
   ·injection e with e1 _;rw[e1]
   ·exact nomatch e
  ·rcases bA hb with⟨j,u,rfl,e⟩|⟨y,u,rfl,e⟩
   ·exact nomatch e
   ·injection e with e1 _;rw[e1]
 byValue:=λk v h=>by
  rcases bA h with⟨i,t,rfl,rfl⟩|⟨x,t,rfl,rfl⟩ <;> rfl
 pyHash:=λhv h=>by
  rcases bA hv with⟨i,t,rfl,rfl⟩|⟨x,t,rfl,rfl⟩
  ·exact wpAny_pyHash_int h
  ·exact wpAny_pyHash_str h
 eqBool:=λhu hv h=>by
  rcases bA hu with⟨i,t,rfl,rfl⟩|⟨x,t,rfl,rfl⟩
  ·rcases bA hv with⟨j,u,rfl,rfl⟩|⟨y,u,rfl,rfl⟩
   ·rw[aNh]at h;exact wpAny_eqBool_int h
   ·rw[aNc]at h;exact SeqAt.EqAt.int_str i t y u _ _ _ _ h
  ·rcases bA hv with⟨j,u,rfl,rfl⟩|⟨y,u,rfl,rfl⟩
   ·rw[aNs]at h;exact SeqAt.EqAt.str_int x t j u _ _ _ _ h
   ·rw[aPo]at h;exact wpAny_eqBool_str h
 «strs»:=λk x t v h=>by
  rcases bA h with⟨i,u,rfl,e⟩|⟨y,u,rfl,e⟩
  ·exact nomatch e
  ·injection e with e1 _
   subst e1;cases v <;> rfl
def vQ(prog:Program)(w:World)(i:Int)(t:Tok):(mixKind prog w).is (.inl i) (.int i t)=true:=aDm i t
def vN(prog:Program)(w:World)(x:Str)(t:Tok):(mixKind prog w).is (.inr x) (.str x t)=true:=aBv x t
inductive V where
 |non|bl (b:Bool)|int (i:Int)|str (x:Str)|byt (b:Array UInt8)|flt (b:UInt64)|ref (a:Addr)|ty (n:String)
 deriving DecidableEq
def RelV:V->Value->Prop
 |.non,u=>u=Value.none|.bl b,u=>u=Value.bool b|.int i,u=>∃t,u=Value.int i t|.str x,u=>∃t,u=Value.str x t|.byt b,u=>∃t,u=Value.bytes b t|.flt b,u=>∃t,u=Value.float b t|.ref a,u=>u=Value.ref a|.ty n,u=>u=Value.type n
abbrev Vals:List V->List Value->Prop:=Paired RelV
def Vals.length{xs:List V}{us:List Value}(r:Vals xs us):xs.length=us.length:=Paired.length r
def Vals.get:∀{xs:List V} {us:List Value} {i:Nat} {x:V},Vals xs us->xs[i]?=some x->∃u,us[i]?=some u/\RelV x u
 |_,_,_,_,.nil,e=>by simp at e
 |_,_,0,_,.cons r _,e=>by simp at e;subst e;exact⟨_,rfl,r⟩
 |_,_,i+1,x,.cons _ t,e=>by
  obtain⟨u,h1,h2⟩:=Vals.get (i:=i) (x:=x) t (by simpa using e);exact⟨u,by simpa using h1,h2⟩
def Vals.set{x:V}{u:Value}(r:RelV x u):∀{xs:List V} {us:List Value} (i:Nat),Vals xs us->Vals (xs.set i x) (us.set i u)
 |_,_,_,.nil=>.nil|_,_,0,.cons _ t=>.cons r t|_,_,i+1,.cons q t=>.cons q (Vals.set r i t)
def Vals.append:∀{xs ys:List V} {us ws:List Value},Vals xs us->Vals ys ws->Vals (xs++ys) (us++ws)
 |_,_,_,_,.nil,s=>s|_,_,_,_,.cons r t,s=>.cons r (Vals.append t s)
def Vals.take:∀{xs:List V} {us:List Value} (n:Nat),Vals xs us->Vals (xs.take n) (us.take n)
 |_,_,0,_=>.nil|_,_,_+1,.nil=>.nil|_,_,n+1,.cons r t=>.cons r (Vals.take n t)
def Vals.drop:∀{xs:List V} {us:List Value} (n:Nat),Vals xs us->Vals (xs.drop n) (us.drop n)
 |_,_,0,r=>r|_,_,_+1,.nil=>.nil|_,_,n+1,.cons _ t=>Vals.drop n t
def RelO:Option V->Option Value->Prop
 |some v,some u=>RelV v u|none,none=>True|_,_=>False
def KV{κ:Type}:List (κ×V)->List (κ×Value)->Prop:=Paired λ(p:κ×V) (q:κ×Value)=>p.1=q.1/\RelV p.2 q.2
def kV:Key->V
 |.inl i=>.int i|.inr x=>.str x
inductive HO where
 |lst (xs:List V)
 |tup (xs:List V)
 |dK (kvs:List (Key×V))|dT (kvs:List (List Key×V))
 |set (S:Int->Bool) (n:Nat)
 |ins (C dx:Addr) (fs:List (Str×V))
 |own (x:Addr)
 |xd (fs:List (Str×V))
 |xo (C:Addr) (d:Option Addr)
 |met (f x:Addr)
 |rng (lo hi:Int)
 |frz (o:Obj) (u:HO)
 |tbl (ps:Array Value)
 |ext (φ:Heap->Prop)
abbrev Hp:=Addr->Option HO
def upd(H:Hp)(a:Addr)(o:HO):Hp:=λb=>if b=a then some o else H b
variable{H:Hp}{a:Addr}{o:HO}
def aS :upd H a o a=some o:=by unfold upd;rw[aAG rfl]
variable{b:Addr}
def aI(h:b≠a):upd H a o b=H b:=by unfold upd;rw[aAH h]
variable{u:HO}
def aGq(h:H a=some o)(h':H b=some u)(d:o≠u):a≠b:=by
 intro e;subst e;rw[h]at h';exact d (Option.some.inj h')
def aQ(h:H a=some o)(h':H b=none):a≠b:=by
 intro e;subst e;rw[h]at h';cases h'
section
variable(P:Program)(w:World)
def IsTp(h:Heap)(a:Addr)(items:Array Value):Prop:=∃o,h.get? a=some o/\o.cls=.type "tuple"/\∃n,(o.data,o.dict)=(Data.seq items n,none)
def IsTp.t(q:IsTp h a items):IsTup h a items:=let⟨o,e,c,n,d⟩:=q;⟨o,e,c,n,congrArg (·.1) d⟩
def IsTp.new(h:Heap)(items:Array Value):IsTp (h.push {cls:=.type "tuple",data:=.seq items}) h.objs.size items:=⟨_,aAI _ rfl,rfl,_,rfl⟩
def ObjOk(H:Hp)(h:Heap)(a:Addr):HO->Prop
 |.lst xs=>xs.length<=sizeLine/\∃(its:List Value) (n:Nat),Vals xs its/\h.get? a=some {cls:=.type "list",data:=.seq its.toArray n}|.tup xs=>xs.length<=sizeLine/\∃its:List Value,Vals xs its/\IsTp h a its.toArray|.dK kvs=>kvs.length<=sizeLine/\(a==sysModules)=false/\∃vs,KV kvs vs/\h.DictOf (mixKind P w) a vs
 |.dT kvs=>kvs.length<=sizeLine/\(a==sysModules)=false/\∃xs:List (List Key×Addr×Value),
   Paired (λ(p:List Key×V) (q:List Key×Addr×Value)=>p.1=q.1/\H q.2.1=some (.tup (p.1.map kV))/\RelV p.2 q.2.2) kvs xs /\
   ∃o es ep,h.get? a=some o/\o.ExactDict/\o.data=.dict es ep/\es.toList=xs.map (entryOfKey (tupleKind (mixKind P w)))/\(xs.map (·.1)).Nodup
 |.set S n=>h.SetOf (intKind P w) a S n
 |.ins C dx fs=>H dx=some (.own a)/\fs.length<=1000/\dx≠a/\h.get? a=some (PySem.W.instObj C dx) /\
   ∃mA,h.Ns1 dx mA/\(∀f,RelO (fs.lookup f) (mA f))/\PySem.Within mA (fs.map (·.1))
 |.own _=>∃o,h.get? a=some o|.xd fs=>∃mA,h.Ns1 a mA/\∀f,RelO (fs.lookup f) (mA f)|.xo C d=>∃vs sl,h.get? a=some ⟨.ref C,d,.fields vs,sl⟩/\vs[2]?=some .none|.rng lo hi=>∃t u v,h.get? a=some {cls:=.type "range",data:=.fields #[.int lo t,.int hi u,.int 1 v]}|.frz o u=>h.get? a=some o/\ObjOk H h a u|.tbl ps=>h.get? a=some {cls:=.none,data:=.fields ps}|.met f x=>h.get? a=some (PySem.W.methodObj (.ref f) (.ref x))|.ext φ=>φ h/\(∃o,h.get? a=some o)/\∀h1 h2:Heap,φ h1->(∀o,h1.get? a=some o->h2.get? a=some o)->φ h2
def HOk(H:Hp)(h:Heap):Prop:=∀a o,H a=some o->ObjOk P w H h a o
end
variable{H':Hp}
def ObjOk.lt(x:ObjOk P w H h a o):a < h.objs.size:=by
 cases o with
 |lst xs=>obtain⟨_,_,_,_,e⟩:=x;exact aAE e
 |tup xs=>obtain⟨_,_,_,p⟩:=x;exact p.t.lt
 |dK kvs=>obtain⟨_,_,_,_,o,_,_,e,_⟩:=x;exact aAE e
 |dT kvs=>obtain⟨_,_,_,_,o,_,_,e,_⟩:=x;exact aAE e
 |set S n=>obtain⟨o,_,_,_,e,_⟩:=x;exact aAE e
 |ins C dx fs=>obtain⟨_,_,_,e,_⟩:=x;exact aAE e
 |own y=>obtain⟨_,e⟩:=x;exact aAE e
 |xd fs=>obtain⟨_,⟨_,_,_,e,_⟩,_⟩:=x;exact aAE e
 |xo C d=>obtain⟨_,_,e,_⟩:=x;exact aAE e
 |rng lo hi=>obtain⟨_,_,_,e⟩:=x;exact aAE e
 |frz ob u=>obtain⟨e,_⟩:=x;exact aAE e
 |tbl ps=>exact aAE (show h.get? a=some _ from x)
 |met f y=>exact aAE (show h.get? a=some _ from x)
 |ext φ=>obtain⟨_,⟨_,e⟩,_⟩:=x;exact aAE e
def Paired.mapP{α β:Type}{F G:α->β->Prop}:∀{l₁:List α} {l₂:List β},Paired F l₁ l₂->(∀a b,F a b->G a b)->Paired G l₁ l₂
 |_,_,.nil,_=>.nil|_,_,.cons r t,f=>.cons (f _ _ r) (Paired.mapP t f)
def ObjOk.stay(x:ObjOk P w H h a o)(k:∀b u,(b=a\/H b=some (.own a))->h.get? b=some u->h'.get? b=some u)
  (ho:∀b,H b=some (.own a)->H' b=some (.own a))(ht:∀b xs,H b=some (.tup xs)->H' b=some (.tup xs)):ObjOk P w H' h' a o:=by
 induction o with
 |lst xs=>obtain⟨z,its,n,r,e⟩:=x;exact⟨z,its,n,r,k _ _ (.inl rfl) e⟩
 |tup xs=>obtain⟨z,its,r,ob,e,c⟩:=x;exact⟨z,its,r,ob,k _ _ (.inl rfl) e,c⟩
 |dK kvs=>obtain⟨z,y,vs,r,ob,es,ep,e,c⟩:=x;exact⟨z,y,vs,r,ob,es,ep,k _ _ (.inl rfl) e,c⟩
 |dT kvs =>
  obtain⟨z,y,xs,r,ob,es,ep,e,c⟩:=x;exact⟨z,y,xs,Paired.mapP r λp q z=>⟨z.1,ht _ _ z.2.1,z.2.2⟩,ob,es,ep,k _ _ (.inl rfl) e,c⟩
 |set S n=>obtain⟨ob,es,ep,t,e,c⟩:=x;exact⟨ob,es,ep,t,k _ _ (.inl rfl) e,c⟩
 |ins C dx fs =>
  obtain⟨d,z,ne,e,mA,⟨od,es,ep,e2,c⟩,r⟩:=x;exact⟨ho _ d,z,ne,k _ _ (.inl rfl) e,mA,⟨od,es,ep,k _ _ (.inr d) e2,c⟩,r⟩
 |own y=>obtain⟨ob,e⟩:=x;exact⟨ob,k _ _ (.inl rfl) e⟩
 |xd fs=>obtain⟨mA,⟨od,es,ep,e,c⟩,r⟩:=x;exact⟨mA,⟨od,es,ep,k _ _ (.inl rfl) e,c⟩,r⟩
 |xo C d=>obtain⟨vs,sl,e,c⟩:=x;exact⟨vs,sl,k _ _ (.inl rfl) e,c⟩
 |rng lo hi=>obtain⟨t,u,v,e⟩:=x;exact⟨t,u,v,k _ _ (.inl rfl) e⟩
 |frz ob u ih=>obtain⟨e,q⟩:=x;exact⟨k _ _ (.inl rfl) e,ih q⟩
 |tbl ps =>
  have e:h.get? a=some {cls:=.none,data:=.fields ps}:=x;show h'.get? a=some {cls:=.none,data:=.fields ps};exact k a _ (.inl rfl) e
 |met f y =>
  have e:h.get? a=some (PySem.W.methodObj (.ref f) (.ref y)):=x;show h'.get? a=some (PySem.W.methodObj (.ref f) (.ref y));exact k a _ (.inl rfl) e
 |ext φ=>obtain⟨p,⟨o,e⟩,st⟩:=x;exact⟨st _ _ p λo q=>k _ _ (.inl rfl) q,⟨o,k _ _ (.inl rfl) e⟩,st⟩
def HOk.lt(x:HOk P w H h)(e:H a=some o):a < h.objs.size:=(x a o e).lt
def HOk.fresh(x:HOk P w H h)(e:h.objs.size<=a):H a=none:=by
 cases q:H a with
 |none=>rfl|some u=>exact absurd (aAZ (x.lt q) e) (aGW _)
def HOk.kept(x:HOk P w H h)(k:∀b u,h.get? b=some u->h'.get? b=some u):HOk P w H h':=λa o e =>
 (x a o e).stay (λb u _ q=>k b u q) (λ_ q=>q) λ_ _ q=>q
def HOk.laid(x:HOk P w H h)(k:∀b u,h.get? b=some u->h'.get? b=some u)(hp:h.objs.size<=a)(new:ObjOk P w (upd H a o) h' a o):HOk P w (upd H a o) h':=λb u e=>by
 have hn:=x.fresh hp;by_cases hb:b=a
 ·subst hb;rw[aS]at e;cases e;exact new
 ·rw[aI hb]at e
  exact(x b u e).stay (λc v _ q=>k c v q) (λc q=>by rw[aI (aQ q hn)];exact q) λc xs q=>by rw[aI (aQ q hn)];exact q
def Rd(H:Hp)(a:Addr)(u:HO):Prop:=H a=some u\/∃o,H a=some (.frz o u)
def Rd.ok(r:Rd H a u)(x:HOk P w H h):ObjOk P w H h a u:=by
 rcases r with r|⟨o,r⟩
 ·exact x a u r
 ·obtain⟨_,q⟩:=x a _ r
  exact q
def Mut:Option HO->Prop
 |some (.lst _)=>True|some (.dK _)=>True|some (.dT _)=>True|some (.set _ _)=>True|some (.ins _ _ _)=>True|some (.ext _)=>True|_=>False
variable{x e:Addr}{o':HO}
def HOk.write(ok:HOk P w H h)(mu:Mut (H x))(he:e=x\/H e=some (.own x))(k:∀b u,b≠e->h.get? b=some u->h'.get? b=some u)(heo:∃u,h'.get? e=some u)
  (new:ObjOk P w (upd H x o') h' x o'):HOk P w (upd H x o') h':=λb u q=>by
 have nown:∀c y,H c=some (.own y)->c≠x:=λc y r z=>by subst z;rw[r]at mu;exact mu
 have ntup:∀c xs,H c=some (.tup xs)->c≠x:=λc xs r z=>by subst z;rw[r]at mu;exact mu
 by_cases hb:b=x
 ·subst hb;rw[aS]at q;cases q;exact new
 ·rw[aI hb]at q
  by_cases hbe:b=e
  ·have q':H b=some (.own x):=by
    rcases he with z|z
    ·exact absurd (hbe.trans z) hb
    ·rw[hbe];exact z
   rw[q]at q';cases q';obtain⟨v,hv⟩:=heo;exact⟨v,by rw[hbe];exact hv⟩
  ·refine(ok b u q).stay (λc v hc r=>k c v ?_ r) (λc r=>by rw[aI (nown c b r)];exact r) λc xs r=>by rw[aI (ntup c xs r)];exact r
   rcases hc with rfl|hc
   ·exact hbe
   ·rintro rfl
    rcases he with z|z
    ·exact nown c b hc z
    ·rw[hc]at z;cases z;exact hb rfl
structure Un(fs ex:List Addr)(H H':Hp)(h h':Heap):Prop where
 keep:∀b o,h.get? b=some o->H b=none->b∉fs->b∉ex->h'.get? b=some o
 slot:∀b o,h.get? b=some o->H b=none->b∈fs->b∉ex->∃sl,h'.get? b=some {o with slots:=sl}
 free:∀b o,h.get? b=some o->H b=none->b∉ex->H' b=none
 there:∀b o,h.get? b=some o->b∉ex->∃o',h'.get? b=some o'
 tups:∀b xs,H b=some (.tup xs)->H' b=some (.tup xs)
 frzs:∀b o u,H b=some (.frz o u)->H' b=some (.frz o u)
 tbls:∀b ps,H b=some (.tbl ps)->∃more,H' b=some (.tbl (ps++more))
 xos:∀b C d,H b=some (.xo C d)->H' b=some (.xo C d)
section
variable{fs fs' ex ex':List Addr}{H1 H2:Hp}{h1 h2:Heap}
def Un.any(u:Un fs ex H H1 h h1){ob:Obj}(q:h.get? b=some ob)(n:H b=none)(hx:b∉ex):∃sl,h1.get? b=some {ob with slots:=sl}:=by
 by_cases hb:b∈fs
 ·exact u.slot b ob q n hb hx
 ·exact⟨ob.slots,u.keep b ob q n hb hx⟩
def Un.trans(a:Un fs ex H H1 h h1)(b:Un fs ex H1 H2 h1 h2):Un fs ex H H2 h h2 where
 keep:=λc ob q n hc hx=>b.keep c ob (a.keep c ob q n hc hx) (a.free c ob q n hx) hc hx
 slot:=λc ob q n hc hx=>by
  obtain⟨sl,e1⟩:=a.slot c ob q n hc hx;obtain⟨sl',e2⟩:=b.slot c _ e1 (a.free c ob q n hx) hc hx;exact⟨sl',e2⟩
 free:=λc ob q n hx=>by
  obtain⟨o',e1⟩:=a.there c ob q hx;exact b.free c o' e1 (a.free c ob q n hx) hx
 there:=λc ob q hx=>by
  obtain⟨o',e1⟩:=a.there c ob q hx;exact b.there c o' e1 hx
 tups:=λc xs q=>b.tups c xs (a.tups c xs q)
 frzs:=λc ob xs q=>b.frzs c ob xs (a.frzs c ob xs q)
 tbls:=λc ps q=>by
  obtain⟨m1,e1⟩:=a.tbls c ps q;obtain⟨m2,e2⟩:=b.tbls c _ e1;exact⟨m1++m2,by rw[e2,Array.append_assoc]⟩
 xos:=λc C d q=>b.xos c C d (a.xos c C d q)
def Un.kept(k:∀b u,h.get? b=some u->h'.get? b=some u):Un fs ex H H h h' :=
 ⟨λb ob q _ _ _=>k b ob q,λb ob q _ _ _=>⟨ob.slots,k b ob q⟩,λ_ _ _ n _=>n,λb ob q _=>⟨ob,k b ob q⟩,λ_ _ q=>q,λ_ _ _ q=>q,λ_ ps q=>⟨#[],by rw[q];simp⟩,λ_ _ _ q=>q⟩
def Un.refl:Un fs ex H H h h:=Un.kept λ_ _ q=>q
def Un.laid(k:∀b u,h.get? b=some u->h'.get? b=some u)(hp:h.objs.size<=a)(hn:H a=none):Un fs ex H (upd H a o) h h' where
 keep:=λb u q _ _ _=>k b u q
 slot:=λb u q _ _ _=>⟨u.slots,k b u q⟩
 free:=λb u q n _=>by rw[aI (aAO (aAZ (aAE q) hp))];exact n
 there:=λb u q _=>⟨u,k b u q⟩
 tups:=λb xs q=>by rw[aI (aQ q hn)];exact q
 frzs:=λb u xs q=>by rw[aI (aQ q hn)];exact q
 tbls:=λb ps q=>⟨#[],by rw[aI (aQ q hn),q];simp⟩
 xos:=λb C d q=>by rw[aI (aQ q hn)];exact q
def Un.write(mu:Mut (H x))(he:e=x\/H e=some (.own x))(k:∀b u,b≠e->h.get? b=some u->h'.get? b=some u)(heo:∃u,h'.get? e=some u):Un fs ex H (upd H x o) h h':=by
 have hx:∀b,H b=none->b≠x:=λb n z=>by subst z;rw[n]at mu;exact mu
 have hb:∀b,H b=none->b≠e:=λb n z=>by
  subst z;rcases he with r|r
  ·exact hx b n r
  ·rw[n]at r;cases r
 have hm:∀b u,H b=some u->¬Mut (some u)->b≠x:=λb u q nm z=>by subst z;rw[q]at mu;exact nm mu
 refine⟨λb u q n _ _=>k b u (hb b n) q,λb u q n _ _=>⟨u.slots,k b u (hb b n) q⟩,λb u q n _=>by rw[aI (hx b n)];exact n,λb u q _=>?_,
  λb xs q=>by rw[aI (hm b _ q λz=>z)];exact q,λb u xs q=>by rw[aI (hm b _ q λz=>z)];exact q,λb ps q=>⟨#[],by rw[aI (hm b _ q λz=>z),q];simp⟩,λb C d q=>by rw[aI (hm b _ q λz=>z)];exact q⟩
 by_cases hbe:b=e
 ·subst hbe;exact heo
 ·exact⟨u,k b u hbe q⟩
end
def trk(h:Heap)(H:Hp):List Addr:=(List.range h.objs.size).filter λa=>(H a).isSome
def hidT(h:Heap)(H:Hp):Heap:=PySem.W.hideAll h (trk h H)
def aCo(h:Heap)(H:Hp):(hidT h H).objs.size=h.objs.size:=PySem.W.hideAll_size _ _
variable{o:Obj}
def aFm(e:h.get? b=some o)(n:H b=none):(hidT h H).get? b=some o :=
 PySem.W.hideAll_get _ e λhm=>by
  have q:(H b).isSome=true:=(aIY.mp hm).2;rw[n]at q;simp at q
def aIh(e:(hidT h H).get? b=some o):h.get? b=some o/\H b=none:=by
 have e':h.get? b=some o:=PySem.W.of_hideAll (trk h H) e;refine⟨e',?_⟩;cases q:H b with
 |none=>rfl|some x =>
  have hm:b∈trk h H:=aIY.mpr ⟨aCP.mpr (aAE e'),by simp[q]⟩;have z:(hidT h H).get? b=none:=PySem.W.hideAll_none (trk h H) hm;rw[z]at e;cases e
def allNews(g h:Heap)(L:Addr):List (Addr×Obj):=(List.range h.objs.size).filterMap λa=>if a=L\/(g.get? a).isSome=true then none else(h.get? a).map λo=>(a,o)
def rest(g h:Heap)(L d:Addr):List (Addr×Obj):=(allNews g h L).filter λp=>decide (p.1≠d)
structure Mod(K:Frag)(mg:Str->Option Value)(base:Heap):Prop where
 kin:K.In base
 glob:base.Ns mainGlobals mg
 blt:∃mb,base.Ns builtinsNs mb/\∀x:Str,x≠"__name__"->mb x=bootBuiltins x
 nolimit:base.NoLimit
structure Cx where
 prog:Program
 w:World
 K:Frag
 mg:Str->Option Value
 base:Heap
 A:Around
 N:List Str
 s₀:Shared
 H₀:Hp
 env:Env
 outer:List Env
 stack:List Env
 ex:List Addr
 fn:Str->Bool
 calm:Bool
 pn:List (Addr×Obj)
 xe:Value->Shared->Prop
def frs(l:List Env):List Addr:=l.filterMap (·.frame)
abbrev Cx.fs(X:Cx):List Addr:=frs X.outer
def Vis(sc:Scope)(x:Str):Prop:=sc.names.lookup x=some .local\/sc.names.lookup x=some .cell\/sc.names.lookup x=some .free
def Loc(sc:Scope)(x:Str):Prop:=sc.names.lookup x=some .local\/sc.names.lookup x=some .cell
def Look(env:Env)(h:Heap)(m:Str->Option Value)(x:Str)(u:Value):Prop :=
 (env.kindOf x=some .local/\m x=some u)\/((env.kindOf x=some .cell\/env.kindOf x=some .free)/\∃c,env.cells.lookup x=some c/\h.IsCell c (some u))
structure Cx.Ok(X:Cx):Prop where
 mod:Mod X.K X.mg X.base
 kind:X.env.scope.kind=.function
 glob:X.env.globals=mainGlobals
 blt:X.env.builtins=builtinsNs
 above:X.s₀.heap.objs.size<=X.env.locals
 inj:∀x y c,X.env.cells.lookup x=some c->X.env.cells.lookup y=some c->x=y
 has:∀x,(X.env.kindOf x=some .cell\/X.env.kindOf x=some .free)->∃c,X.env.cells.lookup x=some c
 cab:∀x c,X.fn x=true->X.env.cells.lookup x=some c->X.s₀.heap.objs.size<=c
 hd:X.calm=true->X.A.handled=none
 frames:X.A.frames=some X.stack
 stk:X.stack=X.outer\/(X.stack=X.env::X.outer/\X.env.frame=some X.env.locals)
 exf:∀b∈X.ex,b≠X.env.locals/\∀x c,X.env.cells.lookup x=some c->c≠b
 bs:∀b o,X.base.get? b=some o->X.s₀.heap.get? b=some o/\X.H₀ b=none
 bsz:X.base.objs.size<=X.s₀.heap.objs.size
 noex:∀b o,X.base.get? b=some o->b∉X.ex
 exfs:∀b∈X.ex,b∉X.fs
 funs:X.s₀.heap.FunFrames X.base X.outer
 frf:∀b∈X.fs,X.H₀ b=none
structure Inv(X:Cx)(pins:List (Addr×Obj))(σ:List (Option V))(H:Hp)(s:Shared):Prop where
 ok:X.Ok
 os:s.os=X.s₀.os
 bare:AllBare s.gens
 base:Un X.fs X.ex X.H₀ H X.s₀.heap s.heap
 loc:∃m,s.heap.Ns X.env.locals m/\∀(i:Nat) (x:Str) (v:V),X.N[i]?=some x->σ[i]?=some (some v)->Vis X.env.scope x->∃u,RelV v u/\Look X.env s.heap m x u
 cell:∀x c,X.env.cells.lookup x=some c->∃v,s.heap.IsCell c v
 free:H X.env.locals=none
 freeC:∀x c,X.env.cells.lookup x=some c->H c=none
 pin:∀p∈X.pn++pins,s.heap.get? p.1=some p.2/\H p.1=none/\p.1≠X.env.locals/\p.1∉X.fs/\∀v,p.2.data≠.cell v
 hok:HOk X.prog X.w H s.heap
 len:σ.length=X.N.length
 hx:X.calm=false->X.A.handled=none\/∃e C d,X.A.handled=some (.ref e)/\H e=some (.xo C d)
variable{X:Cx}{σ:List (Option V)}
def Cx.Ok.nofr(ok:X.Ok)(e:X.base.get? b=some o):b∉X.fs:=λhb=>by
 have:=(ok.funs.mem hb).1;rw[e]at this;cases this
def Inv.bs(I:Inv X pins σ H s):∀b o,X.base.get? b=some o->s.heap.get? b=some o/\H b=none:=λb o e =>
 ⟨I.base.keep b o (I.ok.bs b o e).1 (I.ok.bs b o e).2 (I.ok.nofr e) (I.ok.noex b o e),I.base.free b o (I.ok.bs b o e).1 (I.ok.bs b o e).2 (I.ok.noex b o e)⟩
def Inv.bk(I:Inv X pins σ H s):∀b o,X.base.get? b=some o->s.heap.get? b=some o:=λb o e=>(I.bs b o e).1
def Inv.mod(I:Inv X pins σ H s):Mod X.K X.mg X.base:=I.ok.mod
def Inv.kIn(I:Inv X pins σ H s):X.K.In s.heap:=I.ok.mod.kin.keeps I.bk
def Inv.cm(I:Inv X pins σ H s):Calm X.A s.heap:=by
 cases q:X.calm with
 |true=>exact .inl (I.ok.hd q)|false =>
  rcases I.hx q with z|⟨e,C,d,h1,h2⟩
  ·exact .inl z
  ·obtain⟨vs,sl,h3,h4⟩:=I.hok e _ h2
   exact .inr ⟨e,_,_,vs,sl,h1,h3,h4⟩
def Inv.lt(I:Inv X pins σ H s):X.env.locals < s.heap.objs.size:=let⟨_,hn,_⟩:=I.loc;hn.lt
def Inv.sz(I:Inv X pins σ H s):X.s₀.heap.objs.size<=s.heap.objs.size:=aBS I.ok.above (aIX I.lt)
def Inv.nofs(I:Inv X pins σ H s)(h:s.heap.objs.size<=a):a∉X.fs:=λhb=>by
 obtain⟨_,o,ho,_⟩:=I.ok.funs.mem hb;exact absurd (aAZ (aAE ho) (aBS I.sz h)) (aGW _)
def Inv.cne(I:Inv X pins σ H s):∀x c,X.env.cells.lookup x=some c->c≠X.env.locals:=λx c e z=>by
 obtain⟨v,o,ho,hd⟩:=I.cell x c e;obtain⟨m,⟨o',es,ep,ho',hd',_⟩,_⟩:=I.loc;rw[z,ho']at ho;cases ho;rw[hd']at hd;cases hd
def Inv.funs(I:Inv X pins σ H s):s.heap.FunFrames X.base X.outer:=by
 have all:∀(l:List Env),(∀b∈frs l,b∈X.fs)->X.s₀.heap.FunFrames X.base l->s.heap.FunFrames X.base l:=by
  intro l;induction l with
  |nil=>intro _ _;trivial|cons env r ih =>
   intro hs hl;obtain⟨hk,⟨L,o,hf,hn,ho,hd⟩,hr⟩:=hl;have hL:L∈X.fs:=hs L (by unfold frs;rw[aGY,hf];exact aBG);obtain⟨sl,e⟩:=I.base.slot L o ho (I.ok.frf L hL) hL λz=>I.ok.exfs L z hL
   exact⟨hk,⟨L,_,hf,hn,e,hd⟩,ih (λb hb=>hs b (by unfold frs;rw[aGY,hf];exact aBF _ hb)) hr⟩
 exact all X.outer (λ_ hb=>hb) I.ok.funs
def Inv.stack(I:Inv X pins σ H s):s.heap.FunFrames X.base X.stack:=by
 rcases I.ok.stk with e|⟨e,hf⟩
 ·rw[e];exact I.funs
 ·rw[e]
  obtain⟨m,hn,_⟩:=I.loc;refine .cons (by rw[I.ok.kind];decide) hf hn ?_ I.funs;exact aEA (aBS I.ok.bsz I.ok.above)
def Inv.stkSub(I:Inv X pins σ H s):∀b∈frs X.stack,b∈X.env.locals::X.fs:=λb hb=>by
 rcases I.ok.stk with e|⟨e,hf⟩
 ·rw[e]at hb;exact aBF _ hb
 ·rw[e]at hb
  unfold frs at hb;rw[aGY,hf]at hb;exact hb
def Inv.stkFree(I:Inv X pins σ H s):∀b∈frs X.stack,H b=none:=λb hb=>by
 rcases aAU.mp (I.stkSub b hb)with e|hb
 ·rw[e];exact I.free
 ·obtain⟨_,o,ho,_⟩:=I.ok.funs.mem hb
  exact I.base.free b o ho (I.ok.frf b hb) λz=>I.ok.exfs b z hb
variable{g':Array GenState}{d':Drawn}
def Inv.step{ch:List Addr}(I:Inv X pins σ H s)
  (hch:∀b∈ch,(b∈X.ex\/X.s₀.heap.objs.size<=b)/\b≠X.env.locals/\(∀x c,X.env.cells.lookup x=some c->c≠b)/\∀p∈X.pn++pins,p.1≠b)
  (keep:∀b o,b≠X.env.locals->b∉X.fs->b∉ch->s.heap.get? b=some o->H b=none->h'.get? b=some o)
  (slot:∀b o,b≠X.env.locals->b∈X.fs->b∉ch->s.heap.get? b=some o->H b=none->∃sl,h'.get? b=some {o with slots:=sl})(free:∀b o,b∉ch->s.heap.get? b=some o->H b=none->H' b=none)
  (there:∀b o,b∉ch->s.heap.get? b=some o->∃o',h'.get? b=some o')
  (tups:∀b xs,H b=some (.tup xs)->H' b=some (.tup xs))(frzs:∀b o u,H b=some (.frz o u)->H' b=some (.frz o u))(tbls:∀b ps,H b=some (.tbl ps)->∃more,H' b=some (.tbl (ps++more)))(xos:∀b C d,H b=some (.xo C d)->H' b=some (.xo C d))
  (ns:∀m,s.heap.Ns X.env.locals m->h'.Ns X.env.locals m)(hok:HOk X.prog X.w H' h')(hg:AllBare g') :
  Inv X pins σ H' {s with heap:=h',gens:=g',drawn:=d',toks:=t'}:=by
 have neL:∀b o,X.s₀.heap.get? b=some o->b≠X.env.locals:=λb o e=>aAO (aAZ (aAE e) I.ok.above)
 have neC:∀b o,X.s₀.heap.get? b=some o->b∉X.ex->b∉ch:=λb o e hx hb=>by
  rcases(hch b hb).1 with z|z
  ·exact hx z
  ·exact absurd (aAZ (aAE e) z) (aGW _)
 have cellK:∀x c,X.env.cells.lookup x=some c->∀v,s.heap.IsCell c v->h'.IsCell c v:=λx c e v ⟨o,ho,hd⟩=>by
  have nch:c∉ch:=λz=>(hch c z).2.2.1 x c e rfl
  by_cases hc:c∈X.fs
  ·obtain⟨sl,q⟩:=slot c o (I.cne x c e) hc nch ho (I.freeC x c e)
   exact⟨_,q,hd⟩
  ·exact⟨o,keep c o (I.cne x c e) hc nch ho (I.freeC x c e),hd⟩
 refine⟨I.ok,I.os,hg,⟨λb o e n hb hx=>?_,λb o e n hb hx=>?_,λb o e n hx=>?_,λb o e hx=>?_,λb xs e=>tups b xs (I.base.tups b xs e),λb o xs e=>frzs b o xs (I.base.frzs b o xs e),λb ps e=>?_,λb C d e=>xos b C d (I.base.xos b C d e)⟩,?_,λx c e=>?_,?_,λx c e=>?_,λp hp=>?_,hok,I.len,λz=>(I.hx z).imp id λ⟨e,C,d,q,y⟩=>⟨e,C,d,q,xos e C d y⟩⟩
 ·exact keep b o (neL b o e) hb (neC b o e hx) (I.base.keep b o e n hb hx) (I.base.free b o e n hx)
 ·obtain⟨sl,e1⟩:=I.base.slot b o e n hb hx
  obtain⟨sl',e2⟩:=slot b _ (neL b o e) hb (neC b o e hx) e1 (I.base.free b o e n hx);exact⟨sl',e2⟩
 ·obtain⟨o',e1⟩:=I.base.there b o e hx
  exact free b o' (neC b o e hx) e1 (I.base.free b o e n hx)
 ·obtain⟨o',e1⟩:=I.base.there b o e hx
  exact there b o' (neC b o e hx) e1
 ·obtain⟨m1,e1⟩:=I.base.tbls b ps e
  obtain⟨m2,e2⟩:=tbls b _ e1;exact⟨m1++m2,by rw[e2,Array.append_assoc]⟩
 ·obtain⟨m,hn,hl⟩:=I.loc
  refine⟨m,ns m hn,λi x v e1 e2 e3=>?_⟩;obtain⟨u,r,l⟩:=hl i x v e1 e2 e3;refine⟨u,r,?_⟩;rcases l with l|⟨k,c,e,z⟩
  ·exact .inl l
  ·exact .inr ⟨k,c,e,cellK x c e _ z⟩
 ·obtain⟨v,z⟩:=I.cell x c e
  exact⟨v,cellK x c e v z⟩
 ·obtain⟨m,⟨o,_,_,ho,_⟩,_⟩:=I.loc
  exact free _ o (λz=>(hch _ z).2.1 rfl) ho I.free
 ·obtain⟨v,o,ho,hd⟩:=I.cell x c e
  exact free c o (λz=>(hch c z).2.2.1 x c e rfl) ho (I.freeC x c e)
 ·obtain⟨e,n,ne,nf,d⟩:=I.pin p hp
  have nch:p.1∉ch:=λz=>(hch p.1 z).2.2.2 p hp rfl
  exact⟨keep p.1 p.2 ne nf nch e n,free p.1 p.2 nch e n,ne,nf,d⟩
def Inv.un(I:Inv X pins σ H s)(u:Un X.fs [] H H' s.heap h')(hok:HOk X.prog X.w H' h'):Inv X pins σ H' {s with heap:=h',toks:=t'}:=by
 obtain⟨m,⟨o,es,ep,ho,r⟩,_⟩:=id I.loc;obtain⟨sl,hL⟩:=u.any ho I.free (by simp);exact I.step (g':=s.gens) (d':=s.drawn) (ch:=[]) (λ_ z=>nomatch z) (λb o _ hb _ e n=>u.keep b o e n hb (by simp)) (λb o _ hb _ e n=>u.slot b o e n hb (by simp)) (λb o _ e n=>u.free b o e n (by simp)) (λb o _ e=>u.there b o e (by simp)) u.tups u.frzs u.tbls u.xos (λm' hm=>by
  obtain⟨o',es',ep',ho',r'⟩:=hm;rw[ho]at ho';cases ho';exact⟨_,es',ep',hL,r'⟩) hok I.bare
def Inv.call{ch:List Addr}(I:Inv X pins σ H s)(u:Un (frs X.stack) ch H H' s.heap h')(hok:HOk X.prog X.w H' h')(hg:AllBare g')
  (hch:∀b∈ch,(b∈X.ex\/X.s₀.heap.objs.size<=b)/\b≠X.env.locals/\(∀x c,X.env.cells.lookup x=some c->c≠b)/\∀p∈X.pn++pins,p.1≠b) :
  Inv X pins σ H' {s with heap:=h',gens:=g',drawn:=d',toks:=t'}:=by
 obtain⟨m,⟨o,es,ep,ho,r⟩,_⟩:=id I.loc;obtain⟨sl,hL⟩:=u.any ho I.free λz=>(hch _ z).2.1 rfl
 exact I.step (ch:=ch) hch (λb o hL hb hc e n=>u.keep b o e n (λz=>(aAU.mp (I.stkSub b z)).elim hL hb) hc) (λb o _ _ hc e n=>u.any e n hc) (λb o hc e n=>u.free b o e n hc) (λb o hc e=>u.there b o e hc) u.tups u.frzs u.tbls u.xos (λm' hm=>by
  obtain⟨o',es',ep',ho',r'⟩:=hm;rw[ho]at ho';cases ho';exact⟨_,es',ep',hL,r'⟩) hok hg
def Inv.turned(I:Inv X pins σ H s)(k:∀b o,b≠it->s.heap.get? b=some o->h'.get? b=some o)(hn:H it=none)(hL:it≠X.env.locals)
  (h1:it∈X.ex\/X.s₀.heap.objs.size<=it)(h2:∀x c,X.env.cells.lookup x=some c->c≠it)(h3:∀p∈X.pn++pins,p.1≠it):Inv X pins σ H {s with heap:=h',toks:=t'}:=by
 have nit:∀b u,H b=some u->b≠it:=λb u e z=>by rw[z,hn]at e;cases e
 refine I.step (g':=s.gens) (d':=s.drawn) (ch:=[it]) (λb hb=>?_) (λb o _ _ hc e _=>k b o (λz=>hc (by simp[z])) e) (λb o _ _ hc e _=>⟨o.slots,k b o (λz=>hc (by simp[z])) e⟩) (λ_ _ _ _ n=>n)
  (λb o hc e=>⟨o,k b o (λz=>hc (by simp[z])) e⟩) (λ_ _ e=>e) (λ_ _ _ e=>e) (λb ps e=>⟨#[],by rw[e];simp⟩) (λ_ _ _ e=>e) (λm hm=>?_) (λb u e=>?_) I.bare
 ·have e:b=it:=by simpa using hb
  subst e;exact⟨h1,hL,h2,h3⟩
 ·obtain⟨o,es,ep,ho,r⟩:=hm
  exact⟨o,es,ep,k _ o (Ne.symm hL) ho,r⟩
 ·refine(I.hok b u e).stay (λc v hc q=>k c v ?_ q) (λ_ q=>q) λ_ _ q=>q
  rcases hc with z|z
  ·rw[z];exact nit b u e
  ·exact nit c _ z
def Inv.tok(I:Inv X pins σ H s)(t:Nat):Inv X pins σ H {s with toks:=t}:=I.un (h':=s.heap) (t':=t) Un.refl I.hok
def Inv.kept{t':Nat}(I:Inv X pins σ H s)(k:∀b u,s.heap.get? b=some u->h'.get? b=some u):Inv X pins σ H {s with heap:=h',toks:=t'}:=I.un (Un.kept k) (I.hok.kept k)
def Inv.laid{a:Addr}{o:HO}{t':Nat}(I:Inv X pins σ H s)(k:∀b u,s.heap.get? b=some u->h'.get? b=some u)(hp:s.heap.objs.size<=a)(new:ObjOk X.prog X.w (upd H a o) h' a o) :
  Inv X pins σ (upd H a o) {s with heap:=h',toks:=t'}:=I.un (Un.laid k hp (I.hok.fresh hp)) (I.hok.laid k hp new)
def Inv.write{o:HO}{t':Nat}(I:Inv X pins σ H s)(mu:Mut (H x))(he:e=x\/H e=some (.own x))(k:∀b u,b≠e->s.heap.get? b=some u->h'.get? b=some u)(heo:∃u,h'.get? e=some u)
  (new:ObjOk X.prog X.w (upd H x o) h' x o):Inv X pins σ (upd H x o) {s with heap:=h',toks:=t'}:=I.un (Un.write mu he k heo) (I.hok.write mu he k heo new)
def Inv.pins_of(I:Inv X pins σ H s)(h:∀p∈pins',s.heap.get? p.1=some p.2/\H p.1=none/\p.1≠X.env.locals/\p.1∉X.fs/\∀v,p.2.data≠.cell v):Inv X pins' σ H s :=
 ⟨I.ok,I.os,I.bare,I.base,I.loc,I.cell,I.free,I.freeC,λp hp=>(aCH.mp hp).elim (λz=>I.pin p (List.mem_append_left _ z)) (h p),I.hok,I.len,I.hx⟩
variable{x:Str}
def uV(hN:N.Nodup)(a:N[i]?=some x)(b:N[j]?=some x):i=j:=by
 obtain⟨h1,e1⟩:=aAF.mp a;obtain⟨h2,e2⟩:=aAF.mp b;exact(List.getElem_inj hN).mp (e1.trans e2.symm)
variable{M:Model}{v:V}{u:Value}{Q:Unit->Shared->Prop}
def pU(I:Inv X pins σ H s)(hN:X.N.Nodup)(hi:X.N[i]?=some x)(hx:Loc X.env.scope x)(r:RelV v u)
  (h:∀s',Inv X pins (σ.set i (some v)) H s'->(∃a,Heap.SameBut a s.heap s'.heap/\(a=X.env.locals\/X.env.cells.lookup x=some a))->Q () s')(hf:X.fn x=true\/X.env.scope.names.lookup x=some .local:=by first|exact .inl rfl|exact .inr rfl|assumption):wpAny M A (storeName X.env x u) Q E s:=by
 obtain⟨m,hn,hl⟩:=id I.loc;have hcls:(X.env.scope.kind==.class || (X.env.scope.kind==.module&&X.env.locals != X.env.globals))=false:=by rw[I.ok.kind];rfl
 have hiσ:i < σ.length:=by rw[I.len];exact(aAF.mp hi).1
 have cne:=I.cne;have tracked:∀{a:Addr} {h':Heap},(∃o,s.heap.get? a=some o/\H a=none)->Heap.SameBut a s.heap h'->HOk X.prog X.w H h':=λ{a h'} ha hs b ob e=>by
  obtain⟨_,_,hfree⟩:=ha;refine(I.hok b ob e).stay (λc w' hc q=>(hs.2 c ?_).trans q) (λ_ q=>q) λ_ _ q=>q
  rintro rfl;rcases hc with rfl|hc
  ·rw[hfree]at e;cases e
  ·rw[hfree]at hc;cases hc
 rcases hx with hk|hk
 ·refine wpAny_storeName_local hk hn (λh' hn' hs=>?_) hcls
  obtain⟨oL,_,_,hoL,_⟩:=id hn;refine h _ ⟨I.ok,I.os,I.bare,⟨λb o e n hb hx=>?_,λb o e n hb hx=>?_,I.base.free,λb o e hx=>?_,I.base.tups,I.base.frzs,I.base.tbls,I.base.xos⟩,⟨_,hn',λj y v' e1 e2 e3=>?_⟩,λy c e=>?_,I.free,I.freeC,λp hp=>?_,tracked ⟨oL,hoL,I.free⟩ hs,by simpa using I.len,I.hx⟩ ⟨_,hs,.inl rfl⟩
  ·exact(hs.2 b (aAO (aAZ (aAE e) I.ok.above))).trans (I.base.keep b o e n hb hx)
  ·obtain⟨sl,e1⟩:=I.base.slot b o e n hb hx
   exact⟨sl,(hs.2 b (aAO (aAZ (aAE e) I.ok.above))).trans e1⟩
  ·obtain⟨o',e1⟩:=I.base.there b o e hx
   exact⟨o',(hs.2 b (aAO (aAZ (aAE e) I.ok.above))).trans e1⟩
  ·by_cases hj:j=i
   ·subst hj
    rw[hi]at e1;cases e1;rw[aBZ hiσ]at e2;cases e2;exact⟨u,r,.inl ⟨hk,by simp⟩⟩
   ·rw[aDX (Ne.symm hj)]at e2
    obtain⟨u',r',q⟩:=hl j y v' e1 e2 e3;refine⟨u',r',?_⟩;rcases q with⟨k,e⟩|⟨k,c,e,z⟩
    ·refine .inl ⟨k,?_⟩
     have:y≠x:=λe=>hj (uV hN e1 (e▸hi))
     simp[this,e]
    ·exact .inr ⟨k,c,e,z.sameBut hs (cne y c e)⟩
  ·obtain⟨w',z⟩:=I.cell y c e
   exact⟨w',z.sameBut hs (cne y c e)⟩
  ·obtain⟨e,n,ne,nf,d⟩:=I.pin p hp
   exact⟨(hs.2 p.1 ne).trans e,n,ne,nf,d⟩
 ·have hfn:X.fn x=true:=by
   rcases hf with z|z
   ·exact z
   ·rw[z]at hk;cases hk
  obtain⟨c,hc⟩:=I.ok.has x (.inl hk);obtain⟨w',z⟩:=I.cell x c hc;refine wpAny_storeName_cell I.ok.kind hk hc z (λh' hc' hs=>?_);obtain⟨oc,hoc,hocd⟩:=id z;refine h {s with heap:=h'} ⟨I.ok,I.os,I.bare,⟨λb o e n hb hx=>?_,λb o e n hb hx=>?_,I.base.free,λb o e hx=>?_,I.base.tups,I.base.frzs,I.base.tbls,I.base.xos⟩,⟨m,hn.sameBut hs (Ne.symm (cne x c hc)),λj y v' e1 e2 e3=>?_⟩,λy c' e=>?_,I.free,I.freeC,λp hp=>?_,tracked ⟨oc,hoc,I.freeC x c hc⟩ hs,by simpa using I.len,I.hx⟩ ⟨c,hs,.inr hc⟩
  ·exact(hs.2 b (aAO (aAZ (aAE e) (I.ok.cab x c hfn hc)))).trans (I.base.keep b o e n hb hx)
  ·obtain⟨sl,e1⟩:=I.base.slot b o e n hb hx
   exact⟨sl,(hs.2 b (aAO (aAZ (aAE e) (I.ok.cab x c hfn hc)))).trans e1⟩
  ·obtain⟨o',e1⟩:=I.base.there b o e hx
   exact⟨o',(hs.2 b (aAO (aAZ (aAE e) (I.ok.cab x c hfn hc)))).trans e1⟩
  ·by_cases hj:j=i
   ·subst hj
    rw[hi]at e1;cases e1;rw[aBZ hiσ]at e2;cases e2;exact⟨u,r,.inr ⟨.inl hk,c,hc,hc'⟩⟩
   ·rw[aDX (Ne.symm hj)]at e2
    obtain⟨u',r',q⟩:=hl j y v' e1 e2 e3;refine⟨u',r',?_⟩;rcases q with q|⟨k,c',e,z'⟩
    ·exact .inl q
    ·refine .inr ⟨k,c',e,z'.sameBut hs ?_⟩
     rintro rfl;exact hj (uV hN e1 (I.ok.inj _ _ _ e hc▸hi))
  ·by_cases hcc:c'=c
   ·subst hcc;exact⟨_,hc'⟩
   ·obtain⟨w2,z2⟩:=I.cell y c' e
    exact⟨w2,z2.sameBut hs hcc⟩
  ·obtain⟨e,n,ne,nf,d⟩:=I.pin p hp
   refine⟨(hs.2 p.1 ?_).trans e,n,ne,nf,d⟩;intro q;rw[q,hoc]at e;have q':oc=p.2:=Option.some.inj e;exact d w' (by rw[<- q'];exact hocd)
def iV(I:Inv X pins σ H s)(hN:X.N.Nodup)(hi:X.N[i]?=some x)(hx:Loc X.env.scope x)(r:RelV v u)
  (h:∀s',Inv X pins (σ.set i (some v)) H s'->Q () s')(hf:X.fn x=true\/X.env.scope.names.lookup x=some .local:=by first|exact .inl rfl|exact .inr rfl|assumption):wpAny M A (storeName X.env x u) Q E s :=
 pU I hN hi hx r (λs' I' _=>h s' I') hf
def Inv.call'{ch:List Addr}(I:Inv X pins σ H s)(ho:s'.os=s.os)(u:Un (frs X.stack) ch H H' s.heap s'.heap)(hok:HOk X.prog X.w H' s'.heap)(hg:AllBare s'.gens)
  (hch:∀b∈ch,(b∈X.ex\/X.s₀.heap.objs.size<=b)/\b≠X.env.locals/\(∀x c,X.env.cells.lookup x=some c->c≠b)/\∀p∈X.pn++pins,p.1≠b):Inv X pins σ H' s':=by
 obtain⟨h',g',d',t',o'⟩:=s';have e:o'=s.os:=ho;subst e;exact I.call (g':=g') (t':=t') (d':=d') u hok hg hch
abbrev XK:=Value->Option Addr->Hp->Prop
abbrev St:=List (Option V)
abbrev VK:=V->Hp->Prop
abbrev TE:=St->Hp->VK->Prop
abbrev TT:=St->Hp->(Bool->Hp->Prop)->Prop
abbrev TA:=St->Hp->(List V->Hp->Prop)->Prop
structure Ends where
 nx:St->Hp->Prop
 rt:VK
 bk:St->Hp->Prop:=λ_ _=>False
 ct:St->Hp->Prop:=λ_ _=>False
abbrev TS:=Ends->St->Hp->Prop
def EP(X:Cx)(pins:List (Addr×Obj))(σ:St)(Q:VK)(u:Value)(s':Shared):Prop:=∃v H',Inv X pins σ H' s'/\RelV v u/\Q v H'
def TP(X:Cx)(pins:List (Addr×Obj))(σ:St)(Q:Bool->Hp->Prop)(b:Bool)(s':Shared):Prop:=∃H',Inv X pins σ H' s'/\Q b H'
def AP(X:Cx)(pins:List (Addr×Obj))(σ:St)(Q:List V->Hp->Prop)(us:List Value)(s':Shared):Prop:=∃vs H',Inv X pins σ H' s'/\Vals vs us/\Q vs H'
def SP(X:Cx)(pins:List (Addr×Obj))(D:Ends)(f:Flow)(s':Shared):Prop :=
 match f with
 |.next=>∃σ' H',Inv X pins σ' H' s'/\D.nx σ' H'|.brk=>∃σ' H',Inv X pins σ' H' s'/\D.bk σ' H'|.cont=>∃σ' H',Inv X pins σ' H' s'/\D.ct σ' H'|.ret u=>∃v σ' H',Inv X pins σ' H' s'/\RelV v u/\D.rt v H'
def PE(X:Cx)(e:Expr)(t:TE):Prop :=
 ∀(pins:List (Addr×Obj)) (s:Shared) (σ:St) (H:Hp) (Q:VK),Inv X pins σ H s->t σ H Q->wpAny (model X.prog X.w) X.A (eval e X.env) (EP X pins σ Q) X.xe s
def PT(X:Cx)(e:Expr)(t:TT):Prop :=
 ∀(pins:List (Addr×Obj)) (s:Shared) (σ:St) (H:Hp) (Q:Bool->Hp->Prop),Inv X pins σ H s->t σ H Q->wpAny (model X.prog X.w) X.A (isTrue e X.env (eval e X.env)) (TP X pins σ Q) X.xe s
def PW(X:Cx)(e:Expr)(t:TT):Prop :=
 ∀(whole:Sem Value) (pins:List (Addr×Obj)) (s:Shared) (σ:St) (H:Hp) (Q:Bool->Hp->Prop),Inv X pins σ H s->t σ H Q->wpAny (model X.prog X.w) X.A (isTrue e X.env whole) (TP X pins σ Q) X.xe s
variable{e:Expr}
def PW.pt{t:TT}(h:PW X e t):PT X e t:=h _
def PA(X:Cx)(es:List Expr)(t:TA):Prop :=
 ∀(pos:Pos) (pins:List (Addr×Obj)) (s:Shared) (σ:St) (H:Hp) (Q:List V->Hp->Prop),Inv X pins σ H s->t σ H Q->wpAny (model X.prog X.w) X.A (spliced (backTo pos (starEach es X.env))) (AP X pins σ Q) X.xe s
def PS(X:Cx)(st:Stmt)(t:TS):Prop :=
 ∀(pins:List (Addr×Obj)) (s:Shared) (σ:St) (H:Hp) (D:Ends),Inv X pins σ H s->t D σ H->wpAny (model X.prog X.w) X.A (exec st X.env) (SP X pins D) X.xe s
def PSs(X:Cx)(st:List Stmt)(t:TS):Prop :=
 ∀(pins:List (Addr×Obj)) (s:Shared) (σ:St) (H:Hp) (D:Ends),Inv X pins σ H s->t D σ H->wpAny (model X.prog X.w) X.A (execs st X.env) (SP X pins D) X.xe s
def thn{t:Sem α}{Q Q':α->Shared->Prop}{s:Shared}(h:wpAny M A t Q E s)(hQ:∀a s,Q a s->Q' a s):wpAny M A t Q' E s:=aCU h hQ λ_ _ x=>x
section
def tVar(i:Nat):TE:=λσ H Q=>∃v,σ[i]?=some (some v)/\Q v H
def tC(v:V):TE:=λ_ H Q=>Q v H
def aMd(hN:X.N[i]?=some x)(hv:Vis X.env.scope x)(hd:(x==("__debug__":Str))=false:=by decide)(hcd:(x==("__classdict__":Str))=false:=by decide):PE X (.Name x pos) (tVar i):=by
 intro pins s σ H Q I h;obtain⟨v,e,h⟩:=h;obtain⟨m,hn,hl⟩:=I.loc;obtain⟨u,r,l⟩:=hl i x v hN e hv;have fin:EP X pins σ Q u s:=⟨v,H,I,r,h⟩
 rcases l with⟨hk,hm⟩|⟨hk,c,hc,hcell⟩
 ·exact wpAny_Name (wpAny_loadName_local I.ok.kind hk hn hm fin) hd
 ·rcases hk with hk|hk
  ·exact wpAny_Name (wpAny_loadName_cell I.ok.kind hk hc hcell fin) hd
  ·exact wpAny_Name (wpAny_loadName_free I.ok.kind hk hc hcell fin hcd) hd
def aFj{i j pos}:PE X (.Constant (.int i) j pos) (tC (.int i)):=λ_ _ _ H _ I h=>wpAny_Constant_int ⟨.int i,H,I.tok _,⟨_,rfl⟩,h⟩
def aRf{b j pos}:PE X (.Constant (.bool b) j pos) (tC (.bl b)):=λ_ _ _ H _ I h=>Constant_bool ⟨.bl b,H,I,rfl,h⟩
def aOa{j pos}:PE X (.Constant .none j pos) (tC .non):=λ_ _ _ H _ I h=>Constant_none ⟨.non,H,I,rfl,h⟩
def Gl(X:Cx)(x:Str):Prop:=X.env.kindOf x=some .globalImplicit
variable{σ:St}{Q:Value->Shared->Prop}
def aJe(I:Inv X pins σ H s)(hg:Gl X x)(hm:X.mg x=some u)(h:Q u s)
  (hd:(x==("__debug__":Str))=false:=by decide):wpAny (model X.prog X.w) X.A (eval (.Name x pos) X.env) Q E s :=
 Calls.Name_function_global I.ok.kind hg (Calls.loadGlobal_global (by rw[I.ok.glob];exact I.mod.glob.keeps I.bk) hm h) hd
def dJ(I:Inv X pins σ H s)(hg:Gl X x)(hm:X.mg x=none)(hv:bootBuiltins x=some u)(h:Q u s)
  (hn:x≠"__name__":=by decide)(hd:(x==("__debug__":Str))=false:=by decide):wpAny (model X.prog X.w) X.A (eval (.Name x pos) X.env) Q E s:=by
 obtain⟨mb,h1,h2⟩:=I.mod.blt;exact Calls.Name_function_global I.ok.kind hg (Calls.loadGlobal_builtin (by rw[I.ok.glob];exact I.mod.glob.keeps I.bk) hm (by rw[I.ok.blt];exact h1.keeps I.bk) ((h2 x hn).trans hv) h) hd
def aKg(hg:Gl X x)(hm:X.mg x=none)(hv:bootBuiltins x=some u)(r:RelV v u)(hn:x≠"__name__":=by decide)(hd:(x==("__debug__":Str))=false:=by decide):PE X (.Name x pos) (tC v) :=
 λ_ _ _ H _ I h=>dJ I hg hm hv ⟨v,H,I,r,h⟩ hn hd
def t2I(ta tb:TE)(k:Int->Int->Hp->Prop):St->Hp->Prop:=λσ H=>ta σ H λx H1=>tb σ H1 λy H2=>∃i j,x=.int i/\y=.int j/\k i j H2
variable{a b:Expr}{ta tb:TE}
def tCmp(p:Int->Int->Bool)(ta tb:TE):TE:=λσ H Q=>t2I ta tb (λi j H2=>Q (.bl (p i j)) H2) σ H
abbrev tLt:TE->TE->TE:=tCmp λi j=>decide (i < j)
def tB(t:TE):TT:=λσ H Q=>t σ H λx H1=>∃c,x=.bl c/\Q c H1
variable{tA tB':TT}{rest:List Expr}
def tAnd(t u:TT):TT:=λσ H Q=>t σ H λc H1=>if c=true then u σ H1 Q else Q false H1
def tOr(t u:TT):TT:=λσ H Q=>t σ H λc H1=>if c=true then Q true H1 else u σ H1 Q
def tNot(t:TT):TT:=λσ H Q=>t σ H λc H1=>Q (!c) H1
def aIz(ha:PT X a tA):PW X (.BoolOp .And [a] pos) tA:=by
 intro wh pins s σ H Q I h;refine isTrue_and (thn (ha pins s σ H Q I h) λc s1 e=>?_);cases c with
 |true=>exact isTrue_and_nil e|false=>exact e
def aPr(ha:PT X a tA):PW X (.BoolOp .Or [a] pos) tA:=by
 intro wh pins s σ H Q I h;refine isTrue_or (thn (ha pins s σ H Q I h) λc s1 e=>?_);cases c with
 |false=>exact isTrue_or_nil e|true=>exact e
def aOd(ha:PT X a tA)(hb:PW X (.BoolOp .And (b::rest) pos) tB'):PW X (.BoolOp .And (a::b::rest) pos) (tAnd tA tB'):=by
 intro wh pins s σ H Q I h;refine isTrue_and (thn (ha pins s σ H _ I h) λc s1 ⟨H1,I1,q1⟩=>?_);cases c with
 |true=>exact hb wh pins s1 σ H1 Q I1 q1|false=>exact⟨H1,I1,q1⟩
def aQo(ha:PT X a tA)(hb:PW X (.BoolOp .Or (b::rest) pos) tB'):PW X (.BoolOp .Or (a::b::rest) pos) (tOr tA tB'):=by
 intro wh pins s σ H Q I h;refine isTrue_or (thn (ha pins s σ H _ I h) λc s1 ⟨H1,I1,q1⟩=>?_);cases c with
 |true=>exact⟨H1,I1,q1⟩|false=>exact hb wh pins s1 σ H1 Q I1 q1
def aNr(ha:PT X a tA):PT X (.UnaryOp .Not a pos) (tNot tA):=by
 intro pins s σ H Q I h;exact isTrue_not (ha pins s σ H (λc H1=>Q (!c) H1) I h)
def tAndV(ta tb:TE):TE:=λσ H Q=>ta σ H λx H1=>∃c,x=.bl c/\if c=true then tb σ H1 Q else Q (.bl false) H1
def aPe{op}{t:TE}(h:PE X a t):PE X (.BoolOp op [a] pos) t:=λpins s σ H Q I hw=>BoolOp_one (h pins s σ H Q I hw)
def aNy(ha:PE X a ta)(hb:PE X (.BoolOp .And (b::rest) pos) tb):PE X (.BoolOp .And (a::b::rest) pos) (tAndV ta tb):=by
 intro pins s σ H Q I h;refine BoolOp_and (thn (ha pins s σ H _ I h) λv s1 ⟨x,H1,I1,r1,q1⟩=>?_);obtain⟨c,rfl,q1⟩:=q1;cases r1;refine aGH ?_;cases c with
 |true=>exact hb pins s1 σ H1 Q I1 q1|false=>exact⟨.bl false,H1,I1,rfl,q1⟩
end
def SqL(K:Frag)(H:Hp)(a:Addr)(xs:List V):Prop :=
 Rd H a (.lst xs) \/
  ∃(o:Obj) (its:Array Value) (n:Nat),K.lookup a=some o/\o.cls=.type "list"/\o.dict=none/\o.data=.seq its n/\its.size<=sizeLine/\Vals xs its.toList
def SqT(K:Frag)(H:Hp)(a:Addr)(xs:List V):Prop :=
 Rd H a (.tup xs) \/
  ∃(o:Obj) (its:Array Value) (n:Nat),K.lookup a=some o/\o.cls=.type "tuple"/\o.data=.seq its n/\its.size<=sizeLine/\Vals xs its.toList
def absV:Value->Option V
 |.none=>some .non|.bool b=>some (.bl b)|.int i _=>some (.int i)|.str x _=>some (.str x)|.bytes b _=>some (.byt b)|.float b _=>some (.flt b)|.ref a=>some (.ref a)|.type n=>some (.ty n)|_=>none
def RelV.abs{x:V}(r:RelV x u):absV u=some x:=by
 cases x with
 |non=>cases r;rfl
 |bl _=>cases r;rfl
 |int _=>obtain⟨t,rfl⟩:=r;rfl
 |str _=>obtain⟨t,rfl⟩:=r;rfl
 |byt _=>obtain⟨t,rfl⟩:=r;rfl
 |flt _=>obtain⟨t,rfl⟩:=r;rfl
 |ref _=>cases r;rfl
 |ty _=>cases r;rfl
def RelV.inj{x y:V}(r:RelV x u)(q:RelV y u):x=y:=Option.some.inj (r.abs.symm.trans q.abs)
def Vals.inj:∀{xs ys:List V} {us:List Value},Vals xs us->Vals ys us->xs=ys
 |_,_,_,.nil,.nil=>rfl|_,_,_,.cons r t,.cons r' t'=>by rw[r.inj r',Vals.inj t t']
variable{σ:St}{xs ys:List V}
def SqL.of(h:H a=some (.lst xs)):SqL K H a xs:=.inl (.inl h)
def SqT.of(h:H a=some (.tup xs)):SqT K H a xs:=.inl (.inl h)
def Inv.list(I:Inv X pins σ H s)(h:SqL X.K H a xs):∃its:List Value,Vals xs its/\PlainL s.heap a its.toArray/\xs.length<=sizeLine:=by
 rcases h with h|⟨o,its,n,hk,hc,hd,hs,hz,r⟩
 ·obtain⟨z,its,n,r,e⟩:=h.ok I.hok
  exact⟨its,r,⟨_,n,e,rfl,rfl,rfl⟩,z⟩
 ·refine⟨its.toList,r,⟨o,n,I.kIn a o hk,hc,hd,by simpa using hs⟩,?_⟩
  have e:=r.length;simp only[aEG]at e;lia
def Inv.tuple(I:Inv X pins σ H s)(h:SqT X.K H a xs):∃its:List Value,Vals xs its/\IsTup s.heap a its.toArray/\xs.length<=sizeLine:=by
 rcases h with h|⟨o,its,n,hk,hc,hs,hz,r⟩
 ·obtain⟨z,its,r,p⟩:=h.ok I.hok
  exact⟨its,r,p.t,z⟩
 ·refine⟨its.toList,r,⟨o,I.kIn a o hk,hc,n,by simpa using hs⟩,?_⟩
  have e:=r.length;simp only[aEG]at e;lia
def Inv.list_inj(I:Inv X pins σ H s)(h:SqL X.K H a xs)(h':SqL X.K H a ys):xs=ys:=by
 obtain⟨its,r,⟨o,n,e,_,_,d⟩,_⟩:=I.list h;obtain⟨its',r',⟨o',n',e',_,_,d'⟩,_⟩:=I.list h';rw[e]at e';cases e';rw[d]at d';injection d' with d1 _;have:its=its':=by simpa using congrArg Array.toList d1
 subst this;exact r.inj r'
def Inv.tuple_inj(I:Inv X pins σ H s)(h:SqT X.K H a xs)(h':SqT X.K H a ys):xs=ys:=by
 obtain⟨its,r,⟨o,e,_,n,d⟩,_⟩:=I.tuple h;obtain⟨its',r',⟨o',e',_,n',d'⟩,_⟩:=I.tuple h';rw[e]at e';cases e';rw[d]at d';injection d' with d1 _;have:its=its':=by simpa using congrArg Array.toList d1
 subst this;exact r.inj r'
abbrev Cx.wish(X:Cx)(E:Value->Shared->Prop):Cx:={X with xe:=E}
abbrev Cx.nox(X:Cx):Cx:=X.wish λ_ _=>False
def Cx.Ok.wish{X:Cx}(ok:X.Ok)(E:Value->Shared->Prop):(X.wish E).Ok :=
 ⟨ok.mod,ok.kind,ok.glob,ok.blt,ok.above,ok.inj,ok.has,ok.cab,ok.hd,ok.frames,ok.stk,ok.exf,ok.bs,ok.bsz,ok.noex,ok.exfs,ok.funs,ok.frf⟩
def Cx.Ok.unwish(ok:(X.wish E).Ok):X.Ok :=
 ⟨ok.mod,ok.kind,ok.glob,ok.blt,ok.above,ok.inj,ok.has,ok.cab,ok.hd,ok.frames,ok.stk,ok.exf,ok.bs,ok.bsz,ok.noex,ok.exfs,ok.funs,ok.frf⟩
def Inv.wish(I:Inv X pins σ H s)(E:Value->Shared->Prop):Inv (X.wish E) pins σ H s:=⟨I.ok.wish E,I.os,I.bare,I.base,I.loc,I.cell,I.free,I.freeC,I.pin,I.hok,I.len,I.hx⟩
def Inv.unwish(I:Inv (X.wish E) pins σ H s):Inv X pins σ H s:=⟨I.ok.unwish,I.os,I.bare,I.base,I.loc,I.cell,I.free,I.freeC,I.pin,I.hok,I.len,I.hx⟩
def SP.unwish{D:Ends}{s':Shared}(h:SP (X.wish E) pins D f s'):SP X pins D f s':=by
 cases f with
 |next=>obtain⟨σ',H',I,q⟩:=h;exact⟨σ',H',I.unwish,q⟩
 |brk=>obtain⟨σ',H',I,q⟩:=h;exact⟨σ',H',I.unwish,q⟩
 |cont=>obtain⟨σ',H',I,q⟩:=h;exact⟨σ',H',I.unwish,q⟩
 |ret u=>obtain⟨v,σ',H',I,r,q⟩:=h;exact⟨v,σ',H',I.unwish,r,q⟩
def PSs.nox{st:List Stmt}{t:TS}(h:PSs X.nox st t):PSs X st t:=λpins s σ H D I hw =>
 aCU (h pins s σ H D (I.wish _) hw) (λ_ _ q=>q.unwish) λ_ _ z=>False.elim z
section
variable{st:Stmt}{rest:List Stmt}{t u:TS}{te:TE}
def tNext:TS:=λD σ H=>D.nx σ H
def tSeq(t u:TS):TS:=λD σ H=>t {D with nx:=u D} σ H
def aKv:PSs X [] tNext:=λ_ _ σ H _ I h=>aIV ⟨σ,H,I,h⟩
def aHb(h1:PS X st t)(h2:PSs X rest u):PSs X (st::rest) (tSeq t u):=by
 intro pins s σ H D I h;refine wpAny_execs_cons (thn (h1 pins s σ H {D with nx:=u D} I h) λf s1 q=>?_);cases f with
 |next =>
  obtain⟨σ',H',I',q⟩:=q;exact h2 pins s1 σ' H' D I' q
 |ret v=>exact q|brk=>exact q|cont=>exact q
def aIv(h1:PS X st t):PSs X [st] t:=by
 intro pins s σ H D I h;refine wpAny_execs_cons (thn (h1 pins s σ H D I h) λf s1 q=>?_);cases f with
 |next=>exact aIV q|ret v=>exact q|brk=>exact q|cont=>exact q
def Inv.quiet(I:Inv X pins σ H s):interactive X.env=false:=by simp[interactive,I.ok.kind]
def tDrop(te:TE):TS:=λD σ H=>te σ H λ_ H1=>D.nx σ H1
def aIp(he:PE X e te)(hs:swapsWith e none pos.line X.env=pure false:=by rfl):PS X (.Expr e pos) (tDrop te):=by
 intro pins s σ H D I h;exact wpAny_Expr_any (thn (he pins s σ H _ I h) λv s1 ⟨x,H1,I1,r1,q1⟩=>⟨σ,H1,I1,q1⟩) I.quiet hs
def tRet(te:TE):TS:=λD σ H=>te σ H D.rt
def aMv(he:PE X e te):PS X (.Return (some e) pos) (tRet te):=by
 intro pins s σ H D I h;exact wpAny_Return_some (thn (he pins s σ H _ I h) λv s1 ⟨x,H1,I1,r1,q1⟩=>⟨x,σ,H1,I1,r1,q1⟩)
def tIfS(c:TT)(t u:TS):TS:=λD σ H=>c σ H λb H1=>if b=true then t D σ H1 else u D σ H1
def aQy{c:Expr}{a b:List Stmt}{tc:TT}(hc:PT X c tc)(ha:PSs X a t)(hb:PSs X b u):PS X (.If c a b pos) (tIfS tc t u):=by
 intro pins s σ H D I h;refine wpAny_If (thn (hc pins s σ H _ I h) λd s1 ⟨H1,I1,q1⟩=>?_);cases d with
 |true=>exact ha pins s1 σ H1 D I1 q1|false=>exact hb pins s1 σ H1 D I1 q1
end
abbrev TG:=V->St->Hp->(St->Hp->Prop)->Prop
abbrev TGs:=List V->St->Hp->(St->Hp->Prop)->Prop
def PG(X:Cx)(target:Expr)(t:TG):Prop :=
 ∀(pins:List (Addr×Obj)) (s:Shared) (σ:St) (H:Hp) (v:V) (u:Value) (Q:St->Hp->Prop),Inv X pins σ H s->RelV v u->t v σ H Q ->
  wpAny (model X.prog X.w) X.A (assign target X.env u) (λ_ s'=>∃σ' H',Inv X pins σ' H' s'/\Q σ' H') X.xe s
def PGs(X:Cx)(ts:List Expr)(t:TGs):Prop :=
 ∀(pins:List (Addr×Obj)) (s:Shared) (σ:St) (H:Hp) (vs:List V) (us:List Value) (Q:St->Hp->Prop),Inv X pins σ H s->Vals vs us->t vs σ H Q ->
  wpAny (model X.prog X.w) X.A (assignInOrder ((assignEach ts X.env).map (·.2)) us) (λ_ s'=>∃σ' H',Inv X pins σ' H' s'/\Q σ' H') X.xe s
abbrev TSet:=V->V->V->Hp->(Hp->Prop)->Prop
def PSet(X:Cx)(t:TSet):Prop :=
 ∀(pins:List (Addr×Obj)) (s:Shared) (σ:St) (H:Hp) (o i v:V) (ov iv u:Value) (Q:Hp->Prop),Inv X pins σ H s->RelV o ov->RelV i iv->RelV v u->t o i v H Q ->
  wpAny (model X.prog X.w) X.A (setItem ov iv u) (λ_ s'=>∃H',Inv X pins σ H' s'/\Q H') X.xe s
def gName(i:Nat):TG:=λv σ H Q=>Q (σ.set i (some v)) H
def aJf(hN:X.N.Nodup)(hi:X.N[i]?=some x)(hx:Loc X.env.scope x)(hf:X.fn x=true\/X.env.scope.names.lookup x=some .local:=by first|exact .inl rfl|exact .inr rfl|assumption):PG X (.Name x pos) (gName i):=by
 intro pins s σ H v u Q I r h;exact wpAny_assign_Name (iV I hN hi hx r (λs' I'=>⟨_,H,I',h⟩) hf)
def gNil:TGs:=λvs σ H Q=>vs=[]/\Q σ H
def gCons(t:TG)(u:TGs):TGs:=λvs σ H Q=>∃v r,vs=v::r/\t v σ H λσ' H'=>u r σ' H' Q
def aIa:PGs X [] gNil:=by
 intro pins s σ H vs us Q I r h;obtain⟨e,h⟩:=h;subst e;cases r;exact assignInOrder_nil ⟨σ,H,I,h⟩
variable{es:List Expr}
def aGj{t:TG}{u:TGs}(h1:PG X e t)(h2:PGs X es u)
  (hs:(assignEach (e::es) X.env).map (·.2)=assign e X.env::(assignEach es X.env).map (·.2):=by rfl):PGs X (e::es) (gCons t u):=by
 intro pins s σ H vs us Q I r h;obtain⟨v,vr,e1,h⟩:=h;subst e1;cases r with
 |cons r rr =>
  rw[hs];refine aJO (thn (h1 pins s σ H _ _ _ I r h) λ_ s1 ⟨σ1,H1,I1,q1⟩=>?_);exact h2 pins s1 σ1 H1 _ _ Q I1 rr q1
def gTup(K:Frag)(n:Nat)(t:TGs):TG:=λv σ H Q=>∃a xs,v=.ref a/\SqT K H a xs/\xs.length=n/\t xs σ H Q
def aPq{k:Nat}{t:TGs}(hc:X.calm=true)(h:PGs X es t)
  (hn:(assignEach es X.env).length=n:=by rfl)(hst:(assignEach es X.env).findIdx? (·.1)=none:=by rfl):PG X (.Tuple es k pos) (gTup X.K n t):=by
 intro pins s σ H v u Q I r hw;obtain⟨a,xs,e1,hq,hl,hw⟩:=hw;subst e1;cases r;obtain⟨its,rv,ht,hz⟩:=I.tuple hq;refine assign_Tuple_tuple (I.ok.hd hc) ht (by simp[hn,<- hl,rv.length]) hst λh' hx=>?_
 have I1:Inv X pins σ H {s with heap:=h'}:=I.kept (t':=s.toks) λb o e=>hx b o (aAO (aAE e)) e
 exact h pins _ σ H xs _ Q I1 (by simpa using rv) hw
def gSub(to ti:TE)(t:TSet):TG:=λv σ H Q=>to σ H λo H1=>ti σ H1 λi H2=>t o i v H2 λH3=>Q σ H3
def aPl{o i:Expr}{to ti:TE}{t:TSet}(ho:PE X o to)(hi:PE X i ti)(hs:PSet X t)
  (ha:∀v,assign (.Subscript o i pos) X.env v=(do
   let ov <- holding [v] (eval o X.env)
   let iv <- holding [v,ov] (eval i X.env)
   standAt pos
   holding [v,ov,iv] (setItem ov iv v)
   release [v,ov,iv] []):=by intro _;rfl):PG X (.Subscript o i pos) (gSub to ti t):=by
 intro pins s σ H v u Q I r h;rw[ha];refine aAA (aBC (thn (ho pins s σ H _ I h) λov s1 ⟨x,H1,I1,r1,q1⟩=>?_));refine aAA (aBC (thn (hi pins s1 σ H1 _ I1 q1) λiv s2 ⟨y,H2,I2,r2,q2⟩=>?_));refine aAA (aFV (aAA (aBC (thn (hs pins s2 σ H2 x y v ov iv u _ I2 r1 r2 r q2) λ_ s3 ⟨H3,I3,q3⟩=>?_))));exact wpAny_release ⟨σ,H3,I3,q3⟩
def tAsg(te:TE)(g:TG):TS:=λD σ H=>te σ H λx H1=>g x σ H1 D.nx
variable{tg:Expr}{te:TE}{g:TG}
def aMn(he:PE X e te)(hg:PG X tg g)(hs:swapsWithSole [tg] e pos.line X.env=pure false:=by rfl)(hw:swappedStores [tg] e X.env=pure none:=by rfl)
  (h1:(assignEach [tg] X.env).map (·.2)=[assign tg X.env]:=by rfl):PS X (.Assign [tg] e pos) (tAsg te g):=by
 intro pins s σ H D I h;refine wpAny_Assign_stores (thn (he pins s σ H _ I h) λv s1 ⟨x,H1,I1,r1,q1⟩=>?_) hs hw;rw[h1];exact thn (hg pins s1 σ H1 x v _ I1 r1 q1) λ_ s2 q=>q
def aOb(hN:X.N.Nodup)(hi:X.N[i]?=some x)(hx:Loc X.env.scope x)(he:PE X e te)(hs:swapsWith e (some (.Name x pos')) pos.line X.env=pure false:=by rfl)(hf:X.fn x=true\/X.env.scope.names.lookup x=some .local:=by first|exact .inl rfl|exact .inr rfl|assumption) :
  PS X (.Assign [.Name x pos'] e pos) (tAsg te (gName i)):=by
 intro pins s σ H D I h;refine wpAny_Assign_Name (thn (he pins s σ H _ I h) λv s1 ⟨y,H1,I1,r1,q1⟩=>?_) hs;exact iV I1 hN hi hx r1 (λs2 I2=>⟨_,H1,I2,q1⟩) hf
def tPar(i j:Nat)(ta:TA):TS:=λD σ H=>ta σ H λvs H1=>∃v w,vs=[v,w]/\D.nx ((σ.set i (some v)).set j (some w)) H1
variable{a:Expr}{ta:TA}
def aMu{b:Expr}{px py pt:Pos}{kt k2 pt2}(hc:cP)(hN:X.N.Nodup)(hi:X.N[i]?=some x)(hj:X.N[j]?=some y)(hij:i≠j)
  (hx:X.env.scope.names.lookup x=some .local)(hy:X.env.scope.names.lookup y=some .local)(ha:PA X [a,b] ta)
  (hw:swappedStores [.Tuple [.Name x px,.Name y py] kt pt] (.Tuple [a,b] k2 pt2) X.env=pure (some [x,y]))
  (hs:swapsWithSole [.Tuple [.Name x px,.Name y py] kt pt] (.Tuple [a,b] k2 pt2) pos.line X.env=pure false:=by rfl) :
  PS X (.Assign [.Tuple [.Name x px,.Name y py] kt pt] (.Tuple [a,b] k2 pt2) pos) (tPar i j ta):=by
 intro pins s σ H D I h;rw[exec_Assign_arm];refine aAA (aFV ?_);rw[hs];refine aAA (aAC ?_);rw[aAH (by decide)];refine aAA (Tuple_ (thn (ha _ pins s σ H _ I h) λus s1 ⟨vs,H1,I1,r1,q1⟩=>?_));obtain⟨v,w,e1,q1⟩:=q1;subst e1;obtain⟨u1,u2,rfl,rv,rw'⟩:∃u1 u2,us=[u1,u2]/\RelV v u1/\RelV w u2:=by
  cases r1 with
  |cons p q =>
   cases q with
   |cons p' q' =>
    cases q';exact⟨_,_,rfl,p,p'⟩
 refine aBR ?_ (by show 2<=sizeLine;decide);have I2:Inv X pins σ H1 {s1 with heap:=s1.heap.push {cls:=.type "tuple",data:=.seq [u1,u2].toArray}}:=I1.kept (t':=s1.toks) λb o e=>aAB _ e
 rw[hw];refine aAA (aAC ?_);show wpAny (model X.prog X.w) X.A (do rule "assign.swapped-stores";let items <- unpackItems (.ref s1.heap.objs.size) 2 none;assignInOrder [λv=>bindName X.env y v,λv=>bindName X.env x v] items.reverse;pure Flow.next) _ _ _;refine aAA (aCM (aAA (aGu (items:=#[u1,u2]) I2.cm (IsTup.new s1.heap _) λh' hx'=>?_)));have I3:=I2.kept (h':=h') (t':=s1.toks) λb o e=>hx' b o (aAO (aAE e)) e
 show wpAny _ _ (assignInOrder [λv=>bindName X.env y v,λv=>bindName X.env x v] [u2,u1] >>= λ_=>pure Flow.next) _ _ _;refine aAA (aJO (wpAny_bindName (iV I3 hN hj (.inl hy) rw' (λs2 I4=>?_) (.inr hy))));refine aJO (wpAny_bindName (iV I4 hN hi (.inl hx) rv (λs3 I5=>assignInOrder_nil (aAC ?_)) (.inr hx)));rw[List.set_comm _ _ (Ne.symm hij)]at I5;exact⟨_,H1,I5,q1⟩
def tWhile(c:TT)(tb:TS):TS:=λD σ H=>∃W:Nat->St->Hp->Prop,(∃m,W m σ H)/\∀m σ H,W m σ H ->
 c σ H λb H1=>if b=true then ∃N:St->Hp->Prop,(∀σ' H',N σ' H'->∃m',m' < m/\W m' σ' H')/\tb {D with nx:=N,ct:=N,bk:=D.nx} σ H1 else D.nx σ H1
variable{c:Expr}{tb:TS}
def aEq{tc:TT}(hp:PassesOwn (model X.prog X.w) X.A X.env X.xe)(hc:PT X c tc)(hb:PSs X body tb):PS X (.While c body [] pos) (tWhile tc tb):=by
 intro pins s σ H D I h;obtain⟨W,⟨m0,w0⟩,turn⟩:=h;refine wpAny_While (codeAny_whileLoop (λn s'=>∃σ' H',Inv X pins σ' H' s'/\W n σ' H') ?_ m0 ⟨σ,H,I,w0⟩);rintro n s1 ⟨σ1,H1,I1,w1⟩;refine aFH hp (thn (hc pins s1 σ1 H1 _ I1 (turn n σ1 H1 w1)) λb s2 ⟨H2,I2,q2⟩=>?_);cases b with
 |true =>
  obtain⟨N,hN,q2⟩:=q2;rw[aAG rfl];refine aFH hp (thn (hb pins s2 σ1 H2 _ I2 q2) λf s3 q3=>?_);cases f with
  |next =>
   obtain⟨σ3,H3,I3,n3⟩:=q3;obtain⟨m',hm,w3⟩:=hN σ3 H3 n3;exact⟨m',hm,σ3,H3,I3,w3⟩
  |cont =>
   obtain⟨σ3,H3,I3,n3⟩:=q3;obtain⟨m',hm,w3⟩:=hN σ3 H3 n3;exact⟨m',hm,σ3,H3,I3,w3⟩
  |brk=>exact q3|ret v=>exact q3
 |false =>
  rw[aAH aAY];exact aIV ⟨σ1,H2,I2,q2⟩
structure It where
 go:Nat->Hp->Prop
 yld:Nat->Hp->V->Hp->Prop
 stop:Nat->Hp->Prop
def FpOk(X:Cx)(pins:List (Addr×Obj))(H:Hp)(b:Addr):Prop :=
 H b=none/\b≠X.env.locals/\b∉X.fs/\(b∈X.ex\/X.s₀.heap.objs.size<=b)/\(∀x c,X.env.cells.lookup x=some c->c≠b)/\∀p∈X.pn++pins,p.1≠b
def Inv.fpOk(I:Inv X pins σ H s)(hb:s.heap.objs.size<=b)(hn:H' b=none):FpOk X pins H' b:=by
 refine⟨hn,aBJ (aAZ I.lt hb),I.nofs hb,.inr (aBS I.sz hb),λx c e z=>?_,λp hp z=>?_⟩
 ·obtain⟨v,q⟩:=I.cell x c e
  exact absurd (aAZ q.lt (by rw[z];exact hb)) (aGW _)
 ·exact absurd (aAZ (aAE (I.pin p hp).1) (by rw[z];exact hb)) (aGW _)
structure Turn(P:Program)(w:World)(K:Frag)(tg:Expr)(J:It)(fp:List Addr)(it:Addr)(tn:Nat->Heap->Prop)(q:Prop:=False):Prop where
 mem:it∈fp
 obj:∀i h,tn i h->∀b∈fp,∃o,h.get? b=some o/\∀v,o.data≠.cell v
 keep:∀i h h',tn i h->(∀b∈fp,∀o,h.get? b=some o->h'.get? b=some o)->tn i h'
 item:∀(X:Cx),X.prog=P->X.w=w->X.K=K->(X.calm=true\/q)->∀(i:Nat) (pins:List (Addr×Obj)) (s:Shared) (σ:St) (H:Hp) (E:Value->Shared->Prop),Inv X pins σ H s->(∀b∈fp,FpOk X pins H b)->tn i s.heap->J.go i H ->
  wpAny (model P w) X.A (pyNext (.ref it)) (λr s1=>∃u,r=some u /\
   wpAny (model P w) X.A (letOwnedTupleGo tg (.ref it) u) (λ_ s2=>∃x H',Inv X pins σ H' s2/\RelV x u/\J.yld i H x H'/\tn (i+1) s2.heap/\∀b∈fp,H' b=none) E s1) E s
 done:∀(X:Cx),X.prog=P->X.w=w->X.K=K->(X.calm=true\/q)->∀(i:Nat) (pins:List (Addr×Obj)) (s:Shared) (σ:St) (H:Hp) (E:Value->Shared->Prop),Inv X pins σ H s->(∀b∈fp,FpOk X pins H b)->tn i s.heap->J.stop i H ->
  wpAny (model P w) X.A (pyNext (.ref it)) (λr s1=>r=none/\Inv X pins σ H s1) E s
 self:∀(A:Around) (i:Nat) (s:Shared) (Q:Value->Shared->Prop) (E:Value->Shared->Prop),tn i s.heap->Q (.ref it) s->wpAny (model P w) A (pyIter (.ref it)) Q E s
def Turn.weak(T:Turn P w K tg J fp it tn True):Turn P w K tg J fp it tn q :=
 ⟨T.mem,T.obj,T.keep,λX a b c _=>T.item X a b c (.inr trivial),λX a b c _=>T.done X a b c (.inr trivial),T.self⟩
abbrev TI:=St->Hp->(It->Hp->Prop)->Prop
def PIQ(q:Prop)(X:Cx)(pins:List (Addr×Obj))(σ:St)(tg:Expr)(R:It->Hp->Prop)(itv:Value)(s2:Shared):Prop :=
 ∃(it:Addr) (fp:List Addr) (tn:Nat->Heap->Prop) (J:It) (H':Hp),itv=.ref it/\Inv X pins σ H' s2/\Turn X.prog X.w X.K tg J fp it tn q/\tn 0 s2.heap/\(∀b∈fp,FpOk X pins H' b)/\R J H'
def PI(X:Cx)(tg iter:Expr)(wi:TI)(q:Prop:=False):Prop :=
 ∀(pins:List (Addr×Obj)) (s:Shared) (σ:St) (H:Hp) (R:It->Hp->Prop),Inv X pins σ H s->wi σ H R ->
  wpAny (model X.prog X.w) X.A (eval iter X.env) (λv s1=>wpAny (model X.prog X.w) X.A (pyIter v) (PIQ q X pins σ tg R) X.xe s1) X.xe s
def aFp{n:String}(ho:s.heap.get? it=some o)(hc:o.cls=.type n)(hd:o.data=.fields vs)
  (hn:["enumerate","zip","dict_itemiterator","dict_reverseitemiterator","odict_iterator","itertools.zip_longest","itertools.pairwise"].contains n=false)(hQ:Q () s):wpAny M A (letOwnedTupleGo tg (.ref it) u) Q E s:=by
 unfold letOwnedTupleGo;cases tg <;> first
  |exact aAC hQ
  |(cases u <;> first
    |exact aAC hQ
    |(refine aAA (wpAny_load ho ?_)
      rw[hc,hd];show wpAny M A (if(["enumerate","zip","dict_itemiterator","dict_reverseitemiterator","odict_iterator","itertools.zip_longest","itertools.pairwise"].contains n&&vs[0]?==some (rawInt _))=true then _ else _) Q E s;rw[aAH (by intro h;rw[hn,Bool.false_and]at h;cases h)];exact aAC hQ))
def Itl(K:Frag)(a:Addr):It :=
 ⟨λi H=>∃xs x,SqL K H a xs/\xs[i]?=some x,λi H x H'=>H'=H/\∀xs,SqL K H a xs->xs[i]?=some x,λi H=>∃xs,SqL K H a xs/\xs.length<=i⟩
def Itt(K:Frag)(a:Addr):It :=
 ⟨λi H=>∃xs x,SqT K H a xs/\xs[i]?=some x,λi H x H'=>H'=H/\∀xs,SqT K H a xs->xs[i]?=some x,λi H=>∃xs,SqT K H a xs/\xs.length<=i⟩
def Itr(lo:Int)(n:Nat):It:=⟨λi _=>i < n,λi H x H'=>H'=H/\x=.int (lo+i),λi _=>n<=i⟩
def aBz(a it:Addr):Turn P w K tg (Itl K a) [it] it (λi h=>h.IsListIter it a i) True where
 mem:=by simp
 obj:=λi h st b hb=>by
  have e:b=it:=by simpa using hb
  subst e;obtain⟨o,e,c,d⟩:=st;exact⟨o,e,λv z=>by rw[d]at z;cases z⟩
 keep:=λi h h' st k=>st.at λo e=>k it (by simp) o e
 item:=by
  intro X hP hw hK hc i pins s σ H E I hf st hg;subst hP hw hK;obtain⟨xs,x,hq,hx⟩:=hg;obtain⟨its,rv,p,hz⟩:=I.list hq;obtain⟨u,hu,ru⟩:=rv.get hx;obtain⟨f0,f1,f2,f3,f4,f5⟩:=hf it (by simp);refine aIB st p.isList (x:=u) (by simpa using hu) λh' st' sb=>?_
  have I1:Inv X pins σ H {s with heap:=h'}:=I.turned (t':=s.toks) (λb o hb e=>(sb.2 b hb).trans e) f0 f1 f3 f4 f5;obtain⟨o,e,c,d⟩:=id st';exact⟨u,rfl,aFp (s:={s with heap:=h'}) e c d (by decide) ⟨x,H,I1,ru,⟨rfl,λys hy=>by rw[I.list_inj hy hq];exact hx⟩,st',λb hb=>(hf b hb).1⟩⟩
 done:=by
  intro X hP hw hK hc i pins s σ H E I hf st hg;subst hP hw hK;obtain⟨xs,hq,hx⟩:=hg;obtain⟨its,rv,p,hz⟩:=I.list hq;obtain⟨f0,f1,f2,f3,f4,f5⟩:=hf it (by simp);have hl:=rv.length;exact lB I.cm st p.isList (by simp;lia) λh' eb=>⟨rfl,I.turned (t':=s.toks) (λb o hb e=>eb b o hb e) f0 f1 f3 f4 f5⟩
 self:=λ_ _ _ _ _ st h=>wpAny_pyIter_listiter st h
def yM(a it:Addr):Turn P w K tg (Itt K a) [it] it (λi h=>h.IsTupleIter it a i) True where
 mem:=by simp
 obj:=λi h st b hb=>by
  have e:b=it:=by simpa using hb
  subst e;obtain⟨o,e,c,d⟩:=st;exact⟨o,e,λv z=>by rw[d]at z;cases z⟩
 keep:=λi h h' st k=>st.at λo e=>k it (by simp) o e
 item:=by
  intro X hP hw hK hc i pins s σ H E I hf st hg;subst hP hw hK;obtain⟨xs,x,hq,hx⟩:=hg;obtain⟨its,rv,p,hz⟩:=I.tuple hq;obtain⟨u,hu,ru⟩:=rv.get hx;obtain⟨f0,f1,f2,f3,f4,f5⟩:=hf it (by simp);refine aHQ st (show s.heap.IsTuple a its.toArray from p) (x:=u) (by simpa using hu) λh' st' sb=>?_
  have I1:Inv X pins σ H {s with heap:=h'}:=I.turned (t':=s.toks) (λb o hb e=>(sb.2 b hb).trans e) f0 f1 f3 f4 f5;obtain⟨o,e,c,d⟩:=id st';exact⟨u,rfl,aFp (s:={s with heap:=h'}) e c d (by decide) ⟨x,H,I1,ru,⟨rfl,λys hy=>by rw[I.tuple_inj hy hq];exact hx⟩,st',λb hb=>(hf b hb).1⟩⟩
 done:=by
  intro X hP hw hK hc i pins s σ H E I hf st hg;subst hP hw hK;obtain⟨xs,hq,hx⟩:=hg;obtain⟨its,rv,p,hz⟩:=I.tuple hq;obtain⟨f0,f1,f2,f3,f4,f5⟩:=hf it (by simp);have hl:=rv.length;exact eE I.cm st (show s.heap.IsTuple a its.toArray from p) (by simp;lia) λh' eb=>⟨rfl,I.turned (t':=s.toks) (λb o hb e=>eb b o hb e) f0 f1 f3 f4 f5⟩
 self:=λ_ _ _ _ _ st h=>wpAny_pyIter_tupleiter st h
def yQ(it:Addr)(lo:Int)(n:Nat):Turn P w K tg (Itr lo n) [it] it (λi h=>IsRangeIter h it (lo+(i:Nat)*1) ((n:Int) - (i:Nat)) 1) True where
 mem:=by simp
 obj:=λi h st b hb=>by
  have e:b=it:=by simpa using hb
  subst e;exact⟨_,st,λv z=>by
   have z':Data.fields _=Data.cell v:=z;cases z'⟩
 keep:=λi h h' st k=>k it (by simp) _ st
 item:=by
  intro X hP hw hK hc i pins s σ H E I hf st hg;subst hP hw hK;obtain⟨f0,f1,f2,f3,f4,f5⟩:=hf it (by simp);refine wpAny_pyNext_range_item st (by have:i < n:=hg;lia) λh' st' kk=>?_
  have I1:Inv X pins σ H {s with heap:=h',toks:=s.toks+1}:=I.turned (λb o hb e=>(kk.2 b hb).trans e) f0 f1 f3 f4 f5;refine⟨_,rfl,aFp (s:={s with heap:=h',toks:=s.toks+1}) (n:="range_iterator") st' rfl rfl (by decide) ⟨.int (lo+i),H,I1,⟨s.toks,?_⟩,⟨rfl,rfl⟩,?_,λb hb=>(hf b hb).1⟩⟩
  ·rw[Int.mul_one]
  ·have e1:lo+(((i+1:Nat):Int))*1=lo+(i:Nat)*1+1:=by lia
   have e2:(n:Int) - ((i+1:Nat):Int)=(n:Int) - (i:Nat) - 1:=by lia
   show IsRangeIter _ _ (lo+(((i+1:Nat):Int))*1) ((n:Int) - ((i+1:Nat):Int)) 1;rw[e1,e2];exact st'
 done:=by
  intro X hP hw hK hc i pins s σ H E I hf st hg;subst hP hw hK;obtain⟨f0,f1,f2,f3,f4,f5⟩:=hf it (by simp);exact sO I.cm st (by have:n<=i:=hg;lia) λh' eb=>⟨rfl,I.turned (t':=s.toks) (λb o hb e=>eb b o hb e) f0 f1 f3 f4 f5⟩
 self:=λ_ _ _ _ _ st h=>wpAny_pyIter_rangeiter st h
def vF{R:It->Hp->Prop}{lo hi:Int}{t u v:Tok}{tk:Nat}(I:Inv X pins σ H s)(h1 : -(2 ^ 62)<=lo)(h2:lo < 2 ^ 62)(h3 : -(2 ^ 62)<=hi)(h4:hi < 2 ^ 62)
  (q:R (Itr lo (hi - lo).toNat) H):wpAny (model X.prog X.w) X.A (pyIter (.ref s.heap.objs.size)) (PIQ qq X pins σ tg R) E {s with heap:=s.heap.push {cls:=.type "range",data:=.fields #[.int lo t,.int hi u,.int 1 v]},toks:=tk}:=by
 refine wpAny_pyIter_range (IsRange.new ..) (small_one h1 h2 h3 h4) ?_;have I1:Inv X pins σ H {s with heap:=s.heap.push {cls:=.type "range",data:=.fields #[.int lo t,.int hi u,.int 1 v]},toks:=tk}:=I.kept λb o e=>aAB _ e
 refine⟨(s.heap.push {cls:=.type "range",data:=.fields #[.int lo t,.int hi u,.int 1 v]}).objs.size,[(s.heap.push {cls:=.type "range",data:=.fields #[.int lo t,.int hi u,.int 1 v]}).objs.size],_,_,H,rfl,
  I1.kept (t':=tk) λb o e=>aAB _ e,(yQ _ lo (hi - lo).toNat).weak,?_,λb hb=>?_,q⟩
 ·have e1:lo+((0:Nat):Int)*1=lo:=by simp
  have e2:(((hi - lo).toNat:Nat):Int) - ((0:Nat):Int)=Builtin.Range.rangeSize lo hi 1:=by rw[rangeSize_one];split <;> lia
  show IsRangeIter _ _ (lo+((0:Nat):Int)*1) ((((hi - lo).toNat:Nat):Int) - ((0:Nat):Int)) 1;rw[e1,e2];exact aAI _ rfl
 ·have e:b=(s.heap.push {cls:=.type "range",data:=.fields #[.int lo t,.int hi u,.int 1 v]}).objs.size:=by simpa using hb
  subst e;exact I1.fpOk (aAD _) (I1.hok.fresh (aAD _))
def iRng1(ta:TA):TI:=λσ H R=>ta σ H λvs H1=>∃j:Int,vs=[.int j] /\ -(2 ^ 62)<=j/\j < 2 ^ 62/\R (Itr 0 j.toNat) H1
def iRng2(ta:TA):TI:=λσ H R=>ta σ H λvs H1=>∃i j:Int,vs=[.int i,.int j]/\(-(2 ^ 62)<=i/\i < 2 ^ 62 /\ -(2 ^ 62)<=j/\j < 2 ^ 62)/\R (Itr i (j - i).toNat) H1
def aBr(hg:Gl X "range")(hm:X.mg "range"=none)(ha:PA X [a] ta)(hs:starEach [a] X.env=[(false,eval a X.env)]:=by rfl):PI X tg (.Call (.Name "range" p) [a] [] pos) (iRng1 ta) qq:=by
 intro pins s σ H R I h;refine Call_ (dJ I hg hm boot_range (aDI (thn (ha pos pins s σ H _ I h) λus s1 ⟨vs,H1,I1,r1,q1⟩=>?_) hs rfl));obtain⟨j,e,q1,q2,q⟩:=q1;subst e;cases r1 with
 |cons r rr =>
  cases rr;obtain⟨t,rfl⟩:=r;exact call_range_1 (vF I1 (by lia) (by lia) q1 q2 (by simpa using q))
def aDp{b:Expr}(hg:Gl X "range")(hm:X.mg "range"=none)(ha:PA X [a,b] ta)(hs:starEach [a,b] X.env=[(false,eval a X.env),(false,eval b X.env)]:=by rfl)(hs2:starEach [b] X.env=[(false,eval b X.env)]:=by rfl) :
  PI X tg (.Call (.Name "range" p) [a,b] [] pos) (iRng2 ta) qq:=by
 intro pins s σ H R I h;refine Call_ (dJ I hg hm boot_range (aDI (thn (ha pos pins s σ H _ I h) λus s1 ⟨vs,H1,I1,r1,q1⟩=>?_) (by rw[hs,hs2]) (by rw[hs2];rfl)));obtain⟨i,j,e,⟨q1,q2,q3,q4⟩,q⟩:=q1;subst e;cases r1 with
 |cons r rr =>
  cases rr with
  |cons r' rr =>
   cases rr;obtain⟨t,rfl⟩:=r;obtain⟨t',rfl⟩:=r';exact call_range_2 (vF I1 q1 q2 q3 q4 q)
def tFor(wi:TI)(g:TG)(tb:TS):TS:=λD σ H=>wi σ H λJ H1=>∃W:Nat->Nat->St->Hp->Prop,(∃m,W 0 m σ H1)/\∀i m σ H,W i m σ H ->
 (J.stop i H/\D.nx σ H)\/(J.go i H/\∃N:St->Hp->Prop,(∀σ' H',N σ' H'->∃m',m' < m/\W (i+1) m' σ' H')/\∀x H',J.yld i H x H'->g x σ H' λσ2 H2=>tb {D with nx:=N,ct:=N,bk:=D.nx} σ2 H2)
def pinsAt(fp:List Addr)(h:Heap):List (Addr×Obj):=fp.filterMap λb=>(h.get? b).map λo=>(b,o)
def cA(hb:b∈fp)(e:h.get? b=some o):(b,o)∈pinsAt fp h:=aHF.mpr ⟨b,hb,by rw[e];rfl⟩
def aDa{p:Addr×Obj}(hp:p∈pinsAt fp h):p.1∈fp/\h.get? p.1=some p.2:=by
 obtain⟨b,hb,e⟩:=aHF.mp hp;cases q:h.get? b with
 |none=>rw[q]at e;cases e
 |some o =>
  rw[q]at e;have e':(b,o)=p:=Option.some.inj e;subst e';exact⟨hb,q⟩
def Inv.pinned{fp:List Addr}(I:Inv X pins σ H s)(hf:∀b∈fp,FpOk X pins H b)(ho:∀b∈fp,∃o,s.heap.get? b=some o/\∀v,o.data≠.cell v):Inv X (pins++pinsAt fp s.heap) σ H s :=
 I.pins_of λp hp=>(aCH.mp hp).elim (λz=>I.pin p (aBN _ z)) λz=>by
  obtain⟨hb,e⟩:=aDa z;obtain⟨f0,f1,f2,_⟩:=hf p.1 hb;obtain⟨o,e',d⟩:=ho p.1 hb;rw[e]at e';cases e';exact⟨e,f0,f1,f2,d⟩
def Inv.unpinned{pl:List (Addr×Obj)}(I:Inv X (pins++pl) σ H s):Inv X pins σ H s:=I.pins_of λp hp=>I.pin p (aBN _ (List.mem_append_left _ hp))
def aKi{iter:Expr}{wi:TI}(hp:PassesOwn (model X.prog X.w) X.A X.env X.xe)(hc:X.calm=true\/q)(hi:PI X tg iter wi q)(hg:PG X tg g)(hb:PSs X body tb)
  (hs:∀x,foldedSetIterable iter X.env x=pure x:=by intro _;rfl):PS X (.For tg iter body [] pos) (tFor wi g tb):=by
 intro pins s σ H D I h;refine wpAny_For (thn (hi pins s σ H _ I h) λv s1 h1=>thn h1 λitv s2 h2=>?_) hs;obtain⟨it,fp,tn,J,H2,e,I2,T,st2,f2,W,⟨m0,w0⟩,turn⟩:=h2;subst e;have stat:∀{H':Hp},(∀b∈fp,H' b=none)->∀b∈fp,FpOk X pins H' b:=λhn b hb=>⟨hn b hb,(f2 b hb).2⟩
 refine codeAny_forLoop_any (λn s'=>∃i σ' H',Inv X pins σ' H' s'/\tn i s'.heap/\(∀b∈fp,H' b=none)/\W i n σ' H') ?_ m0 ⟨0,σ,H2,I2,st2,λb hb=>(f2 b hb).1,w0⟩;rintro n s3 ⟨i,σ3,H3,I3,st3,fr3,w3⟩;rcases turn i n σ3 H3 w3 with⟨stop,qn⟩|⟨go,N,hN,step⟩
 ·refine aFH hp (thn (T.done X rfl rfl rfl hc i pins s3 σ3 H3 X.xe I3 (stat fr3) st3 stop) λr s4 ⟨hr,I4⟩=>?_)
  subst hr;exact aIV ⟨σ3,H3,I4,qn⟩
 ·refine aFH hp (thn (T.item X rfl rfl rfl hc i pins s3 σ3 H3 X.xe I3 (stat fr3) st3 go) λr s4 ⟨u,hr,h4⟩=>?_)
  subst hr;refine aFH hp (thn h4 λ_ s5 ⟨x,H5,I5,r5,y5,st5,fr5⟩=>?_);have I5':=I5.pinned (stat fr5) (T.obj _ _ st5);refine aFH hp (thn (hg _ s5 σ3 H5 x u _ I5' r5 (step x H5 y5)) λ_ s6 ⟨σ6,H6,I6,q6⟩=>?_);refine aFH hp (thn (hb _ s6 σ6 H6 _ I6 q6) λf s7 q7=>?_);have again:∀{σ7:St} {H7:Hp},Inv X (pins++pinsAt fp s5.heap) σ7 H7 s7->N σ7 H7->∃m,m < n/\∃i σ' H',Inv X pins σ' H' s7/\tn i s7.heap/\(∀b∈fp,H' b=none)/\W i m σ' H':=λ{σ7 H7} I7 n7=>by
   obtain⟨m',hm,w7⟩:=hN σ7 H7 n7;refine⟨m',hm,i+1,σ7,H7,I7.unpinned,T.keep _ _ _ st5 λb hb o e=>(I7.pin (b,o) (aBN _ (aBN _ (cA hb e)))).1,λb hb=>?_,w7⟩;obtain⟨o,e,d⟩:=T.obj _ _ st5 b hb;exact(I7.pin (b,o) (aBN _ (aBN _ (cA hb e)))).2.1
  cases f with
  |next=>obtain⟨σ7,H7,I7,n7⟩:=q7;exact again I7 n7
  |cont=>obtain⟨σ7,H7,I7,n7⟩:=q7;exact again I7 n7
  |brk=>obtain⟨σ7,H7,I7,q7⟩:=q7;exact⟨σ7,H7,I7.unpinned,q7⟩
  |ret v=>obtain⟨x7,σ7,H7,I7,r7,q7⟩:=q7;exact⟨x7,σ7,H7,I7.unpinned,r7,q7⟩
abbrev R2:=V->V->Hp->VK->Prop
def OpR(X:Cx)(f:Value->Value->Sem Value)(r:R2):Prop :=
 ∀(pins:List (Addr×Obj)) (s:Shared) (σ:St) (H:Hp) (x y:V) (v u:Value) (Q:VK),Inv X pins σ H s->RelV x v->RelV y u->r x y H Q ->
  wpAny (model X.prog X.w) X.A (f v u) (EP X pins σ Q) X.xe s
def UnR(X:Cx)(f:Value->Sem Value)(r:V->Hp->VK->Prop):Prop :=
 ∀(pins:List (Addr×Obj)) (s:Shared) (σ:St) (H:Hp) (x:V) (v:Value) (Q:VK),Inv X pins σ H s->RelV x v->r x H Q ->
  wpAny (model X.prog X.w) X.A (f v) (EP X pins σ Q) X.xe s
def CallR(X:Cx)(f:Value)(r:List V->Hp->VK->Prop):Prop :=
 ∀(pins:List (Addr×Obj)) (s:Shared) (σ:St) (H:Hp) (xs:List V) (us:List Value) (Q:VK),Inv X pins σ H s->Vals xs us->r xs H Q ->
  wpAny (model X.prog X.w) X.A (call f us) (EP X pins σ Q) X.xe s
def TruR(X:Cx)(r:V->Hp->(Bool->Hp->Prop)->Prop):Prop :=
 ∀(pins:List (Addr×Obj)) (s:Shared) (σ:St) (H:Hp) (x:V) (v:Value) (Q:Bool->Hp->Prop),Inv X pins σ H s->RelV x v->r x H Q ->
  wpAny (model X.prog X.w) X.A (truthy v) (TP X pins σ Q) X.xe s
def tOp(r:R2)(ta tb:TE):TE:=λσ H Q=>ta σ H λx H1=>tb σ H1 λy H2=>r x y H2 Q
def tUn(r:V->Hp->VK->Prop)(ta:TE):TE:=λσ H Q=>ta σ H λx H1=>r x H1 Q
def rI(C:Int->Int->Prop)(g:Int->Int->V):R2:=λx y H Q=>∃i j,x=.int i/\y=.int j/\C i j/\Q (g i j) H
def rI0(g:Int->Int->V):R2:=λx y H Q=>∃i j,x=.int i/\y=.int j/\Q (g i j) H
def rU(g:Int->V):V->Hp->VK->Prop:=λx H Q=>∃i,x=.int i/\Q (g i) H
variable{b:Expr}{ta tb tc:TE}{Q:Value->Shared->Prop}{f:Value->Value->Sem Value}
def binT(ha:PE X a ta)(hb:PE X b tb){R:V->V->Hp->Prop}(I:Inv X pins σ H s)
  (h:ta σ H λx H1=>tb σ H1 λy H2=>R x y H2) 
  (hf:∀v u s2 x y H2,Inv X pins σ H2 s2->RelV x v->RelV y u->R x y H2->wpAny (model X.prog X.w) X.A (f v u) Q X.xe s2) :
  wpAny (model X.prog X.w) X.A (eval a X.env) (λv s₁=>wpAny (model X.prog X.w) X.A (eval b X.env) (λu s₂=>wpAny (model X.prog X.w) X.A (f v u) Q X.xe s₂) X.xe s₁) X.xe s:=by
 refine thn (ha pins s σ H _ I h) λv s1 ⟨x,H1,I1,r1,q1⟩=>?_
 refine thn (hb pins s1 σ H1 _ I1 q1) λu s2 ⟨y,H2,I2,r2,q2⟩=>?_
 exact hf v u s2 x y H2 I2 r1 r2 q2
def aQv{op:Operator}(ho:OpR X (binaryOp op) r)(ha:PE X a ta)(hb:PE X b tb):PE X (.BinOp a op b pos) (tOp r ta tb):=by
 intro pins s σ H Q I h;exact wpAny_BinOp (binT ha hb I h λv u s2 x y H2 I2 rx ry q=>ho pins s2 σ H2 x y v u Q I2 rx ry q)
def aRb{op:UnaryOp}{r:V->Hp->VK->Prop}(ho:UnR X (unaryOp op) r)(ha:PE X a ta):PE X (.UnaryOp op a pos) (tUn r ta):=by
 intro pins s σ H Q I h;exact UnaryOp_ (thn (ha pins s σ H _ I h) λv s1 ⟨x,H1,I1,r1,q1⟩=>ho pins s1 σ H1 x v Q I1 r1 q1)
variable{g:Int->Int->Int}
def opI{C:Int->Int->Prop}
  (rule:∀(i j:Int) (t u:Tok) (s:Shared) (Q:Value->Shared->Prop) (E:Value->Shared->Prop),C i j->Q (.int (g i j) s.toks) {s with toks:=s.toks+1}->wpAny (model X.prog X.w) X.A (f (.int i t) (.int j u)) Q E s) :
  OpR X f (rI C λi j=>.int (g i j)):=by
 intro pins s σ H x y v u Q I rx ry h;obtain⟨i,j,rfl,rfl,hc,q⟩:=h;obtain⟨t,rfl⟩:=rx;obtain⟨t',rfl⟩:=ry;exact rule i j t t' s _ _ hc ⟨.int (g i j),H,I.tok _,⟨_,rfl⟩,q⟩
def opI0 
  (rule:∀(i j:Int) (t u:Tok) (s:Shared) (Q:Value->Shared->Prop) (E:Value->Shared->Prop),Q (.int (g i j) s.toks) {s with toks:=s.toks+1}->wpAny (model X.prog X.w) X.A (f (.int i t) (.int j u)) Q E s) :
  OpR X f (rI0 λi j=>.int (g i j)):=by
 intro pins s σ H x y v u Q I rx ry h;obtain⟨i,j,rfl,rfl,q⟩:=h;obtain⟨t,rfl⟩:=rx;obtain⟨t',rfl⟩:=ry;exact rule i j t t' s _ _ ⟨.int (g i j),H,I.tok _,⟨_,rfl⟩,q⟩
def opB0{g:Int->Int->Bool}
  (rule:∀(i j:Int) (t u:Tok) (s:Shared) (Q:Value->Shared->Prop) (E:Value->Shared->Prop),Q (.bool (g i j)) s->wpAny (model X.prog X.w) X.A (f (.int i t) (.int j u)) Q E s) :
  OpR X f (rI0 λi j=>.bl (g i j)):=by
 intro pins s σ H x y v u Q I rx ry h;obtain⟨i,j,rfl,rfl,q⟩:=h;obtain⟨t,rfl⟩:=rx;obtain⟨t',rfl⟩:=ry;exact rule i j t t' s _ _ ⟨.bl (g i j),H,I,rfl,q⟩
def CPow(i j:Int):Prop:=0<=j/\j<=1000000/\i.natAbs < 2 ^ 64
def CMul(i j:Int):Prop:=(-(2 ^ 64) < i/\i < 2 ^ 64)\/(-(2 ^ 64) < j/\j < 2 ^ 64)
def CMul.ok{i j:Int}(h:CMul i j):IntMulOk i j:=by
 rcases h with⟨h1,h2⟩|⟨h1,h2⟩
 ·exact .of_left (intBits_le_64 h1 h2)
 ·exact .of_right (intBits_le_64 h1 h2)
def aMr:OpR X (binaryOp .Add) (rI0 λi j=>.int (i+j)):=opI0 λ_ _ _ _ _ _ _ q=>add_int q
def aLz:OpR X (binaryOp .Sub) (rI0 λi j=>.int (i - j)):=opI0 λ_ _ _ _ _ _ _ q=>sub_int q
def aPn:OpR X (binaryOp .Mod) (rI (λ_ j=>0 < j) λi j=>.int (i % j)):=opI λi j _ _ _ _ _ hc q=>by
 have h1:(0:Int) < j:=hc;exact mod_int' (by lia) (by rw[Int.fmod_eq_emod_of_nonneg i (by lia)];exact q)
def aOr:OpR X (binaryOp .Pow) (rI CPow λi j=>.int (i ^ j.toNat)):=opI λ_ _ _ _ _ _ _ hc q=>pow_int_small hc.1 hc.2.1 hc.2.2 q
def unI{f:Value->Sem Value}{g:Int->Int}
  (rule:∀(i:Int) (t:Tok) (s:Shared) (Q:Value->Shared->Prop) (E:Value->Shared->Prop),Q (.int (g i) s.toks) {s with toks:=s.toks+1}->wpAny (model X.prog X.w) X.A (f (.int i t)) Q E s) :
  UnR X f (rU λi=>.int (g i)):=by
 intro pins s σ H x v Q I rx h;obtain⟨i,rfl,q⟩:=h;obtain⟨t,rfl⟩:=rx;exact rule i t s _ _ ⟨.int (g i),H,I.tok _,⟨_,rfl⟩,q⟩
def aPx:UnR X (unaryOp .USub) (rU λi=>.int (-i)):=unI λ_ _ _ _ _ q=>neg_int q
def aQd:OpR X (compareOp .Lt) (rI0 λi j=>.bl (decide (i < j))):=opB0 λ_ _ _ _ _ _ _ q=>lt_int q
def aRe:OpR X (compareOp .Gt) (rI0 λi j=>.bl (decide (j < i))):=opB0 λ_ _ _ _ _ _ _ q=>gt_int q
def aQf:OpR X (compareOp .GtE) (rI0 λi j=>.bl (decide (j<=i))):=opB0 λ_ _ _ _ _ _ _ q=>ge_int q
def nomark(b:Expr)(h:op≠.In:=by decide)(h2:op≠.NotIn:=by decide):behindInMarks op b=false:=by
 have e1:(op==CmpOp.In)=false:=by cases op <;> first|rfl|exact absurd rfl h
 have e2:(op==CmpOp.NotIn)=false:=by cases op <;> first|rfl|exact absurd rfl h2
 cases b <;> simp[behindInMarks,e1,e2]
variable{r:R2}
def aJa(ho:OpR X (compareOp op) r)(ha:PE X a ta)(hb:PE X b tb)(hm:behindInMarks op b=false):PE X (.Compare a [op] [b] pos) (tOp r ta tb):=by
 intro pins s σ H Q I h;exact wpAny_Compare1 (binT ha hb I h λv u s2 x y H2 I2 rx ry q=>ho pins s2 σ H2 x y v u Q I2 rx ry q) hm
def tTest(t:TE):TT:=λσ H Q=>t σ H λx H'=>∃k,x=.bl k/\Q k H'
def aLb(ho:OpR X (compareOp op) r)(ha:PE X a ta)(hb:PE X b tb)(hm:behindInMarks op b=false):PT X (.Compare a [op] [b] pos) (tTest (tOp r ta tb)):=by
 intro pins s σ H Q I h;refine wpAny_isTrue_Compare1 (thn (ha pins s σ H _ I h) λv s1 ⟨x,H1,I1,r1,q1⟩=>thn (hb pins s1 σ H1 _ I1 q1) λu s2 ⟨y,H2,I2,r2,q2⟩ =>
  thn (ho pins s2 σ H2 x y v u _ I2 r1 r2 q2) λc s3 ⟨z,H3,I3,r3,k,e,q3⟩=>?_) hm
 subst e;cases r3;exact aGH ⟨H3,I3,q3⟩
def TruV(K:Frag)(x:V)(H:Hp)(k:Bool):Prop :=
 match x with
 |.non=>k=false|.bl b=>k=b|.int i=>k=(i != 0)|.str y=>y.length<=sizeLine/\k=((y.length:Int) != 0)|.byt y=>y.size<=sizeLine/\k=((y.size:Int) != 0)|.ref p=>(∃xs,SqL K H p xs/\k=!xs.isEmpty)\/(∃xs,SqT K H p xs/\k=!xs.isEmpty)\/∃kvs,H p=some (.dK kvs)/\k=!kvs.isEmpty|_=>False
def xH{κ:Type}{kvs:List (κ×V)}{vs:List (κ×Value)}(r:KV kvs vs):(!vs.isEmpty)=!kvs.isEmpty:=by
 cases r <;> rfl
def oW(r:Vals xs its):(!its.toArray.isEmpty)=!xs.isEmpty:=by
 cases r <;> simp
def line63:(sizeLine:Nat) < 2 ^ 63:=by rw[aBE];decide
def aPf:TruR X (λx H Q=>∃k,TruV X.K x H k/\Q k H):=by
 intro pins s σ H x v Q I rx h;obtain⟨k,e,q⟩:=h;have hl:=line63;have hs:sizeLine=16777216:=aBE;cases x with
 |non =>
  cases rx;have e':k=false:=e;subst e';exact truthy_none ⟨H,I,q⟩
 |bl b =>
  cases rx;have e':k=b:=e;subst e';exact aGH ⟨H,I,q⟩
 |int i =>
  obtain⟨t,rfl⟩:=rx;have e':k=(i != 0):=e;subst e';exact PySem.P.truthy_int ⟨H,I,q⟩
 |str y =>
  obtain⟨t,rfl⟩:=rx;obtain⟨hy,e'⟩:y.length<=sizeLine/\k=((y.length:Int) != 0):=e;subst e';exact PySem.P.truthy_str (by lia) ⟨H,I.tok _,q⟩
 |byt y =>
  obtain⟨t,rfl⟩:=rx;obtain⟨hy,e'⟩:y.size<=sizeLine/\k=((y.size:Int) != 0):=e;subst e';exact PySem.W.truthy_bytes (by lia) ⟨H,I.tok _,q⟩
 |ref p =>
  cases rx;have e':(∃xs,SqL X.K H p xs/\k=!xs.isEmpty)\/(∃xs,SqT X.K H p xs/\k=!xs.isEmpty)\/∃kvs,H p=some (.dK kvs)/\k=!kvs.isEmpty:=e;rcases e' with⟨xs,hx,e'⟩|⟨xs,hx,e'⟩|⟨kvs,hx,e'⟩
  ·subst e'
   obtain⟨its,r,pl,hz⟩:=I.list hx;have hlen:=r.length;exact wpAny_truthy_list pl.isList (by simp only[aAL];lia) ⟨H,I.tok _,by rw[oW r];exact q⟩
  ·subst e'
   obtain⟨its,r,pl,hz⟩:=I.tuple hx;have hlen:=r.length;exact truthy_tuple pl (by simp only[aAL];lia) ⟨H,I.tok _,by rw[oW r];exact q⟩
  ·subst e'
   obtain⟨hz,hS,vs,r,m⟩:kvs.length<=sizeLine/\(p==sysModules)=false/\∃vs,KV kvs vs/\s.heap.DictOf (mixKind X.prog X.w) p vs:=I.hok p _ hx;have hlen:kvs.length=vs.length:=Paired.length r;exact wpAny_truthy_dict hS m (by lia) ⟨H,I.tok _,by rw[xH r];exact q⟩
 |_=>exact(show False from e).elim
def aFd(ha:PE X a ta)(he:∀whole,isTrue a X.env whole=(do let v <- whole;standAt a.pos;holding [v] (truthy v))) :
  PT X a (λσ H Q=>ta σ H λx H'=>∃k,TruV X.K x H' k/\Q k H'):=by
 intro pins s σ H Q I h;exact isTrue_plain (thn (ha pins s σ H _ I h) λv s1 ⟨x,H1,I1,r1,q1⟩=>aPf pins s1 σ H1 x v Q I1 r1 q1) (he _)
def yW:OpR X (binaryOp .Add) (λx y H Q=>∃i j,x=.str i/\y=.str j/\i.length+j.length<=sizeLine/\Q (.str (i++j)) H):=by
 intro pins s σ H x y v u Q I rx ry h;obtain⟨i,j,rfl,rfl,hz,q⟩:=h;obtain⟨t,rfl⟩:=rx;obtain⟨t',rfl⟩:=ry;exact add_str (λt' tk=>⟨.str (i++j),H,I.tok _,⟨_,rfl⟩,q⟩) hz
variable{x:V}
def vals1(r:Vals [x] us):∃u,us=[u]/\RelV x u:=by
 cases r with
 |cons r1 r2=>cases r2;exact⟨_,rfl,r1⟩
def vals2(r:Vals [x,y] us):∃u w',us=[u,w']/\RelV x u/\RelV y w':=by
 cases r with
 |cons r1 r2 =>
  cases r2 with
  |cons r3 r4=>cases r4;exact⟨_,_,rfl,r1,r3⟩
def aDd(hc:X.calm=true):CallR X (.builtin "max") (λxs H Q=>∃i j,xs=[.int i,.int j]/\Q (.int (if j > i then j else i)) H):=by
 intro pins s σ H xs us Q I r h;obtain⟨i,j,rfl,q⟩:=h;obtain⟨u,w',rfl,⟨t,rfl⟩,⟨t',rfl⟩⟩:=vals2 r;refine max_two_ints (I.ok.hd hc) λh' tk k=>⟨_,H,I.kept k,?_,q⟩
 by_cases hj:j > i
 ·rw[aAG hj,aAG hj];exact⟨_,rfl⟩
 ·rw[aAH hj,aAH hj];exact⟨_,rfl⟩
def aBx(hc:X.calm=true):CallR X (.builtin "min") (λxs H Q=>∃i j,xs=[.int i,.int j]/\Q (.int (if j < i then j else i)) H):=by
 intro pins s σ H xs us Q I r h;obtain⟨i,j,rfl,q⟩:=h;obtain⟨u,w',rfl,⟨t,rfl⟩,⟨t',rfl⟩⟩:=vals2 r;refine min_two_ints (I.ok.hd hc) λh' tk k=>⟨_,H,I.kept k,?_,q⟩
 by_cases hj:j < i
 ·rw[aAG hj,aAG hj];exact⟨_,rfl⟩
 ·rw[aAH hj,aAH hj];exact⟨_,rfl⟩
def aDg:CallR X (.type "int") (λxs H Q=>(∃i,xs=[.int i]/\Q (.int i) H)\/∃k,xs=[.bl k]/\Q (.int (if k then 1 else 0)) H):=by
 intro pins s σ H xs us Q I r h;rcases h with⟨i,rfl,q⟩|⟨k,rfl,q⟩
 ·obtain⟨u,rfl,t,rfl⟩:=vals1 r
  exact call_int_int ⟨.int i,H,I,⟨_,rfl⟩,q⟩
 ·obtain⟨u,rfl,r1⟩:=vals1 r
  cases r1;exact call_int_bool ⟨.int (if k then 1 else 0),H,I.tok _,⟨_,rfl⟩,q⟩
structure ObjM(h:Heap)(x dx C:Addr)(mA:Str->Option Value):Prop where
 obj:h.get? x=some (PySem.W.instObj C dx)
 ns:h.Ns1 dx mA
 ne:dx≠x
def aCr(n:h.Ns1 dx mA):∃od,h.get? dx=some od/\∀name,PySem.W.lookIn name od=some (mA name):=by
 obtain⟨o,es,ep,ho,hd,hk,_,hm⟩:=n;refine⟨o,ho,λname=>?_⟩;have e:=hm name;unfold nsFind findBy at e;rw[<- Array.find?_toList]at e;unfold PySem.W.lookIn;rw[hd];dsimp only;split
 ·rename_i y q
  rw[q]at e;exact congrArg some e
 ·rename_i q
  rw[q]at e;have a:es.toList.any (·.refKey)=false:=by
   rw[List.any_eq_false];intro y hy;obtain⟨z,t,hkey⟩:=hk y (aIZ.mp hy);simp[DictEntry.refKey,hkey]
  have a':¬es.toList.any (·.refKey)=true:=by rw[a];exact aAY
  rw[aAH a'];exact congrArg some e
def ObjM.look{x:Addr}(I:ObjM h x dx C mA):∃od,PySem.W.InstAt h x (PySem.W.instObj C dx) C (some od)/\∀name,PySem.W.lookIn name od=some (mA name) :=
 let⟨od,ho,hl⟩:=aCr I.ns
 ⟨od,⟨I.obj,rfl,rfl,ho⟩,hl⟩
variable{K:Frag}{x f:Addr}{v:Value}{v:V}
def RelO.some_of{o:Option Value}(r:RelO (some v) o):∃u,o=some u/\RelV v u:=by
 cases o with
 |none=>exact(show False from r).elim
 |some u=>exact⟨u,rfl,r⟩
section
variable{a:Addr}{fs fs':List (Str×V)}
def aId(hok:HOk P w H h)(e:H a=some (.ins C dx fs)):∃mA,ObjM h a dx C mA/\(∀f,RelO (fs.lookup f) (mA f))/\PySem.Within mA (fs.map (·.1))/\fs.length<=1000/\H dx=some (.own a):=by
 obtain⟨d,z,ne,ob,mA,n,r,q⟩:=(show ObjOk P w H h a (.ins C dx fs)from hok a _ e)
 exact⟨mA,⟨ob,n,ne⟩,r,q,z,d⟩
end
structure Cls(K:Frag)(C:Addr):Prop where
 pg:PySem.W.plainGet K C Str.empty=true
 hd:PySem.W.hasDictIn K C=true
 po:PySem.W.plainOver K C=true
 sa:PySem.W.findIn K (.ref C) "__setattr__"=some (some (.builtin "object.__setattr__"))
def Cls.get{C:Addr}(c:Cls K C)(f:Str):PySem.W.plainGet K C f=true:=c.pg
structure Con(K:Frag)(C:Addr)(f:Str)(v:V)(u:Value):Prop where
 at_:PySem.W.findIn K (.ref C) f=some (some u)
 rel:RelV v u
 get:PySem.W.specialIn K u "__get__"=some none
 cp:PySem.W.copiedNames.contains f=false
structure Meth(K:Frag)(C:Addr)(m:Str)(f:Addr):Prop where
 at_:PySem.W.findIn K (.ref C) m=some (some (.ref f))
 fn:PySem.W.isFn K (.ref f)=true
 kp:keepIn K (.ref f)=true
section
variable{a:Addr}{fs:List (Str×V)}{f:Str}
end
variable{o value:Expr}{f:Str}{tv:TE}{c:Value}{b:Bool}
inductive TyOf(K:Frag)(H:Hp):V->Value->Prop where
 |non:TyOf K H .non (.type "NoneType")
 |bl (x:Bool):TyOf K H (.bl x) (.type "bool")
 |int (i:Int):TyOf K H (.int i) (.type "int")
 |str (x:Str):TyOf K H (.str x) (.type "str")
 |flt (x:UInt64):TyOf K H (.flt x) (.type "float")
 |lst {a:Addr} {xs:List V} (e:H a=some (.lst xs)):TyOf K H (.ref a) (.type "list")
 |frz {a:Addr} {o:Obj} {xs:List V} (e:H a=some (.frz o (.lst xs))):TyOf K H (.ref a) (.type "list")
 |tup {a:Addr} {xs:List V} (e:H a=some (.tup xs)):TyOf K H (.ref a) (.type "tuple")
 |dK {a:Addr} {kvs:List (Key×V)} (e:H a=some (.dK kvs)):TyOf K H (.ref a) (.type "dict")
 |dT {a:Addr} {kvs:List (List Key×V)} (e:H a=some (.dT kvs)):TyOf K H (.ref a) (.type "dict")
 |ins {a C dx:Addr} {fs:List (Str×V)} (e:H a=some (.ins C dx fs)) (cl:Cls K C) (ha:PySem.W.findIn K (.ref C) "__class__"=some (some (.builtin "object.__class__")))
   (hn:PySem.W.specialIn K (.builtin "object.__class__") "__get__"=some (some (.builtin "getset_descriptor.__get__"))) (htk:PySem.W.takesIn K (.builtin "object.__class__")=some true)
   (hm:PySem.W.mroIn K C (.type "object")=some true):TyOf K H (.ref a) (.ref C)
def aDh{x:V}{t:Value}(I:Inv X pins σ H s)(rx:RelV x u)(ty:TyOf X.K H x t)(e:PySem.W.kitOne X.K t c=some b)(h:∀tk,Q (.bool b) {s with toks:=tk}) :
  wpAny (model X.prog X.w) A (call (.builtin "isinstance") [u,c]) Q E s:=by
 cases ty with
 |non=>cases(show u=Value.none from rx);exact aDH PySem.W.kitx_none I.kIn True.intro e (λz=>nomatch z) h
 |bl y=>cases(show u=Value.bool y from rx);exact aDH PySem.W.kitx_bool I.kIn True.intro e (λz=>nomatch z) h
 |int i=>obtain⟨t,q⟩:=(show ∃t,u=Value.int i t from rx);cases q;exact aDH PySem.W.kitx_int I.kIn True.intro e (λz=>nomatch z) h
 |str y=>obtain⟨t,q⟩:=(show ∃t,u=Value.str y t from rx);cases q;exact aDH PySem.W.kitx_str I.kIn True.intro e (λz=>nomatch z) h
 |flt y=>obtain⟨t,q⟩:=(show ∃t,u=Value.float y t from rx);cases q;exact aDH PySem.W.kitx_float I.kIn True.intro e (λz=>nomatch z) h
 |@lst a xs ea =>
  cases(show u=Value.ref a from rx);obtain⟨_,_,n,_,h1⟩:=(show ObjOk X.prog X.w H s.heap a (.lst xs)from I.hok a _ ea)
  exact aDH PySem.W.kitx_list I.kIn ⟨_,h1,rfl⟩ e (λz=>nomatch z) h
 |@frz a ob xs ea =>
  cases(show u=Value.ref a from rx);obtain⟨_,_,_,n,_,h1⟩:=(show ObjOk X.prog X.w H s.heap a (.frz ob (.lst xs))from I.hok a _ ea)
  exact aDH PySem.W.kitx_list I.kIn ⟨_,h1,rfl⟩ e (λz=>nomatch z) h
 |@tup a xs ea =>
  cases(show u=Value.ref a from rx);obtain⟨_,_,_,p⟩:=(show ObjOk X.prog X.w H s.heap a (.tup xs)from I.hok a _ ea)
  obtain⟨o,h1,h2,_⟩:=p;exact aDH PySem.W.kitx_tuple I.kIn ⟨o,h1,h2⟩ e (λz=>nomatch z) h
 |@dK a kvs ea =>
  cases(show u=Value.ref a from rx);obtain⟨_,_,vs,_,p⟩:=(show ObjOk X.prog X.w H s.heap a (.dK kvs)from I.hok a _ ea)
  obtain⟨o,es,ep,h1,h2,_⟩:=p;exact aDH PySem.W.kitx_dict I.kIn ⟨o,h1,h2.1⟩ e (λz=>nomatch z) h
 |@dT a kvs ea =>
  cases(show u=Value.ref a from rx);obtain⟨_,_,xs,_,o,es,ep,h1,h2,_⟩:=(show ObjOk X.prog X.w H s.heap a (.dT kvs)from I.hok a _ ea)
  exact aDH PySem.W.kitx_dict I.kIn ⟨o,h1,h2.1⟩ e (λz=>nomatch z) h
 |@ins a C dx fs ea cl ha hn htk hm =>
  cases(show u=Value.ref a from rx);obtain⟨mA,O,_⟩:=aId I.hok ea;obtain⟨od,J,_⟩:=O.look;exact aDH (PySem.W.kitx_own (cl.get _) cl.hd ha hn htk hm) I.kIn J e (λz=>nomatch z) h
structure Room(k:Nat)(A:Around):Prop where
 hd:A.handled=none
 dp:A.depth+3*k+5 < recursionLimit
 un:A.units+16*k+200 < cLine
def Room.mono{k:Nat}(r:Room k A)(h:j<=k):Room j A:=⟨r.hd,by have:=r.dp;lia,by have:=r.un;lia⟩
def Room.deeper{k:Nat}{A:Around}(r:Room (k+1) A)(env:Env):Room k (A.deeper env) :=
 ⟨r.hd,by have:=r.dp;show A.depth+1+3*k+5 < _;lia,by have:=r.un;show A.units+3+16*k+200 < _;lia⟩
def Room.depth{k:Nat}{A:Around}(r:Room k A):A.depth < recursionLimit:=by have:=r.dp;lia
def Room.units{k:Nat}{A:Around}(r:Room k A):A.units+64 < cLine:=by have:=r.un;lia
def tNil:TA:=λ_ H Q=>Q [] H
def tCons(ta:TE)(tr:TA):TA:=λσ H Q=>ta σ H λx H1=>tr σ H1 λxs H2=>Q (x::xs) H2
section
variable{t:TA}
def cJ:PA X [] tNil:=λ_ _ _ _ H Q I h=>aJY ⟨[],H,I,.nil,h⟩
def bF(ha:PE X e te)(hr:PA X es t)(hs:starEach (e::es) X.env=(false,eval e X.env)::starEach es X.env:=by rfl):PA X (e::es) (tCons te t):=by
 intro pos pins s σ H Q I h;rw[hs];show wpAny _ _ (spliced ((false,eval e X.env)::backTo pos (starEach es X.env))) _ _ s;refine aHL (thn (ha pins s σ H _ I h) λu s1 ⟨x,H1,I1,r1,q1⟩=>?_);exact thn (hr pos pins s1 σ H1 _ I1 q1) λus s2 ⟨xs,H2,I2,r2,q2⟩=>⟨x::xs,H2,I2,.cons r1 r2,q2⟩
def tTup(t:TA):TE:=λσ H Q=>t σ H λxs H1=>xs.length<=sizeLine/\∀p,H1 p=none->Q (.ref p) (upd H1 p (.tup xs))
def tLst(t:TA):TE:=λσ H Q=>t σ H λxs H1=>xs.length<=sizeLine/\∀p,H1 p=none->Q (.ref p) (upd H1 p (.lst xs))
def aMt{x1}(h:PA X es t):PE X (.Tuple es x1 pos) (tTup t):=by
 intro pins s σ H Q I hq;refine wpAny_Tuple_spliced (thn (h pos pins s σ H _ I hq) λus s1 ⟨xs,H1,I1,r,z,q⟩=>⟨by rw[<- r.length];exact z,?_⟩);have hf:H1 s1.heap.objs.size=none:=I1.hok.fresh (aAD _);refine⟨.ref s1.heap.objs.size,upd H1 s1.heap.objs.size (.tup xs),I1.laid (t':=s1.toks) (λb u e=>aAB _ e) (aAD _) ?_,rfl,q _ hf⟩;exact⟨z,us,r,⟨_,aAI _ rfl,rfl,_,rfl⟩⟩
def zA(h:PA X es t):PE X (.List es pos) (tLst t):=by
 intro pins s σ H Q I hq;refine wpAny_List_spliced (thn (h pos pins s σ H _ I hq) λus s1 ⟨xs,H1,I1,r,z,q⟩=>⟨by rw[<- r.length];exact z,?_⟩);have hf:H1 s1.heap.objs.size=none:=I1.hok.fresh (aAD _);refine⟨.ref s1.heap.objs.size,upd H1 s1.heap.objs.size (.lst xs),I1.laid (t':=s1.toks) (λb u e=>aAB _ e) (aAD _) ?_,rfl,q _ hf⟩;exact⟨z,us,0,r,aAI _ rfl⟩
end
abbrev Sp:=List V->Hp->VK->XK->Prop
abbrev CXT:=List Env->Hp->Shared->XK->Value->Shared->Prop
structure Env0(P:Program)(w:World)(K:Frag)(mg:Str->Option Value)(base:Heap)(A:Around)(outer:List Env)(s:Shared)(H:Hp):Prop where
 frames:A.frames=some outer
 mod:Mod K mg base
 bs:∀b o,base.get? b=some o->s.heap.get? b=some o/\H b=none
 bsz:base.objs.size<=s.heap.objs.size
 funs:s.heap.FunFrames base outer
 frf:∀b∈frs outer,H b=none
 hok:HOk P w H s.heap
 bare:AllBare s.gens
def CE(outer:List Env)(P:Program)(w:World)(H:Hp)(s:Shared)(Q:VK)(u:Value)(s':Shared):Prop :=
 ∃v H',s'.os=s.os/\AllBare s'.gens/\Un (frs outer) [] H H' s.heap s'.heap/\HOk P w H' s'.heap/\RelV v u/\Q v H'
def CR(CX:CXT)(outer:List Env)(P:Program)(w:World)(H:Hp)(s:Shared)(Q:VK)(E:XK)(r:Result)(s':Shared):Prop :=
 match r with
 |.ok (.ret u)=>CE outer P w H s Q u s'|.ok _=>False|.error e=>CX outer H s E e s'
structure FnOk(P:Program)(w:World)(K:Frag)(mg:Str->Option Value)(base:Heap)(CX:CXT)(k:Nat)(f:Addr)(fd:FuncData)(ps:List Str)(sp:Sp):Prop where
 len:∀vs H Q E,sp vs H Q E->vs.length=ps.length
 run:∀(A:Around) (outer:List Env) (s:Shared) (H:Hp) (args:Args) (us:List Value) (vs:List V) (Q:VK) (E:XK),Room k A->Env0 P w K mg base A outer s H->BindsTo s fd args (ps.zip us)->Vals vs us->sp vs H Q E ->
  codeAny (model P w) A (.call (.ref f) args) (CR CX outer P w H s Q E) s
theorem FnOk.mono{P:Program}{w:World}{mg:Str->Option Value}{base:Heap}{CX:CXT}{j k:Nat}{f:Addr}{fd:FuncData}{ps:List Str}{sp:Sp}(F:FnOk P w K mg base CX j f fd ps sp)(h:j<=k) :
  FnOk P w K mg base CX k f fd ps sp:=⟨F.len,λA outer s H args us vs Q E hr=>F.run A outer s H args us vs Q E (hr.mono h)⟩
variable{CX:CXT}{f:Addr}{sp:Sp}
theorem FnOk.imp{k:Nat}{sp':Sp}(F:FnOk P w K mg base CX k f fd ps sp)
  (h:∀vs H Q E,sp' vs H Q E->sp vs H Q E):FnOk P w K mg base CX k f fd ps sp' :=
 ⟨λvs H Q E q=>F.len vs H Q E (h _ _ _ _ q),λA outer s H args us vs Q E hr he hb hv hs=>F.run A outer s H args us vs Q E hr he hb hv (h _ _ _ _ hs)⟩
def Inv.env0(I:Inv X pins σ H s):Env0 X.prog X.w X.K X.mg X.base X.A X.stack s H :=
 ⟨I.ok.frames,I.ok.mod,I.bs,aBS I.ok.bsz I.sz,I.stack,I.stkFree,I.hok,I.bare⟩
variable{Q:VK}
def Inv.after(I:Inv X pins σ H s)(h:CE X.stack X.prog X.w H s Q u s'):EP X pins σ Q u s':=by
 obtain⟨v,H',os,bare,un,hok,r,q⟩:=h;obtain⟨hh,g,d,t,os'⟩:=s';obtain rfl:os'=s.os:=os;exact⟨v,H',I.call (h':=hh) (g':=g) (d':=d) (t':=t) (ch:=[]) un hok bare (λb z=>absurd z (by simp)),r,q⟩
def tCall(sp:Sp)(dvs:List V)(E:XK)(t:TA):TE:=λσ H Q=>t σ H λvs H1=>sp (vs++dvs) H1 Q E
def Binds(K:Frag)(fd:FuncData)(ps:List Str)(ds:List Value):Prop :=
 ∀(s:Shared) (us:List Value),K.In s.heap->(us++ds).length=ps.length->BindsTo s fd ⟨us,[]⟩ (ps.zip (us++ds))
def Binds.all(h:∀us:List Value,us.length=ps.length->bindArgs fd ⟨us,[]⟩=pure (ps.zip us)):Binds K fd ps []:=λs us _ hl=>by
 rw[aEF]at hl ⊢;exact .of_eq (h us hl)
def Passes(CX:CXT)(X:Cx)(E:XK):Prop:=∀(pins:List (Addr×Obj)) (σ:St) (H:Hp) (s:Shared) (e:Value) (s':Shared),Inv X pins σ H s->CX X.stack H s E e s'->X.xe e s'
section
variable{k:Nat}{dvs:List V}{ds:List Value}{E:XK}{x m:Str}{t:TA}
theorem aOj(F:FnOk X.prog X.w X.K X.mg X.base CX k f fd ps sp)(hr:Room k X.A)(hb:Binds X.K fd ps ds)(hd:Vals dvs ds)(hx:Passes CX X E)
  (I:Inv X pins σ H s)(r:Vals vs us)(h:sp (vs++dvs) H Q E):wpAny (model X.prog X.w) X.A (call (.ref f) us) (EP X pins σ Q) X.xe s:=by
 have r2:Vals (vs++dvs) (us++ds):=r.append hd;have hl:(us++ds).length=ps.length:=by rw[<- r2.length];exact F.len _ _ _ _ h
 refine wpAny_call (codeAny_mono (F.run X.A X.stack s H ⟨us,[]⟩ (us++ds) (vs++dvs) Q E hr I.env0 (hb s us I.kIn hl) r2 h) λr s' hq=>?_);cases r with
 |error e=>exact hx pins σ H s e s' I hq|ok fl =>
  cases fl with
  |ret u=>exact I.after hq|next=>exact False.elim hq|brk=>exact False.elim hq|cont=>exact False.elim hq
def aJg(F:FnOk X.prog X.w X.K X.mg X.base CX k f fd ps sp)(hr:Room k X.A)(hg:Gl X x)(hm:X.mg x=some (.ref f))(hk:keepIn X.K (.ref f)=true)(hb:Binds X.K fd ps ds)(hd:Vals dvs ds)(hx:Passes CX X E)
  (ha:PA X (e::es) t)(hdb:(x==("__debug__":Str))=false:=by decide)(he:starEach (e::es) X.env=(false,eval e X.env)::starEach es X.env:=by rfl)(hpl:(backTo pos (starEach es X.env)).any (·.1)=false:=by rfl) :
  PE X (.Call (.Name x p) (e::es) [] pos) (tCall sp dvs E t):=by
 intro pins s σ H Q I h;refine aDU (aJe I hg hm ?_ hdb);refine PySem.W.callWith_K (h₀:=X.base) I.ok.mod.kin hk (thn (ha pos pins s σ H _ I h) λus s1 ⟨vs,H1,I1,r,q⟩=>⟨I1.kIn,?_⟩) he hpl;exact aOj F hr hb hd hx I1 r q
structure Mk(K:Frag)(C f:Addr):Prop where
 makes:PySem.W.makesIn K C=true
 init:PySem.W.findIn K (.ref C) "__init__"=some (some (.ref f))
 fn:PySem.W.isFn K (.ref f)=true
 kp:keepIn K (.ref C)=true
end
def PK(X:Cx)(kws:List Keyword)(t:TA):Prop :=
 ∀(pos:Pos) (pins:List (Addr×Obj)) (s:Shared) (σ:St) (H:Hp) (Q:List V->Hp->Prop),Inv X pins σ H s->t σ H Q->wpAny (model X.prog X.w) X.A (evalAll ((backToKw pos (keywordEach kws X.env)).map (·.2))) (AP X pins σ Q) X.xe s
section
variable{k:Nat}{ks:List Str}{E:XK}{x m:Str}{kpos:Pos}{kws:List Keyword}{t tk:TA}{nm:Option Str}
def aFe:PK X [] tNil:=λ_ _ _ _ H Q I h=>wpAny_evalAll_nil ⟨[],H,I,.nil,h⟩
def aBn(ha:PE X e te)(hr:PK X kws t):PK X (⟨nm,e,kpos⟩::kws) (tCons te t):=by
 intro pos pins s σ H Q I h;show wpAny _ _ (evalAll ((do let v <- eval e X.env;standAt pos;pure v)::(backToKw pos (keywordEach kws X.env)).map (·.2))) _ _ s;refine wpAny_evalAll_cons (aAA (thn (ha pins s σ H _ I h) λu s1 ⟨x,H1,I1,r1,q1⟩=>aAA (aFV (aAC ?_))));exact thn (hr pos pins s1 σ H1 _ I1 q1) λus s2 ⟨xs,H2,I2,r2,q2⟩=>⟨x::xs,H2,I2,.cons r1 r2,q2⟩
structure KBinds(K:Frag)(fd:FuncData)(ps ks:List Str)(g:List Value->List Value->List Value)(gV:List V->List V->List V):Prop where
 to:∀(s:Shared) (us ws:List Value),K.In s.heap->(g us ws).length=ps.length->BindsTo s fd ⟨us,ks.zip ws⟩ (ps.zip (g us ws))
 rel:∀{vs:List V} {us:List Value} {zs:List V} {ws:List Value},Vals vs us->Vals zs ws->Vals (gV vs zs) (g us ws)
variable{g:List Value->List Value->List Value}{gV:List V->List V->List V}
end
structure FnScope(N P:List Str)(sc:Scope):Prop where
 kind:sc.kind=.function
 co:sc.isCoroutine=false
 gen:sc.isGenerator=false
 nd:N.Nodup
 pre:N.take P.length=P
 par:∀x∈P,sc.names.lookup x=some .local\/sc.names.lookup x=some .cell
 nofree:∀y∈sc.names,y.2≠.free
def rG{kindOf:Str->Option NameKind}{x:Str}:∀{binds:List (Str×Value)} {m:Str->Option Value},(∀v,(x,v)∉binds)->bindL kindOf binds m x=m x
 |[],_,_=>rfl|(n,v)::r,m,h=>by
  unfold bindL;rw[rG λw hw=>h w (aBF _ hw)];split
  ·have:x≠n:=by rintro rfl;exact h v aBG
   simp[this]
  ·rfl
def qA{kindOf:Str->Option NameKind}{x:Str}:∀{binds:List (Str×Value)} {m:Str->Option Value},(∀v,(x,v)∉binds)->bindC kindOf binds m x=m x
 |[],_,_=>rfl|(n,v)::r,m,h=>by
  unfold bindC;rw[qA λw hw=>h w (aBF _ hw)];split
  ·rfl
  ·have:x≠n:=by rintro rfl;exact h v aBG
   simp[this]
def qI{kindOf:Str->Option NameKind}{x:Str}{v:Value}:∀{P:List Str} {vs:List Value} {i:Nat} {m:Str->Option Value},P.Nodup->P[i]?=some x->vs[i]?=some v->kindOf x=some .local ->
  bindL kindOf (P.zip vs) m x=some v
 |[],_,_,_,_,h,_,_=>by simp at h
 |_::_,[],_,_,_,_,h,_=>by simp at h
 |p::P,w::vs,0,m,nd,h1,h2,hk=>by
  simp at h1 h2;subst h1;subst h2;show bindL kindOf ((p,w)::P.zip vs) m p=_;unfold bindL;rw[rG λv hv=>(aED.mp nd).1 (List.of_mem_zip hv).1,aAG hk];simp
 |p::P,w::vs,i+1,m,nd,h1,h2,hk=>by
  show bindL kindOf ((p,w)::P.zip vs) m x=_;unfold bindL;exact qI (i:=i) (aED.mp nd).2 (by simpa using h1) (by simpa using h2) hk
def pV{kindOf:Str->Option NameKind}{x:Str}{v:Value}:∀{P:List Str} {vs:List Value} {i:Nat} {m:Str->Option Value},P.Nodup->P[i]?=some x->vs[i]?=some v->kindOf x≠some .local ->
  bindC kindOf (P.zip vs) m x=some v
 |[],_,_,_,_,h,_,_=>by simp at h
 |_::_,[],_,_,_,_,h,_=>by simp at h
 |p::P,w::vs,0,m,nd,h1,h2,hk=>by
  simp at h1 h2;subst h1;subst h2;show bindC kindOf ((p,w)::P.zip vs) m p=_;unfold bindC;rw[qA λv hv=>(aED.mp nd).1 (List.of_mem_zip hv).1,aAH hk];simp
 |p::P,w::vs,i+1,m,nd,h1,h2,hk=>by
  show bindC kindOf ((p,w)::P.zip vs) m x=_;unfold bindC;exact pV (i:=i) (aED.mp nd).2 (by simpa using h1) (by simpa using h2) hk
def start(N:List Str)(vs:List V):St:=vs.map some++List.replicate (N.length - vs.length) none
def cxOf(CX:CXT)(P:Program)(w:World)(K:Frag)(mg:Str->Option Value)(base:Heap)(N:List Str)(qual:Str)(scope:Scope)(f:Addr)(cd:Value)(A:Around)(outer:List Env)(s:Shared)(H:Hp)(E:XK):Cx where
 prog:=P
 w:=w
 K:=K
 mg:=mg
 base:=base
 A:=A.deeper (envOfC qual scope s.heap.objs.size f cd)
 N:=N
 s₀:=s
 H₀:=H
 env:=envOfC qual scope s.heap.objs.size f cd
 outer:=outer
 stack:=envOfC qual scope s.heap.objs.size f cd::outer
 ex:=[]
 calm:=true
 fn:=λ_=>true
 pn:=[]
 xe:=λe s'=>wpAny (model P w) (A.deeper (envOfC qual scope s.heap.objs.size f cd)) (leaving (envOfC qual scope s.heap.objs.size f cd) e) (λ_ s''=>CX outer H s E e s'') (λe' s''=>CX outer H s E e' s'') s'
variable{x:Str}
def vI{sc:Scope}(h:sc.names.lookup x=some .cell):∃c,(cellsFrom n sc.names []).lookup x=some c:=by
 have q:=PySem.W.cellsFrom_some sc.names n [] (.inl h);exact Option.isSome_iff_exists.mp q
variable{scope:Scope}
def aCq{cd:Value}{E:XK}{vs:List V}
  (S:FnScope N ps scope)(hd:A.handled=none)(e0:Env0 P w K mg base A outer s H)(hl:vs.length=ps.length)(r:Vals vs us)
  (x:InCallC s s.heap.objs.size (bindL (envOfC qual scope s.heap.objs.size f cd).kindOf (ps.zip us) λ_=>none) (cellsFrom (s.heap.objs.size+1) scope.names []) (bindC (envOfC qual scope s.heap.objs.size f cd).kindOf (ps.zip us) λ_=>none) s1) :
  Inv (cxOf CX P w K mg base N qual scope f cd A outer s H E) [] (start N vs) H s1:=by
 have hpl:ps.length<=N.length:=by have:=congrArg List.length S.pre;rw[aDT]at this;lia
 obtain⟨h1,tk,rfl,hk⟩:=x.done;have noA:∀b:Addr,b∉(cxOf CX P w K mg base N qual scope f cd A outer s H E).ex:=λb z=>absurd (show b∈([]:List Addr)from z) (by simp)
 refine⟨⟨e0.mod,S.kind,rfl,rfl,aAD _,λy z c h1 h2=>?_,λy hy=>?_,λy c _ h=>?_,λ_=>hd,Around.frames_deeper e0.frames,.inr ⟨rfl,rfl⟩,λb z=>absurd z (noA b),e0.bs,e0.bsz,λb _ _=>noA b,λb z=>absurd z (noA b),e0.funs,e0.frf⟩,
  rfl,e0.bare,Un.kept hk,⟨_,x.toInCall.ns,λi y v h1 h2 h3=>?_⟩,λy c h=>⟨_,x.cell y c h⟩,e0.hok.fresh (aAD _),λy c h=>?_,λp hp=>absurd (show p∈([]:List (Addr×Obj))from hp) (by simp),e0.hok.kept hk,?_,λz=>nomatch (show true=false from z)⟩
 ·exact name_of_addr x.apart (aFT h1) (aFT h2)
 ·have hy:scope.names.lookup y=some .cell\/scope.names.lookup y=some .free:=hy
  rcases hy with hy|hy
  ·exact vI hy
  ·exact absurd rfl (S.nofree _ (aFT hy))
 ·exact aIX (x.above y c (aFT h))
 ·have hi:i < vs.length:=by
   unfold start at h2;by_cases hi:i < vs.length
   ·exact hi
   ·rw[aBU (by simpa using hi)]at h2
    rw[List.getElem?_replicate]at h2;split at h2 <;> cases h2
  have ha:vs[i]?=some v:=by
   unfold start at h2;rw[aAW (by simpa using hi),aAV]at h2;cases e:vs[i]? with
   |none=>rw[e]at h2;cases h2
   |some a=>rw[e]at h2;cases h2;rfl
  obtain⟨u,hu,rv⟩:=r.get ha;have hp:ps[i]?=some y:=by
   rw[<- S.pre,aHG (by lia)];exact h1
  have ndP:ps.Nodup:=by rw[<- S.pre];exact S.nd.sublist (aJU _ _)
  refine⟨u,rv,?_⟩;rcases S.par y (aAQ hp)with k|k
  ·exact .inl ⟨k,qI ndP hp hu k⟩
  ·obtain⟨c,e⟩:=vI (n:=s.heap.objs.size+1) k
   refine .inr ⟨.inl k,c,e,?_⟩;have q:=x.cell y c e;rw[pV ndP hp hu (by show scope.names.lookup y≠_;rw[k];decide)]at q;exact q
 ·exact e0.hok.fresh (aIX (x.above y c (aFT h)))
 ·unfold start
  show _=N.length;rw[aCC,aAM,aIK];lia
def aFz{k:Nat}{params:Arguments}{dV kV:Value}
  (lk:K.lookup f=some ⟨oc,od,.func (fnOf name qual params body scope dV kV doc pm an cdv ct),osl⟩)(hcd:codeIn K cdv qual=true)(S:FnScope N ps scope)
  (len:∀vs H Q E,sp vs H Q E->vs.length=ps.length)
  (hbody:∀(A:Around) (outer:List Env) (s:Shared) (H:Hp) (vs:List V) (Q:VK) (E:XK),Room k (A.deeper (envOfC qual scope s.heap.objs.size f cdv))->sp vs H Q E ->
   ∃t,PSs (cxOf CX P w K mg base N qual scope f cdv A outer s H E) body t/\t {nx:=λ_ H'=>Q .non H',rt:=Q} (start N vs) H) :
  FnOk P w K mg base CX (k+1) f (fnOf name qual params body scope dV kV doc pm an cdv ct) ps sp:=by
 refine⟨len,λA outer s H args us vs Q E hr e0 hb r hsp=>?_⟩;have hl:=len _ _ _ _ hsp;have KX:K.In s.heap:=e0.mod.kin.keeps λb o e=>(e0.bs b o e).1
 have lim:s.heap.NoLimit:=e0.mod.nolimit.keeps λb o e=>(e0.bs b o e).1
 have hkind:∀y∈ps.zip us,scope.names.lookup y.1=some .local\/(scope.names.lookup y.1=some .cell/\((cellsFrom (s.heap.objs.size+1) scope.names []).lookup y.1).isSome=true):=λ⟨n,v⟩ hy=>by
  rcases S.par n (List.of_mem_zip hy).1 with q|q
  ·exact .inl q
  ·exact .inr ⟨q,PySem.W.cellsFrom_some _ _ _ (.inl q)⟩
 refine codeAny_call_function hr.depth (KX _ _ lk) rfl S.co S.gen rfl (PySem.W.codeRec_of KX hcd) (hb _ _ _ _ ?_);refine wpAny_newFunctionEnv_cells S.kind hkind λenv he s1 x=>?_
 subst he;refine⟨lim.keeps x.toInCall.keep,codeAny_func ?_⟩;obtain⟨t,ht,hq⟩:=hbody A outer s H vs Q E (hr.deeper _) hsp;have I:Inv (cxOf CX P w K mg base N qual scope f cdv A outer s H E) [] (start N vs) H s1:=aCq S hr.hd e0 hl r x;refine aCU (ht [] s1 (start N vs) H _ I hq) (λfl s' hs=>?_) λe s' hs=>hs
 have fin:∀{σ':St} {H':Hp} {v:V} {u:Value},Inv (cxOf CX P w K mg base N qual scope f cdv A outer s H E) [] σ' H' s'->RelV v u->Q v H'->CE outer P w H s Q u s' :=
  λ{σ' H' v u} J rv q=>⟨v,H',J.os,J.bare,J.base,J.hok,rv,q⟩
 cases fl with
 |ret u =>
  obtain⟨v,σ',H',J,rv,q⟩:=hs;exact fin J rv q
 |next =>
  obtain⟨σ',H',J,q⟩:=hs;exact fin (v:=V.non) (u:=Value.none) J rfl q
 |brk =>
  obtain⟨_,_,_,q⟩:=hs;exact False.elim q
 |cont =>
  obtain⟨_,_,_,q⟩:=hs;exact False.elim q
section
variable{t:TA}{id T:String}{r:List V->Hp->VK->Prop}
def tCB(r:List V->Hp->VK->Prop)(t:TA):TE:=λσ H Q=>t σ H λvs H1=>r vs H1 Q
def uZ(hc:CallR X (.builtin id) r)(hg:Gl X x)(hm:X.mg x=none)(hv:bootBuiltins x=some (.builtin id))(ha:PA X (e::es) t)(hn:x≠"__name__":=by decide)(hdb:(x==("__debug__":Str))=false:=by decide)
  (he:starEach (e::es) X.env=(false,eval e X.env)::starEach es X.env:=by rfl)(hpl:(backTo pos (starEach es X.env)).any (·.1)=false:=by rfl):PE X (.Call (.Name x p) (e::es) [] pos) (tCB r t):=by
 intro pins s σ H Q I h;refine aDU (dJ I hg hm hv ?_ hn hdb);exact PyProof.Rows.callWith_builtin1 (thn (ha pos pins s σ H _ I h) λus s1 ⟨vs,H1,I1,r1,q1⟩=>hc pins s1 σ H1 vs us Q I1 r1 q1) he hpl
def qL(hc:CallR X (.type T) r)(hg:Gl X x)(hm:X.mg x=none)(hv:bootBuiltins x=some (.type T))(ha:PA X (e::es) t)(hn:x≠"__name__":=by decide)(hdb:(x==("__debug__":Str))=false:=by decide)
  (he:starEach (e::es) X.env=(false,eval e X.env)::starEach es X.env:=by rfl)(hpl:(backTo pos (starEach es X.env)).any (·.1)=false:=by rfl):PE X (.Call (.Name x p) (e::es) [] pos) (tCB r t):=by
 intro pins s σ H Q I h;refine aDU (dJ I hg hm hv ?_ hn hdb);exact aDI (thn (ha pos pins s σ H _ I h) λus s1 ⟨vs,H1,I1,r1,q1⟩=>hc pins s1 σ H1 vs us Q I1 r1 q1) he hpl
end
end L2
end
variable{H H' H1 H2 H₂:L2.Hp}{X:L2.Cx}{v y:L2.V}{ta tb te tv:L2.TE}{ti:L2.TT}{J:L2.It}{vs:List L2.V}{r:List L2.V->L2.Hp->L2.VK->Prop}{CX:L2.CXT}{sp:L2.Sp}{kvs:List (List L2.Key×L2.V)}
section
open PySem PySem.Spec PyProof.Rows
end
namespace HT
open PySem PyProof.Rows
def lexLt:List Int->List Int->Bool
 |[],[]=>false|[],_::_=>true|_::_,[]=>false|x::xs,y::ys=>if x=y then lexLt xs ys else decide (x < y)
def yL(x y:Int)(xs ys:List Int):lexLt (x::xs) (y::ys)=if x=y then lexLt xs ys else decide (x < y):=rfl
def pG:lexLt [] []=false:=rfl
def mH(y:Int)(ys:List Int):lexLt [] (y::ys)=true:=rfl
def nD(x:Int)(xs:List Int):lexLt (x::xs) []=false:=rfl
def aFv(A:Around)(s:Shared)(a:Int)(t:Tok)(c:Int)(u:Tok):∃e,SeqAt.EqAt A s (.int a t) (.int c u) e/\(e=true ↔ a=c) :=
 ⟨(a==c),SeqAt.EqAt.int_int a t c u,by simp⟩
def rcLt_int(A:Around)(s:Shared)(a:Int)(t:Tok)(c:Int)(u:Tok)(prog:Program)(w:World)(E:Value->Shared->Prop)(Q:Value->Shared->Prop)(h:Q (.bool (decide (a < c))) s) :
  wpAny (model prog w) A (richCompare .Lt (.int a t) (.int c u)) Q E s :=
 (PyProof.Rows.lt_int h:wpAny (model prog w) A (compareOp .Lt (.int a t) (.int c u)) Q E s)
section
open PySem.SeqAt
open PySem.AutoSeq1 (wpAny_loadPart')
open PySem.MeetsSeq PySem.MeetsSeq2 PySem.MeetsSeq3
def pJ(l b:Addr)(items items2:Array Value)(n n2:Nat)(dd dd2:Option Addr)(sl sl2:Array (Option Value))(ns ms:List Int)(hi:IntsAre items.toList ns)(hj:IntsAre items2.toList ms) :
  Meets (Builtin.«tuple.__lt__» ⟨[.ref l,.ref b],[]⟩)
   (λ_ R s=>s.heap.get? l=some {cls:=.type "tuple",dict:=dd,data:=.seq items n,slots:=sl}/\s.heap.get? b=some {cls:=.type "tuple",dict:=dd2,data:=.seq items2 n2,slots:=sl2} /\
    R (.ok (.ret (.bool (lexLt ns ms)))) s) :=
 .of_wp λprog w A R s h=>by
  obtain⟨hp,g,d,tk,os⟩:=s;obtain⟨hl,hb,h⟩:=h;have f2:=AutoSeq1.sub_tuple_tuple;have z1:items.size=ns.length:=by rw[<- hi.length];simp
  have z2:items2.size=ms.length:=by rw[<- hj.length];simp
  wp_walk using aBQ hl,aBQ hb,wpAny_forIn_list _ (λrest b s'=>b.1=none/\s'=⟨hp,g,d,tk,os⟩/\∃(vs ws:List Value) (ns' ms':List Int),rest=vs.zip ws /\
   IntsAre vs ns'/\IntsAre ws ms'/\ns'.length+items2.size=ms'.length+items.size/\R (.ok (.ret (.bool (lexLt ns' ms')))) ⟨hp,g,d,tk,os⟩) _
  case turn =>
   rintro⟨y,x⟩ rest b s' ⟨hb',rfl,vs,ws,ns',ms',hz,hvi,hwi,hlen,hR⟩;cases hvi with
   |nil=>rw[List.zip_nil_left]at hz;cases hz
   |cons a t hvi' =>
    cases hwi with
    |nil=>rw[List.zip_nil_right]at hz;cases hz
    |cons c u hwi' =>
     rw[aGA]at hz;injection hz with hyx hrest;injection hyx with hy hx;subst hy hx;rw[yL]at hR;simp only[aBV]at hlen;obtain⟨e,he,hiff⟩:=aFv A.in1 ⟨hp,g,d,tk,os⟩ a t c u;refine aAA (he prog w _ _ ?_);cases e with
     |true =>
      rw[aAG (hiff.mp rfl)]at hR
      wp_walk
      exact⟨rfl,rfl,_,_,_,_,hrest,hvi',hwi',by lia,hR⟩
     |false =>
      rw[aAH (λq=>absurd (hiff.mpr q) aAY)]at hR;have hri:=rcLt_int A.in1 ⟨hp,g,d,tk,os⟩ a t c u prog w
      wp_walk using hri
      exact⟨_,rfl,by simpa using hR⟩
  case fin =>
   rintro⟨b1,b2⟩ s' ⟨hb',rfl,vs,ws,ns',ms',hz,hvi,hwi,hlen,hR⟩;simp only at hb';subst hb';have hv:lexLt ns' ms'=decide (items.size < items2.size):=by
    cases hvi with
    |nil =>
     cases hwi with
     |nil =>
      simp only[aEQ]at hlen;rw[pG];exact(aCA (by lia)).symm
     |cons c u hw =>
      simp only[aEQ,aBV]at hlen;rw[mH];exact(decide_eq_true (by lia)).symm
    |cons a t hv =>
     cases hwi with
     |nil =>
      simp only[aEQ,aBV]at hlen;rw[nD];exact(aCA (by lia)).symm
     |cons c u hw =>
      rw[aGA]at hz;cases hz
   rw[hv]at hR
   wp_walk
   exact⟨_,rfl,by simpa[Builtin.Tuple.tupleCompareSizes]using hR⟩
  case h =>
   exact⟨rfl,rfl,items.toList,items2.toList,ns,ms,rfl,hi,hj,by lia,h⟩
end
variable{prog:Program}{E:Value->Shared->Prop}
def lt_tupInts{b:Addr}{items2:Array Value}{ms:List Int}(hl:IsTup s.heap l items)(hb:IsTup s.heap b items2)(hi:IntsAre items.toList ns)(hj:IntsAre items2.toList ms)
  (hu:A.units < cLine)(h:Q (.bool (lexLt ns ms)) s):wpAny (model prog w) A (compareOp .Lt (.ref l) (.ref b)) Q E s:=by
 obtain⟨⟨cls,dd,data,sl⟩,ho,hc,n,hd⟩:=id hl;obtain⟨⟨cls2,dd2,data2,sl2⟩,ho2,hc2,n2,hd2⟩:=id hb;simp only at hc hd hc2 hd2;subst hc hd hc2 hd2;exact richCompare_meets_room (op:=.Lt) ⟨_,ho,rfl⟩ ⟨_,ho2,rfl⟩ PySem.F.slot_tuple_lt PySem.F.entry_tuple_lt (PySem.F.args_tuple_lt_2 _ _) (pJ l b items items2 n n2 dd dd2 sl sl2 ns ms hi hj)
  ⟨ho,ho2,show Value.bool (lexLt ns ms)≠Value.notImplemented/\Q (.bool (lexLt ns ms)) s from⟨(λx=>nomatch x),h⟩⟩ hu
def cat_tup{t b:Addr}{vs ws:List Value}(ht:IsTup s.heap t vs.toArray)(hb:IsTup s.heap b ws.toArray)(hv:vs≠[])
  (h1:ws=[]->Q (.ref t) s)(h2:ws≠[]->Q (.ref s.heap.objs.size) {s with heap:=s.heap.push {cls:=.type "tuple",data:=.seq (vs++ws).toArray}})
  (hsz:vs.length+ws.length<=sizeLine):wpAny (model prog w) A (binaryOp .Add (.ref t) (.ref b)) Q E s:=by
 obtain⟨⟨cls,dd,data,sl⟩,ho,hc,n,hd⟩:=id ht;obtain⟨⟨cls2,dd2,data2,sl2⟩,ho2,hc2,n2,hd2⟩:=id hb;simp only at hc hd hc2 hd2;subst hc hd hc2 hd2;have e:vs.toArray++ws.toArray=(vs++ws).toArray:=by simp
 by_cases hw:ws=[]
 ·exact concat_meets ⟨_,ho,rfl⟩ ⟨_,ho2,rfl⟩ noFill_tuple_add seq_tuple_add aIA aHR (aHH _ _)
   (tuple_addW1 t b vs.toArray ws.toArray n n2 dd dd2 sl sl2 (by simpa using hv) (by simp[hw])) ⟨ho,ho2,h1 hw⟩
 ·refine concat_meets ⟨_,ho,rfl⟩ ⟨_,ho2,rfl⟩ noFill_tuple_add seq_tuple_add aIA aHR (aHH _ _)
   (tuple_addW2 t b vs.toArray ws.toArray n n2 dd dd2 sl sl2 (by simpa using hv) (by simpa using hw) (by rw[aAL,aAL];exact hsz)) ⟨ho,ho2,?_⟩
  rw[e];exact h2 hw
def sIx(n d:Nat):Option Int->Nat
 |none=>d|some v=>if v < 0 then(v+(n:Int)).toNat else min v.toNat n
def aOf(n d:Nat)(hd:d<=n)(o:Option Int):sIx n d o<=n:=by
 cases o with
 |none=>exact hd|some v =>
  show(if v < 0 then(v+(n:Int)).toNat else min v.toNat n)<=n;by_cases hv:v < 0
  ·rw[aAG hv];lia
  ·rw[aAH hv];exact Nat.min_le_right _ _
def aAo(v:Int)(n d:Nat):(if v < 0 then max (v+(n:Int)) 0 else min v (n:Int))=((sIx n d (some v):Nat):Int):=by
 show(if v < 0 then max (v+(n:Int)) 0 else min v (n:Int))=(((if v < 0 then(v+(n:Int)).toNat else min v.toNat n):Nat):Int);by_cases hv:v < 0
 ·simp only[aAG hv];lia
 ·simp only[aAH hv];lia
def yB(lo hi:Option Int)(n:Nat):Builtin.Slice.sliceAdjust lo hi 1 (n:Int)=(((sIx n 0 lo:Nat):Int),((sIx n n hi:Nat):Int)):=by
 have h1:¬((1:Int) < 0):=by lia
 unfold Builtin.Slice.sliceAdjust;simp only[h1,aBW];refine Prod.ext ?_ ?_
 ·cases lo with
  |none=>rfl|some v=>exact aAo v n 0
 ·cases hi with
  |none=>rfl|some v=>exact aAo v n n
def xN(i j:Nat):Builtin.Slice.slicePlaces (i:Int) (j:Int) 1=j - i:=by
 unfold Builtin.Slice.slicePlaces;have h1:(1:Int) > 0:=by lia
 simp only[h1,aBM,Int.ediv_one];split <;> lia
def nR{v:Value}{Q:Option Int->Shared->Prop}(p:IsPart v o)(h:Q o s):wpAny (model prog w) A (Builtin.Slice.slicePartIndex v) Q E s:=by
 cases p with
 |none=>exact slicePart_none h|int i t=>exact slicePart_int h
variable{sl:Addr}
def dU{vl vu:Value}{lo:Option Int}{Q:Int×Int×Nat->Shared->Prop}(hs:s.heap.IsSliceOf sl vl vu .none)(pl:IsPart vl lo)(pu:IsPart vu hi)
  (h:Q (((sIx n 0 lo:Nat):Int),1,sIx n n hi - sIx n 0 lo) s):wpAny (model prog w) A (Builtin.Slice.sliceApplied (.ref sl) (pure (n:Int))) Q E s:=by
 obtain⟨os,hos,hcs,hds⟩:=id hs;unfold Builtin.Slice.sliceApplied Builtin.Slice.sliceFields;refine aAA (aAA (aBB hos hds (x:=vl) rfl (aAA (aBB hos hds (x:=vu) rfl (aAA (aBB hos hds (x:=.none) rfl (aAC ?_)))))));refine aAA (slicePart_none ?_);show wpAny _ _ (if((1:Int)==0)=true then _ else _) _ _ s;rw[aAH (by decide)];refine aAA (nR pl (aAA (nR pu (aAA (aAC ?_)))));show wpAny _ _ (match Builtin.Slice.sliceAdjust lo hi 1 (n:Int)with|(lo,hi)=>pure (lo,(1:Int),Builtin.Slice.slicePlaces lo hi 1)) _ _ s;rw[yB lo hi n];show wpAny _ _ (pure (((sIx n 0 lo:Nat):Int),(1:Int),Builtin.Slice.slicePlaces ((sIx n 0 lo:Nat):Int) ((sIx n n hi:Nat):Int) 1)) _ _ s;rw[xN];exact aAC h
def aGc(xs:Array Value)(i k:Nat):((List.range k).filterMap λ(m:Nat)=>xs[((i:Int)+(m:Int)*1).toNat]?).toArray=((xs.toList.drop i).take k).toArray:=by
 have e:(λ(m:Nat)=>xs[((i:Int)+(m:Int)*1).toNat]?)=λm=>xs[i+m]?:=by
  funext m;have:((i:Int)+(m:Int)*1).toNat=i+m:=by lia
  rw[this]
 rw[e];have:=pick_run xs i k;rw[List.filterMap_map]at this;have e2:((λx=>xs[x]?) ∘ λx=>i+x)=λm=>xs[i+m]?:=rfl
 rw[e2]at this;rw[this]
def getItem_tuple_cut{t:Addr}{vl vu:Value}{lo:Option Int}(ht:IsTup s.heap t items)(hs:s.heap.IsSliceOf sl vl vu .none)(pl:IsPart vl lo)(pu:IsPart vu hi)
  (hw:¬(sIx items.size 0 lo=0/\sIx items.size items.size hi=items.size))
  (h:Q (.ref s.heap.objs.size) {s with heap:=s.heap.push {cls:=.type "tuple",data:=.seq ((items.toList.drop (sIx items.size 0 lo)).take (sIx items.size items.size hi - sIx items.size 0 lo)).toArray}})
  (hsz:items.size<=sizeLine):wpAny (model prog w) A (getItem (.ref t) (.ref sl)) Q E s:=by
 have htake:sizeOk (.seq ((items.toList.drop (sIx items.size 0 lo)).take (sIx items.size items.size hi - sIx items.size 0 lo)).toArray):=by
  show((items.toList.drop (sIx items.size 0 lo)).take (sIx items.size items.size hi - sIx items.size 0 lo)).toArray.size<=sizeLine;rw[aAL,aDT,List.length_drop,aEG];lia
 have hj:sIx items.size items.size hi<=items.size:=aOf _ _ (aAD _) hi;obtain⟨os,hos,hcs,hds⟩:=id hs;have hTs:s.TypeIs (.ref sl) "slice":=⟨os,hos,hcs⟩
 unfold getItem
 try with_reducible refine aBC ?_
 first|refine aAA (aAC ?_)|skip
 refine aAA (wpAny_sequenceKey ht.typeIs (by decide) ?_);refine aAA (aBL (name:=Str.ofString "__getitem__") ht.typeIs aCW
  (aBH aCW ht.typeIs entry_tuple_getitem ?_ (args_tuple_getitem _ _)))
 show wpAny _ _ (Builtin.Tuple.tupleItemsOf (.ref t) >>= _) _ _ s;refine aAA (tupleItemsOf_ ht ?_);refine aAA (aFQ hTs ?_);rw[aAG (by decide)];refine aAA (dU hs pl pu ?_);have hno:¬((((sIx items.size 0 lo:Nat):Int)==0&&(1:Int)==1&&(sIx items.size items.size hi - sIx items.size 0 lo)==items.size)=true):=by
  intro q;rw[aFP,aFP]at q;have q1:((sIx items.size 0 lo:Nat):Int)=0:=eq_of_beq q.1.1;have q2:sIx items.size items.size hi - sIx items.size 0 lo=items.size:=eq_of_beq q.2;exact hw ⟨by lia,by lia⟩
 show wpAny _ _ (if(((sIx items.size 0 lo:Nat):Int)==0&&(1:Int)==1&&(sIx items.size items.size hi - sIx items.size 0 lo)==items.size)=true then _ else _) _ _ s;rw[aAH hno,aGc];first
  |exact aAA (m:=Builtin.Tuple.tupleExact _) (aBR (aAC ⟨_,rfl,aAC h⟩) htake)
  |exact aAA (m:=Builtin.Tuple.tupleExact _) (aBR (aAA (aAC (aAC ⟨_,rfl,aAC h⟩))) htake)
  |exact aAA (aAA (m:=Builtin.Tuple.tupleExact _) (aBR (aAC (aAC ⟨_,rfl,aAC h⟩)) htake))
  |exact aAA (aAA (m:=Builtin.Tuple.tupleExact _) (aBR (aAC ⟨_,rfl,aAC h⟩) htake))
end HT
section
open PySem PySem.Spec PyProof.Rows
namespace L2
abbrev TO:=St->Hp->(Option Int->Hp->Prop)->Prop
def PO(X:Cx)(e:Option Expr)(t:TO):Prop :=
 ∀(pins:List (Addr×Obj)) (s:Shared) (σ:St) (H:Hp) (Q:Option Int->Hp->Prop),Inv X pins σ H s->t σ H Q ->
  wpAny (model X.prog X.w) X.A (evalPart e X.env) (λu s'=>∃o H',Inv X pins σ H' s'/\IsPart u o/\Q o H') X.xe s
def tNoPart:TO:=λ_ H Q=>Q none H
def tPart(t:TE):TO:=λσ H Q=>t σ H λx H1=>∃i,x=.int i/\Q (some i) H1
def eL:∀{us:List Value},Vals (ns.map V.int) us->IntsAre us ns:=by
 induction ns with
 |nil=>intro us r;rw[List.map_nil]at r;cases r;exact .nil
 |cons n ns ih =>
  intro us r;rw[aAK]at r;cases r with
  |cons r1 r2 =>
   obtain⟨t,e⟩:=r1;subst e;exact .cons n t (ih r2)
section
variable{e:Expr}{lo hi:Option Expr}{tl th:TO}
def aIy:PO X none tNoPart:=by
 intro pins s σ H Q I h;rw[evalPart_none];exact aAC ⟨none,H,I,.none,h⟩
def aJn(h:PE X e te):PO X (some e) (tPart te):=by
 intro pins s σ H Q I hw;rw[evalPart_some];refine thn (h pins s σ H _ I hw) λu s1 ⟨x,H1,I1,r1,q1⟩=>?_
 obtain⟨i,rfl,q⟩:=q1;obtain⟨t,rfl⟩:=r1;exact⟨some i,H1,I1,.int i t,q⟩
def SlR(X:Cx)(r:V->Option Int->Option Int->Hp->VK->Prop):Prop :=
 ∀(pins:List (Addr×Obj)) (s:Shared) (σ:St) (H:Hp) (x:V) (v vl vu:Value) (lo hi:Option Int) (sl:Addr) (Q:VK),Inv X pins σ H s->RelV x v->s.heap.IsSliceOf sl vl vu .none->IsPart vl lo->IsPart vu hi->r x lo hi H Q ->
  ∃T id,typeLookup (.type T) "__getitem__"=pure (some (.builtin id))/\s.TypeIs v T/\wpAny (model X.prog X.w) X.A (getItem v (.ref sl)) (EP X pins σ Q) X.xe s
variable{r:V->Option Int->Option Int->Hp->VK->Prop}
def SlR.or{r':V->Option Int->Option Int->Hp->VK->Prop}(h:SlR X r)(h':SlR X r'):SlR X (λx lo hi H Q=>r x lo hi H Q\/r' x lo hi H Q):=by
 intro pins s σ H x v vl vu lo hi sl Q I rx hs pl pu q;rcases q with q|q
 ·exact h pins s σ H x v vl vu lo hi sl Q I rx hs pl pu q
 ·exact h' pins s σ H x v vl vu lo hi sl Q I rx hs pl pu q
def tSl(r:V->Option Int->Option Int->Hp->VK->Prop)(te:TE)(tl th:TO):TE:=λσ H Q=>te σ H λx H1=>tl σ H1 λl H2=>th σ H2 λu H3=>r x l u H3 Q
def aFa(hr:SlR X r)(he:PE X e te)(hl:PO X lo tl)(hu:PO X hi th):PE X (.Subscript e (.Slice lo hi none p2) pos) (tSl r te tl th):=by
 intro pins s σ H Q I h;refine Subscript_ (thn (he pins s σ H _ I h) λv s1 ⟨x,H1,I1,r1,q1⟩=>?_);refine wpAny_Slice (thn (hl pins s1 σ H1 _ I1 q1) λvl s2 ⟨l,H2,I2,pl,q2⟩=>thn (hu pins s2 σ H2 _ I2 q2) λvu s3 ⟨u,H3,I3,pu,q3⟩=>?_);rw[evalPart_none];refine aAC ?_;have I4:Inv X pins σ H3 {s3 with heap:=s3.heap.push {cls:=.type "slice",data:=.fields #[vl,vu,.none]}}:=I3.kept (t':=s3.toks) λb ob q=>aAB _ q
 obtain⟨T,id,hT,ht,hg⟩:=hr pins {s3 with heap:=s3.heap.push {cls:=.type "slice",data:=.fields #[vl,vu,.none]}} σ H3 x v vl vu l u s3.heap.objs.size Q I4 r1 (Heap.IsSliceOf.new ..) pl pu q3;show wpAny (model X.prog X.w) X.A (subscriptTail e (.Slice lo hi none p2) v (.ref s3.heap.objs.size)) (EP X pins σ Q) X.xe {s3 with heap:=s3.heap.push {cls:=.type "slice",data:=.fields #[vl,vu,.none]}};exact tail_any (ops:=[.ref s3.heap.objs.size,v]) ht hT hg (by with_unfolding_all rfl)
def cutV(xs:List V)(lo hi:Option Int):List V:=(xs.drop (HT.sIx xs.length 0 lo)).take (HT.sIx xs.length xs.length hi - HT.sIx xs.length 0 lo)
def lJ(xs:List V)(lo hi:Option Int):(cutV xs lo hi).length<=xs.length:=by
 unfold cutV;rw[aDT,List.length_drop];lia
def rSlT(K:Frag):V->Option Int->Option Int->Hp->VK->Prop:=λx lo hi H Q=>∃a xs,x=.ref a/\SqT K H a xs /\
 ¬(HT.sIx xs.length 0 lo=0/\HT.sIx xs.length xs.length hi=xs.length)/\∀p,H p=none->Q (.ref p) (upd H p (.tup (cutV xs lo hi)))
def aNi:SlR X (rSlT X.K):=by
 intro pins s σ H x v vl vu lo hi sl Q I rx hs pl pu h;obtain⟨a,xs,rfl,hx,hw,q⟩:=h;cases rx;obtain⟨its,r,ht,hz⟩:=I.tuple hx;have hlen:its.toArray.size=xs.length:=by rw[aAL];exact r.length.symm
 refine⟨"tuple",_,aCW.lookup,ht.typeIs,?_⟩;refine HT.getItem_tuple_cut ht hs pl pu (by rw[hlen];exact hw) ?_ (by rw[hlen];exact hz);rw[hlen];refine⟨.ref s.heap.objs.size,_,I.laid (t':=s.toks) (o:=.tup (cutV xs lo hi)) (λb ob q=>aAB _ q) (aAD _) ?_,rfl,q _ (I.hok.fresh (aAD _))⟩;exact⟨aBS (lJ xs lo hi) hz,_,(r.drop (HT.sIx xs.length 0 lo)).take (HT.sIx xs.length xs.length hi - HT.sIx xs.length 0 lo),IsTp.new _ _⟩
def rCatT(K:Frag):R2:=λx y H Q=>∃a b xs ys,x=.ref a/\y=.ref b/\SqT K H a xs/\SqT K H b ys/\xs≠[]/\xs.length+ys.length<=sizeLine /\
 (ys=[]->Q (.ref a) H)/\(ys≠[]->∀p,H p=none->Q (.ref p) (upd H p (.tup (xs++ys))))
def Vals.nil_iff{xs:List V}(r:Vals xs us):us=[] ↔ xs=[]:=by
 cases r with
 |nil=>simp|cons _ _=>simp
def aJq:OpR X (binaryOp .Add) (rCatT X.K):=by
 intro pins s σ H x y v u Q I rx ry h;obtain⟨a,b,xs,ys,rfl,rfl,ha,hb,hx,hz,q1,q2⟩:=h;cases rx;cases ry;obtain⟨its,r1,p1,_⟩:=I.tuple ha;obtain⟨its2,r2,p2,_⟩:=I.tuple hb;refine HT.cat_tup p1 p2 (λz=>hx (r1.nil_iff.mp z)) (λz=>⟨.ref a,H,I,rfl,q1 (r2.nil_iff.mp z)⟩) (λz=>?_) (by rw[<- r1.length,<- r2.length];exact hz);refine⟨.ref s.heap.objs.size,_,I.laid (t':=s.toks) (o:=.tup (xs++ys)) (λb ob q=>aAB _ q) (aAD _) ?_,rfl,q2 (λw=>z (r2.nil_iff.mpr w)) _ (I.hok.fresh (aAD _))⟩;exact⟨by rw[aCC];exact hz,_,r1.append r2,IsTp.new _ _⟩
end
def ixN(n:Nat)(i:Int):Option Nat:=if 0<=i then(if i < n then some i.toNat else none)else if -(n:Int)<=i then some (i+n).toNat else none
def atI(xs:List α)(i:Int):Option α:=(ixN xs.length i).bind λj=>xs[j]?
variable{i:Int}
def zW(h:ixN n i=some j):seqIndex? i n=some j/\j < n /\ -(n:Int)<=i/\i < n:=by
 unfold ixN at h;by_cases h0:0<=i
 ·rw[aAG h0]at h
  by_cases h1:i < n
  ·rw[aAG h1]at h
   have e:i.toNat=j:=Option.some.inj h;exact⟨by rw[seqIndex_of h0 h1,e],by lia,by lia,h1⟩
  ·rw[aAH h1]at h;cases h
 ·rw[aAH h0]at h
  by_cases h1 : -(n:Int)<=i
  ·rw[aAG h1]at h
   have e:(i+n).toNat=j:=Option.some.inj h;exact⟨by rw[seqIndex_neg (by lia) h1,e],by lia,h1,by lia⟩
  ·rw[aAH h1]at h;cases h
def tH{xs:List α}{v:α}(h:atI xs i=some v):∃j,seqIndex? i xs.length=some j/\xs[j]?=some v/\j < xs.length /\ -(xs.length:Int)<=i/\i < xs.length:=by
 unfold atI at h;cases e:ixN xs.length i with
 |none=>rw[e]at h;cases h
 |some j =>
  rw[e]at h;obtain⟨h1,h2,h3,h4⟩:=zW e;exact⟨j,h1,h,h2,h3,h4⟩
def PlainIx(b:Expr):Prop:=∀o i,subscripted b false o i=operate [o,i] (getItem o i)
def IxR(X:Cx)(r:R2):Prop :=
 ∀(value slice:Expr) (pins:List (Addr×Obj)) (s:Shared) (σ:St) (H:Hp) (x y:V) (v u:Value) (Q:VK),Inv X pins σ H s->RelV x v->RelV y u->r x y H Q ->
  subscripted slice false v u=operate [v,u] (getItem v u)->wpAny (model X.prog X.w) X.A (subscriptTail value slice v u) (EP X pins σ Q) X.xe s
def MtR(X:Cx)(id:String)(r:V->List V->Hp->VK->Prop):Prop :=
 ∀(pins:List (Addr×Obj)) (s:Shared) (σ:St) (H:Hp) (x:V) (xs:List V) (v:Value) (us:List Value) (Q:VK),Inv X pins σ H s->RelV x v->Vals xs us->r x xs H Q ->
  wpAny (model X.prog X.w) X.A (call (.builtin id) (v::us)) (EP X pins σ Q) X.xe s
section
variable{a b:Expr}{r:R2}
def IxR.or(h:IxR X r)(h':IxR X r'):IxR X (λx y H Q=>r x y H Q\/r' x y H Q):=by
 intro value slice pins s σ H x y v u Q I rx ry q hs;rcases q with q|q
 ·exact h value slice pins s σ H x y v u Q I rx ry q hs
 ·exact h' value slice pins s σ H x y v u Q I rx ry q hs
def aRd(hr:IxR X r)(ha:PE X a ta)(hb:PE X b tb)(hs:PlainIx b):PE X (.Subscript a b pos) (tOp r ta tb):=by
 intro pins s σ H Q I h;exact Subscript_ (binT ha hb I h λv u s2 x y H2 I2 rx ry q=>hr a b pins s2 σ H2 x y v u Q I2 rx ry q (hs _ _))
def rIxL(K:Frag):R2:=λx y H Q=>∃p xs i v,x=.ref p/\y=.int i/\SqL K H p xs/\atI xs i=some v/\Q v H
def rIxT(K:Frag):R2:=λx y H Q=>∃p xs i v,x=.ref p/\y=.int i/\SqT K H p xs/\atI xs i=some v/\Q v H
def rIxS:R2:=λx y H Q=>∃z i c,x=.str z/\y=.int i/\z.length<=sizeLine/\atI z.cps.toList i=some c/\Q (.str ⟨#[c]⟩) H
def aKd:IxR X (rIxL X.K):=by
 intro value slice pins s σ H x y v u Q I rx ry h hs;obtain⟨p,xs,i,z,rfl,rfl,hq,he,q⟩:=h;cases rx;obtain⟨t,rfl⟩:=ry;obtain⟨its,r,pl,hz⟩:=I.list hq;obtain⟨j,h1,h2,h3,h4,h5⟩:=tH he;obtain⟨w,ew,rw'⟩:=r.get h2;have hl:=r.length;have hn:=line63;have fin:EP X pins σ Q w s:=⟨z,H,I,rw',q⟩
 by_cases h0:0<=i
 ·have hj:i.toNat=j:=by
   rw[seqIndex_of h0 h5]at h1;exact Option.some.inj h1
  exact item_listR pl.isList h0 (by lia) (by rw[hj];simpa using ew) fin hs
 ·have hj:(i+(its.toArray.size:Int)).toNat=j:=by
   rw[seqIndex_neg (by lia) h4]at h1;rw[aAL,<- hl];exact Option.some.inj h1
  exact subscriptTail_builtinR (x:=w) pl.isList.typeIs slot_list_getitem.lookup
   (wpAny_getItem_list_neg (Q:=λr s'=>r=w/\EP X pins σ Q r s') pl.isList (by lia) (by rw[aAL] <;> lia) (by lia) (by rw[hj];simpa using ew) ⟨rfl,fin⟩) hs
def aPc:IxR X (rIxT X.K):=by
 intro value slice pins s σ H x y v u Q I rx ry h hs;obtain⟨p,xs,i,z,rfl,rfl,hq,he,q⟩:=h;cases rx;obtain⟨t,rfl⟩:=ry;obtain⟨its,r,pl,hz⟩:=I.tuple hq;obtain⟨j,h1,h2,h3,h4,h5⟩:=tH he;obtain⟨w,ew,rw'⟩:=r.get h2;have hl:=r.length;have hn:=line63;have fin:EP X pins σ Q w s:=⟨z,H,I,rw',q⟩
 exact subscriptTail_builtinR (x:=w) pl.typeIs slot_tuple_getitem.lookup
  (getItem_tuple (j:=j) (Q:=λr s'=>r=w/\EP X pins σ Q r s') pl (by lia) (by lia) (by rw[aAL,<- hl];exact h1) (by simpa using ew) ⟨rfl,fin⟩) hs
def aOl:IxR X rIxS:=by
 intro value slice pins s σ H x y v u Q I rx ry h hs;obtain⟨z,i,c,rfl,rfl,hz,he,q⟩:=h;obtain⟨t,rfl⟩:=rx;obtain⟨t',rfl⟩:=ry;obtain⟨j,h1,h2,h3,h4,h5⟩:=tH he;have hl:z.cps.toList.length=z.length:=by simp[Str.length]
 rw[hl]at h1 h4 h5;have hn:=line63;exact tail_any (typeIs_str s z t) slot_str_getitem.lookup (getItem_str (c:=c) (by
  have e1:decide (i < -(2 ^ 63:Int))=false:=aCA (by lia);have e2:decide (i>=2 ^ 63)=false:=aCA (by lia);rw[e1,e2,Bool.or_false]) (by rw[h1];simpa using h2) ⟨.str ⟨#[c]⟩,H,I.tok _,⟨_,rfl⟩,q⟩) hs
def rIx(K:Frag):R2:=λx y H Q=>rIxL K x y H Q\/rIxT K x y H Q\/rIxS x y H Q
def aOg:IxR X (rIx X.K):=aKd.or (aPc.or aOl)
def xK(its:List Value)(n j:Nat)(u:Value):Obj.mapSeq (·.setIfInBounds j u) {cls:=.type "list",data:=.seq its.toArray n}={cls:=.type "list",data:=.seq (its.set j u).toArray n}:=by
 simp[Obj.mapSeq]
def Inv.lst{pins:List (Addr×Obj)}{σ:St}{H:Hp}{s:Shared}{p:Addr}{xs:List V}(I:Inv X pins σ H s)(h:H p=some (.lst xs)) :
  ∃(its:List Value) (n:Nat),Vals xs its/\s.heap.get? p=some {cls:=.type "list",data:=.seq its.toArray n}/\xs.length<=sizeLine:=by
 obtain⟨z,its,n,r,e⟩:=I.hok p _ h;exact⟨its,n,r,e,z⟩
variable{σ:St}
def Inv.lstUpd{p:Addr}{xs ys:List V}{its':List Value}{n':Nat}{f:Obj->Obj}(I:Inv X pins σ H s)(h:H p=some (.lst xs))
  (ho:s.heap.get? p=some {cls:=.type "list",data:=.seq its.toArray n})(hf:f {cls:=.type "list",data:=.seq its.toArray n}={cls:=.type "list",data:=.seq its'.toArray n'})(r:Vals ys its')(hz:ys.length<=sizeLine)(t:Nat) :
  Inv X pins σ (upd H p (.lst ys)) {s with heap:=s.heap.update p f,toks:=t}:=by
 have e:(s.heap.update p f).get? p=some {cls:=.type "list",data:=.seq its'.toArray n'}:=by
  rw[aCF f ho (by rw[hf] <;> rfl),hf]
 refine I.write (x:=p) (e:=p) (by rw[h];trivial) (.inl rfl) (λb u hb q=>(aCL _ _ (Ne.symm hb)).trans q) ⟨_,e⟩ ?_;exact⟨hz,its',n',r,e⟩
def rSetL:V->V->V->Hp->(Hp->Prop)->Prop:=λo i v H Q=>∃p xs k j,o=.ref p/\i=.int k/\H p=some (.lst xs)/\ixN xs.length k=some j/\Q (upd H p (.lst (xs.set j v)))
def aHp:PSet X rSetL:=by
 intro pins s σ H o i v ov iv u Q I ro ri rv h;obtain⟨p,xs,k,j,rfl,rfl,hp,hj,q⟩:=h;cases ro;obtain⟨t,rfl⟩:=ri;obtain⟨its,n,r,ho,hz⟩:=I.lst hp;obtain⟨h1,h2,h3,h4⟩:=zW hj;have hl:=r.length;have hn:=line63;have I':Inv X pins σ (upd H p (.lst (xs.set j v))) {s with heap:=s.heap.update p (Obj.mapSeq (·.setIfInBounds j u))} :=
  I.lstUpd hp ho (xK its n j u) (r.set rv j) (by rw[aIU];exact hz) s.toks
 by_cases h0:0<=k
 ·have hk:k.toNat=j:=by
   rw[seqIndex_of h0 h4]at h1;exact Option.some.inj h1
  exact PySem.W.ki_setAt ho h0 (by lia) (by rw[aAL,<- hl];exact h4) (by rw[hk];exact⟨_,I',q⟩)
 ·have hk:(k+(its.toArray.size:Int)).toNat=j:=by
   rw[seqIndex_neg (by lia) h3]at h1;rw[aAL,<- hl];exact Option.some.inj h1
  exact PySem.W.ki_setBack ho (by lia) (by rw[aAL,<- hl];exact h3) (by lia) (by rw[hk];exact⟨_,I',q⟩)
def sK(lo hi:Option Int)(n:Nat):(sliceBounds lo hi none n).1=((HT.sIx n 0 lo:Nat):Int)/\(sliceBounds lo hi none n).2.1=((HT.sIx n n hi:Nat):Int)/\(sliceBounds lo hi none n).2.2=1:=by
 refine⟨?_,?_,rfl⟩
 ·cases lo with
  |none=>simp[sliceBounds,HT.sIx]|some i =>
   simp only[sliceBounds,HT.sIx,Option.getD_none,show(1:Int) > 0 by decide,aBM];by_cases h:i < 0
   ·simp only[h,aBM] <;> lia
   ·simp only[h,aBW] <;> lia
 ·cases hi with
  |none=>simp[sliceBounds,HT.sIx]|some i =>
   simp only[sliceBounds,HT.sIx,Option.getD_none,show(1:Int) > 0 by decide,aBM];by_cases h:i < 0
   ·simp only[h,aBM] <;> lia
   ·simp only[h,aBW] <;> lia
def pE(its:List Value)(lo hi:Option Int):slicePick its.toArray lo hi none=((its.drop (HT.sIx its.length 0 lo)).take (HT.sIx its.length its.length hi - HT.sIx its.length 0 lo)).toArray:=by
 obtain⟨h1,h2,h3⟩:=sK lo hi its.toArray.size;unfold slicePick;rw[h1,h2,h3];simp only[sliceRange_one,pick_run,aAL] <;> rfl
def rSlL(K:Frag):V->Option Int->Option Int->Hp->VK->Prop:=λx lo hi H Q=>∃a xs,x=.ref a/\SqL K H a xs/\∀p,H p=none->Q (.ref p) (upd H p (.lst (cutV xs lo hi)))
def aLc:SlR X (rSlL X.K):=by
 intro pins s σ H x v vl vu lo hi sl Q I rx hs pl pu h;obtain⟨a,xs,rfl,hx,q⟩:=h;cases rx;obtain⟨its,r,ht,hz⟩:=I.list hx;have hlen:=r.length;refine⟨"list",_,slot_list_getitem.lookup,ht.isList.typeIs,?_⟩;refine wpAny_getItem_list_slice ht.isList hs pl pu .none (by simp) ?_ (by rw[aAL] <;> lia);rw[pE,<- hlen];refine⟨.ref s.heap.objs.size,_,I.laid (t':=s.toks) (o:=.lst (cutV xs lo hi)) (λb ob q=>aAB _ q) (aAD _) ?_,rfl,q _ (I.hok.fresh (aAD _))⟩;exact⟨aBS (lJ xs lo hi) hz,_,0,(r.drop (HT.sIx xs.length 0 lo)).take (HT.sIx xs.length xs.length hi - HT.sIx xs.length 0 lo),aAI _ rfl⟩
def flatV:V->Bool
 |.non=>true|.bl _=>true|.int _=>true|.str _=>true|_=>false
def eqV:V->V->Bool
 |.non,.non=>true|.bl a,.bl b=>a==b|.bl a,.int b=>(if a then 1 else 0)==b
 |.int a,.bl b=>a==(if b then 1 else 0)
 |.int a,.int b=>a==b|.str a,.str b=>a==b|_,_=>false
variable{x:V}{v:Value}
def aOk(ry:RelV y u)(rx:RelV x v)(fy:flatV y=true)(fx:flatV x=true):SeqAt.EqAt A s u v (eqV y x):=by
 cases y with
 |non =>
  cases ry;cases x with
  |non=>cases rx;exact SeqAt.EqAt.same _
  |bl b=>cases rx;exact SeqAt.EqAt.none_bool b
  |int b=>obtain⟨t,rfl⟩:=rx;exact SeqAt.EqAt.none_int b t
  |str b=>obtain⟨t,rfl⟩:=rx;exact SeqAt.EqAt.none_str b t
  |_=>exact absurd (show false=true from fx) aAY
 |bl a =>
  cases ry;cases x with
  |non=>cases rx;exact SeqAt.EqAt.bool_none a
  |bl b=>cases rx;exact SeqAt.EqAt.bool_bool a b
  |int b=>obtain⟨t,rfl⟩:=rx;exact SeqAt.EqAt.bool_int a b t
  |str b=>obtain⟨t,rfl⟩:=rx;exact SeqAt.EqAt.bool_str a b t
  |_=>exact absurd (show false=true from fx) aAY
 |int a =>
  obtain⟨t',rfl⟩:=ry;cases x with
  |non=>cases rx;exact SeqAt.EqAt.int_none a t'
  |bl b=>cases rx;exact SeqAt.EqAt.int_bool a t' b
  |int b=>obtain⟨t,rfl⟩:=rx;exact SeqAt.EqAt.int_int a t' b t
  |str b=>obtain⟨t,rfl⟩:=rx;exact SeqAt.EqAt.int_str a t' b t
  |_=>exact absurd (show false=true from fx) aAY
 |str a =>
  obtain⟨t',rfl⟩:=ry;cases x with
  |non=>cases rx;exact SeqAt.EqAt.str_none a t'
  |bl b=>cases rx;exact SeqAt.EqAt.str_bool a t' b
  |int b=>obtain⟨t,rfl⟩:=rx;exact SeqAt.EqAt.str_int a t' b t
  |str b=>obtain⟨t,rfl⟩:=rx;exact SeqAt.EqAt.str_str a t' b t
  |_=>exact absurd (show false=true from fx) aAY
 |_=>exact absurd (show false=true from fy) aAY
def rO:CallR X (.builtin "len") (λxs H Q=>∃p ys,xs=[.ref p]/\(SqL X.K H p ys\/SqT X.K H p ys)/\Q (.int ys.length) H):=by
 intro pins s σ H xs us Q I r h;obtain⟨p,ys,rfl,hq,q⟩:=h;obtain⟨u,rfl,rx⟩:=vals1 r;cases rx;have hn:=line63;rcases hq with hq|hq
 ·obtain⟨its,r',pl,hz⟩:=I.list hq
  have hlen:=r'.length;exact Calls.call_len_list pl.isList (by simp only[aAL] <;> lia) ⟨.int ys.length,H,I.tok _,⟨s.toks+1,by rw[aAL,hlen]⟩,q⟩
 ·obtain⟨its,r',pl,hz⟩:=I.tuple hq
  have hlen:=r'.length;exact len_tuple pl (by simp only[aAL] <;> lia) ⟨.int ys.length,H,I.tok _,⟨s.toks+1,by rw[aAL,hlen]⟩,q⟩
def sY:CallR X (.builtin "len") (λxs H Q=>∃z,xs=[.str z]/\z.length<=sizeLine/\Q (.int z.length) H):=by
 intro pins s σ H xs us Q I r h;obtain⟨z,rfl,hz,q⟩:=h;obtain⟨u,rfl,t,rfl⟩:=vals1 r;have hn:=line63;exact len_str (by lia) ⟨.int z.length,H,I.tok _,⟨_,rfl⟩,q⟩
def CallR.or{r r':List V->Hp->VK->Prop}(h:CallR X f r)(h':CallR X f r'):CallR X f (λxs H Q=>r xs H Q\/r' xs H Q):=by
 intro pins s σ H xs us Q I rs q;rcases q with q|q
 ·exact h pins s σ H xs us Q I rs q
 ·exact h' pins s σ H xs us Q I rs q
def pQ:CallR X (.type "tuple") (λxs H Q=>∃p ys,xs=[.ref p]/\((SqL X.K H p ys/\∀l,H l=none->Q (.ref l) (upd H l (.tup ys)))\/(SqT X.K H p ys/\Q (.ref p) H))):=by
 intro pins s σ H xs us Q I r h;obtain⟨p,ys,rfl,h⟩:=h;obtain⟨u,rfl,rx⟩:=vals1 r;cases rx;rcases h with⟨hq,q⟩|⟨hq,q⟩
 ·obtain⟨its,r',pl,hz⟩:=I.list hq
  have hlen:=r'.length;refine call_tuple_list pl.isList (λh' kp=>?_) (by simp only[aAL] <;> lia);have I1:Inv X pins σ H {s with heap:=h'}:=I.kept (t':=s.toks) kp;have I2:Inv X pins σ (upd H h'.objs.size (.tup ys)) {s with heap:=h'.push {cls:=.type "tuple",data:=.seq its.toArray}} :=
   I1.laid (t':=s.toks) (λb o e=>aAB _ e) (aAD _) (show ObjOk X.prog X.w _ _ _ (.tup ys)from⟨hz,its,r',IsTp.new _ _⟩)
  exact⟨.ref h'.objs.size,_,I2,rfl,q _ (I1.hok.fresh (aAD _))⟩
 ·obtain⟨its,r',pl,hz⟩:=I.tuple hq
  exact call_tuple_same pl ⟨.ref p,H,I,rfl,q⟩
def tyV(K:Frag)(T:String)(x:V)(H:Hp):Prop:=match x with
 |.str _=>T="str"|.int _=>T="int"
 |.ref p=>(T="list"/\∃xs,SqL K H p xs)\/(T="tuple"/\∃o,K.lookup p=some o/\o.cls=.type "tuple"/\o.dict=none) \/
   (T="dict"/\((∃kvs,H p=some (.dK kvs))\/∃kvs,H p=some (.dT kvs)))\/(T="set"/\∃S n,H p=some (.set S n))
 |_=>False
variable{T:String}
def aGb(I:Inv X pins σ H s)(r:RelV x v)(ty:tyV X.K T x H) :
  s.TypeIs v T/\∀a,v=.ref a->∃ob,s.heap.get? a=some ob/\ob.dict=none:=by
 cases x with
 |str z =>
  obtain⟨t,rfl⟩:=r;cases(show T="str"from ty);exact⟨typeIs_str s z t,λ_ e=>nomatch e⟩
 |int i =>
  obtain⟨t,rfl⟩:=r;cases(show T="int"from ty);exact⟨aKA s i t,λ_ e=>nomatch e⟩
 |ref p =>
  cases r;rcases ty with⟨rfl,xs,hq⟩|⟨rfl,o,hk,hc,hd⟩|⟨rfl,hk⟩|⟨rfl,S,n,hk⟩
  ·obtain⟨its,_,pl,_⟩:=I.list hq
   refine⟨pl.isList.typeIs,λa e=>?_⟩;cases e;obtain⟨o,n,e,c,hd,_⟩:=pl;exact⟨o,e,hd⟩
  ·refine⟨⟨o,I.kIn p o hk,hc⟩,λa e=>?_⟩
   cases e;exact⟨o,I.kIn _ o hk,hd⟩
  ·have z:∃o,s.heap.get? p=some o/\o.ExactDict:=by
    rcases hk with⟨kvs,hk⟩|⟨kvs,hk⟩
    ·obtain⟨_,_,_,_,o,_,_,e,ex,_⟩:=I.hok p _ hk
     exact⟨o,e,ex⟩
    ·obtain⟨_,_,_,_,o,_,_,e,ex,_⟩:=I.hok p _ hk
     exact⟨o,e,ex⟩
   obtain⟨o,e,ex⟩:=z;refine⟨⟨o,e,ex.1⟩,λa e2=>?_⟩;cases e2;exact⟨o,e,ex.2.1⟩
  ·obtain⟨o,_,_,_,e,ex,_⟩:=I.hok p _ hk
   refine⟨⟨o,e,ex.1⟩,λa e2=>?_⟩;cases e2;exact⟨o,e,ex.2.1⟩
 |_=>exact False.elim ty
def tBM0(K:Frag)(T:String)(r:V->List V->Hp->VK->Prop)(to:TE):TE:=λσ H Q=>to σ H λx H1=>tyV K T x H1/\r x [] H1 Q
def tBM(K:Frag)(T:String)(r:V->List V->Hp->VK->Prop)(to:TE)(t:TA):TE:=λσ H Q=>to σ H λx H1=>tyV K T x H1/\t σ H1 λxs H2=>r x xs H2 Q
variable{o e:Expr}{es:List Expr}{to:TE}{t:TA}{id:String}{r:V->List V->Hp->VK->Prop}
def aPu(pa:PlainAttrs T)(slot:Slot T name id)(hty:typeOf (.builtin id)=pure (.type "method_descriptor"))(hm:MtR X id r)(ho:PE X o to)
  (hbase:attributeBase o name X.env (eval o X.env)=eval o X.env:=by rfl)(hline:(apos.endLine==cpos.line)=true:=by rfl):PE X (.Call (.Attribute o name apos) [] [] cpos) (tBM0 X.K T r to):=by
 intro pins s σ H Q I h;refine wpAny_Call_method0_late hbase hline (thn (ho pins s σ H _ I h) λv s1 ⟨x,H1,I1,r1,ty,q1⟩=>?_);obtain⟨h1,h2⟩:=aGb I1 r1 ty;exact⟨T,id,pa,slot,hty,h1,h2,aGE rfl (PySem.evalArgs_none (hm pins s1 σ H1 x [] v [] Q I1 r1 .nil q1))⟩
def aLs(pa:PlainAttrs T)(slot:Slot T name id)(hty:typeOf (.builtin id)=pure (.type "method_descriptor"))(hm:MtR X id r)(ho:PE X o to)(ha:PA X (e::es) t)
  (hbase:attributeBase o name X.env (eval o X.env)=eval o X.env:=by rfl)
  (hfew:((backTo cpos (starEach (e::es) X.env)).all (λx=>!x.1)&&(backToKw cpos (keywordEach [] X.env)).all (λx=>x.1.isSome)
   && decide ((e::es).length+([]:List Keyword).length+(if([]:List Keyword).isEmpty then 0 else 1) < 30))=true:=by rfl)
  (hline:(apos.endLine==cpos.line)=true:=by rfl)(hs:starEach (e::es) X.env=(false,eval e X.env)::starEach es X.env:=by rfl)(hplain:(backTo cpos (starEach es X.env)).any (·.1)=false:=by rfl) :
  PE X (.Call (.Attribute o name apos) (e::es) [] cpos) (tBM X.K T r to t):=by
 intro pins s σ H Q I h;refine wpAny_Call_method_late hbase hfew hline rfl (thn (ho pins s σ H _ I h) λv s1 ⟨x,H1,I1,r1,ty,q1⟩=>?_);obtain⟨h1,h2⟩:=aGb I1 r1 ty;refine⟨T,id,pa,slot,hty,h1,h2,?_⟩;have hA:=ha cpos pins s1 σ H1 _ I1 q1;rw[hs]at hA ⊢;refine aGE (by show(false || (backTo cpos (starEach es X.env)).any (·.1))=false;rw[hplain] <;> rfl) (Calls.evalArgs_plain ?_);exact thn hA λus s2 ⟨vs,H2,I2,r2,q2⟩=>hm pins s2 σ H2 x vs v us Q I2 r1 r2 q2
end
def MtM(X:Cx)(id:String)(r:V->List V->Hp->VK->Prop):Prop :=
 ∀(pins:List (Addr×Obj)) (s:Shared) (σ:St) (H:Hp) (x:V) (xs:List V) (v:Value) (us:List Value) (Q:VK),Inv X pins σ H s->RelV x v->Vals xs us->r x xs H Q ->
  wpAny (model X.prog X.w) X.A (call (.builtin id) (v::us)) (EP X pins σ Q) X.xe s
variable{x:V}
def Vals.one(h:Vals [x] us):∃u,us=[u]/\RelV x u:=by
 cases h with
 |cons r t=>cases t;exact⟨_,rfl,r⟩
def Vals.two(h:Vals [x,y] us):∃u v,us=[u,v]/\RelV x u/\RelV y v:=by
 cases h with
 |cons r t=>obtain⟨u,rfl,q⟩:=Vals.one t;exact⟨_,_,rfl,r,q⟩
def Vals.zero:∀{us:List Value},Vals [] us->us=[]
 |_,.nil=>rfl
def Vals.dropLast{xs:List V}{us:List Value}(h:Vals xs us):Vals xs.dropLast us.dropLast:=by
 induction h with
 |nil=>exact .nil|cons r t ih =>
  cases t with
  |nil=>exact .nil|cons q t'=>exact .cons r ih
def Vals.rep{xs:List V}{us:List Value}(h:Vals xs us):∀k:Nat,Vals (List.replicate k xs).flatten (List.replicate k us).flatten
 |0=>.nil|k+1=>by
  rw[aFA,aFA,aHX,aHX];exact Vals.append h (Vals.rep h k)
def xU(l:List α):l.eraseIdx (l.length - 1)=l.dropLast:=by
 induction l with
 |nil=>rfl|cons a r ih =>
  cases r with
  |nil=>rfl|cons b r =>
   have e:(a::b::r).length - 1=((b::r).length - 1)+1:=by
    have h1:(a::b::r).length=r.length+2:=rfl;have h2:(b::r).length=r.length+1:=rfl;lia
   rw[e,List.eraseIdx_cons_succ,ih]
   all_goals rfl
def kX(its:List Value):∀(k:Nat) (acc:List Value),
  List.foldl (λx1 x2=>x1++x2) acc.toArray (List.replicate k its.toArray)=(acc++(List.replicate k its).flatten).toArray
 |0,acc=>by simp|k+1,acc=>by
  have e:acc.toArray++its.toArray=(acc++its).toArray:=by simp
  have e2:(acc++its)++(List.replicate k its).flatten=acc++(List.replicate (k+1) its).flatten:=by
   rw[aFA,aHX,aDE]
  rw[<- e2,<- kX its k (acc++its),<- e,aFA,aHB]
variable{σ:St}{b:Addr}{xs ys zs:List V}
def Inv.lset{its':List Value}{f:Array Value->Array Value}(I:Inv X pins σ H s)(hH:H l=some (.lst xs))
  (e:s.heap.get? l=some {cls:=.type "list",data:=.seq its.toArray n})(hf:f its.toArray=its'.toArray)(hv:Vals ys its')(hz:ys.length<=sizeLine) :
  Inv X pins σ (upd H l (.lst ys)) {s with heap:=s.heap.update l (Obj.mapSeq f),toks:=t'}:=by
 have q:=PySem.IsL.update e f;rw[hf]at q;refine I.write (x:=l) (e:=l) (by rw[hH];exact trivial) (.inl rfl) (λb' u hb hu=>(aCL s.heap (Obj.mapSeq f) (Ne.symm hb)).trans hu) ⟨_,q⟩ ?_;exact⟨hz,its',_,hv,q⟩
def Inv.lnew(I:Inv X pins σ H s)(hv:Vals ys its)(hz:ys.length<=sizeLine) :
  Inv X pins σ (upd H s.heap.objs.size (.lst ys)) {s with heap:=s.heap.push {cls:=.type "list",data:=.seq its.toArray},toks:=t'} :=
 I.laid (λ_ _ q=>aAB _ q) (aAD _) ⟨hz,its,0,hv,aAI _ rfl⟩
def Inv.fresh(I:Inv X pins σ H s):H s.heap.objs.size=none:=I.hok.fresh (aAD _)
def Inv.lstM(I:Inv X pins σ H s)(hH:H l=some (.lst xs)):xs.length<=sizeLine/\∃(its:List Value) (n:Nat),Vals xs its/\xs.length=its.length/\s.heap.get? l=some {cls:=.type "list",data:=.seq its.toArray n}:=by
 obtain⟨z,its,n,r,e⟩:=I.hok l _ hH;exact⟨z,its,n,r,r.length,e⟩
def notLongL(h:n<=sizeLine):Builtin.List.listTooLong n=false:=by
 unfold Builtin.List.listTooLong;exact aCA (by lia)
def rAppend:V->List V->Hp->VK->Prop:=λx vs H Q=>∃l xs y,x=.ref l/\vs=[y]/\H l=some (.lst xs)/\xs.length < sizeLine/\Q .non (upd H l (.lst (xs++[y])))
theorem pS:MtM X "list.append" rAppend:=by
 intro pins s σ H x vs v us Q I rx rv h;obtain⟨l,xs,y,rfl,rfl,hH,hz,q⟩:=h;cases rx;obtain⟨u,rfl,ru⟩:=rv.one;obtain⟨z,its,n,r,hl,e⟩:=I.lstM hH;refine aEP F.slot_list_append ⟨_,e,rfl⟩ F.entry_list_append (F.args_list_append_2 _ _) (PySem.list_append l its.toArray n u (by rw[aAL];lia)) ⟨e,?_⟩;refine⟨.non,_,I.lset (its':=its++[u]) hH e (by simp) (r.append (.cons ru .nil)) ?_,rfl,q⟩;rw[aCC,List.length_singleton];lia
def rExtend:V->List V->Hp->VK->Prop:=λx vs H Q=>∃l b xs zs,x=.ref l/\vs=[.ref b]/\H l=some (.lst xs)/\H b=some (.lst zs)/\xs.length+zs.length<=sizeLine/\Q .non (upd H l (.lst (xs++zs)))
theorem aDn:MtM X "list.extend" rExtend:=by
 intro pins s σ H x vs v us Q I rx rv h;obtain⟨l,b,xs,zs,rfl,rfl,hH,hB,hz,q⟩:=h;cases rx;obtain⟨u,rfl,ru⟩:=rv.one;cases ru;obtain⟨z,its,n,r,hl,e⟩:=I.lstM hH;obtain⟨z2,its2,n2,r2,hl2,e2⟩:=I.lstM hB;have hsz:its.toArray.size+its2.toArray.size<=sizeLine:=by rw[aAL,aAL];lia
 have hlong:¬(!its.toArray.isEmpty&&Builtin.List.listTooLong (its.toArray.size+its2.toArray.size))=true:=by
  rw[notLongL hsz,Bool.and_false];exact aAY
 refine aEP F.slot_list_extend ⟨_,e,rfl⟩ F.entry_list_extend (F.args_list_extend_2 _ _)
  (AutoSeq1.list_extend_list_list_0 l its.toArray n b its2.toArray n2 hlong (by rw[aAL];lia) (by lia)) ⟨e,e2,?_⟩
 refine⟨.non,_,I.lset (its':=its++its2) hH e (by simp) (r.append r2) ?_,rfl,q⟩;rw[aCC];lia
def rPop:V->List V->Hp->VK->Prop:=λx vs H Q=>∃l xs y,x=.ref l/\vs=[]/\H l=some (.lst xs)/\xs[xs.length - 1]?=some y/\Q y (upd H l (.lst xs.dropLast))
theorem aPd:MtM X "list.pop" rPop:=by
 intro pins s σ H x vs v us Q I rx rv h;obtain⟨l,xs,y,rfl,rfl,hH,hy,q⟩:=h;cases rx;have hus:=rv.zero;subst hus;obtain⟨z,its,n,r,hl,e⟩:=I.lstM hH;obtain⟨u,hu,ru⟩:=r.get hy;have hy':its.toArray[its.toArray.size - 1]?=some u:=by
  show its.toArray[its.length - 1]?=some u;rw[<- aGP,<- hl];exact hu
 refine aEP F.slot_list_pop ⟨_,e,rfl⟩ F.entry_list_pop (F.args_list_pop_1 _) (MeetsSeq.list_pop_last l its.toArray n u hy' (by rw[aAL];lia)) ⟨e,?_⟩;refine⟨y,_,I.lset (its':=its.dropLast) hH e ?_ r.dropLast ?_,ru,q⟩
 ·show its.toArray.eraseIdxIfInBounds (its.toArray.size - 1)=its.dropLast.toArray
  rw[aAL,List.eraseIdxIfInBounds_toArray,xU]
 ·rw[List.length_dropLast]
  lia
def rCat:R2:=λx y H Q=>∃l b xs zs,x=.ref l/\y=.ref b/\H l=some (.lst xs)/\H b=some (.lst zs)/\xs.length+zs.length<=sizeLine/\∀p,H p=none->Q (.ref p) (upd H p (.lst (xs++zs)))
def aPw:OpR X (binaryOp .Add) rCat:=by
 intro pins s σ H x y v u Q I rx ry h;obtain⟨l,b,xs,zs,rfl,rfl,hH,hB,hz,q⟩:=h;cases rx;cases ry;obtain⟨z,its,n,r,hl,e⟩:=I.lstM hH;obtain⟨z2,its2,n2,r2,hl2,e2⟩:=I.lstM hB;refine PySem.P.add_list e e2 ?_ (by rw[aAL,aAL];lia);have ea:its.toArray++its2.toArray=(its++its2).toArray:=by simp
 rw[ea];exact⟨.ref _,_,I.lnew (t':=s.toks) (r.append r2) (by rw[aCC];lia),rfl,q _ I.fresh⟩
def rRep:R2:=λx y H Q=>∃l k xs,x=.ref l/\y=.int k/\H l=some (.lst xs) /\ -(2 ^ 63)<=k/\k < 2 ^ 63/\xs.length*k.toNat<=sizeLine /\
 ∀p,H p=none->Q (.ref p) (upd H p (.lst (List.replicate k.toNat xs).flatten))
def sF(xs:List α)(k:Nat):(List.replicate k xs).flatten.length=k*xs.length:=by
 induction k with
 |zero=>simp|succ k ih=>rw[aFA,aHX,aCC,ih,Nat.succ_mul,Nat.add_comm]
theorem aPz:OpR X (binaryOp .Mult) rRep:=by
 intro pins s σ H x y v u Q I rx ry h;obtain⟨l,k,xs,rfl,rfl,hH,h1,h2,hz,q⟩:=h;cases rx;obtain⟨t,rfl⟩:=ry;obtain⟨z,its,n,r,hl,e⟩:=I.lstM hH;have hlen:its.toArray.size*k.toNat<=sizeLine:=by rw[aAL,<- hl];exact hz
 have hcap:¬its.toArray.size*k.toNat > (2 ^ 63 - 1) / 8:=by
  have:(sizeLine:Nat)<=(2 ^ 63 - 1) / 8:=by decide
  lia
 have hfit:¬(!Builtin.List.listFitsIndex k)=true:=by
  rw[fitsIndex_both h1 h2];exact aAY
 have hlong:¬Builtin.List.listTooLong (its.toArray.size*k.toNat)=true:=by
  rw[notLongL hlen];exact aAY
 have hnew:List.foldl (λx1 x2=>x1++x2) #[] (List.replicate (if its.toArray.isEmpty=true then 0 else k.toNat) its.toArray)=(List.replicate k.toNat its).flatten.toArray:=by
  have f0:∀m:Nat,List.foldl (λx1 x2=>x1++x2) #[] (List.replicate m its.toArray)=(List.replicate m its).flatten.toArray:=λm=>by
   have:=kX its m [];rw[aFG]at this;exact this
  rw[f0];cases its with
  |nil=>simp|cons a r'=>rw[aAH (by simp)]
 refine wpAny_binaryOp_repeat_ref (T:="list") (U:="int") (by decide) ⟨_,e,rfl⟩ (λs'=>aKA s' k t) noFill_list_mul F.fills_int_mul aIM repeat_list F.slot_int_index.lookup
  (aEP aIM (aKA s k t) F.entry_int_rmul (F.args_int_rmul_2 _ _) (int___rmul___int_list k t l its.toArray n)
   ⟨e,rfl,⟨_,e,rfl⟩,aEP F.slot_list_mul ⟨_,e,rfl⟩ F.entry_list_mul (F.args_list_mul_2 _ _) (AutoListH.list___mul___list_int_3 l its.toArray n k t hfit hcap hlong) ⟨e,?_⟩⟩)
 rw[hnew];exact⟨.ref _,_,I.lnew (t':=s.toks) (r.rep k.toNat) (by rw[sF,Nat.mul_comm];exact hz),rfl,q _ I.fresh⟩
variable{prog:Program}{E:Value->Shared->Prop}
end L2
end
namespace Att
open PySem PySem.W PySem.Calls PyProof.Rows
variable{P:Params}
def lP :∀(ns:List Int) (vs:List Value),WellAll P h vs (ns.map WData.int)->IntsAre vs ns:=by
 intro ns;induction ns with
 |nil =>
  intro vs w;rw[List.map_nil]at w;cases w;exact .nil
 |cons n ns ih =>
  intro vs w;rw[aAK]at w;cases w with
  |cons a b =>
   cases a;exact .cons _ _ (ih _ b)
variable{l:OpenLaw}
def aCw(hn:l.most=some n){args:List WData}{vals:List Value}
  (hpre:l.row.toRowW.claim.pre args=true)(hwl:WellAll P h vals args) :
  ∃a vs ns,vals=[Value.ref a]/\args=[WData.list (ns.map WData.int)]/\h.get? a=some {cls:=.type "list",data:=.seq vs.toArray}/\IntsAre vs ns/\ns.length<=n:=by
 have hsh:WShape.hasAll [] args [.list .int]=true:=(pre_splitW hpre).1;have hc:l.pre.holds [] {args:=args}=true:=(pre_splitW hpre).2;obtain⟨d,r,rfl,h1,h2⟩:=hasAllW_cons hsh;obtain rfl:=hasAllW_nil h2;obtain⟨xs,rfl,h3⟩:=hasW_list h1;obtain⟨ns,rfl⟩:=items_int h3;have hlen:ns.length<=n:=by
  unfold OpenLaw.pre at hc;have h4:(WTm.not (.lt (.lit (.int (n:Int))) (.len (.arg 0)))).holds [] {args:=[.list (ns.map .int)]}=true:=by
   have h4:=(holds_andW hc).1;rw[hn]at h4;exact h4
  have h5:=condW_of h4 (w_not (w_lt w_lit (w_len_list (w_arg rfl))));rw[aAM]at h5;refine Nat.le_of_not_lt λq=>?_
  have q':(n:Int) < ((ns.length:Nat):Int):=by lia
  first
   |(rw[decide_eq_true q']at h5;exact absurd h5 (by decide))
   |(simp at h5;lia)
 cases hwl with
 |cons w1 w2 =>
  cases w2;cases w1 with
  |list ho hall=>exact⟨_,_,ns,rfl,rfl,ho,lP ns _ hall,hlen⟩
def aBt(l:OpenLaw)(args:List WData):l.row.toRowW.claim.post args (.bool true) args=true :=
 postW_of (r:=l.row.toRowW) (X:=(true==true))
  (show WShape.has [] (.bool true) .bool=true by first|rfl|decide|simp[WShape.has,WShape.arms,WShape.armsAll])
  (show(WTm.eq .res (.lit (.bool true))).value [] {args:=args,res:=some (.bool true),after:=args}=some (.bool (true==true))from w_eq_bool (w_res rfl) w_lit) rfl
def attach_call{q:Program}{d:DefRec}
  (hn:l.most=some n)(hdf:d.params.defaults=[])
  (call:∀(w:World) (s₀ s₁:Shared) (mg mb:Str->Option Value) (fa:Addr) (o:Obj) (pm cd doc:Value) (a:Addr) (vs:List Value) (ns:List Int),
   Ground q loose [] XP w s₀ mg mb s₁.heap->YP w s₁.heap ->
   s₁.heap.get? fa=some o->o.data=.func (docDef d.name d.params d.body d.scope pm cd doc)->s₁.heap.CodeRec cd d.name->mg d.name=some (.ref fa) ->
   s₁.heap.get? a=some {cls:=.type "list",data:=.seq vs.toArray}->IntsAre vs ns->ns.length<=n->s₁.gens=#[] ->
   codeAny (model l.prog w) callerA (.call (.ref fa) ⟨[.ref a],[]⟩) (λr s'=>r=.ok (.ret (.bool true))/\OldK s₁.heap s'.heap/\s'.os=s₁.os/\AllBare s'.gens) s₁) :
  WalkO q loose XP YP l.row.toRowW d [] (λf vs=>PySem.call f vs):=by
 intro w s₀ s₁ mg mb G Y fa o pm cd doc dV kV ho hd hcd hD hmg hg args vals as hpre hlay hrd hwl hlo;obtain rfl:dV=.none:=Dflts.none hD hdf;obtain rfl:kV=.none:=Dflts.noKw hD;obtain⟨a,vs,ns,rfl,rfl,hobj,hints,hlen⟩:=aCw hn hpre hwl;refine enter_call (codeAny_mono (call w s₀ s₁ mg mb fa o pm cd doc a vs ns G Y ho (fd_plain hd) hcd hmg hobj hints hlen hg) λr s' hq=>?_);obtain⟨rfl,h2,h3,h4⟩:=hq;exact⟨.inl ⟨.bool true,.bool true,[],rfl,λ_=>rfl,.bool true,aBt l _,λ_=>⟨List.Pairwise.nil,λ_ hm=>(nomatch hm)⟩⟩,h2,h3,h4⟩
variable{prog:Program}{E:Value->Shared->Prop}{K:Frag}
def ledger(h:Heap)(L d:Addr):List (Addr×Obj):=(List.range h.objs.size).filterMap λa=>if a=L\/a=d then none else(h.get? a).map λo=>(a,o)
end Att
section
open PySem PySem.Spec PyProof.Rows
namespace L2
def qV:∀{vs:List Value} {ns:List Int},IntsAre vs ns->Vals (ns.map V.int) vs
 |_,_,.nil=>.nil|_,_,.cons n t h=>.cons ⟨t,rfl⟩ (qV h)
def Only(H:Hp):Prop:=∀b,H b=none\/∃o xs,H b=some (.frz o (.lst xs))
variable{a:Addr}
def aEv{mb:Str->Option Value}{k:Nat}{fa:Addr}{x:Str}{s₁:Shared}{vs:List Value}
  (KX:K.In s₁.heap)(hns:s₁.heap.Ns mainGlobals mg)(hb:s₁.heap.Ns builtinsNs mb)(hbb:∀x:Str,x≠"__name__"->mb x=bootBuiltins x)(hlim:s₁.heap.NoLimit)(hg:s₁.gens=#[])
  (ha:s₁.heap.get? a=some {cls:=.type "list",data:=.seq vs.toArray})(hi:IntsAre vs ns)(hl:ns.length<=sizeLine)(hr:Room k callerA)
  (F:∀base:Heap,K.In base->base.Ns mainGlobals mg->FnOk P w K mg base CX k fa fd [x] sp)(hbind:∀(s:Shared) (u:Value),BindsTo s fd ⟨[u],[]⟩ [(x,u)])
  (hsp:∀H:Hp,Only H->SqL K H a (ns.map V.int)->sp [.ref a] H (λv _=>v=.bl true) λ_ _ _=>False)
  (hCX:∀H e s',CX [] H s₁ (λ_ _ _=>False) e s'->False) :
  codeAny (model P w) callerA (.call (.ref fa) ⟨[.ref a],[]⟩) (λr s'=>r=.ok (.ret (.bool true))/\OldK s₁.heap s'.heap/\s'.os=s₁.os/\AllBare s'.gens) s₁:=by
 have rv:=qV hi;have lenV:=hi.length;have core:∀H:Hp,Only H->SqL K H a (ns.map V.int)->HOk P w H s₁.heap->(∀b,H b≠none->b=a)->(H a≠none->K.lookup a=none) ->
   codeAny (model P w) callerA (.call (.ref fa) ⟨[.ref a],[]⟩) (λr s'=>r=.ok (.ret (.bool true))/\OldK s₁.heap s'.heap/\s'.os=s₁.os/\AllBare s'.gens) s₁:=by
  intro H hO hS hok hA hK;have base_of:∀{b:Addr} {o:Obj},s₁.heap.get? b=some o->H b=none->(hidT s₁.heap H).get? b=some o:=λe n=>aFm e n
  have noA:∀{b:Addr} {o:Obj} {es:Array DictEntry} {ep:Nat},s₁.heap.get? b=some o->o.data=.dict es ep->H b=none:=λ{b o es ep} e d=>by
   cases q:H b with
   |none=>rfl|some u =>
    have e':b=a:=hA b (by rw[q];simp);subst e';rw[ha]at e;cases e;have d':Data.seq vs.toArray _=Data.dict es ep:=d;cases d'
  have nsK:∀{b:Addr} {m:Str->Option Value},s₁.heap.Ns b m->(hidT s₁.heap H).Ns b m:=λ{b m} ⟨o,es,ep,e,d,r⟩=>⟨o,es,ep,base_of e (noA e d),d,r⟩
  have hKb:K.In (hidT s₁.heap H):=λb o e=>base_of (KX b o e) (by
   cases q:H b with
   |none=>rfl|some u =>
    have e':b=a:=hA b (by rw[q];simp);subst e';rw[hK (by rw[q];simp)]at e;cases e)
  have hM:Mod K mg (hidT s₁.heap H):=⟨hKb,nsK hns,⟨mb,nsK hb,hbb⟩,let⟨mc,h1,h2⟩:=hlim;⟨mc,nsK h1,h2⟩⟩
  have e0:Env0 P w K mg (hidT s₁.heap H) callerA [] s₁ H:=⟨rfl,hM,λb o e=>aIh e,Nat.le_of_eq (aCo _ _),trivial,λb hb=>absurd (show b∈([]:List Addr)from hb) (by simp),hok,.of_eq hg⟩
  refine codeAny_mono ((F _ hKb (nsK hns)).run callerA [] s₁ H ⟨[.ref a],[]⟩ [.ref a] [.ref a] _ _ hr e0 (hbind s₁ (.ref a)) (.cons rfl .nil) (hsp H hO hS)) λr s' h=>?_
  cases r with
  |error e=>exact(hCX H e s' h).elim|ok fl =>
   cases fl with
   |next=>exact False.elim h|brk=>exact False.elim h|cont=>exact False.elim h|ret u =>
    obtain⟨v,H',os,bare,un,hok',r',q⟩:=h;have q':v=.bl true:=q;subst q';obtain rfl:u=Value.bool true:=r';refine⟨rfl,OldK.of_keep λb o e=>?_,os,bare⟩;cases q:H b with
    |none=>exact un.keep b o e q (by intro z;exact absurd (show b∈([]:List Addr)from z) (by simp)) (by simp)
    |some u =>
     rcases hO b with z|⟨ob,xs,z⟩
     ·rw[q]at z;cases z
     ·have z2:=un.frzs b ob _ z
      obtain⟨e1,_⟩:=hok b _ z;obtain⟨e2,_⟩:=hok' b _ z2;rw[e]at e1;cases e1;exact e2
 cases hk:K.lookup a with
 |some o =>
  have e:=KX a o hk;rw[ha]at e;cases e;refine core (λ_=>none) (λ_=>.inl rfl) (.inr ⟨_,vs.toArray,_,hk,rfl,rfl,rfl,by rw[aAL,lenV];exact hl,by simpa using rv⟩) (λb u z=>by have z':(none:Option HO)=some u:=z;cases z') (λb z=>absurd rfl z) λz=>absurd rfl z
 |none =>
  refine core (λb=>if b=a then some (.frz {cls:=.type "list",data:=.seq vs.toArray} (.lst (ns.map V.int)))else none) (λb=>?_) (.inl (.inr ⟨{cls:=.type "list",data:=.seq vs.toArray},aAG rfl⟩)) (λb u z=>?_) (λb z=>?_) λ_=>hk
  ·by_cases hb:b=a
   ·exact .inr ⟨_,_,aAG hb⟩
   ·exact .inl (aAH hb)
  ·by_cases hb:b=a
   ·have z':=(aAG hb).symm.trans z
    cases z';subst hb;exact⟨ha,by rw[aAM];exact hl,vs,_,rv,ha⟩
   ·have z':=(aAH hb).symm.trans z
    cases z'
  ·by_cases hb:b=a
   ·exact hb
   ·exact absurd (aAH hb) z
abbrev KOf(_:K.In h):Frag:=K
def aBp{l:PySem.W.OpenLaw}{k:Nat}{q:Program}{d:DefRec}{K:Params->Frag}{CX:World->CXT}{sp:World->Sp}
  (hn:l.most=some n)(hn2:n<=sizeLine)(hdf:d.params.defaults=[])(hr:Room k callerA)
  (hY:∀(w:World) (h:Heap),YP w h->(K w.params).In h)
  (F:∀(w:World) (mg:Str->Option Value) (fa:Addr) (h:Heap),(K w.params).In h->h.Ns mainGlobals mg->mg d.name=some (.ref fa) ->
   ∃fd:FuncData,(∀(s:Shared) (u:Value),BindsTo s fd ⟨[u],[]⟩ [(x,u)]) /\
    ∀base:Heap,(K w.params).In base->base.Ns mainGlobals mg->FnOk l.prog w (K w.params) mg base (CX w) k fa fd [x] (sp w))
  (hsp:∀(w:World) (H:Hp) (a:Addr) (ns:List Int),ns.length<=n->Only H->SqL (K w.params) H a (ns.map V.int)->sp w [.ref a] H (λv _=>v=.bl true) λ_ _ _=>False)
  (hCX:∀(w:World) (H:Hp) (s:Shared) (e:Value) (s':Shared),CX w [] H s (λ_ _ _=>False) e s'->False) :
  PySem.W.WalkO q loose XP YP l.row.toRowW d [] (λf vs=>PySem.call f vs):=by
 refine Att.attach_call hn hdf λw s₀ s₁ mg mb fa o pm cd doc a vs ns G Y ho hd hcd hmg hobj hints hlen hg=>?_
 have KX:=hY w _ Y;obtain⟨fd,hb,hF⟩:=F w mg fa _ KX G.T.g hmg;exact aEv KX G.T.g G.T.b G.T.builtins G.T.nolimit hg hobj hints (aBS hlen hn2) hr hF hb (λH hO hS=>hsp w H a ns hlen hO hS) λH e s'=>hCX w H s₁ e s'
def defArgs(s:Stmt):Arguments:=match s with
 |.FunctionDef _ a _ _ _ _ _ _ _ _=>a|_=>{posonlyargs:=[],args:=[],vararg:=none,kwonlyargs:=[],kw_defaults:=[],kwarg:=none,defaults:=[]}
def defBody(s:Stmt):List Stmt:=match s with
 |.FunctionDef _ _ b _ _ _ _ _ _ _=>b|_=>[]
def defScope(s:Stmt):Scope:=match s with
 |.FunctionDef _ _ _ _ _ _ sc _ _ _=>sc|_=>{kind:=.function,names:=[],isGenerator:=false,isCoroutine:=false}
abbrev CX0:CXT:=λ_ _ _ _ _ _=>False
abbrev E0:XK:=λ_ _ _=>False
def pass0:Passes CX0 X E0:=λ_ _ _ _ _ _ _ h=>h.elim
structure Fun(K:Frag)(x qual:Str)(st:Stmt)(f:Addr)(fd:FuncData):Prop where
 ex:∃(oc:Value) (od:Option Addr) (kV doc pm:Value) (an:Option Addr) (cdv ct:Value) (osl:Array (Option Value)),
  fd=fnOf x qual (defArgs st) (defBody st) (defScope st) .none kV doc pm an cdv ct/\K.lookup f=some ⟨oc,od,.func fd,osl⟩/\codeIn K cdv qual=true
 kp:keepIn K (.ref f)=true
variable{K:Frag}{st:Stmt}{f:Addr}
theorem Fun.ok{k:Nat}(F:Fun K x qual st f fd)(S:FnScope N ps (defScope st))(len:∀vs H Q E,sp vs H Q E->vs.length=ps.length)
  (hbody:∀(cdv:Value) (A:Around) (outer:List Env) (s:Shared) (H:Hp) (vs:List V) (Q:VK) (E:XK),Room k (A.deeper (envOfC qual (defScope st) s.heap.objs.size f cdv))->sp vs H Q E ->
   ∃t,PSs (cxOf CX0 P w K mg base N qual (defScope st) f cdv A outer s H E).nox (defBody st) t/\t {nx:=λ_ H'=>Q .non H',rt:=Q} (start N vs) H):FnOk P w K mg base CX0 (k+1) f fd ps sp:=by
 obtain⟨oc,od,kV,doc,pm,an,cdv,ct,osl,rfl,lk,hcd⟩:=F.ex;refine aFz lk hcd S len λA outer s H vs Q E hr hsp=>?_
 obtain⟨t,h,q⟩:=hbody cdv A outer s H vs Q E hr hsp;exact⟨t,h.nox,q⟩
theorem Fun.binds(F:Fun K x qual st f fd)
  (h:∀(kV doc pm:Value) (an:Option Addr) (cdv ct:Value) (us:List Value),us.length=ps.length->bindArgs (fnOf x qual (defArgs st) (defBody st) (defScope st) .none kV doc pm an cdv ct) ⟨us,[]⟩=pure (ps.zip us)):Binds K fd ps []:=by
 obtain⟨oc,od,kV,doc,pm,an,cdv,ct,osl,rfl,lk,hcd⟩:=F.ex;exact .all (h kV doc pm an cdv ct)
def aPp{kV:Value}(l:K.lookup f=some ⟨oc,od,.func (fnOf x qual (defArgs st) (defBody st) (defScope st) .none kV doc pm an cdv ct),osl⟩)
  (c:codeIn K cdv qual=true)(k:keepIn K (.ref f)=true):Fun K x qual st f (fnOf x qual (defArgs st) (defBody st) (defScope st) .none kV doc pm an cdv ct):=⟨⟨oc,od,kV,doc,pm,an,cdv,ct,osl,rfl,l,c⟩,k⟩
def Same(H H':Hp):Prop:=∀b o,H b=some o->H' b=some o
def Same.trans(a:Same H H1)(b:Same H1 H2):Same H H2:=λc o h=>b c o (a c o h)
def Same.free(e:Same H H')(h:H' l=Option.none):H l=Option.none:=by
 cases q:H l with
 |none=>rfl|some o =>
  rw[e l o q]at h;cases h
def Same.seq{xs:List V}(e:Same H H')(h:SqL K H a xs):SqL K H' a xs:=by
 rcases h with(h|⟨o,h⟩)|h
 ·exact .inl (.inl (e _ _ h))
 ·exact .inl (.inr ⟨o,e _ _ h⟩)
 ·exact .inr h
end L2
set_option maxHeartbeats 4000000
namespace L2
variable{tg:Expr}
def CDivW(_ j:Int):Prop:=0 < j/\j < 18446744073709551616
def aDo(h:n < 18446744073709551616):n.log2 < 9000:=by
 by_cases h0:n=0
 ·subst h0;decide
 ·have:n.log2 < 64:=(Nat.log2_lt h0).2 (by simpa using h)
  lia
def aFy:OpR X (binaryOp .FloorDiv) (rI CDivW λi j=>.int (i / j)):=opI λi j _ _ _ _ _ hc q=>by
 have h1:(0:Int) < j:=hc.1;have h2:j < 18446744073709551616:=hc.2;exact floordiv_int (by lia) (by rw[Int.fdiv_eq_ediv_of_nonneg i (by lia)];exact q) (.inl (PyProof.noPylong_of_log2 (aDo (by lia))))
def rIsT(K:Frag):List V->Hp->VK->Prop:=λxs H Q=>∃x T t b,xs=[x,.ty T]/\TyOf K H x t/\PySem.W.kitOne K t (.type T)=some b/\Q (.bl b) H
def vM:CallR X (.builtin "isinstance") (rIsT X.K):=by
 intro pins s σ H xs us Q I r h;obtain⟨x,T,t,b,e,ty,ek,q⟩:=h;subst e;obtain⟨u,w',rfl,r1,r2⟩:=vals2 r;obtain rfl:w'=Value.type T:=r2;exact aDh I r1 ty ek λtk=>⟨.bl b,H,I.tok tk,rfl,q⟩
inductive IntsE:List Expr->List Int->Prop where
 |nil:IntsE [] []
 |cons {i:Int} {j:Nat} {p:Pos} {r:List Expr} {ns:List Int} (h:IntsE r ns):IntsE (.Constant (.int i) j p::r) (i::ns)
def aIx{es:List Expr}(h:IntsE es ns):PA X es (λ_ H Q=>Q (ns.map V.int) H):=by
 induction h with
 |nil=>exact cJ|cons h ih=>exact bF aFj ih
structure JE(X:Cx)(e:Expr)(t:TE):Prop where
 h:PE X e t
structure JS(X:Cx)(st:Stmt)(t:TS):Prop where
 h:PS X st t
structure JSs(X:Cx)(sts:List Stmt)(t:TS):Prop where
 h:PSs X sts t
def fC{env:Env}{f:Str×NameKind->List (Str×Addr)->Sem (ForInStep (List (Str×Addr)))}
  (hf:∀y acc c,y.2=NameKind.free->env.cells.lookup y.1=some c->f y acc=pure (.yield ((y.1,c)::acc)))(hf':∀y acc,y.2≠NameKind.free->f y acc=pure (.yield acc)) :
  ∀(names:List (Str×NameKind)) (acc:List (Str×Addr)),(∀y∈names,y.2=NameKind.free->∃c,env.cells.lookup y.1=some c)->(∀x c,acc.lookup x=some c->env.cells.lookup x=some c) ->
   ∃cl,forIn names acc f=(pure cl:Sem (List (Str×Addr)))/\(∀x c,cl.lookup x=some c->env.cells.lookup x=some c)/\(∀y∈names,y.2=NameKind.free->∃c,cl.lookup y.1=some c)/\(∀x c,acc.lookup x=some c->∃c',cl.lookup x=some c')
 |[],acc,_,ha=>⟨acc,rfl,ha,(λ_ h=>nomatch h),λx c h=>⟨c,h⟩⟩
 |y::r,acc,hn,ha=>by
  by_cases hy:y.2=NameKind.free
  ·obtain⟨c,hc⟩:=hn y aBG hy
   have ha':∀x d,((y.1,c)::acc).lookup x=some d->env.cells.lookup x=some d:=λx d h=>by
    rw[aDK]at h;cases e:x==y.1 with
    |true =>
     rw[e]at h;have:x=y.1:=by simpa using e
     subst this;cases h;exact hc
    |false=>rw[e]at h;exact ha x d h
   obtain⟨cl,h1,h2,h3,h4⟩:=fC hf hf' r _ (λz hz=>hn z (aBF _ hz)) ha';have hyl:∃c',cl.lookup y.1=some c':=h4 y.1 c (by rw[aDK];simp);refine⟨cl,?_,h2,λz hz hzf=>?_,λx d hx=>?_⟩
   ·rw[aGD,hf y acc c hy hc]
    exact h1
   ·rcases aAU.mp hz with rfl|hz
    ·exact hyl
    ·exact h3 z hz hzf
   ·by_cases e:x=y.1
    ·rw[e];exact hyl
    ·have e':(x==y.1)=false:=by simpa using e
     exact h4 x d (by rw[aDK,e'];exact hx)
  ·obtain⟨cl,h1,h2,h3,h4⟩:=fC hf hf' r acc (λz hz=>hn z (aBF _ hz)) ha
   refine⟨cl,?_,h2,λz hz hzf=>?_,h4⟩
   ·rw[aGD,hf' y acc hy]
    exact h1
   ·rcases aAU.mp hz with rfl|hz
    ·exact absurd hzf hy
    ·exact h3 z hz hzf
def dM{scope:Scope}(h:∀y∈scope.names,y.2=NameKind.free->∃c,env.cells.lookup y.1=some c) :
  ∃cl,closureFor scope env=pure cl/\(∀x c,cl.lookup x=some c->env.cells.lookup x=some c)/\(∀y∈scope.names,y.2=NameKind.free->∃c,cl.lookup y.1=some c):=by
 obtain⟨cl,h1,h2,h3,_⟩:=fC (env:=env) (f:=λx cs=>match x with
   |(name,kind)=>if(kind==NameKind.free)=true then do
     let a <- cellOf env name
     pure (ForInStep.yield ((name,a)::cs))
     else pure (ForInStep.yield cs)) (λy acc c hy hc=>by
    obtain⟨n,k⟩:=y;simp only at hy hc;subst hy;simp only[beq_self_eq_true,aBM,cellOf,hc];rfl) (λy acc hy=>by
    obtain⟨n,k⟩:=y;simp only at hy;have:(k==NameKind.free)=false:=by simpa using hy
    simp only[this,aAT,aBW]) scope.names [] h (λ_ _ z=>by simp at z)
 refine⟨cl,?_,h2,h3⟩;show(forIn scope.names [] _ >>= λcs=>pure cs)=pure cl;exact(congrArg (· >>= λcs=>(pure cs:Sem (List (Str×Addr)))) h1).trans rfl
def bO{env:Env}(hk:env.scope.kind=.function):∀{names:List (Str×NameKind)} {x:Str},names.lookup x=some .free->env.kindOf x=some .cell ->
  (names.map λ(n,k)=>if(k==NameKind.free&&env.scope.kind==.function&&env.kindOf n==some .cell)then(n,NameKind.cell)else(n,k)).lookup x=some .cell
 |[],_,h,_=>by simp at h
 |(n,k)::r,x,h,hx=>by
  rw[aAK];rw[aDK]at h;cases e:x==n with
  |true =>
   rw[e]at h;have:x=n:=by simpa using e
   subst this;cases h;simp[hk,hx,aDK]
  |false =>
   rw[e]at h;have ih:=bO hk h hx;simp only;split <;> (rw[aDK,e];exact ih)
def bZ{env:Env}:∀{names:List (Str×NameKind)} {x:Str} {k':NameKind},
  (names.map λ(n,k)=>if(k==NameKind.free&&env.scope.kind==.function&&env.kindOf n==some .cell)then(n,NameKind.cell)else(n,k)).lookup x=some k'->k'=.cell\/k'=.free ->
  ∃k,(x,k)∈names/\(k=.cell\/k=.free)
 |[],_,_,h,_=>by simp at h
 |(n,k)::r,x,k',h,hk=>by
  rw[aAK]at h;simp only at h;cases e:x==n with
  |true =>
   have:x=n:=by simpa using e
   subst this;refine⟨k,aBG,?_⟩;split at h
   ·rename_i hc
    simp only[aFP]at hc;exact .inr (by simpa using hc.1.1)
   ·rw[aDK,e]at h
    cases h;exact hk
  |false =>
   have h':(r.map λ(n,k)=>if(k==NameKind.free&&env.scope.kind==.function&&env.kindOf n==some .cell)then(n,NameKind.cell)else(n,k)).lookup x=some k':=by
    split at h <;> (rw[aDK,e]at h;exact h)
   obtain⟨k1,h1,h2⟩:=bZ h' hk;exact⟨k1,aBF _ h1,h2⟩
def compCx(X:Cx)(Nc:List Str)(scope:Scope)(cl:List (Str×Addr))(C:Addr)(fp:List Addr)(pins:List (Addr×Obj))(s₂:Shared)(H₂:Hp):Cx where
 prog:=X.prog
 w:=X.w
 K:=X.K
 mg:=X.mg
 base:=X.base
 A:=X.A
 N:=Nc
 s₀:=s₂
 H₀:=H₂
 env:=compEnvC scope cl C X.env
 outer:=X.stack
 stack:=X.stack
 ex:=fp
 fn:=λ_=>false
 calm:=X.calm
 pn:=X.pn++pins
 xe:=λ_ _=>False
structure CompOk(N0:List Str)(sc0:Scope)(scope:Scope)(Nc:List Str)(js:List (Option Nat)):Prop where
 kind:scope.kind=.function
 nocell:∀y∈scope.names,y.2≠.cell
 names:∀y∈scope.names,y.2=.local->scope.names.lookup y.1=some .local
 free:∀y∈scope.names,y.2=.free->sc0.names.lookup y.1=some .cell
 len:js.length=Nc.length
 slots:∀p∈Nc.zip js,∀j∈p.2,N0[j]?=some p.1/\scope.names.lookup p.1=some .free/\sc0.names.lookup p.1=some .cell
def outσ(js:List (Option Nat))(σ:St):St:=js.map λo=>o.bind λj=>(σ[j]?).join
variable{σ:St}{scope:Scope}{js:List (Option Nat)}
def aBc(I:Inv X pins σ H₂ s₂)(hc:cP)(T:CompOk X.N X.env.scope scope Nc js)(hcl:∀x c,cl.lookup x=some c->X.env.cells.lookup x=some c)(hfr:∀y∈scope.names,y.2=.free->∃c,cl.lookup y.1=some c)
  (hC:s₂.heap.objs.size<=C)(hf:∀b∈fp,FpOk X pins H₂ b)(ho:∀b∈fp,∃o,s₂.heap.get? b=some o):(compCx X Nc scope cl C fp pins s₂ H₂).Ok where
 mod:=I.ok.mod
 kind:=T.kind
 glob:=I.ok.glob
 blt:=I.ok.blt
 above:=hC
 inj:=λx y c h1 h2=>I.ok.inj x y c (hcl x c h1) (hcl y c h2)
 has:=λx hx=>by
  have hx':∃k',(relabel scope X.env).names.lookup x=some k'/\(k'=.cell\/k'=.free):=by
   rcases hx with h|h
   ·exact⟨_,h,.inl rfl⟩
   ·exact⟨_,h,.inr rfl⟩
  obtain⟨k',h1,h2⟩:=hx';obtain⟨k,h3,h4⟩:=bZ h1 h2;rcases h4 with rfl|rfl
  ·exact absurd rfl (T.nocell _ h3)
  ·exact hfr _ h3 rfl
 cab:=λx c h=>by cases h
 hd:=λh=>I.ok.hd h
 frames:=I.ok.frames
 stk:=.inl rfl
 exf:=λb hb=>by
  obtain⟨f0,f1,f2,f3,f4,f5⟩:=hf b hb;obtain⟨o,e⟩:=ho b hb;exact⟨aAO (aAZ (aAE e) hC),λx c h=>f4 x c (hcl x c h)⟩
 bs:=λb o e=>I.bs b o e
 bsz:=aBS I.ok.bsz I.sz
 noex:=λb o e hb=>by
  obtain⟨f0,f1,f2,f3,f4,f5⟩:=hf b hb;rcases f3 with z|z
  ·exact I.ok.noex b o e z
  ·exact absurd (aAZ (aAE (I.ok.bs b o e).1) z) (aGW _)
 exfs:=λb hb z=>by
  obtain⟨f0,f1,f2,f3,f4,f5⟩:=hf b hb;rcases aAU.mp (I.stkSub b z)with q|q
  ·exact f1 q
  ·exact f2 q
 funs:=I.stack
 frf:=I.stkFree
def yY(I:Inv X pins σ H₂ s₂)(hc:cP)(T:CompOk X.N X.env.scope scope Nc js)(hcl:∀x c,cl.lookup x=some c->X.env.cells.lookup x=some c)(hfr:∀y∈scope.names,y.2=.free->∃c,cl.lookup y.1=some c)
  (hf:∀b∈fp,FpOk X pins H₂ b)(ho:∀b∈fp,∃o,s₂.heap.get? b=some o){h₁:Heap}{tk:Nat}(hC:C=s₂.heap.objs.size+1)(old:∀b u,s₂.heap.get? b=some u->h₁.get? b=some u)
  (hns:h₁.Ns C m)(hD:h₁.get? s₂.heap.objs.size=some {cls:=.type "list",data:=.seq #[] n}) :
  Inv (compCx X Nc scope cl C fp pins s₂ H₂) [] (outσ js σ) (upd H₂ s₂.heap.objs.size (.lst [])) {s₂ with heap:=h₁,toks:=tk}:=by
 have lt:∀b o,s₂.heap.get? b=some o->b < s₂.heap.objs.size:=λb o e=>aAE e
 have hle:s₂.heap.objs.size<=C:=by rw[hC];exact aGX _
 have cellc:∀x c,cl.lookup x=some c->c < s₂.heap.objs.size:=λx c h=>by
  obtain⟨v,o,e,_⟩:=I.cell x c (hcl x c h);exact lt c o e
 have new:ObjOk X.prog X.w (upd H₂ s₂.heap.objs.size (.lst [])) h₁ s₂.heap.objs.size (.lst []):=⟨aCE _,[],n,.nil,hD⟩
 refine⟨aBc I hc T hcl hfr hle hf ho,rfl,I.bare,?_,⟨m,hns,λi x v e1 e2 e3=>?_⟩,λx c h=>?_,?_,λx c h=>?_,λp hp=>?_,I.hok.laid old (aAD _) new,?_,λz=>(I.hx z).imp id λ⟨e,C',d,q,y⟩=>⟨e,C',d,q,by rw[aI (aQ y (I.hok.fresh (aAD _)))];exact y⟩⟩
 ·exact Un.laid old (aAD _) (I.hok.fresh (aAD _))
 ·have e1:Nc[i]?=some x:=e1
  have e2':∃j,js[i]?=some (some j)/\σ[j]?=some (some v):=by
   unfold outσ at e2;rw[aAV]at e2;cases hj:js[i]? with
   |none=>rw[hj]at e2;cases e2
   |some o =>
    rw[hj]at e2;cases o with
    |none=>cases e2
    |some j =>
     refine⟨j,rfl,?_⟩;have e2:(σ[j]?).join=some v:=Option.some.inj e2;cases hq:σ[j]? with
     |none=>rw[hq]at e2;cases e2
     |some o=>rw[hq]at e2;exact congrArg some e2
  obtain⟨j,hj,hv⟩:=e2';have hz:(x,some j)∈Nc.zip js:=by
   refine aAQ (i:=i) ?_;rw[aDP];exact⟨e1,hj⟩
  obtain⟨t1,t2,t3⟩:=T.slots _ hz j rfl;obtain⟨m0,hn0,hl0⟩:=I.loc;obtain⟨u,ru,lk⟩:=hl0 j x v t1 hv (.inr (.inl t3));refine⟨u,ru,.inr ⟨.inl (bO I.ok.kind t2 t3),?_⟩⟩;rcases lk with⟨k,_⟩|⟨_,c,hcc,hcell⟩
  ·have k:X.env.scope.names.lookup x=some .local:=k
   rw[t3]at k;cases k
  ·have hm:(x,NameKind.free)∈scope.names:=by
    have:∀(l:List (Str×NameKind)),l.lookup x=some .free->(x,NameKind.free)∈l:=λl=>by
     induction l with
     |nil=>intro h;simp at h
     |cons y r ih =>
      obtain⟨n',k'⟩:=y;intro h;rw[aDK]at h;cases e:x==n' with
      |true =>
       rw[e]at h;have:x=n':=by simpa using e
       subst this;cases h;exact aBG
      |false=>rw[e]at h;exact aBF _ (ih h)
    exact this _ t2
   obtain⟨c',hc'⟩:=hfr _ hm rfl;have hc'':=hcl x c' hc';rw[hcc]at hc'';cases hc'';obtain⟨o,ho,hd⟩:=hcell;exact⟨c,hc',o,old c o ho,hd⟩
 ·obtain⟨v,o,e,d⟩:=I.cell x c (hcl x c h)
  exact⟨v,o,old c o e,d⟩
 ·show upd H₂ _ _ C=none
  rw[aI (by rw[hC];exact aBJ (aEJ _))];exact I.hok.fresh hle
 ·show upd H₂ _ _ c=none
  rw[aI (aAO (cellc x c h))];exact I.freeC x c (hcl x c h)
 ·have hp:p∈X.pn++pins:=by
   have hp:p∈(X.pn++pins)++[]:=hp;rwa[aEF]at hp
  obtain⟨e,n0,ne,nf,d⟩:=I.pin p hp;have hlt:=lt _ _ e;refine⟨old _ _ e,?_,?_,λz=>?_,d⟩
  ·show upd H₂ _ _ p.1=none
   rw[aI (aAO hlt)];exact n0
  ·show p.1≠C
   exact aAO (aAZ hlt hle)
  ·rcases aAU.mp (I.stkSub _ z)with q|q
   ·exact ne q
   ·exact nf q
 ·show(outσ js σ).length=Nc.length
  unfold outσ;rw[aAM];exact T.len
def tTurns(J:It)(g:TG)(ti:TT)(te:TE)(D:Addr)(σ0:St)(H0:Hp)(Q:Hp->Prop):Prop :=
 ∃W:Nat->Nat->St->Hp->Prop,(∃m,W 0 m σ0 H0)/\∀i m σ' H',W i m σ' H' ->
  (J.stop i H'/\Q H')\/(J.go i H'/\∃Nn:St->Hp->Prop,(∀σ'' H'',Nn σ'' H''->∃m',m' < m/\W (i+1) m' σ'' H'') /\
   ∀x H'',J.yld i H' x H''->g x σ' H'' λσ2 H2=>ti σ2 H2 λok H3=>if ok=true then te σ2 H3 λy H4=>∃ys,H4 D=some (.lst ys)/\ys.length < sizeLine/\Nn σ2 (upd H4 D (.lst (ys++[y])))else Nn σ2 H3)
def tComp(js:List (Option Nat))(wi:TI)(g:TG)(ti:TT)(te:TE):TE:=λσ H Q=>wi σ H λJ H1=>∀D,H1 D=none->tTurns J g ti te D (outσ js σ) (upd H1 D (.lst [])) λH'=>Q (.ref D) H'
def PIf(X:Cx)(ifs:List Expr)(ti:TT):Prop :=
 ∀(pins:List (Addr×Obj)) (s:Shared) (σ:St) (H:Hp) (Q:Bool->Hp->Prop),Inv X pins σ H s->ti σ H Q ->
  wpAny (model X.prog X.w) X.A (forIn ifs true λc r=>if r=true then do let ok <- isTrue c X.env (eval c X.env);pure (ForInStep.yield ok)else pure (ForInStep.yield r)) (TP X pins σ Q) X.xe s
def tYes:TT:=λ_ H Q=>Q true H
def aKw:PIf X [] tYes:=λ_ _ _ H _ I h=>wpAny_tests_nil ⟨H,I,h⟩
def aJt{c:Expr}{tc:TT}(h:PT X c tc):PIf X [c] tc:=λpins s σ H Q I hq=>wpAny_tests_one (h pins s σ H Q I hq)
variable{E:Value->Shared->Prop}
def thnE{t:Sem α}{Q Q':α->Shared->Prop}{E0:Value->Shared->Prop}{s:Shared}(hE:∀e s,¬E0 e s)(h:wpAny M A t Q E0 s)(hQ:∀a s,Q a s->Q' a s):wpAny M A t Q' E s:=aCU h hQ λe s z=>(hE e s z).elim
variable{ifs:List Expr}{it D:Addr}{g:TG}{σ0:St}{H0:Hp}{Q:Hp->Prop}
def aDl{Y:Cx}{iter elt:Expr}{fp:List Addr}{s:Shared}
  (hc:Y.calm=true\/q)(hx:∀e s,¬Y.xe e s)(T:Turn Y.prog Y.w Y.K tg J fp it tn q)(hg:PG Y tg g)(hi:PIf Y ifs ti)(he:PE Y elt te)
  (stat:∀H',(∀b∈fp,H' b=none)->∀b∈fp,FpOk Y [] H' b)(I0:Inv Y [] σ0 H0 s)(st0:tn 0 s.heap)(fr0:∀b∈fp,H0 b=none)(h:tTurns J g ti te D σ0 H0 Q)
  (hR:∀σ' H' s',Inv Y [] σ' H' s'->Q H'->R (.ok .next) s') :
  codeAny (model Y.prog Y.w) Y.A (.compLoop (.ListComp elt [⟨tg,iter,ifs,0⟩] scope pos) 0 (.ref it) (.ref D) Y.env) R s:=by
 obtain⟨W,⟨m0,w0⟩,turn⟩:=h;refine codeAny_loop rfl (λn s'=>∃i σ' H',Inv Y [] σ' H' s'/\tn i s'.heap/\(∀b∈fp,H' b=none)/\W i n σ' H') (λn s' hI=>?_) m0 ⟨0,σ0,H0,I0,st0,fr0,w0⟩;show wpAny _ Y.A ((compTurn (.ListComp elt [⟨tg,iter,ifs,0⟩] scope pos) 0 (.ref it) (.ref D) Y.env).onRaise (λx=>do noteFrame x Y.env;theTreesLotGoes x)) _ _ s';refine wpAny_noted ?_;rw[compTurn_list];obtain⟨i,σ3,H3,I3,st3,fr3,w3⟩:=hI;refine aAA (aFV (aAA ?_));rcases turn i n σ3 H3 w3 with⟨stop,qn⟩|⟨go,Nn,hN,step⟩
 ·refine aCU (T.done Y rfl rfl rfl hc i [] s' σ3 H3 _ I3 (stat H3 fr3) st3 stop) (λr s4 ⟨hr,I4⟩=>?_) (λ_ _ h=>h)
  subst hr;exact aAC (hR σ3 H3 s4 I4 qn)
 ·refine aCU (T.item Y rfl rfl rfl hc i [] s' σ3 H3 _ I3 (stat H3 fr3) st3 go) (λr s4 ⟨u,hr,h4⟩=>?_) (λ_ _ h=>h)
  subst hr;refine aAA (aCU h4 (λ_ s5 ⟨x,H5,I5,r5,y5,st5,fr5⟩=>?_) λ_ _ h=>h);have I5':=I5.pinned (stat H5 fr5) (T.obj _ _ st5);refine aAA (thnE hx (hg _ s5 σ3 H5 x u _ I5' r5 (step x H5 y5)) λ_ s6 ⟨σ6,H6,I6,q6⟩=>?_);refine aAA (thnE hx (hi _ s6 σ6 H6 _ I6 q6) λok s7 ⟨H7,I7,q7⟩=>?_);have again:∀{σ7:St} {H7:Hp} {s7:Shared},Inv Y ([]++pinsAt fp s5.heap) σ7 H7 s7->Nn σ7 H7->∃m,m < n/\∃i σ' H',Inv Y [] σ' H' s7/\tn i s7.heap/\(∀b∈fp,H' b=none)/\W i m σ' H':=λ{σ7 H7 s7} I7 n7=>by
   obtain⟨m',hm,w7⟩:=hN σ7 H7 n7;refine⟨m',hm,i+1,σ7,H7,I7.unpinned,T.keep _ _ _ st5 λb hb o e=>(I7.pin (b,o) (aBN _ (aBN _ (cA hb e)))).1,λb hb=>?_,w7⟩;obtain⟨o,e,d⟩:=T.obj _ _ st5 b hb;exact(I7.pin (b,o) (aBN _ (aBN _ (cA hb e)))).2.1
  cases ok with
  |false=>exact aAC ⟨rfl,again I7 q7⟩|true =>
   refine aAA (aAA (thnE hx (he _ s7 σ6 H7 _ I7 q7) λy s8 ⟨yv,H8,I8,r8,ys,hD,hz,n8⟩=>aAA ?_));refine thnE hx (pS _ s8 σ6 H8 (.ref D) [yv] (.ref D) [y] (λ_ H9=>Nn σ6 H9) I8 rfl (.cons r8 .nil) ⟨D,ys,yv,rfl,rfl,hD,hz,n8⟩) λ_ s9 ⟨_,H9,I9,_,q9⟩=>?_
   exact aAC (aAC ⟨rfl,again I9 q9⟩)
variable{iter elt:Expr}{js:List (Option Nat)}{wi:TI}
structure CompEnd(X:Cx)(pins:List (Addr×Obj))(σ:St)(H':Hp)(C:Addr)(s':Shared):Prop where
 inv:Inv X pins σ H' s'
 ns:∃m,s'.heap.Ns C m
 no:H' C=none
 ne:C≠X.env.locals
 ge:X.s₀.heap.objs.size<=C
 nc:∀x c,X.env.cells.lookup x=some c->c≠C
 np:∀p∈X.pn++pins,p.1≠C
def CompEnd.go{t:Shared}(e:CompEnd X pins σ H' C s')(I:Inv X pins σ' H' t)(hs:Heap.SameBut C t.heap h'):Inv X pins σ' H' {t with heap:=h'} :=
 I.turned (t':=t.toks) (it:=C) (λb o hb q=>(hs.2 b hb).trans q) e.no e.ne (.inr e.ge) e.nc e.np
def oM{pins:List (Addr×Obj)}{H₂:Hp}{s₂:Shared}{fp:List Addr}{cl:List (Str×Addr)}{Q':Addr->Hp->Prop}
  (hc:X.calm=true\/qq)(T:CompOk X.N X.env.scope scope Nc js)(hcl:∀x c,cl.lookup x=some c->X.env.cells.lookup x=some c)(hfr:∀y∈scope.names,y.2=.free->∃c,cl.lookup y.1=some c)
  (hg:∀cl C fp pins s₂ H₂,PG (compCx X Nc scope cl C fp pins s₂ H₂) tg g)(hi:∀cl C fp pins s₂ H₂,PIf (compCx X Nc scope cl C fp pins s₂ H₂) ifs ti)(he:∀cl C fp pins s₂ H₂,PE (compCx X Nc scope cl C fp pins s₂ H₂) elt te)
  (I2:Inv X pins σ H₂ s₂)(Tn:Turn X.prog X.w X.K tg J fp it tn qq)(st2:tn 0 s₂.heap)(f2:∀b∈fp,FpOk X pins H₂ b)
  (q:∀D,H₂ D=none->tTurns J g ti te D (outσ js σ) (upd H₂ D (.lst [])) (Q' D))
  (hRR:∀D C H' s',CompEnd X pins σ H' C s'->Q' D H'->RR (.ref D) C (.ok .next) s') :
  wpAny (model X.prog X.w) X.A (newList []) (λacc s₃=>wpAny (model X.prog X.w) X.A (newFunctionEnv scope X.env.globals cl [] X.env.qual none .none (some X.env)) (λcenv s₄ =>
   codeAny (model X.prog X.w) X.A (.compStart (.ListComp elt [⟨tg,iter,ifs,0⟩] scope pos) 0 (.ref it) acc {cenv with scope:=relabel scope X.env}) (RR acc cenv.locals) s₄) E s₃) E s₂:=by
 refine aBR (wpAny_newFunctionEnv T.nocell (by intro y hy;simp at hy) (λh₁ hns₁ hsb₁=>?_) T.kind);dsimp only at hns₁ hsb₁ ⊢;generalize hH2:s₂.heap.push {cls:=.type "list",dict:=none,data:=.seq ([]:List Value).toArray}=Hx at hns₁ hsb₁ ⊢;have hC:Hx.objs.size=s₂.heap.objs.size+1:=by rw[<- hH2,aDG]
 have below:∀b,b < s₂.heap.objs.size->b≠Hx.objs.size:=λb hb=>by rw[hC];exact aAO (aEC hb)
 have old:∀b o,s₂.heap.get? b=some o->h₁.get? b=some o:=λb o e=>hsb₁.extBut b o (below b (aAE e)) (aAB _ (hH2▸aAB _ e))
 have hD:h₁.get? s₂.heap.objs.size=some {cls:=.type "list",data:=.seq #[]}:=hsb₁.extBut _ _ (by rw[hC];exact aAO (aEJ _)) (aAB _ (hH2▸aAI _ rfl));have ho:∀b∈fp,∃o,s₂.heap.get? b=some o:=λb hb=>let⟨o,e,_⟩:=Tn.obj _ _ st2 b hb;⟨o,e⟩
 have hDn:H₂ s₂.heap.objs.size=none:=I2.hok.fresh (aAD _);have hle:s₂.heap.objs.size<=Hx.objs.size:=by rw[hC];exact aGX _
 have st1:tn 0 h₁:=Tn.keep _ _ _ st2 λb _ o e=>old b o e
 have fr1:∀b∈fp,upd H₂ s₂.heap.objs.size (.lst []) b=none:=λb hb=>by
  obtain⟨o,e⟩:=ho b hb;rw[aI (aAO (aAE e))];exact(f2 b hb).1
 have stat:∀H',(∀b∈fp,H' b=none)->∀b∈fp,FpOk (compCx X Nc scope cl Hx.objs.size fp pins s₂ H₂) [] H' b:=λH' hn b hb=>by
  obtain⟨g0,g1,g2,g3,g4,g5⟩:=f2 b hb;obtain⟨o,e⟩:=ho b hb;refine⟨hn b hb,below b (aAE e),λz=>?_,.inl hb,λx c h=>g4 x c (hcl x c h),λp hp=>g5 p ?_⟩
  ·rcases aAU.mp (I2.stkSub b z)with y|y
   ·exact g1 y
   ·exact g2 y
  ·have hp:p∈(X.pn++pins)++[]:=hp
   rwa[aEF]at hp
 have loop:∀tk,codeAny (model X.prog X.w) X.A (.compLoop (.ListComp elt [⟨tg,iter,ifs,0⟩] scope pos) 0 (.ref it) (.ref s₂.heap.objs.size) (compEnvC scope cl Hx.objs.size X.env)) (RR (.ref s₂.heap.objs.size) Hx.objs.size) {s₂ with heap:=h₁,toks:=tk}:=λtk=>by
  refine aDl (Y:=compCx X Nc scope cl Hx.objs.size fp pins s₂ H₂) hc (λ_ _ z=>z) Tn (hg _ _ _ _ _ _) (hi _ _ _ _ _ _) (he _ _ _ _ _ _) stat
   (yY (tk:=tk) I2 hc T hcl hfr f2 ho hC old hns₁ hD) st1 fr1 (q _ hDn) λσ' H' s' I' qQ=>?_
  obtain⟨m,hm,_⟩:=I'.loc;refine hRR _ _ H' s' ⟨?_,⟨m,hm⟩,I'.free,aBJ (aAZ I2.lt hle),aBS I2.sz hle,λx c h=>?_,λp hp=>?_⟩ qQ
  ·exact I2.call' (ch:=fp) I'.os I'.base I'.hok I'.bare λb hb=>let⟨g0,g1,g2,g3,g4,g5⟩:=f2 b hb;⟨g3,g1,g4,g5⟩
  ·obtain⟨v,o,e,_⟩:=I2.cell x c h
   exact below c (aAE e)
  ·exact below _ (aAE (I2.pin p hp).1)
 exact codeAny_compStart_list (loop _) (Tn.self _ _ _ _ _ st1 (loop _))
def aGg(hc:X.calm=true\/qq)(T:CompOk X.N X.env.scope scope Nc js)(hit:PI X tg iter wi qq)
  (hg:∀cl C fp pins s₂ H₂,PG (compCx X Nc scope cl C fp pins s₂ H₂) tg g)(hi:∀cl C fp pins s₂ H₂,PIf (compCx X Nc scope cl C fp pins s₂ H₂) ifs ti)(he:∀cl C fp pins s₂ H₂,PE (compCx X Nc scope cl C fp pins s₂ H₂) elt te)
  (hs:∀x,foldedSetIterable iter X.env x=pure x:=by intro _;rfl):PE X (.ListComp elt [⟨tg,iter,ifs,0⟩] scope pos) (tComp js wi g ti te):=by
 intro pins s σ H Q I h;rw[eval_ListComp];obtain⟨cl,hcl0,hcl,hfr⟩:=dM (scope:=scope) (env:=X.env) (λy hy hf=>I.ok.has y.1 (.inl (T.free y hy hf)));refine aHM (use:=none) rfl hs hcl0 T.kind T.names (thn (hit pins s σ H _ I h) λxv s1 h1=>thn h1 λitv s2 h2=>?_);obtain⟨it,fp,tn,J,H2,e,I2,Tn,st2,f2,q⟩:=h2;subst e;refine oM (RR:=λacc C=>compPost (model X.prog X.w) X.A X.xe none (EP X pins σ Q) acc C) hc T hcl hfr hg hi he I2 Tn st2 f2 q λD C H' s' ce qD=>?_
 obtain⟨m,hm⟩:=ce.ns;exact⟨m,hm,λh' hs'=>⟨.ref D,H',ce.go ce.inv hs',rfl,qD⟩⟩
def aEe{y:Str}{py spos:Pos}(hN:X.N.Nodup)(hyi:X.N[i]?=some y)(hy:X.env.scope.names.lookup y=some .local)(hc:X.calm=true\/qq)(T:CompOk X.N X.env.scope scope Nc js)(hit:PI X tg iter wi qq)
  (hg:∀cl C fp pins s₂ H₂,PG (compCx X Nc scope cl C fp pins s₂ H₂) tg g)(hi:∀cl C fp pins s₂ H₂,PIf (compCx X Nc scope cl C fp pins s₂ H₂) ifs ti)(he:∀cl C fp pins s₂ H₂,PE (compCx X Nc scope cl C fp pins s₂ H₂) elt te)
  (hsw:swapsWith (.ListComp elt [⟨tg,iter,ifs,0⟩] scope pos) (some (.Name y py)) spos.line X.env=pure true:=by rfl)
  (hs:∀x,foldedSetIterable iter X.env x=pure x:=by intro _;rfl):PS X (.Assign [.Name y py] (.ListComp elt [⟨tg,iter,ifs,0⟩] scope pos) spos) (tAsg (tComp js wi g ti te) (gName i)):=by
 intro pins s σ H D0 I h;rw[exec_Assign_Name_used _ _ _ _ hsw];obtain⟨cl,hcl0,hcl,hfr⟩:=dM (scope:=scope) (env:=X.env) (λy hy hf=>I.ok.has y.1 (.inl (T.free y hy hf)));refine aAA (aFV (aAA ?_));show wpAny _ X.A (do let _ <- comprehension (.ListComp elt [⟨tg,iter,ifs,0⟩] scope pos) scope X.env _ (newList []) false (eval iter X.env) (some (assign (.Name y py) X.env))) _ _ s;refine aAA (aCU (aHM (use:=some (assign (.Name y py) X.env)) (Q:=λ_ s'=>SP X pins D0 .next s') rfl hs hcl0 T.kind T.names
  (thn (hit pins s σ H _ I h) λxv s1 h1=>thn h1 λitv s2 h2=>?_)) (λ_ s' hq=>aAC (aAC hq)) λ_ _ e=>e)
 obtain⟨it,fp,tn,J,H2,e,I2,Tn,st2,f2,q⟩:=h2;subst e;refine oM (RR:=λacc C=>compPost (model X.prog X.w) X.A X.xe (some (assign (.Name y py) X.env)) (λ_ s'=>SP X pins D0 .next s') acc C) hc T hcl hfr hg hi he I2 Tn st2 f2 q λD C H' s' ce qD=>?_
 obtain⟨m,hm⟩:=ce.ns;show wpAny _ _ (assign (.Name y py) X.env (.ref D)) _ _ _;refine wpAny_assign_Name (pU (v:=.ref D) ce.inv hN hyi (.inl hy) rfl (λs'' I'' ⟨a,sb,ha⟩=>?_) (.inr hy));have hCa:C≠a:=by
  rcases ha with rfl|ha
  ·exact ce.ne
  ·exact λz=>ce.nc y a ha z.symm
 exact⟨m,hm.sameBut sb hCa,λh' hs'=>⟨_,H',ce.go I'' hs',qD⟩⟩
def compOkB(N0:List Str)(sc0 scope:Scope)(Nc:List Str)(js:List (Option Nat)):Bool :=
 decide (scope.kind=.function)&&scope.names.all (λy=>y.2 != .cell)&&scope.names.all (λy=>y.2 != .local || scope.names.lookup y.1==some .local)&&scope.names.all (λy=>y.2 != .free || sc0.names.lookup y.1==some .cell) &&
  (js.length==Nc.length)&&(Nc.zip js).all (λp=>match p.2 with|none=>true|some j=>N0[j]?==some p.1&&scope.names.lookup p.1==some .free&&sc0.names.lookup p.1==some .cell)
def CompOk.of{sc0:Scope}(h:compOkB N0 sc0 scope Nc js=true):CompOk N0 sc0 scope Nc js:=by
 unfold compOkB at h;simp only[aFP,List.all_eq_true,beq_iff_eq,aBO]at h;obtain⟨⟨⟨⟨⟨h1,h2⟩,h3⟩,h4⟩,h5⟩,h6⟩:=h;refine⟨h1,λy hy=>by simpa using h2 y hy,λy hy e=>?_,λy hy e=>?_,h5,λp hp j hj=>?_⟩
 ·have:=h3 y hy
  simpa[e]using this
 ·have:=h4 y hy
  simpa[e]using this
 ·have:=h6 p hp
  have hj:p.2=some j:=hj;rw[hj]at this;simpa[and_assoc]using this
section
variable{a b:Expr}{rest:List Expr}
end
variable{prog:Program}
section
variable{st:Stmt}{rest:List Stmt}{t u:TS}
end
def yX:bootBuiltins "int"=some (.type "int"):=by decide +kernel
def aBm:bootBuiltins "bool"=some (.type "bool"):=by decide +kernel
def pB:bootBuiltins "isinstance"=some (.builtin "isinstance"):=by decide +kernel
def aPa:bootBuiltins "max"=some (.builtin "max"):=by decide +kernel
def aDx:bootBuiltins "min"=some (.builtin "min"):=by decide +kernel
def bV:bootBuiltins "tuple"=some (.type "tuple"):=by decide +kernel
def aKz:bootBuiltins "list"=some (.type "list"):=by decide +kernel
def aHj:bootBuiltins "zip"=some (.type "zip"):=by decide +kernel
def kM:bootBuiltins "sorted"=some (.builtin "sorted"):=by decide +kernel
end L2
end
namespace L2
open PySem
def SB(l:Addr)(H H':Hp):Prop:=∀x o,x≠l->H x=some o->H' x=some o
def SB.trans(s:SB l H H1)(t:SB l H1 H2):SB l H H2:=λx u n e=>t x u n (s x u n e)
open PySem.Spec PyProof.Rows
def aMy:bootBuiltins "all"=some (.builtin "all"):=by decide +kernel
end L2
namespace Com
open PySem L2
structure IW(n k high low past now:Int):Prop where
 h0:0<=high
 hb:high<=1000000
 l0:0<=low
 lb:low<=1000000
 g:Int.gcd high low=Int.gcd n (k % n)
 d1:n ∣ k*past - high
 d2:n ∣ k*now - low
structure PV(n k e told square left:Int):Prop where
 t0:0<=told
 t1:told < n
 s0:0<=square
 s1:square < n
 l0:0<=left
 eq:told*square ^ left.toNat % n=k ^ e.toNat % n
def bitsN:List Int->Nat
 |[]=>0|b::r=>b.toNat+2*bitsN r
structure DG(e0 e:Int)(ds:List Int):Prop where
 nn:0<=e
 bit:∀d∈ds,d=0\/d=1
 len:∃m:Nat,e.toNat < 2 ^ m/\ds.length+m=62
 val:∀r,bitsN r=e.toNat->bitsN (ds++r)=e0.toNat
def BoxAt(H:Hp)(b:Addr):Prop:=∃c s t:Int,H b=some (.lst [.int c,.int s,.int t])
def Keep(b:Addr)(H H':Hp):Prop:=(∀a o,a≠b->H a=some o->H' a=some o)/\BoxAt H' b
def Keep.trans{b:Addr}(x:Keep b H H1)(y:Keep b H1 H2):Keep b H H2:=⟨λa o n e=>y.1 a o n (x.1 a o n e),y.2⟩
end Com
section
open PySem PySem.Spec PyProof.Rows
namespace L2
variable{K:Frag}
section
variable{W:World}{Ar:Around}{Ex:Value->Shared->Prop}{hp:Heap}{gn:Array GenState}{dr:Drawn}{tk:Nat}{oz:OsState}{nm qn:Str}{N:Addr}{bs bmB:List Value}{hdct:Bool}{sn:List Str}{sub:List Value}{ab:Bool}{col:Option Bool}{dd:Option Addr}{k0 k1 k2 k3 k5:Option Value}{B newId initId:String}
end
def Sz(vs:Array Value):Prop:=1 < vs.size/\vs[2]?=some .none
variable{vs:Array Value}{x:Value}
def Sz.set(h:Sz vs):Sz (vs.setIfInBounds 1 x):=⟨by simpa using h.1,by rw[aGL,aAH (by lia)];exact h.2⟩
def XRec(P:Addr->Prop)(H:Hp)(h:Heap)(e C:Addr)(d:Option Addr):Prop :=
 ∃vs sl,h.get? e=some ⟨.ref C,d,.fields vs,sl⟩/\Sz vs /\
  (vs[1]?=some .none\/∃T cT dT ts sT,vs[1]?=some (.ref T)/\P T/\H T=none/\h.get? T=some ⟨cT,dT,.fields ts,sT⟩/\3 < ts.size)
variable{e:Addr}
def XRec.imp{P P':Addr->Prop}(x:XRec P H h e C d)(i:∀T,P T->P' T):XRec P' H h e C d:=by
 obtain⟨vs,sl,h1,h2,h3|⟨T,cT,dT,ts,sT,a1,a2,a3⟩⟩:=x
 ·exact⟨vs,sl,h1,h2,.inl h3⟩
 ·exact⟨vs,sl,h1,h2,.inr ⟨T,cT,dT,ts,sT,a1,i T a2,a3⟩⟩
variable{M:Model}{E:Value->Shared->Prop}{L:Addr}{P:Addr->Prop}{Q:Unit->Shared->Prop}{a:Addr}
def cW{c:Value}(ha:h.get? a=some ⟨c,d,.fields vs,sl⟩) :
  (h.update a (Obj.mapFields (·.setIfInBounds i x))).get? a=some ⟨c,d,.fields (vs.setIfInBounds i x),sl⟩:=aCF _ ha rfl
def aZ{b:Addr}{f:Obj->Obj}(n:b≠a):(h.update a f).get? b=h.get? b:=aCL _ _ (Ne.symm n)
def oB{sl:Array (Option Value)}{head:Value}{hb:Bool}(hfr:A.frames=some (env::outer))(hl:s.heap.FunFrames base (env::outer))(hf:env.frame=some L)
  (he:s.heap.get? e=some ⟨.ref C,d,.fields vs,sl⟩)(hz:Sz vs)(hP:∀T,s.heap.objs.size<=T->P T)(hN:∀T,s.heap.objs.size<=T->H T=none)
  (hQ:∀h',(∀b o,b≠e->b∉frs (env::outer)->s.heap.get? b=some o->h'.get? b=some o)->(∀b o,b∈frs (env::outer)->s.heap.get? b=some o->∃sl,h'.get? b=some {o with slots:=sl}) ->
   XRec P H h' e C d->Q () {s with heap:=h'}) :
  wpAny M A (do let a <- frameOf env;let pl <- entryPlaceOf L hb;let t <- EntryCells.newEntry head a .none (rawInt L) .none pl;setField (.ref e) 1 t) (λ_ s₂=>wpAny M A' (setFlight (.ref e) none) Q E s₂) E s:=by
 have nfr:e∉frs (env::outer):=λz=>by
  obtain⟨_,o,q,n⟩:=hl.mem z;rw[he]at q;cases q;exact n vs rfl
 refine aAA (wpAny_frameOf_fun hfr hl hf λh1 so=>?_);refine aAA (wpAny_entryPlaceOf λpl isp=>aAA ?_);unfold EntryCells.newEntry newFields;refine aBR ?_ (isp.sizeOk5 _ _ _ _ _);generalize eT:([head,Value.ref L,.none,rawInt L,.none]++(if pl.isEmpty then List.replicate 6 Value.none else pl)).toArray=tv;have hsz:3 < tv.size:=by rw[<- eT];simp only[aAL,aCC,aBV];lia
 have e1:h1.get? e=some ⟨.ref C,d,.fields vs,sl⟩:=(so.2.1 e nfr).trans he;have ne:e≠h1.objs.size:=aAO (aAE e1);generalize eo:({cls:=.type "traceback",dict:=none,data:=.fields tv}:Obj)=oT;have e2:(h1.push oT).get? e=some ⟨.ref C,d,.fields vs,sl⟩:=aAB _ e1;refine aDF e2 rfl hz.1 ?_;have e3:=cW (i:=1) (x:=.ref h1.objs.size) e2;have t3:((h1.push oT).update e (Obj.mapFields (·.setIfInBounds 1 (.ref h1.objs.size)))).get? h1.objs.size=some ⟨.type "traceback",none,.fields tv,#[]⟩:=by
  rw[aZ (Ne.symm ne),<- eo];exact aAI h1 rfl
 unfold setFlight;refine aAA (aBB e3 rfl (x:=.ref h1.objs.size) (by simp[hz.1]) ?_);rw[aAG (by simp)];refine aDF t3 rfl hsz (hQ _ (λb o nb nf q=>?_) (λb o bf q=>?_) ?_)
 ·have q1:=(so.2.1 b nf).trans q
  rw[aZ (aAO (aAE q1)),aZ nb];exact aAB _ q1
 ·obtain⟨sl',q1⟩:=so.2.2 b o q
  have nb:b≠e:=λz=>nfr (z▸bf)
  exact⟨sl',by rw[aZ (aAO (aAE q1)),aZ nb];exact aAB _ q1⟩
 ·refine⟨_,sl,by rw[aZ ne];exact e3,hz.set,.inr ⟨h1.objs.size,_,_,_,_,by simp[hz.1],hP _ (by rw[so.1];exact aAD _),hN _ (by rw[so.1];exact aAD _),cW t3,?_⟩⟩
  simp[hsz]
def flight(hfr:A.frames=some (env::outer))(hl:s.heap.FunFrames base (env::outer))(hf:env.frame=some L)(x:XRec P H s.heap e C d)(he:H e≠none)
  (hP:∀T,s.heap.objs.size<=T->P T)(hN:∀T,s.heap.objs.size<=T->H T=none)
  (hQ:∀(h':Heap) (ch:List Addr),(∀b∈ch,P b/\H b=none/\b∉frs (env::outer))->(∀b o,b≠e->b∉frs (env::outer)->b∉ch->s.heap.get? b=some o->h'.get? b=some o)->(∀b o,b∈frs (env::outer)->s.heap.get? b=some o->∃sl,h'.get? b=some {o with slots:=sl}) ->
   (∀b o,s.heap.get? b=some o->∃o',h'.get? b=some o')->XRec P H h' e C d->Q () {s with heap:=h'}) :
  wpAny M A (noteFrame (.ref e) env) (λ_ s₂=>wpAny M A' (setFlight (.ref e) none) Q E s₂) E s:=by
 obtain⟨vs,sl,h1,h2,h3|⟨T,cT,dT,ts,sT,a1,a2,a3,a4,a5⟩⟩:=x
 ·unfold noteFrame
  simp only[hf];refine aAA (aBB h1 rfl h3 ?_);rw[aAH (by decide)];refine oB (P:=P) (H:=H) hfr hl hf h1 h2 hP hN λh' k1 k2 r=>hQ h' [] (λ_ z=>nomatch z) (λb o n nf _ q=>k1 b o n nf q) k2 (λb o q=>?_) r
  by_cases hb:b∈frs (env::outer)
  ·obtain⟨sl,q⟩:=k2 b o hb q;exact⟨_,q⟩
  ·by_cases hbe:b=e
   ·subst hbe;obtain⟨_,_,r,_⟩:=r;exact⟨_,r⟩
   ·exact⟨_,k1 b o hbe hb q⟩
 ·have ne:e≠T:=λz=>he (z▸a3)
  have nfr:T∉frs (env::outer):=λz=>by
   obtain⟨_,o,q,n⟩:=hl.mem z;rw[a4]at q;cases q;exact n ts rfl
  unfold noteFrame;simp only[hf];refine aAA (aBB h1 rfl a1 ?_);rw[aAG (show(Value.ref T != Value.none)=true by simp)];refine aAA (aBB a4 rfl (aEL a5) ?_);by_cases here:(ts[3]==rawInt L)=true
  ·rw[aAG here]
   refine aAC ?_;unfold setFlight;refine aAA (aBB h1 rfl a1 ?_);rw[aAG (show(Value.ref T != Value.none)=true by simp)];refine aDF a4 rfl a5 (hQ _ [T] (λb hb=>?_) (λb o _ _ nb q=>(aZ λz=>nb (by simp[z])).trans q) (λb o hb q=>⟨o.slots,(aZ (a:=T) (λ(z:b=T)=>nfr (z▸hb))).trans q⟩) (λb o q=>?_) ⟨vs,sl,(aZ ne).trans h1,h2,.inr ⟨T,cT,dT,_,sT,a1,a2,a3,cW a4,by simpa using a5⟩⟩)
   ·rw[aBP]at hb;subst hb;exact⟨a2,a3,nfr⟩
   ·by_cases z:b=T
    ·subst z;exact⟨_,cW a4⟩
    ·exact⟨o,(aZ z).trans q⟩
  rw[aAH here];refine aAA (aDF a4 rfl a5 ?_);have hsz:(s.heap.update T (Obj.mapFields (·.setIfInBounds 3 Value.none))).objs.size=s.heap.objs.size:=Heap.size_after_update ..;refine oB (P:=P) (H:=H) hfr (hl.of_keeps λb o q n=>⟨o,(aZ λz=>?_).trans q,rfl⟩) hf ((aZ ne).trans h1) h2 (λU hU=>hP U (by rw[<- hsz];exact hU)) (λU hU=>hN U (by rw[<- hsz];exact hU)) λh' k1 k2 r=>hQ h' [T] (λb hb=>?_) (λb o n nf nc q=>k1 b o n nf ((aZ λz=>nc (by simp[z])).trans q)) (λb o bf q=>k2 b o bf ((aZ (a:=T) (λ(z:b=T)=>nfr (z▸bf))).trans q)) (λb o q=>?_) r
  ·subst z;rw[a4]at q;cases q;exact n ts rfl
  ·rw[aBP]at hb;subst hb;exact⟨a2,a3,nfr⟩
  ·have:∃o1,(s.heap.update T (Obj.mapFields (·.setIfInBounds 3 Value.none))).get? b=some o1:=by
    by_cases z:b=T
    ·subst z;exact⟨_,cW a4⟩
    ·exact⟨o,(aZ z).trans q⟩
   obtain⟨o1,q⟩:=this;by_cases hb:b∈frs (env::outer)
   ·obtain⟨sl,q⟩:=k2 b o1 hb q;exact⟨_,q⟩
   ·by_cases hbe:b=e
    ·subst hbe;obtain⟨_,_,r,_⟩:=r;exact⟨_,r⟩
    ·exact⟨_,k1 b o1 hbe hb q⟩
def XO(_e C:Addr)(d:Option Addr):HO:=.xo C d
variable{P:Program}
def XO.ok(q:h.get? e=some ⟨.ref C,d,.fields vs,sl⟩)(z:vs[2]?=some .none):ObjOk P w H h e (XO e C d) :=
 ⟨vs,sl,q,z⟩
def XO.at(x:HOk P w H h)(q:H e=some (XO e C d)):∃vs sl,h.get? e=some ⟨.ref C,d,.fields vs,sl⟩:=let⟨vs,sl,h,_⟩:=x e _ q;⟨vs,sl,h⟩
def Free(X:Cx)(pins:List (Addr×Obj))(T:Addr):Prop:=X.s₀.heap.objs.size<=T/\T≠X.env.locals/\(∀x c,X.env.cells.lookup x=some c->c≠T)/\∀p∈X.pn++pins,p.1≠T
variable{σ:List (Option V)}
def Inv.freeNew(I:Inv X pins σ H s){T:Addr}(h:s.heap.objs.size<=T):Free X pins T:=by
 refine⟨aBS I.sz h,aBJ (aAZ I.lt h),λx c q=>?_,λp hp=>?_⟩
 ·obtain⟨v,o,ho,_⟩:=I.cell x c q
  exact aAO (aAZ (aAE ho) h)
 ·exact aAO (aAZ (aAE (I.pin p hp).1) h)
def Inv.moved{ch:List Addr}(I:Inv X pins σ H s)(he:H e=some (XO e C d))(hst:X.stack=X.env::X.outer)(hfm:X.env.frame=some X.env.locals)
  (hc:∀b∈ch,Free X pins b/\H b=none)(k1:∀b o,b≠e->b∉frs (X.env::X.outer)->b∉ch->s.heap.get? b=some o->h'.get? b=some o)
  (k2:∀b o,b∈frs (X.env::X.outer)->s.heap.get? b=some o->∃sl,h'.get? b=some {o with slots:=sl})(k3:∀b o,s.heap.get? b=some o->∃o',h'.get? b=some o')
  {sl:Array (Option Value)}(new:h'.get? e=some ⟨.ref C,d,.fields vs,sl⟩)(nz:Sz vs):Inv X pins σ H {s with heap:=h'}:=by
 have hfr:∀b,b∈frs (X.env::X.outer) ↔ b=X.env.locals\/b∈X.fs:=λb=>by
  unfold frs;rw[aGY,hfm];exact aAU
 have ne:∀b,H b=none->b≠e:=λb n z=>by subst z;rw[he]at n;cases n
 have hsf:=I.stkFree;rw[hst]at hsf;refine I.step (g':=s.gens) (d':=s.drawn) (t':=s.toks) (ch:=ch) (λb hb=>⟨.inr (hc b hb).1.1,(hc b hb).1.2⟩) (λb o nL nf nc q n=>k1 b o (ne b n) (λz=>((hfr b).mp z).elim nL nf) nc q)
  (λb o nL bf nc q n=>k2 b o ((hfr b).mpr (.inr bf)) q) (λ_ _ _ _ n=>n) (λb o _ q=>k3 b o q) (λ_ _ q=>q) (λ_ _ _ q=>q) (λb ps q=>⟨#[],by rw[q];simp⟩) (λ_ _ _ q=>q) (λm hm=>?_) (λa o q=>?_) I.bare
 ·obtain⟨o,es,ep,ho,r⟩:=hm
  obtain⟨sl,q⟩:=k2 _ o ((hfr _).mpr (.inl rfl)) ho;exact⟨_,es,ep,q,r⟩
 ·by_cases ha:a=e
  ·subst ha;rw[he]at q;cases q;exact XO.ok new nz.2
  ·refine(I.hok a o q).stay (λb u hb q'=>k1 b u ?_ ?_ ?_ q') (λ_ z=>z) λ_ _ z=>z
   ·rcases hb with rfl|hb
    ·exact ha
    ·rintro rfl;rw[he]at hb;cases hb
   ·intro z
    have n:=hsf b z;rcases hb with rfl|hb
    ·rw[q]at n;cases n
    ·rw[hb]at n;cases n
   ·intro z
    have n:=(hc b z).2;rcases hb with rfl|hb
    ·rw[q]at n;cases n
    ·rw[hb]at n;cases n
def Inv.flight(I:Inv X pins σ H s)(hst:X.stack=X.env::X.outer)(hfm:X.env.frame=some X.env.locals)(hA:A.frames=some X.stack)(x:XRec (Free X pins) H s.heap e C d)(he:H e=some (XO e C d))
  (hQ:∀h',Inv X pins σ H {s with heap:=h'}->XRec (Free X pins) H h' e C d->Q () {s with heap:=h'}) :
  wpAny M A (noteFrame (.ref e) X.env) (λ_ s₂=>wpAny M A' (setFlight (.ref e) none) Q E s₂) E s:=by
 have hl:=I.stack;rw[hst]at hl hA;refine L2.flight hA hl hfm x (by rw[he];simp) (λT hT=>I.freeNew hT) (λT hT=>I.hok.fresh hT) λh' ch hc k1 k2 k3 r=>?_
 obtain⟨vs,sl,q,nz,_⟩:=id r;exact hQ h' (I.moved he hst hfm (λb hb=>⟨(hc b hb).1,(hc b hb).2.1⟩) k1 k2 k3 q nz) r
def CX1(P:Program)(w:World):CXT:=λouter H s E ev s'=>∃a H' C d,ev=.ref a/\s'.os=s.os/\AllBare s'.gens/\Un (frs outer) [] H H' s.heap s'.heap/\HOk P w H' s'.heap /\
 XRec (λT=>s.heap.objs.size<=T) H' s'.heap a C d/\H' a=some (XO a C d)/\E (.ref a) none H'
def XE(X:Cx)(pins:List (Addr×Obj))(σ:List (Option V))(R:Addr->Hp->Prop)(ev:Value)(s':Shared):Prop :=
 ∃a H' C d,ev=.ref a/\Inv X pins σ H' s'/\XRec (Free X pins) H' s'.heap a C d/\H' a=some (XO a C d)/\R a H'
structure Xz(X:Cx)(R:Addr->Hp->Prop):Prop where
 go:∀pins σ ev s',XE X pins σ R ev s'->X.xe ev s'
def XE.imp{R R':Addr->Hp->Prop}{ev:Value}(x:XE X pins σ R ev s')(h:∀a H,R a H->R' a H):XE X pins σ R' ev s' :=
 let⟨a,H',C,d,x1,x2,x3,x4,x5⟩:=x
 ⟨a,H',C,d,x1,x2,x3,x4,h _ _ x5⟩
def aQn{scope:Scope}{cd:Value}{E:XK} :
  Xz (cxOf (CX1 P w) P w K mg base N qual scope f cd A outer s H E) (λa H'=>E (.ref a) none H'):=by
 refine⟨λpins σ ev s' ⟨a,H',C,d,e1,I,x,he,q⟩=>?_⟩;subst e1;refine aAA (I.flight rfl rfl I.ok.frames x he λh' I' x'=>?_);exact⟨a,H',C,d,rfl,I'.os,I'.bare,I'.base,I'.hok,x'.imp λT hT=>hT.1,he,q⟩
end L2
namespace L2
open PySem.W PySem.Calls Builtin Builtin.ObjectAttr
abbrev vb:List Value:=[.type "ValueError",.type "Exception",.type "BaseException",.type "object"]
variable{prog:Program}{E:Value->Shared->Prop}{K:Frag}{x:Addr}{vs:Array Value}{cd:ClassData}{v:Value}{K:Frag}
def xcB(K:Frag)(C:Addr)(bm0:List Value)(ini:Option Value):Bool:=match K.lookup C with
 |some ⟨.type "type",_,.cls cd,sl⟩=>(match cd.mro,sl.toList with
  |.ref C'::bm,[_,_,_,_,some (.builtin n),_]=>C'==C&&bm==bm0&&n=="ValueError.__new__"&&!cd.hasDel&&nsOkIn K cd.ns&&nsIn K cd.ns "__init__"==some ini|_,_=>false)
 |_=>false
structure Xc(K:Frag)(c:Str)(C LE:Addr):Prop where
 nm:nsIn K mainGlobals c=some (some (.ref C))
 cd:∃cd,clsIn K C=some cd/\cd.name=c/\cd.mro=.ref C::.ref LE::vb
 le:∃cl,clsIn K LE=some cl/\cl.name="LentError"
 leN:nsIn K mainGlobals "LentError"=some (some (.ref LE))
 ne:c≠"LentError"
 hd:hasDictIn K C=true
 ga:findIn K (.ref C) "__getattribute__"=some (some (.builtin "BaseException.__getattribute__"))
 gh:findIn K (.ref C) "__getattr__"=some none
 cl:findIn K (.ref C) "__class__"=some (some (.builtin "object.__class__"))
 ob:∃ini,xcB K C (.ref LE::vb) ini=true
 leO:xcB K LE vb none=true
structure XcO(h:Heap)(C:Addr)(bm:List Value)(ini:Option Value):Prop where
 ex:∃nm q N bs hdct sn sub ab col dd k0 k1 k2 k3 k5,h.get? C=some (excClassObj nm q C N bs bm hdct sn sub ab col dd k0 k1 k2 k3 k5 "ValueError.__new__")/\∃mN,h.Ns N mN/\mN "__init__"=ini
variable{M:Model}{ini:Option Value}{Q:Flow->Shared->Prop}
def XN(e C:Addr)(d:Option Addr):HO:=.ext λh=>∃vs sl t0,h.get? e=some ⟨.ref C,d,.fields vs,sl⟩/\vs[1]?=some .none/\vs[0]?=some (.ref t0)/\vs[2]?=some .none
variable{e a:Addr}{o:HO}
def XN.ok(q:h.get? e=some ⟨.ref C,d,.fields vs,sl⟩)(q1:vs[1]?=some .none)(q0:vs[0]?=some (.ref t0))(q2:vs[2]?=some .none):ObjOk P w H h e (XN e C d) :=
 ⟨⟨vs,sl,t0,q,q1,q0,q2⟩,⟨_,q⟩,λh1 h2 ⟨vs,sl,t0,z,z'⟩ k=>⟨vs,sl,t0,k _ z,z'⟩⟩
def XN.at(x:HOk P w H h)(q:H e=some (XN e C d)):∃vs sl t0,h.get? e=some ⟨.ref C,d,.fields vs,sl⟩/\vs[1]?=some .none/\vs[0]?=some (.ref t0)/\vs[2]?=some .none:=(x e _ q).1
def ObjOk.here(x:ObjOk P w H h a o):∃u,h.get? a=some u:=by
 cases o with
 |lst xs=>obtain⟨_,_,_,_,e⟩:=x;exact⟨_,e⟩
 |tup xs=>obtain⟨_,_,_,p⟩:=x;obtain⟨u,e,_⟩:=p;exact⟨_,e⟩
 |dK kvs=>obtain⟨_,_,_,_,o,_,_,e,_⟩:=x;exact⟨_,e⟩
 |dT kvs=>obtain⟨_,_,_,_,o,_,_,e,_⟩:=x;exact⟨_,e⟩
 |set S n=>obtain⟨o,_,_,_,e,_⟩:=x;exact⟨_,e⟩
 |ins C dx fs=>obtain⟨_,_,_,e,_⟩:=x;exact⟨_,e⟩
 |own y=>exact x|xd fs=>obtain⟨_,⟨_,_,_,e,_⟩,_⟩:=x;exact⟨_,e⟩
 |xo C d=>obtain⟨_,_,e,_⟩:=x;exact⟨_,e⟩
 |rng lo hi=>obtain⟨_,_,_,e⟩:=x;exact⟨_,e⟩
 |frz ob u=>obtain⟨e,_⟩:=x;exact⟨_,e⟩
 |tbl ps=>exact⟨_,(show h.get? a=some _ from x)⟩
 |met f y=>exact⟨_,(show h.get? a=some _ from x)⟩
 |ext φ=>exact x.2.1
variable{σ:List (Option V)}
structure LeF(K:Frag)(LE:Addr):Prop where
 rd:readsIn K LE (.type "type")=true
 ga:specialIn K (.ref LE) "__getattribute__"=some (some (.builtin "type.__getattribute__"))
 ini:findCls K (.ref LE) (.type "type") "__init__"=some (.val (.builtin "ValueError.__init__"))
 tl:tailIn K vb (.ref LE::vb)=true
section
variable{fI:Addr}{e1 e2 o v:Expr}{t:TA}{to:TE}{p1 ap cp:Pos}{f:Str}
end
section
variable{k:Nat}{fI:Addr}{E:XK}{f x:Str}{e:Expr}{es:List Expr}{t:TA}{σ:St}{Q:VK}{vs:List V}
end
section
variable{g:Array GenState}{dr:Drawn}{t:Nat}{os:OsState}{D:Addr}{oe:Obj}{bmD:List Value}{iniD:Option Value}{Q:Bool->Shared->Prop}
end
def PEx(X:Cx)(e:Expr)(t:St->Hp->VK->(Addr->Hp->Prop)->Prop):Prop :=
 ∀(pins:List (Addr×Obj)) (s:Shared) (σ:St) (H:Hp) (Q:VK) (R:Addr->Hp->Prop),Inv X pins σ H s->t σ H Q R->wpAny (model X.prog X.w) X.A (eval e X.env) (EP X pins σ Q) (XE X pins σ R) s
def PBx(X:Cx)(b:List Stmt)(t:Ends->(Addr->Hp->Prop)->St->Hp->Prop):Prop :=
 ∀(pins:List (Addr×Obj)) (s:Shared) (σ:St) (H:Hp) (D:Ends) (R:Addr->Hp->Prop),Inv X pins σ H s->t D R σ H->wpAny (model X.prog X.w) X.A (execs b X.env) (SP X pins D) (XE X pins σ R) s
abbrev Cx.hnd(X:Cx)(e:Addr):Cx:={X with A:=X.A.mark (some (.ref e)),calm:=false,xe:=λ_ _=>False}
def Cx.Ok.hnd{X:Cx}(ok:X.Ok)(e:Addr):(X.hnd e).Ok :=
 ⟨ok.mod,ok.kind,ok.glob,ok.blt,ok.above,ok.inj,ok.has,ok.cab,(λz=>nomatch z),ok.frames,ok.stk,ok.exf,ok.bs,ok.bsz,ok.noex,ok.exfs,ok.funs,ok.frf⟩
variable{σ:St}
def Inv.hnd{C:Addr}{d:Option Addr}(I:Inv X pins σ H s)(he:H e=some (XO e C d)):Inv (X.hnd e) pins σ H s:=⟨I.ok.hnd e,I.os,I.bare,I.base,I.loc,I.cell,I.free,I.freeC,I.pin,I.hok,I.len,λ_=>.inr ⟨e,C,d,rfl,he⟩⟩
structure XM(K:Frag)(C D:Addr):Prop where
 c:∃bm ini,xcB K C bm ini=true/\(Value.ref C::bm).contains (.ref D)=true
 d:∃bm ini,xcB K D bm ini=true/\bm.contains (.type "BaseException")=true
variable{b₀:Stmt}{suite:List Stmt}{cn:Str}{Dc:Addr}{np hpos:Pos}{tb:Ends->(Addr->Hp->Prop)->St->Hp->Prop}{ts:TS}{K:Frag}{c:Str}
def clV:V->Option Value
 |.ref a=>some (.ref a)|.ty n=>some (.type n)|_=>none
variable{σ:List (Option V)}
end L2
namespace EV
open L2
abbrev St:=L2.St
inductive D where
 |non|bl (b:Bool)|int (i:Int)|str (x:Str)|tup (xs:List D)|lst (xs:List D)|fz (xs:List D)
 |exn (c f:Str) (xs:List D)
 |adr (a:Addr)
inductive Nst where
 |ls (js:List Nat)|pr (x:D) (i:Nat)
inductive W where
 |d (x:D)|ref (i:Nat)
 |ob (c:Str) (i:Nat)|nest (z:Nst)
abbrev Lc:=List (Option W)
abbrev Mm:=List (List D)
abbrev Exn:=D
inductive Oc(α:Type)where
 |ok (a:α) (M:Mm)|ex (x:Exn) (M:Mm)|bad
def Oc.bind(o:Oc α)(k:α->Mm->Oc β):Oc β:=match o with
 |.ok a M=>k a M|.ex x M=>.ex x M|.bad=>.bad
@[simp]theorem bI(a:α)(M:Mm)(k:α->Mm->Oc β):(Oc.ok a M).bind k=k a M:=rfl
@[simp]theorem aRj(x:Exn)(M:Mm)(k:α->Mm->Oc β):(Oc.ex x M:Oc α).bind k=.ex x M:=rfl
@[simp]theorem aQm(k:α->Mm->Oc β):(Oc.bad:Oc α).bind k=.bad:=rfl
section
variable(K:Frag)(μ:List Addr)(H:Hp)
def FzL(a:Addr)(vs:List V):Prop:=(∃o,H a=some (.frz o (.lst vs))) \/
 ∃(o:Obj) (its:Array Value) (n:Nat),K.lookup a=some o/\o.cls=.type "list"/\o.dict=none/\o.data=.seq its n/\its.size<=sizeLine/\Vals vs its.toList
def XFl(C:Addr)(f:Str)(d:Option Addr)(vs:List V):Prop:=(d=none/\vs=[])\/∃dx u,d=some dx/\vs=[u]/\H dx=some (.xd [(f,u)])/\PySem.W.findIn K (.ref C) f=some none
mutual
def Rp:D->V->Prop
 |.non,v=>v=.non|.bl b,v=>v=.bl b|.int i,v=>v=.int i|.str x,v=>v=.str x|.tup ds,v=>∃a vs,v=.ref a/\H a=some (.tup vs)/\Rps ds vs|.lst ds,v=>∃a vs,v=.ref a/\H a=some (.lst vs)/\a∉μ/\Rps ds vs|.fz ds,v=>∃a vs,v=.ref a/\FzL K H a vs/\Rps ds vs|.exn c f ds,v=>∃a vs C LE d,v=.ref a/\H a=some (XO a C d)/\Xc K c C LE/\XFl K H C f d vs/\Rps ds vs|.adr a,v=>v=.ref a
def Rps:List D->List V->Prop
 |[],vs=>vs=[]|d::ds,vs=>∃v r,vs=v::r/\Rp d v/\Rps ds r
end
def IsL(H:Hp)(a:Addr):Prop:=∃vs,H a=some (.lst vs)
def IsO(c:Str)(H:Hp)(a:Addr):Prop:=(∃C dx fs,H a=some (.ins C dx fs)/\nsIn K mainGlobals c=some (some (.ref C)))\/(c="dict"/\∃kvs,Rd H a (.dT kvs))\/(c="dictK"/\∃kvs,H a=some (.dK kvs))
noncomputable def Rjs:List Nat->List V->Prop
 |[],vs=>vs=[]|j::js,vs=>∃a r,vs=.ref a::r/\μ[j]?=some a/\IsL H a/\Rjs js r
def RNs:Nst->Addr->List V->Prop
 |.ls js,a,vs=>H a=some (.lst vs)/\a∉μ/\Rjs μ H js vs|.pr x i,a,vs=>H a=some (.tup vs)/\∃v b,vs=[v,.ref b]/\Rp K μ H x v/\μ[i]?=some b/\IsL H b
def Rw:W->V->Prop
 |.d x,v=>Rp K μ H x v|.ref i,v=>∃a,μ[i]?=some a/\v=.ref a/\IsL H a|.ob c i,v=>∃a,μ[i]?=some a/\v=.ref a/\IsO K c H a|.nest z,v=>∃a vs,v=.ref a/\RNs K μ H z a vs
def Frs:List D->List (Str×V)->Prop
 |[],fs=>fs=[]|d::ds,fs=>∃f x v r,d=.tup [.str f,x]/\fs=(f,v)::r/\Rp K μ H x v/\Frs ds r
noncomputable def kyD:Key->D
 |.inl i=>.int i|.inr x=>.str x
def Krs:List D->List (List Key×V)->Prop
 |[],fs=>fs=[]|d::ds,fs=>∃k x v r,d=.tup [.tup (k.map kyD),x]/\fs=(k,v)::r/\Rp K μ H x v/\Krs ds r
def Kns:List D->List (Key×V)->Prop
 |[],fs=>fs=[]|d::ds,fs=>∃k x v r,d=.tup [kyD k,x]/\fs=(k,v)::r/\Rp K μ H x v/\Kns ds r
def CelO:HO->List D->Prop
 |.lst vs,ds=>Rps K μ H ds vs|.ins _ _ fs,ds=>Frs K μ H ds fs|.dT kvs,ds=>Krs K μ H ds kvs|.frz _ (.dT kvs),ds=>∃es,ds=.bl true::es/\Krs K μ H es kvs|.dK kvs,ds=>Kns K μ H ds kvs|_,_=>False
def Rws:List W->List V->Prop
 |[],vs=>vs=[]|d::ds,vs=>∃v r,vs=v::r/\Rw K μ H d v/\Rws ds r
structure HR(M:Mm):Prop where
 len:μ.length=M.length
 nd:μ.Nodup
 ent:∀(i:Nat) (a:Addr) (ds:List D),μ[i]?=some a->M[i]?=some ds->∃o,H a=some o/\CelO K μ H o ds
structure LR(L:Lc)(σ:St):Prop where
 len:L.length=σ.length
 ent:∀(i:Nat) (w:W),L[i]?=some (some w)->∃v,σ[i]?=some (some v)/\Rw K μ H w v
end
structure SameK(o o':HO):Prop where
 l:∀vs,o=.lst vs->∃us,o'=.lst us
 i:∀C dx fs,o=.ins C dx fs->∃gs,o'=.ins C dx gs
 t:∀kvs,o=.dT kvs->∃ls,o'=.dT ls\/∃ob,o'=.frz ob (.dT ls)
 k:∀kvs,o=.dK kvs->∃ls,o'=.dK ls
 f:∀ob u,o=.frz ob u->o'=.frz ob u
variable{o:HO}
def SameK.refl:SameK o o:=⟨λ_ h=>⟨_,h⟩,λ_ _ _ h=>⟨_,h⟩,λ_ h=>⟨_,.inl h⟩,λ_ h=>⟨_,h⟩,λ_ _ h=>h⟩
def SameK.trans{p q:HO}(a:SameK o p)(b:SameK p q):SameK o q:=⟨λ_ h=>let⟨_,h⟩:=a.l _ h;b.l _ h,λ_ _ _ h=>let⟨_,h⟩:=a.i _ _ _ h;b.i _ _ _ h,λ_ h=>let⟨_,h⟩:=a.t _ h;h.elim (b.t _) λ⟨_,h⟩=>⟨_,.inr ⟨_,b.f _ _ h⟩⟩,λ_ h=>let⟨_,h⟩:=a.k _ h;b.k _ h,λ_ _ h=>b.f _ _ (a.f _ _ h)⟩
structure Ext(μ:List Addr)(H:Hp)(μ':List Addr)(H':Hp):Prop where
 keep:∀a o,a∉μ->H a=some o->H' a=some o
 new:∀a,a∈μ'->a∈μ\/H a=none
 pre:∀(i:Nat) (a:Addr),μ[i]?=some a->μ'[i]?=some a
 kin:∀a o,H a=some o->∃o',H' a=some o'/\SameK o o'
variable{K:Frag}{μ2:List Addr}{M:Mm}{a:Addr}
def FzL.sq(h:FzL K H a vs):SqL K H a vs:=by
 rcases h with⟨o,h⟩|h
 ·exact .inl (.inr ⟨o,h⟩)
 ·exact .inr h
def Ext.refl:Ext μ H μ H:=⟨λ_ _ _ h=>h,λ_ h=>.inl h,λ_ _ h=>h,λ_ _ h=>⟨_,h,.refl⟩⟩
def Ext.out(e:Ext μ H μ1 H1)(h:H a=some o)(n:a∉μ):a∉μ1:=λz=>by
 rcases e.new a z with z|z
 ·exact n z
 ·rw[h]at z;cases z
def Ext.trans(e:Ext μ H μ1 H1)(f:Ext μ1 H1 μ2 H2):Ext μ H μ2 H2 where
 keep:=λa o n h=>f.keep a o (e.out h n) (e.keep a o n h)
 new:=λa h=>by
  rcases f.new a h with h|h
  ·exact e.new a h
  ·by_cases n:a∈μ
   ·exact .inl n
   ·cases q:H a with
    |none=>exact .inr rfl|some o=>rw[e.keep a o n q]at h;cases h
 pre:=λi a h=>f.pre i a (e.pre i a h)
 kin:=λa o h=>let⟨_,h1,k1⟩:=e.kin a o h;let⟨_,h2,k2⟩:=f.kin a _ h1;⟨_,h2,k1.trans k2⟩
def MutO:HO->Prop
 |.lst _=>True|.ins _ _ _=>True|.dT _=>True|.frz _ (.dT _)=>True|.dK _=>True|_=>False
def CelO.mut(h:CelO K μ H o ds):MutO o:=by
 cases o with
 |frz ob u=>cases u <;> first|exact h.elim|trivial
 |_=>first|exact h.elim|trivial
def Lsts(μ:List Addr)(H:Hp):Prop:=∀a∈μ,∃o,H a=some o/\MutO o
def HR.lsts(h:HR K μ H M):Lsts μ H:=λa ha=>by
 obtain⟨i,hi,e⟩:=aCK.mp ha;have hM:i < M.length:=h.len▸hi;obtain⟨vs,q,m⟩:=h.ent i a M[i] (by rw[aAP hi,e]) (by simp[hM]);exact⟨vs,q,m.mut⟩
def Rd.ext{u:HO}(hu:¬MutO u)(l:Lsts μ H)(e:Ext μ H μ1 H1)(h:Rd H a u):Rd H1 a u:=by
 rcases h with h|⟨o,h⟩
 ·exact .inl (e.keep a _ (λz=>by obtain⟨vs,q,m⟩:=l a z;rw[h]at q;cases q;exact hu m) h)
 ·exact .inr ⟨o,e.keep a _ (λz=>by obtain⟨vs,q,m⟩:=l a z;rw[h]at q;cases q;cases u <;> first|exact m.elim|exact hu trivial) h⟩
def SqT.ext{a:Addr}{vs:List V}(l:Lsts μ H)(e:Ext μ H μ1 H1)(h:SqT K H a vs):SqT K H1 a vs:=by
 rcases h with h|h
 ·exact .inl (Rd.ext (λz=>z) l e h)
 ·exact .inr h
def FzL.ext(l:Lsts μ H)(e:Ext μ H μ1 H1)(h:FzL K H a vs):FzL K H1 a vs:=by
 rcases h with⟨o,h⟩|h
 ·exact .inl ⟨o,e.keep a _ (λz=>by obtain⟨vs,q,m⟩:=l a z;rw[h]at q;cases q;exact m) h⟩
 ·exact .inr h
def XFl.ext(l:Lsts μ H)(e:Ext μ H μ1 H1)(h:XFl K H C f d vs):XFl K H1 C f d vs:=by
 rcases h with h|⟨dx,u,h1,h2,h3,h4⟩
 ·exact .inl h
 ·exact .inr ⟨dx,u,h1,h2,e.keep dx _ (λz=>by obtain⟨vs,q,m⟩:=l dx z;rw[h3]at q;cases q;exact m) h3,h4⟩
mutual
def Rp.ext(l:Lsts μ H)(e:Ext μ H μ1 H1):∀(d:D) (v:V),Rp K μ H d v->Rp K μ1 H1 d v
 |.non,v,h=>by simpa[Rp]using h|.bl b,v,h=>by simpa[Rp]using h|.int b,v,h=>by simpa[Rp]using h|.str b,v,h=>by simpa[Rp]using h|.tup ds,v,h=>by
  simp only[Rp]at h ⊢;obtain⟨a,vs,e1,e2,e3⟩:=h;exact⟨a,vs,e1,e.keep _ _ (λz=>by obtain⟨us,q,m⟩:=l a z;rw[e2]at q;cases q;exact m) e2,Rps.ext l e ds vs e3⟩
 |.lst ds,v,h=>by
  simp only[Rp]at h ⊢;obtain⟨a,vs,e1,e2,n,e3⟩:=h;exact⟨a,vs,e1,e.keep _ _ n e2,e.out e2 n,Rps.ext l e ds vs e3⟩
 |.fz ds,v,h=>by
  simp only[Rp]at h ⊢;obtain⟨a,vs,e1,e2,e3⟩:=h;exact⟨a,vs,e1,FzL.ext l e e2,Rps.ext l e ds vs e3⟩
 |.exn c f ds,v,h=>by
  simp only[Rp]at h ⊢;obtain⟨a,vs,C,LE,d,e1,e2,e3,e4,e5⟩:=h;exact⟨a,vs,C,LE,d,e1,e.keep _ _ (λz=>by obtain⟨us,q,m⟩:=l a z;rw[e2]at q;cases q;exact m) e2,e3,XFl.ext l e e4,Rps.ext l e ds vs e5⟩
 |.adr a,v,h=>by simpa[Rp]using h
def Rps.ext(l:Lsts μ H)(e:Ext μ H μ1 H1):∀(ds:List D) (vs:List V),Rps K μ H ds vs->Rps K μ1 H1 ds vs
 |[],vs,h=>by simpa[Rps]using h|d::ds,vs,h=>by
  simp only[Rps]at h ⊢;obtain⟨v,r,e1,e2,e3⟩:=h;exact⟨v,r,e1,Rp.ext l e d v e2,Rps.ext l e ds r e3⟩
end
def IsL.ext(e:Ext μ H μ1 H1)(h:IsL H a):IsL H1 a:=by
 obtain⟨vs,h⟩:=h;obtain⟨o,h1,k⟩:=e.kin a _ h;obtain⟨us,rfl⟩:=k.l _ rfl;exact⟨us,h1⟩
def IsO.ext(e:Ext μ H μ1 H1){c:Str}(h:IsO K c H a):IsO K c H1 a:=by
 rcases h with⟨C,dx,fs,h,n⟩|⟨hc,kvs,h⟩|⟨hc,kvs,h⟩
 ·obtain⟨o,h1,k⟩:=e.kin a _ h
  obtain⟨gs,rfl⟩:=k.i _ _ _ rfl;exact .inl ⟨C,dx,gs,h1,n⟩
 ·rcases h with h|⟨ob,h⟩
  ·obtain⟨o,h1,k⟩:=e.kin a _ h
   obtain⟨gs,rfl|⟨ob,rfl⟩⟩:=k.t _ rfl
   ·exact .inr (.inl ⟨hc,gs,.inl h1⟩)
   ·exact .inr (.inl ⟨hc,gs,.inr ⟨ob,h1⟩⟩)
  ·obtain⟨o,h1,k⟩:=e.kin a _ h
   obtain rfl:=k.f _ _ rfl;exact .inr (.inl ⟨hc,kvs,.inr ⟨ob,h1⟩⟩)
 ·obtain⟨o,h1,k⟩:=e.kin a _ h
  obtain⟨gs,rfl⟩:=k.k _ rfl;exact .inr (.inr ⟨hc,gs,h1⟩)
def Rjs.ext(e:Ext μ H μ1 H1):∀{js:List Nat} {vs:List V},Rjs μ H js vs->Rjs μ1 H1 js vs
 |[],_,h=>h|_::_,_,⟨a,r,e1,e2,e3,e4⟩=>⟨a,r,e1,e.pre _ _ e2,e3.ext e,Rjs.ext e e4⟩
def Frs.ext(l:Lsts μ H)(e:Ext μ H μ1 H1):∀{ds:List D} {fs:List (Str×V)},Frs K μ H ds fs->Frs K μ1 H1 ds fs
 |[],_,h=>h|_::_,_,⟨f,x,v,r,e1,e2,e3,e4⟩=>⟨f,x,v,r,e1,e2,Rp.ext l e _ _ e3,Frs.ext l e e4⟩
def Krs.ext(l:Lsts μ H)(e:Ext μ H μ1 H1):∀{ds:List D} {fs:List (List Key×V)},Krs K μ H ds fs->Krs K μ1 H1 ds fs
 |[],_,h=>h|_::_,_,⟨f,x,v,r,e1,e2,e3,e4⟩=>⟨f,x,v,r,e1,e2,Rp.ext l e _ _ e3,Krs.ext l e e4⟩
def Kns.ext(l:Lsts μ H)(e:Ext μ H μ1 H1):∀{ds:List D} {fs:List (Key×V)},Kns K μ H ds fs->Kns K μ1 H1 ds fs
 |[],_,h=>h|_::_,_,⟨f,x,v,r,e1,e2,e3,e4⟩=>⟨f,x,v,r,e1,e2,Rp.ext l e _ _ e3,Kns.ext l e e4⟩
def CelO.ext(l:Lsts μ H)(e:Ext μ H μ1 H1)(h:CelO K μ H o ds):CelO K μ1 H1 o ds:=by
 cases o with
 |frz ob u=>cases u <;> first|exact h.elim|exact let⟨es,a,b⟩:=h;⟨es,a,Krs.ext l e b⟩
 |_=>first|exact h.elim|exact Rps.ext l e _ _ h|exact Krs.ext l e h|exact Kns.ext l e h|exact Frs.ext l e h
def Rw.ext(l:Lsts μ H)(e:Ext μ H μ1 H1){w:W}{v:V}(h:Rw K μ H w v):Rw K μ1 H1 w v:=by
 cases w with
 |d x=>exact Rp.ext l e x v h|ref i=>obtain⟨a,h1,h2,h3⟩:=h;exact⟨a,e.pre i a h1,h2,h3.ext e⟩
 |ob c i=>obtain⟨a,h1,h2,h3⟩:=h;exact⟨a,e.pre i a h1,h2,h3.ext e⟩
 |nest z=>cases z with
  |ls js=>obtain⟨a,vs,h1,h2,h3,h4⟩:=h;exact⟨a,vs,h1,e.keep _ _ h3 h2,e.out h2 h3,h4.ext e⟩
  |pr x i=>obtain⟨a,vs,h1,h2,v,b,rfl,h3,h4,h5⟩:=h;exact⟨a,_,h1,e.keep _ _ (λz=>by obtain⟨us,q,m⟩:=l a z;rw[h2]at q;cases q;exact m) h2,v,b,rfl,Rp.ext l e x v h3,e.pre _ _ h4,h5.ext e⟩
def Rws.ext(l:Lsts μ H)(e:Ext μ H μ1 H1):∀{ws:List W} {vs:List V},Rws K μ H ws vs->Rws K μ1 H1 ws vs
 |[],_,h=>h|_::_,_,⟨v,r,e1,e2,e3⟩=>⟨v,r,e1,Rw.ext l e e2,Rws.ext l e e3⟩
def LR.ext(l:Lsts μ H)(e:Ext μ H μ1 H1)(h:LR K μ H L σ):LR K μ1 H1 L σ :=
 ⟨h.len,λi w q=>let⟨v,q1,q2⟩:=h.ent i w q;⟨v,q1,Rw.ext l e q2⟩⟩
def Rps.length:∀{ds:List D} {vs:List V},Rps K μ H ds vs->ds.length=vs.length
 |[],_,h=>by simp only[Rps]at h;subst h;rfl
 |_::_,_,h=>by simp only[Rps]at h;obtain⟨v,r,e1,_,e3⟩:=h;subst e1;simp[Rps.length e3]
def Rps.get:∀{ds:List D} {vs:List V} {i:Nat} {d:D},Rps K μ H ds vs->ds[i]?=some d->∃v,vs[i]?=some v/\Rp K μ H d v
 |[],_,_,_,_,q=>by simp at q
 |_::_,_,0,_,h,q=>by simp only[Rps]at h;obtain⟨v,r,e1,e2,e3⟩:=h;simp at q;subst q e1;exact⟨v,rfl,e2⟩
 |_::_,_,i+1,_,h,q=>by
  simp only[Rps]at h;obtain⟨v,r,e1,e2,e3⟩:=h;subst e1;obtain⟨u,q1,q2⟩:=Rps.get (i:=i) e3 (by simpa using q);exact⟨u,by simpa using q1,q2⟩
def Rps.nil:Rps K μ H [] []:=by simp[Rps]
def Rps.cons{d:D}{v:V}{ds:List D}{vs:List V}(h:Rp K μ H d v)(t:Rps K μ H ds vs):Rps K μ H (d::ds) (v::vs):=by simp only[Rps];exact⟨v,vs,rfl,h,t⟩
def Rps.append:∀{ds es:List D} {vs us:List V},Rps K μ H ds vs->Rps K μ H es us->Rps K μ H (ds++es) (vs++us)
 |[],_,_,_,h,t=>by simp only[Rps]at h;subst h;exact t
 |_::_,_,_,_,h,t=>by simp only[Rps]at h;obtain⟨v,r,e1,e2,e3⟩:=h;subst e1;exact .cons e2 (Rps.append e3 t)
def Rps.drop:∀{ds:List D} {vs:List V} (n:Nat),Rps K μ H ds vs->Rps K μ H (ds.drop n) (vs.drop n)
 |_,_,0,h=>by simpa using h|[],_,n+1,h=>by simp only[Rps]at h;subst h;exact .nil
 |_::_,_,n+1,h=>by simp only[Rps]at h;obtain⟨v,r,e1,e2,e3⟩:=h;subst e1;simpa using Rps.drop n e3
def Rps.take:∀{ds:List D} {vs:List V} (n:Nat),Rps K μ H ds vs->Rps K μ H (ds.take n) (vs.take n)
 |_,_,0,h=>by simpa using Rps.nil|[],_,n+1,h=>by simp only[Rps]at h;subst h;exact .nil
 |_::_,_,n+1,h=>by simp only[Rps]at h;obtain⟨v,r,e1,e2,e3⟩:=h;subst e1;simpa using Rps.cons e2 (Rps.take n e3)
def Rps.set{d:D}{v:V}(q:Rp K μ H d v):∀{ds:List D} {vs:List V} (n:Nat),Rps K μ H ds vs->Rps K μ H (ds.set n d) (vs.set n v)
 |[],_,n,h=>by simp only[Rps]at h;subst h;simpa using Rps.nil
 |_::_,_,0,h=>by simp only[Rps]at h;obtain⟨u,r,e1,e2,e3⟩:=h;subst e1;simpa using Rps.cons q e3
 |_::_,_,n+1,h=>by simp only[Rps]at h;obtain⟨u,r,e1,e2,e3⟩:=h;subst e1;simpa using Rps.cons e2 (Rps.set q n e3)
def Rps.dropLast{ds:List D}{vs:List V}(h:Rps K μ H ds vs):Rps K μ H ds.dropLast vs.dropLast:=by
 rw[List.dropLast_eq_take,List.dropLast_eq_take,<- h.length];exact h.take _
def Rps.rep{vs:List V}(h:Rps K μ H ds vs):∀k:Nat,Rps K μ H (List.replicate k ds).flatten (List.replicate k vs).flatten
 |0=>by simpa using Rps.nil|k+1=>by simpa[aFA]using h.append (h.rep k)
def Rps.ints:Rps K μ H (ns.map D.int) (ns.map V.int):=by
 induction ns with
 |nil=>exact .nil|cons n r ih=>exact .cons (by simp[Rp]) ih
def Rws.length:∀{ws:List W} {vs:List V},Rws K μ H ws vs->ws.length=vs.length
 |[],_,h=>by cases h;rfl
 |_::_,_,⟨v,r,e1,_,e3⟩=>by subst e1;simp[Rws.length e3]
def Rws.get:∀{ws:List W} {vs:List V} {i:Nat} {w:W},Rws K μ H ws vs->ws[i]?=some w->∃v,vs[i]?=some v/\Rw K μ H w v
 |[],_,_,_,_,q=>by simp at q
 |_::_,_,0,_,⟨v,r,e1,e2,e3⟩,q=>by simp at q;subst q e1;exact⟨v,rfl,e2⟩
 |_::_,_,i+1,_,⟨v,r,e1,e2,e3⟩,q=>by
  subst e1;obtain⟨u,q1,q2⟩:=Rws.get (i:=i) e3 (by simpa using q);exact⟨u,by simpa using q1,q2⟩
variable{p:Addr}
def HR.out(h:HR K μ H M)(hp:H p=none):p∉μ:=λz=>by
 obtain⟨vs,q,_⟩:=h.lsts p z;rw[hp]at q;cases q
def fW(h:HR K μ H M)(hp:H p=none):Ext μ H μ (upd H p o) :=
 ⟨λa u n q=>by rw[aI (aQ q hp)];exact q,λa q=>.inl q,λ_ _ q=>q,λa u q=>⟨u,by rw[aI (aQ q hp)];exact q,.refl⟩⟩
def HR.lay(h:HR K μ H M)(hp:H p=none):HR K μ (upd H p o) M where
 len:=h.len
 nd:=h.nd
 ent:=λi a ds q1 q2=>by
  obtain⟨vs,q3,q4⟩:=h.ent i a ds q1 q2;exact⟨vs,by rw[aI (aQ q3 hp)];exact q3,CelO.ext h.lsts (fW h hp) q4⟩
def dY(h:HR K μ H M)(hp:H p=none):Ext μ H (μ++[p]) (upd H p o)where
 keep:=λa u n q=>by rw[aI (aQ q hp)];exact q
 new:=λa q=>by
  rcases aCH.mp q with q|q
  ·exact .inl q
  ·rw[aBP]at q;subst q;exact .inr hp
 pre:=λi a q=>by
  rw[aAW (aAF.mp q).1];exact q
 kin:=λa u q=>⟨u,by rw[aI (aQ q hp)];exact q,.refl⟩
def zB(h:HR K μ H M)(hp:H p=none):Ext μ H (μ++[p]) (upd H p (.lst vs)):=dY h hp
def HR.newO(h:HR K μ H M)(hp:H p=none)(r:CelO K μ H o ds):HR K (μ++[p]) (upd H p o) (M++[ds])where
 len:=by simp[h.len]
 nd:=aGG.mpr ⟨h.nd,by simp,λa ha b hb=>by rw[aBP]at hb;subst hb;rintro rfl;exact h.out hp ha⟩
 ent:=λi a es q1 q2=>by
  have x:=dY (o:=o) h hp;by_cases hi:i < μ.length
  ·rw[aAW hi]at q1
   rw[aAW (by rw[<- h.len];exact hi)]at q2;obtain⟨us,q3,q4⟩:=h.ent i a es q1 q2;exact⟨us,by rw[aI (aQ q3 hp)];exact q3,CelO.ext h.lsts x q4⟩
  ·have:i=μ.length:=by
    have:=(aAF.mp q1).1;simp at this;lia
   subst this;rw[aBU (aAD _)]at q1;rw[h.len,aBU (aAD _)]at q2;simp at q1 q2;subst q1 q2;exact⟨o,aS,CelO.ext h.lsts x r⟩
def HR.new(h:HR K μ H M)(hp:H p=none)(r:Rps K μ H ds vs):HR K (μ++[p]) (upd H p (.lst vs)) (M++[ds]):=h.newO hp (o:=.lst vs) r
def fB(q:μ[i]?=some a)(ho:H a=some o')(k:SameK o' o):Ext μ H μ (upd H a o) :=
 ⟨λb u n q'=>by rw[aI (λz=>n (by subst z;exact aAQ q))];exact q',λa q=>.inl q,λ_ _ q=>q,λb u q'=>by
  by_cases e:b=a
  ·subst e;rw[ho]at q';cases q';exact⟨o,aS,k⟩
  ·exact⟨u,by rw[aI e];exact q',.refl⟩⟩
def SameK.lst{vs us:List V}:SameK (.lst vs) (.lst us):=⟨λ_ _=>⟨us,rfl⟩,λ_ _ _ h=>(nomatch h),λ_ h=>(nomatch h),λ_ h=>(nomatch h),λ_ _ h=>(nomatch h)⟩
def bQ(q:μ[i]?=some a)(hl:IsL H a:=by first|assumption|exact⟨_,by assumption⟩):Ext μ H μ (upd H a (.lst vs)):=let⟨_,h⟩:=hl;fB q h .lst
def HR.setO(h:HR K μ H M)(q:μ[i]?=some a)(ho:H a=some o')(k:SameK o' o)(r:CelO K μ H o ds):HR K μ (upd H a o) (M.set i ds)where
 len:=by simp[h.len]
 nd:=h.nd
 ent:=λj b es q1 q2=>by
  have x:=fB (H:=H) (o:=o) q ho k;by_cases hj:i=j
  ·subst hj
   rw[q]at q1;cases q1;have hlt:i < M.length:=by rw[<- h.len];exact(aAF.mp q).1
   rw[aBZ hlt]at q2;cases q2;exact⟨o,aS,CelO.ext h.lsts x r⟩
  ·rw[aDX hj]at q2
   obtain⟨us,q3,q4⟩:=h.ent j b es q1 q2;have hb:b≠a:=by
    rintro rfl;have h1:=(aAF.mp q).1;have h2:=(aAF.mp q1).1;have e1:=(aAF.mp q).2;have e2:=(aAF.mp q1).2;have pw:=aBD.mp h.nd;rcases Nat.lt_or_gt_of_ne hj with l|l
    ·exact pw i j h1 h2 l (e1.trans e2.symm)
    ·exact pw j i h2 h1 l (e2.trans e1.symm)
   exact⟨us,by rw[aI hb];exact q3,CelO.ext h.lsts x q4⟩
def HR.set(h:HR K μ H M){i:Nat}{a:Addr}{vs:List V}(q:μ[i]?=some a)(r:Rps K μ H ds vs)(hl:IsL H a:=by first|assumption|exact⟨_,by assumption⟩):HR K μ (upd H a (.lst vs)) (M.set i ds):=let⟨_,e⟩:=hl;h.setO q e .lst (o:=.lst vs) r
def HR.atO(h:HR K μ H M)(q:M[i]?=some ds):∃a o,μ[i]?=some a/\H a=some o/\CelO K μ H o ds:=by
 have hlt:i < μ.length:=by rw[h.len];exact(aAF.mp q).1
 obtain⟨vs,q1,q2⟩:=h.ent i μ[i] ds (by simp[hlt]) q;exact⟨μ[i],vs,by simp[hlt],q1,q2⟩
def HR.at(h:HR K μ H M){i:Nat}(q:M[i]?=some ds)(qa:μ[i]?=some a')(hl:IsL H a':=by assumption):∃a vs,μ[i]?=some a/\H a=some (.lst vs)/\Rps K μ H ds vs:=by
 obtain⟨a,o,q1,q2,q3⟩:=h.atO q;rw[qa]at q1;cases q1;obtain⟨vs,hl⟩:=hl;rw[hl]at q2;cases q2;exact⟨a',vs,qa,hl,q3⟩
structure Zt where
 z:Exn->Mm->List Addr->Hp->Prop
 mono:∀{x M μ H μ' H':_},Ext μ H μ' H'->z x M μ H->z x M μ' H'
def Z0:Zt:=⟨λ_ _ _ _=>False,λ_ h=>h⟩
def Pst(K:Frag)(Z:Zt)(μ:List Addr)(H:Hp)(o:Oc α)(Q:List Addr->Hp->Mm->α->Prop):Prop:=match o with
 |.ok a M'=>∀μ' H',Ext μ H μ' H'->HR K μ' H' M'->Q μ' H' M' a|.ex x M'=>Z.z x M' μ H|.bad=>False
variable{α β:Type}{K:Frag}{Z:Zt}{o:Oc α}{Q Q':List Addr->Hp->Mm->α->Prop}
def Pst.mono(e:Ext μ H μ1 H1)(h:Pst K Z μ H o Q):Pst K Z μ1 H1 o Q:=by
 cases o with
 |ok a M=>exact λμ' H' e' hr=>h μ' H' (e.trans e') hr
 |ex x M=>exact Z.mono e h|bad=>exact h
def Pst.imp(h:Pst K Z μ H o Q)(f:∀μ' H' M' a,Ext μ H μ' H'->HR K μ' H' M'->o=.ok a M'->Q μ' H' M' a->Q' μ' H' M' a):Pst K Z μ H o Q':=by
 cases o with
 |ok a M=>exact λμ' H' e' hr=>f μ' H' M a e' hr rfl (h μ' H' e' hr)
 |ex x M=>exact h|bad=>exact h
def Pst.bind{k:α->Mm->Oc β}{R:List Addr->Hp->Mm->β->Prop}(h:Pst K Z μ H (o.bind k) R):Pst K Z μ H o (λμ' H' M' a=>Pst K Z μ' H' (k a M') R):=by
 cases o with
 |ok a M=>exact λμ' H' e' hr=>Pst.mono e' h
 |ex x M=>exact h|bad=>exact h
abbrev FE:=Lc->Mm->Oc W
abbrev FT:=Lc->Mm->Oc Bool
abbrev FA:=Lc->Mm->Oc (List W)
inductive Out where
 |nx (L:Lc)|bk (L:Lc)|ct (L:Lc)|rt (w:W)
abbrev FS:=Lc->Mm->Oc Out
abbrev FG:=W->Lc->Mm->Oc Lc
abbrev FGs:=List D->Lc->Mm->Oc Lc
abbrev Fn:=List W->Mm->Oc W
section
variable(K:Frag)(Z:Zt)
def lift(f:FE):TE:=λσ H Q=>∃μ M L,HR K μ H M/\LR K μ H L σ/\Pst K Z μ H (f L M) λμ' H' _ w=>∀v,Rw K μ' H' w v->Q v H'
def liftT(f:FT):TT:=λσ H Q=>∃μ M L,HR K μ H M/\LR K μ H L σ/\Pst K Z μ H (f L M) λμ' H' M' b=>Q b H'
def liftA(f:FA):TA:=λσ H Q=>∃μ M L,HR K μ H M/\LR K μ H L σ/\Pst K Z μ H (f L M) λμ' H' _ ws=>∀vs,Rws K μ' H' ws vs->Q vs H'
end
section
variable(X:Cx)(K:Frag)(Z:Zt)
abbrev Sk(K:Frag)(E:Ends)(μ':List Addr)(H':Hp)(_:Mm)(o:Out):Prop:=match o with
 |.nx L'=>∀σ',LR K μ' H' L' σ'->E.nx σ' H'|.bk L'=>∀σ',LR K μ' H' L' σ'->E.bk σ' H'|.ct L'=>∀σ',LR K μ' H' L' σ'->E.ct σ' H'|.rt w=>∀v,Rw K μ' H' w v->E.rt v H'
def liftS(F:FS):TS:=λE σ H=>∃μ M L,HR K μ H M/\LR K μ H L σ/\Pst K Z μ H (F L M) (Sk K E)
def liftG(g:FG):TG:=λv σ H Q=>∃μ M L w,HR K μ H M/\LR K μ H L σ/\Rw K μ H w v/\Pst K Z μ H (g w L M) λμ' H' _ L'=>∀σ',LR K μ' H' L' σ'->Q σ' H'
def liftGs(g:FGs):TGs:=λvs σ H Q=>∃μ M L ds,HR K μ H M/\LR K μ H L σ/\Rps K μ H ds vs/\Pst K Z μ H (g ds L M) λμ' H' _ L'=>∀σ',LR K μ' H' L' σ'->Q σ' H'
structure Ev(e:Expr)(f:FE):Prop where
 k:X.K=K
 h:PE X e (lift K Z f)
structure Et(e:Expr)(f:FT):Prop where
 k:X.K=K
 h:PT X e (liftT K Z f)
structure Ew(e:Expr)(f:FT):Prop where
 k:X.K=K
 h:PW X e (liftT K Z f)
structure Ea(es:List Expr)(f:FA):Prop where
 k:X.K=K
 h:PA X es (liftA K Z f)
structure Es(st:Stmt)(F:FS):Prop where
 k:X.K=K
 h:PS X st (liftS K Z F)
structure Ess(st:List Stmt)(F:FS):Prop where
 k:X.K=K
 h:PSs X st (liftS K Z F)
structure Eg(tg:Expr)(g:FG):Prop where
 k:X.K=K
 h:PG X tg (liftG K Z g)
structure Egs(tg:List Expr)(g:FGs):Prop where
 k:X.K=K
 h:PGs X tg (liftGs K Z g)
end
section
variable{K:Frag}{e a b:Expr}{es:List Expr}{f fa fb fc:FE}{t ta tb:FT}{fs:FA}
def cqE{t t':TE}(h:PE X e t)(i:∀σ H Q,t' σ H Q->t σ H Q):PE X e t':=λpins s σ H Q I q=>h pins s σ H Q I (i _ _ _ q)
def cqT{t t':TT}(h:PT X e t)(i:∀σ H Q,t' σ H Q->t σ H Q):PT X e t':=λpins s σ H Q I q=>h pins s σ H Q I (i _ _ _ q)
def cqW{t t':TT}(h:PW X e t)(i:∀σ H Q,t' σ H Q->t σ H Q):PW X e t':=λwh pins s σ H Q I q=>h wh pins s σ H Q I (i _ _ _ q)
def cqA{t t':TA}(h:PA X es t)(i:∀σ H Q,t' σ H Q->t σ H Q):PA X es t':=λp pins s σ H Q I q=>h p pins s σ H Q I (i _ _ _ q)
def cqS{st:Stmt}{t t':TS}(h:PS X st t)(i:∀E σ H,t' E σ H->t E σ H):PS X st t':=λpins s σ H E I q=>h pins s σ H E I (i _ _ _ q)
def cqSs{st:List Stmt}{t t':TS}(h:PSs X st t)(i:∀E σ H,t' E σ H->t E σ H):PSs X st t':=λpins s σ H E I q=>h pins s σ H E I (i _ _ _ q)
def cqG{t t':TG}(h:PG X e t)(i:∀v σ H Q,t' v σ H Q->t v σ H Q):PG X e t':=λpins s σ H v u Q I r q=>h pins s σ H v u Q I r (i _ _ _ _ q)
def cqGs{t t':TGs}(h:PGs X es t)(i:∀v σ H Q,t' v σ H Q->t v σ H Q):PGs X es t':=λpins s σ H v u Q I r q=>h pins s σ H v u Q I r (i _ _ _ _ q)
noncomputable def eV(i:Nat):FE:=λL M=>match L[i]? with
 |some (some w)=>.ok w M|_=>.bad
noncomputable def eC(d:D):FE:=λ_ M=>.ok (.d d) M
def aB(i:Nat)(hN:X.N[i]?=some x:=by rfl)(hk:X.K=K:=by rfl)(hv:Vis X.env.scope x:=by first|exact Or.inl rfl|exact Or.inr (Or.inl rfl)|exact Or.inr (Or.inr rfl))
  (hd:(x==("__debug__":Str))=false:=by decide)(hcd:(x==("__classdict__":Str))=false:=by decide):Ev X K Z (.Name x pos) (eV i) :=
 ⟨hk,cqE (aMd hN hv hd hcd) λσ H Q ⟨μ,M,L,hr,lr,p⟩=>by
  unfold eV at p;cases q:L[i]? with
  |none=>rw[q]at p;exact p.elim
  |some o =>
   cases o with
   |none=>rw[q]at p;exact p.elim
   |some w =>
    rw[q]at p;obtain⟨v,q1,q2⟩:=lr.ent i w q;exact⟨v,q1,p μ H .refl hr v q2⟩⟩
def aOm{d:D}(hd:∀K μ H,Rp K μ H d v)(hk:X.K=K)(h:PE X e (tC v)):Ev X K Z e (eC d) :=
 ⟨hk,cqE h λσ H Q ⟨μ,M,L,hr,lr,p⟩=>p μ H .refl hr v (hd K μ H)⟩
def aC{i:Int}(hk:X.K=K:=by rfl):Ev X K Z (.Constant (.int i) j pos) (eC (.int i)):=aOm (λ_ _ _=>by simp[Rp]) hk aFj
def mW{i:Bool}(hk:X.K=K:=by rfl):Ev X K Z (.Constant (.bool i) j pos) (eC (.bl i)):=aOm (λ_ _ _=>by simp[Rp]) hk aRf
def aDy(hk:X.K=K:=by rfl):Ev X K Z (.Constant .none j pos) (eC .non):=aOm (λ_ _ _=>by simp[Rp]) hk aOa
noncomputable def e1(g:W->Mm->Oc W)(f:FE):FE:=λL M=>(f L M).bind g
noncomputable def e2(g:W->W->Mm->Oc W)(f1 f2:FE):FE:=λL M=>(f1 L M).bind λx M1=>(f2 L M1).bind λy M2=>g x y M2
abbrev Wk(K:Frag)(Q:VK):List Addr->Hp->Mm->W->Prop:=λμ' H' _ w=>∀v,Rw K μ' H' w v->Q v H'
def Op2(K:Frag)(Z:Zt)(r:R2)(g:W->W->Mm->Oc W):Prop :=
 ∀(μ:List Addr) (H:Hp) (M:Mm) (x y:W) (v u:V) (Q:VK),HR K μ H M->Rw K μ H x v->Rw K μ H y u->Pst K Z μ H (g x y M) (Wk K Q)->r v u H Q
def OpG(X:Cx)(K:Frag)(Z:Zt)(f:Value->Value->Sem Value)(g:W->W->Mm->Oc W):Prop:=X.K=K->∃r,OpR X f r/\Op2 K Z r g
def lift2{r:R2}{g:W->W->Mm->Oc W}(hg:Op2 K Z r g):∀σ H Q,lift K Z (e2 g fa fb) σ H Q->tOp r (lift K Z fa) (lift K Z fb) σ H Q:=by
 rintro σ H Q ⟨μ,M,L,hr,lr,p⟩;refine⟨μ,M,L,hr,lr,p.bind.imp λμ1 H1 M1 x e1 hr1 _ p1 v rx=>?_⟩;refine⟨μ1,M1,L,hr1,lr.ext hr.lsts e1,p1.bind.imp λμ2 H2 M2 y e2 hr2 _ p2 u ry=>?_⟩;exact hg μ2 H2 M2 x y v u Q hr2 (rx.ext hr1.lsts e2) ry p2
def aJ{op:Operator}{g:W->W->Mm->Oc W}(ho:OpG X K Z (binaryOp op) g)(ha:Ev X K Z a fa)(hb:Ev X K Z b fb):Ev X K Z (.BinOp a op b pos) (e2 g fa fb):=by
 obtain⟨r,h1,h2⟩:=ho ha.k;exact⟨ha.k,cqE (aQv h1 ha.h hb.h) (lift2 h2)⟩
def xE{g:W->W->Mm->Oc W}(ho:OpG X K Z (compareOp op) g)(ha:Ev X K Z a fa)(hb:Ev X K Z b fb)(hm:behindInMarks op b=false):Ev X K Z (.Compare a [op] [b] pos) (e2 g fa fb):=by
 obtain⟨r,h1,h2⟩:=ho ha.k;exact⟨ha.k,cqE (aJa h1 ha.h hb.h hm) (lift2 h2)⟩
noncomputable def tB(f:FE):FT:=λL M=>(f L M).bind λw M1=>match w with
 |.d (.bl b)=>.ok b M1|_=>.bad
def aW{g:W->W->Mm->Oc W}(ho:OpG X K Z (compareOp op) g)(ha:Ev X K Z a fa)(hb:Ev X K Z b fb)(hm:behindInMarks op b=false):Et X K Z (.Compare a [op] [b] pos) (tB (e2 g fa fb)):=by
 obtain⟨r,h1,h2⟩:=ho ha.k;refine⟨ha.k,cqT (aLb h1 ha.h hb.h hm) ?_⟩;rintro σ H Q ⟨μ,M,L,hr,lr,p⟩;refine lift2 h2 σ H _ ⟨μ,M,L,hr,lr,p.bind.imp λμ1 H1 M1 x e1 hr1 _ p1 v rx=>?_⟩;cases x with
 |d y=>cases y with
  |bl c=>exact⟨c,by simpa[Rw,Rp]using rx,p1 μ1 H1 .refl hr1⟩|_=>exact p1.elim
 |ref i=>exact p1.elim|ob _ _=>exact p1.elim|nest _=>exact p1.elim
noncomputable def tru(M:Mm):W->Option Bool
 |.d .non=>some false|.d (.bl b)=>some b|.d (.int i)=>some (i != 0)|.d (.str x)=>if x.length<=16777216 then some (x.length != 0)else none
 |.d (.tup xs)=>some (!xs.isEmpty)|.d (.lst xs)=>some (!xs.isEmpty)|.d (.fz xs)=>some (!xs.isEmpty)|.d (.exn _ _ _)=>none|.d (.adr _)=>none|.ref i=>(M[i]?).map λxs=>!xs.isEmpty
 |.ob _ _=>none|.nest _=>none
def tV(f:FE):FT:=λL M=>(f L M).bind λw M1=>match tru M1 w with
 |some b=>.ok b M1|none=>.bad
def emp{ds:List D}(r:Rps K μ H ds vs):(!ds.isEmpty)=!vs.isEmpty:=by
 have:=r.length;cases ds <;> cases vs <;> simp_all
def aQz{w:W}{b:Bool}(hr:HR K μ H M)(r:Rw K μ H w v)(h:tru M w=some b):TruV K v H b:=by
 cases w with
 |ref i =>
  obtain⟨a,q,rfl,il⟩:=r;simp only[tru,aAR]at h;obtain⟨xs,h1,rfl⟩:=h;obtain⟨a',vs,q1,q2,q3⟩:=hr.at h1 q;rw[q]at q1;cases q1;exact .inl ⟨vs,SqL.of q2,emp q3⟩
 |ob _ _=>simp[tru]at h
 |nest _=>simp[tru]at h
 |d x =>
  cases x with
  |non=>simp only[Rw,Rp]at r;subst r;simp only[tru,aAS]at h;exact h.symm
  |bl c=>simp only[Rw,Rp]at r;subst r;simp only[tru,aAS]at h;exact h.symm
  |int i=>simp only[Rw,Rp]at r;subst r;simp only[tru,aAS]at h;exact h.symm
  |str z =>
   simp only[Rw,Rp]at r;subst r;simp only[tru]at h;split at h
   ·rename_i hz
    cases h;refine⟨by rw[aBE];exact hz,?_⟩;rw[Bool.eq_iff_iff];simp
   ·cases h
  |tup xs=>simp only[Rw,Rp]at r;obtain⟨a,vs,rfl,q1,q2⟩:=r;simp only[tru,aAS]at h;subst h;exact .inr (.inl ⟨vs,SqT.of q1,emp q2⟩)
  |lst xs=>simp only[Rw,Rp]at r;obtain⟨a,vs,rfl,q1,_,q2⟩:=r;simp only[tru,aAS]at h;subst h;exact .inl ⟨vs,SqL.of q1,emp q2⟩
  |fz xs=>simp only[Rw,Rp]at r;obtain⟨a,vs,rfl,q1,q2⟩:=r;simp only[tru,aAS]at h;subst h;exact .inl ⟨vs,q1.sq,emp q2⟩
  |exn c f xs=>simp[tru]at h
  |adr a=>simp[tru]at h
def wW(ha:Ev X K Z a f)(he:∀whole,isTrue a X.env whole=(do let v <- whole;standAt a.pos;holding [v] (truthy v)):=by intro _;rfl):Et X K Z a (tV f):=by
 refine⟨ha.k,cqT (aFd ha.h he) ?_⟩;rintro σ H Q ⟨μ,M,L,hr,lr,p⟩;refine⟨μ,M,L,hr,lr,p.bind.imp λμ1 H1 M1 x e1 hr1 _ p1 v rx=>?_⟩;cases q:tru M1 x with
 |none=>rw[q]at p1;exact p1.elim
 |some k=>rw[q]at p1;exact⟨k,by rw[ha.k];exact aQz hr1 rx q,p1 μ1 H1 .refl hr1⟩
noncomputable def tNot(t:FT):FT:=λL M=>(t L M).bind λb M1=>.ok (!b) M1
noncomputable def tAnd(t u:FT):FT:=λL M=>(t L M).bind λb M1=>if b=true then u L M1 else .ok false M1
noncomputable def tOr(t u:FT):FT:=λL M=>(t L M).bind λb M1=>if b=true then .ok true M1 else u L M1
def aPv(ha:Et X K Z a ta):Et X K Z (.UnaryOp .Not a pos) (tNot ta):=by
 refine⟨ha.k,cqT (aNr ha.h) ?_⟩;rintro σ H Q ⟨μ,M,L,hr,lr,p⟩;exact⟨μ,M,L,hr,lr,p.bind.imp λμ1 H1 M1 x e1 hr1 _ p1=>p1 μ1 H1 .refl hr1⟩
variable{rest:List Expr}
def aBh(ha:Et X K Z a ta):Ew X K Z (.BoolOp .And [a] pos) ta:=⟨ha.k,aIz ha.h⟩
def mT(ha:Et X K Z a ta):Ew X K Z (.BoolOp .Or [a] pos) ta:=⟨ha.k,aPr ha.h⟩
def aGr(ha:Et X K Z a ta)(hb:Ew X K Z (.BoolOp .And (b::rest) pos) tb):Ew X K Z (.BoolOp .And (a::b::rest) pos) (tAnd ta tb):=by
 refine⟨ha.k,cqW (aOd ha.h hb.h) ?_⟩;rintro σ H Q ⟨μ,M,L,hr,lr,p⟩;refine⟨μ,M,L,hr,lr,p.bind.imp λμ1 H1 M1 x e1 hr1 _ p1=>?_⟩;cases x with
 |true=>exact⟨μ1,M1,L,hr1,lr.ext hr.lsts e1,p1⟩|false=>exact p1 μ1 H1 .refl hr1
def uO(ha:Et X K Z a ta)(hb:Ew X K Z (.BoolOp .Or (b::rest) pos) tb):Ew X K Z (.BoolOp .Or (a::b::rest) pos) (tOr ta tb):=by
 refine⟨ha.k,cqW (aQo ha.h hb.h) ?_⟩;rintro σ H Q ⟨μ,M,L,hr,lr,p⟩;refine⟨μ,M,L,hr,lr,p.bind.imp λμ1 H1 M1 x e1 hr1 _ p1=>?_⟩;cases x with
 |true=>exact p1 μ1 H1 .refl hr1|false=>exact⟨μ1,M1,L,hr1,lr.ext hr.lsts e1,p1⟩
def xS(h:Ew X K Z a ta):Et X K Z a ta:=⟨h.k,h.h.pt⟩
end
noncomputable def lv(M:Mm):W->Option (List D)
 |.d (.lst xs)=>some xs|.ref i=>M[i]?|_=>none
def lr(M:Mm):W->Option (List D)
 |.d (.fz xs)=>some xs|w=>lv M w
def sv(M:Mm):W->Option (List D)
 |.d (.tup xs)=>some xs|w=>lr M w
noncomputable def okD(d:D)(M:Mm):Oc W:=.ok (.d d) M
@[simp]theorem aRm(d:D)(M:Mm):okD d M=.ok (.d d) M:=rfl
variable{K:Frag}{e a b:Expr}{es:List Expr}{f fa fb:FE}{fs:FA}{F:Value->Value->Sem Value}
def OpR.or{r r':R2}(h:OpR X F r)(h':OpR X F r'):OpR X F (λx y H Q=>r x y H Q\/r' x y H Q):=by
 intro pins s σ H x y v u Q I rx ry q;rcases q with q|q
 ·exact h pins s σ H x y v u Q I rx ry q
 ·exact h' pins s σ H x y v u Q I rx ry q
def vT{w:W}(hr:HR K μ H M)(r:Rw K μ H w v)(h:lv M w=some ds):∃a vs,v=.ref a/\H a=some (.lst vs)/\Rps K μ H ds vs:=by
 cases w with
 |ref i =>
  obtain⟨a,q,rfl,il⟩:=r;obtain⟨a',vs,q1,q2,q3⟩:=hr.at h q;rw[q]at q1;cases q1;exact⟨a,vs,rfl,q2,q3⟩
 |ob _ _=>simp[lv]at h
 |nest _=>simp[lv]at h
 |d x =>
  cases x with
  |lst xs=>simp only[lv,aAS]at h;subst h;simp only[Rw,Rp]at r;obtain⟨a,vs,e,q1,_,q2⟩:=r;exact⟨a,vs,e,q1,q2⟩
  |_=>simp[lv]at h
def aAa{w:W}(hr:HR K μ H M)(r:Rw K μ H w v)(h:lr M w=some ds):∃a vs,v=.ref a/\SqL K H a vs/\Rps K μ H ds vs:=by
 by_cases hf:∃xs,w=.d (.fz xs)
 ·obtain⟨xs,rfl⟩:=hf
  simp only[lr,aAS]at h;subst h;simp only[Rw,Rp]at r;obtain⟨a,vs,e,q1,q2⟩:=r;exact⟨a,vs,e,q1.sq,q2⟩
 ·have:lr M w=lv M w:=by
   cases w with
   |ref i=>rfl|ob _ _=>rfl|nest _=>rfl|d x=>cases x <;> first|rfl|exact(hf ⟨_,rfl⟩).elim
  rw[this]at h;obtain⟨a,vs,e,q1,q2⟩:=vT hr r h;exact⟨a,vs,e,SqL.of q1,q2⟩
def qC{w:W}(hr:HR K μ H M)(r:Rw K μ H w v)(h:sv M w=some ds):∃a vs,v=.ref a/\(SqL K H a vs\/SqT K H a vs)/\Rps K μ H ds vs:=by
 by_cases hf:∃xs,w=.d (.tup xs)
 ·obtain⟨xs,rfl⟩:=hf
  simp only[sv,aAS]at h;subst h;simp only[Rw,Rp]at r;obtain⟨a,vs,e,q1,q2⟩:=r;exact⟨a,vs,e,.inr (SqT.of q1),q2⟩
 ·have:sv M w=lr M w:=by
   cases w with
   |ref i=>rfl|ob _ _=>rfl|nest _=>rfl|d x=>cases x <;> first|rfl|exact(hf ⟨_,rfl⟩).elim
  rw[this]at h;obtain⟨a,vs,e,q1,q2⟩:=aAa hr r h;exact⟨a,vs,e,.inl q1,q2⟩
variable{Q:VK}
def iQ(hr:HR K μ H M)(r:Rps K μ H ds vs)(p:Pst K Z μ H (okD (.tup ds) M) (Wk K Q)):∀q,H q=none->Q (.ref q) (upd H q (.tup vs)):=λq hq =>
 p μ _ (fW hr hq) (hr.lay hq) (.ref q) (by simp only[Rw,Rp];exact⟨q,vs,rfl,aS,Rps.ext hr.lsts (fW hr hq) _ _ r⟩)
def eF(hr:HR K μ H M)(r:Rps K μ H ds vs)(p:Pst K Z μ H (okD (.lst ds) M) (Wk K Q)):∀q,H q=none->Q (.ref q) (upd H q (.lst vs)):=λq hq =>
 p μ _ (fW hr hq) (hr.lay hq) (.ref q) (by simp only[Rw,Rp];exact⟨q,vs,rfl,aS,hr.out hq,Rps.ext hr.lsts (fW hr hq) _ _ r⟩)
def aIk(hr:HR K μ H M)(r:Rps K μ H ds vs)(p:Pst K Z μ H (.ok (.ref M.length) (M++[ds])) (Wk K Q)):∀q,H q=none->Q (.ref q) (upd H q (.lst vs)):=λq hq =>
 p _ _ (zB hr hq) (hr.new hq r) (.ref q) ⟨q,by rw[<- hr.len];simp,rfl,_,aS⟩
def rCatA(K:Frag):R2:=λx y H Q=>∃a b xs ys,x=.ref a/\y=.ref b/\SqT K H a xs/\SqT K H b ys/\xs.length+ys.length<=sizeLine /\
 (xs=[]->Q (.ref b) H)/\(ys=[]->Q (.ref a) H)/\(∀p,H p=none->Q (.ref p) (upd H p (.tup (xs++ys))))
def aJm:OpR X (binaryOp .Add) (rCatA X.K):=by
 intro pins s σ H x y v u Q I rx ry h;obtain⟨a,b,xs,ys,rfl,rfl,ha,hb,hz,q0,q1,q2⟩:=h;by_cases hx:xs=[]
 ·subst hx
  cases rx;cases ry;obtain⟨its,r1,p1,_⟩:=I.tuple ha;obtain⟨its2,r2,p2,_⟩:=I.tuple hb;have hv:its=[]:=r1.nil_iff.mpr rfl;subst hv;obtain⟨⟨cls,dd,data,sl⟩,ho,hc,n,hd⟩:=id p1;obtain⟨⟨cls2,dd2,data2,sl2⟩,ho2,hc2,n2,hd2⟩:=id p2;simp only at hc hd hc2 hd2;subst hc hd hc2 hd2;exact concat_meets ⟨_,ho,rfl⟩ ⟨_,ho2,rfl⟩ noFill_tuple_add seq_tuple_add aIA aHR (aHH _ _)
   (tuple_addW0 a b _ its2.toArray n n2 dd dd2 sl sl2 (by simp)) ⟨ho,ho2,⟨.ref b,H,I,rfl,q0 rfl⟩⟩
 ·exact aJq pins s σ H _ _ v u Q I rx ry ⟨a,b,xs,ys,rfl,rfl,ha,hb,hx,hz,q1,λ_=>q2⟩
def pAdd(x y:W)(M:Mm):Oc W:=match x,y with
 |.d (.int i),.d (.int j)=>.ok (.d (.int (i+j))) M|.d (.tup xs),.d (.tup ys)=>if xs.length+ys.length<=16777216 then .ok (.d (.tup (xs++ys))) M else .bad
 |.d (.str i),.d (.str j)=>if i.length+j.length<=16777216 then .ok (.d (.str (i++j))) M else .bad
 |x,y=>match lv M x,lv M y with
  |some xs,some ys=>if xs.length+ys.length<=16777216 then .ok (.d (.lst (xs++ys))) M else .bad
  |_,_=>.bad
variable{u:V}
def wU{x y:W}(hr:HR K μ H M)(rx:Rw K μ H x v)(ry:Rw K μ H y u)(p:Pst K Z μ H (match lv M x,lv M y with
  |some xs,some ys=>if xs.length+ys.length<=16777216 then .ok (.d (.lst (xs++ys))) M else .bad
  |_,_=>.bad) (Wk K Q)):rCat v u H Q:=by
 cases q1:lv M x with
 |none=>rw[q1]at p;exact p.elim
 |some xs =>
  cases q2:lv M y with
  |none=>rw[q1,q2]at p;exact p.elim
  |some ys =>
   rw[q1,q2]at p;simp only at p;split at p
   ·rename_i hz
    obtain⟨a,vs,rfl,h1,r1⟩:=vT hr rx q1;obtain⟨b,us,rfl,h2,r2⟩:=vT hr ry q2;exact⟨a,b,vs,us,rfl,rfl,h1,h2,by rw[<- r1.length,<- r2.length,aBE];exact hz,eF hr (r1.append r2) p⟩
   ·exact p.elim
def opAdd:OpG X K Z (binaryOp .Add) pAdd:=λhk=>by
 refine⟨_,OpR.or (OpR.or aMr (hk▸aJm)) (OpR.or aPw yW),?_⟩;intro μ H M x y v u Q hr rx ry p;have gen:=λp=>wU (Q:=Q) (K:=K) (Z:=Z) hr rx ry p
 cases x with
 |ref i=>exact .inr (.inl (gen p))|ob _ _=>exact .inr (.inl (gen p))|nest _=>exact .inr (.inl (gen p))|d x =>
  cases y with
  |ref j=>exact .inr (.inl (gen (by cases x <;> exact p)))
  |ob _ _=>exact .inr (.inl (gen (by cases x <;> exact p)))
  |nest _=>exact .inr (.inl (gen (by cases x <;> exact p)))
  |d y =>
   cases x <;> cases y <;> first
    |exact .inr (.inl (gen p))
    |skip
   ·simp only[Rw,Rp]at rx ry;exact .inl (.inl ⟨_,_,rx,ry,p μ H .refl hr _ (by simp[Rw,Rp])⟩)
   ·simp only[Rw,Rp]at rx ry
    simp only[pAdd]at p;split at p
    ·rename_i hz
     exact .inr (.inr ⟨_,_,rx,ry,by rw[aBE];exact hz,p μ H .refl hr _ (by simp[Rw,Rp])⟩)
    ·exact p.elim
   ·rename_i xs ys
    have rx':=rx;have ry':=ry;simp only[Rw,Rp]at rx ry;obtain⟨a,vs,rfl,h1,r1⟩:=rx;obtain⟨b,us,rfl,h2,r2⟩:=ry;simp only[pAdd]at p;split at p
    ·rename_i hz
     refine .inl (.inr ⟨a,b,vs,us,rfl,rfl,SqT.of h1,SqT.of h2,by rw[<- r1.length,<- r2.length,aBE];exact hz,λe=>?_,λe=>?_,iQ hr (r1.append r2) p⟩)
     ·subst e
      have:xs=[]:=by have:=r1.length;simpa using this
      subst this;exact p μ H .refl hr _ (by simpa using ry')
     ·subst e
      have:ys=[]:=by have:=r2.length;simpa using this
      subst this;exact p μ H .refl hr _ (by simpa using rx')
    ·exact p.elim
def pI(c:Int->Int->Bool)(g:Int->Int->D)(x y:W)(M:Mm):Oc W:=match x,y with
 |.d (.int i),.d (.int j)=>if c i j=true then .ok (.d (g i j)) M else .bad
 |_,_=>.bad
variable{gv:Int->Int->V}
def opI{C:Int->Int->Prop}{c:Int->Int->Bool}{g:Int->Int->D}(h:OpR X F (rI C gv))(hc:∀i j,c i j=true->C i j)(hg:∀K μ H i j,Rp K μ H (g i j) (gv i j)) :
  OpG X K Z F (pI c g):=λhk=>⟨_,h,by
 intro μ H M x y v u Q hr rx ry p;cases x with
 |ref i=>exact p.elim|ob _ _=>exact p.elim|nest _=>exact p.elim|d x=>cases y with
  |ref j=>cases x <;> exact p.elim
  |ob _ _=>cases x <;> exact p.elim
  |nest _=>cases x <;> exact p.elim
  |d y=>cases x <;> cases y <;> first
   |exact p.elim
   |(simp only[Rw,Rp]at rx ry
     simp only[pI]at p;split at p
     ·rename_i hz;exact⟨_,_,rx,ry,hc _ _ hz,p μ H .refl hr _ (hg K μ H _ _)⟩
     ·exact p.elim)⟩
def opI0{g:Int->Int->D}(h:OpR X F (rI0 gv))(hg:∀K μ H i j,Rp K μ H (g i j) (gv i j)):OpG X K Z F (pI (λ_ _=>true) g):=λhk=>⟨_,h,by
 intro μ H M x y v u Q hr rx ry p;cases x with
 |ref i=>exact p.elim|ob _ _=>exact p.elim|nest _=>exact p.elim|d x=>cases y with
  |ref j=>cases x <;> exact p.elim
  |ob _ _=>cases x <;> exact p.elim
  |nest _=>cases x <;> exact p.elim
  |d y=>cases x <;> cases y <;> first
   |exact p.elim
   |(simp only[Rw,Rp]at rx ry
     exact⟨_,_,rx,ry,p μ H .refl hr _ (hg K μ H _ _)⟩)⟩
abbrev pSub:=pI (λ_ _=>true) λi j=>.int (i - j)
abbrev pLt:=pI (λ_ _=>true) λi j=>.bl (decide (i < j))
abbrev pGt:=pI (λ_ _=>true) λi j=>.bl (decide (j < i))
abbrev pGe:=pI (λ_ _=>true) λi j=>.bl (decide (j<=i))
abbrev pMod:=pI (λ_ j=>decide (0 < j)) λi j=>.int (i % j)
abbrev pDiv:=pI (λ_ j=>decide (0 < j/\j < 18446744073709551616)) λi j=>.int (i / j)
abbrev pPow:=pI (λi j=>decide (0<=j/\j<=1000000/\i.natAbs < 18446744073709551616)) λi j=>.int (i ^ j.toNat)
def opSub:OpG X K Z (binaryOp .Sub) pSub:=opI0 aLz λ_ _ _ _ _=>by simp[Rp]
def opLt:OpG X K Z (compareOp .Lt) pLt:=opI0 aQd λ_ _ _ _ _=>by simp[Rp]
def opGt:OpG X K Z (compareOp .Gt) pGt:=opI0 aRe λ_ _ _ _ _=>by simp[Rp]
def opGe:OpG X K Z (compareOp .GtE) pGe:=opI0 aQf λ_ _ _ _ _=>by simp[Rp]
def opMod:OpG X K Z (binaryOp .Mod) pMod:=opI aPn (λ_ _ h=>aFK h) λ_ _ _ _ _=>by simp[Rp]
def opDiv:OpG X K Z (binaryOp .FloorDiv) pDiv:=opI aFy (λ_ _ h=>by simp only[aBO]at h;exact h) λ_ _ _ _ _=>by simp[Rp]
def opPow:OpG X K Z (binaryOp .Pow) pPow:=opI aOr (λ_ _ h=>by simp only[aBO]at h;exact h) λ_ _ _ _ _=>by simp[Rp]
variable{K:Frag}
mutual
def eqD:D->D->Bool
 |.non,.non=>true|.bl a,.bl b=>a==b|.bl a,.int b=>(if a then 1 else 0)==b
 |.int a,.bl b=>a==(if b then 1 else 0)
 |.int a,.int b=>a==b|.str a,.str b=>a==b|.tup xs,.tup ys=>eqDs xs ys|.lst xs,.lst ys=>eqDs xs ys|.lst xs,.fz ys=>eqDs xs ys|.fz xs,.lst ys=>eqDs xs ys|.fz xs,.fz ys=>eqDs xs ys|.exn c f xs,.exn c' f' ys=>c==c'&&f==f'&&eqDs xs ys|.adr a,.adr b=>a==b|_,_=>false
def eqDs:List D->List D->Bool
 |[],[]=>true|x::xs,y::ys=>eqD x y&&eqDs xs ys|_,_=>false
end
mutual
def dep:D->Nat
 |.tup xs=>deps xs+1|.lst xs=>deps xs+1|.fz xs=>deps xs+1|.exn _ _ _=>1000|.adr _=>1000|_=>0
def deps:List D->Nat
 |[]=>0|x::xs=>max (dep x) (deps xs)
end
def vK:∀{xs:List D} {i:Nat} {x:D},xs[i]?=some x->dep x<=deps xs
 |[],_,_,h=>by simp at h
 |y::xs,0,x,h=>by simp at h;subst h;simp only[deps];lia
 |y::xs,i+1,x,h=>by
  have:=vK (xs:=xs) (i:=i) (x:=x) (by simpa using h);simp only[deps];lia
def iJ:∀(xs ys:List D),eqDs xs ys=((List.range (min xs.length ys.length)).all (λi=>eqD (xs.getD i .non) (ys.getD i .non))&&xs.length==ys.length)
 |[],[]=>rfl|[],y::ys=>by simp[eqDs]|x::xs,[]=>by simp[eqDs]|x::xs,y::ys=>by
  simp only[eqDs];rw[iJ xs ys];have:min (x::xs).length (y::ys).length=min xs.length ys.length+1:=by simp
  rw[this,List.range_succ_eq_map,List.all_cons];simp only[aEH,List.all_map,Bool.and_assoc,aBV];congr 1;congr 1;rw[Bool.eq_iff_iff];simp
variable{σ:L2.St}
def aBd(r:Rps K μ H ds vs)(rv:Vals vs its)(h:i < its.toArray.size):∃d v,ds[i]?=some d/\Rp K μ H d v/\RelV v its.toArray[i]:=by
 have h1:i < its.length:=by simpa using h
 have h2:i < vs.length:=by rw[rv.length];exact h1
 have h3:i < ds.length:=by rw[r.length];exact h2
 obtain⟨v,q1,q2⟩:=r.get (i:=i) (d:=ds[i]) (by simp[h3]);obtain⟨u,q3,q4⟩:=rv.get q1;refine⟨ds[i],v,by simp[h3],q2,?_⟩;rw[aAP h1]at q3;cases q3;simpa using q4
def zE{ds:List D}{d:D}(h:ds[i]?=some d):ds.getD i .non=d:=by rw[aFI,h];rfl
abbrev Eqs(K:Frag)(μ:List Addr)(H:Hp)(s:Shared)(A:Around)(xs:List D):Prop :=
 ∀(j:Nat) (d:D),xs[j]?=some d->∀(d2:D) (v1 v2:V) (u1 u2:Value),dep d2<=100->Rp K μ H d v1->Rp K μ H d2 v2->RelV v1 u1->RelV v2 u2->SeqAt.EqAt A s u1 u2 (eqD d d2)
variable{us:List V}
def iN{xs ys:List D}{its its2:List Value}(r1:Rps K μ H xs vs)(r2:Rps K μ H ys us)(q1:Vals vs its)(q2:Vals us its2)(n2:deps ys<=100)(ih:Eqs K μ H s A xs) :
  ∀j (h1:j < its.toArray.size) (h2:j < its2.toArray.size),SeqAt.EqAt A s its.toArray[j] its2.toArray[j] ((λi=>eqD (xs.getD i .non) (ys.getD i .non)) j):=by
 intro j h1 h2;obtain⟨d,v,e1,e2,e3⟩:=aBd r1 q1 h1;obtain⟨d',v',e1',e2',e3'⟩:=aBd r2 q2 h2;simp only[zE e1,zE e1'];exact ih j d e1 d' v v' _ _ (aBS (vK e1') n2) e2 e2' e3 e3'
def jG{xs ys:List D}(r1:Rps K μ H xs vs)(r2:Rps K μ H ys us)(q1:Vals vs its)(q2:Vals us its2):its.toArray.size=xs.length/\its2.toArray.size=ys.length:=by
 simp[r1.length,r2.length,q1.length,q2.length]
def aPt{xs ys:List D}{a b:Addr}(I:Inv X pins σ H s)(h1:SqT X.K H a vs)(h2:SqT X.K H b us)(r1:Rps K μ H xs vs)(r2:Rps K μ H ys us)(hu:A.units < cLine)(n2:deps ys<=100)(ih:Eqs K μ H s A.in1 xs) :
  SeqAt.RcAt A s (.ref a) (.ref b) (eqDs xs ys):=by
 obtain⟨its,q1,p1,_⟩:=I.tuple h1;obtain⟨its2,q2,p2,_⟩:=I.tuple h2;have:=SeqAt.RcAt.tuples p1 p2 hu (iN r1 r2 q1 q2 n2 ih);obtain⟨e1,e2⟩:=jG r1 r2 q1 q2;rw[e1,e2]at this;rw[iJ];exact this
def aHi{xs ys:List D}{a b:Addr}(I:Inv X pins σ H s)(h1:SqT X.K H a vs)(h2:SqT X.K H b us)(r1:Rps K μ H xs vs)(r2:Rps K μ H ys us)(hu:A.units < cLine)(n2:deps ys<=100)(ih:Eqs K μ H s A.in1 xs) :
  SeqAt.RcNeAt A s (.ref a) (.ref b) (!eqDs xs ys):=by
 obtain⟨its,q1,p1,_⟩:=I.tuple h1;obtain⟨its2,q2,p2,_⟩:=I.tuple h2;have:=SeqAt.RcNeAt.tuples p1 p2 hu (iN r1 r2 q1 q2 n2 ih);obtain⟨e1,e2⟩:=jG r1 r2 q1 q2;rw[e1,e2]at this;rw[iJ];exact this
def tY{xs ys:List D}(h:xs.length≠ys.length):eqDs xs ys=false:=by
 rw[iJ];have:(xs.length==ys.length)=false:=by simpa using h
 rw[this,Bool.and_false]
def rE{xs ys:List D}(h:xs.length=ys.length):eqDs xs ys=(List.range xs.length).all (λi=>eqD (xs.getD i .non) (ys.getD i .non)):=by
 rw[iJ,<- h];simp
def sU{xs ys:List D}{a b:Addr}(I:Inv X pins σ H s)(h1:SqL X.K H a vs)(h2:SqL X.K H b us)(r1:Rps K μ H xs vs)(r2:Rps K μ H ys us)(hu:A.units < cLine)(n2:deps ys<=100)(ih:Eqs K μ H s A.in1 xs) :
  SeqAt.RcAt A s (.ref a) (.ref b) (eqDs xs ys):=by
 obtain⟨its,q1,p1,_⟩:=I.list h1;obtain⟨its2,q2,p2,_⟩:=I.list h2;obtain⟨e1,e2⟩:=jG r1 r2 q1 q2;by_cases hl:xs.length=ys.length
 ·have:=SeqAt.RcAt.lists p1.isList p2.isList (by rw[e1,e2,hl]) hu (iN r1 r2 q1 q2 n2 ih)
  rw[e1]at this;rw[rE hl];exact this
 ·rw[tY hl]
  exact SeqAt.RcAt.lists_lengths p1.isList p2.isList (by rw[e1,e2];simpa using hl) hu
def iO{xs ys:List D}{a b:Addr}(I:Inv X pins σ H s)(h1:SqL X.K H a vs)(h2:SqL X.K H b us)(r1:Rps K μ H xs vs)(r2:Rps K μ H ys us)(hu:A.units < cLine)(n2:deps ys<=100)(ih:Eqs K μ H s A.in1 xs) :
  SeqAt.RcNeAt A s (.ref a) (.ref b) (!eqDs xs ys):=by
 obtain⟨its,q1,p1,_⟩:=I.list h1;obtain⟨its2,q2,p2,_⟩:=I.list h2;obtain⟨e1,e2⟩:=jG r1 r2 q1 q2;by_cases hl:xs.length=ys.length
 ·have:=SeqAt.RcNeAt.lists p1.isList p2.isList (by rw[e1,e2,hl]) hu (iN r1 r2 q1 q2 n2 ih)
  rw[e1]at this;rw[rE hl];exact this
 ·rw[tY hl]
  exact SeqAt.RcNeAt.lists_lengths p1.isList p2.isList (by rw[e1,e2];simpa using hl) hu
def fv:D->Option V
 |.non=>some .non|.bl b=>some (.bl b)|.int i=>some (.int i)|.str x=>some (.str x)|_=>none
def aGt{d:D}(h:fv d=some u)(r:Rp K μ H d v):v=u/\flatV u=true:=by
 cases d <;> simp only[fv,aAS,reduceCtorEq]at h <;> (simp only[Rp]at r;subst h;exact⟨r,rfl⟩)
variable{w:V}
def aLu{d e:D}(h:fv d=some u)(h':fv e=some w):eqV u w=eqD d e:=by
 cases d <;> simp only[fv,aAS,reduceCtorEq]at h <;> (cases e <;> simp only[fv,aAS,reduceCtorEq]at h' <;> (subst h;subst h';simp[eqV,eqD]))
def aQw{d:D}(r:Rp K μ H d v)(h:flatV v=true):fv d=some v:=by
 cases d with
 |non=>simp only[Rp]at r;subst r;rfl
 |bl b=>simp only[Rp]at r;subst r;rfl
 |int b=>simp only[Rp]at r;subst r;rfl
 |str b=>simp only[Rp]at r;subst r;rfl
 |tup b=>simp only[Rp]at r;obtain⟨a,vs,rfl,_⟩:=r;cases h
 |lst b=>simp only[Rp]at r;obtain⟨a,vs,rfl,_⟩:=r;cases h
 |fz b=>simp only[Rp]at r;obtain⟨a,vs,rfl,_⟩:=r;cases h
 |exn c f b=>simp only[Rp]at r;obtain⟨a,vs,_,_,_,rfl,_⟩:=r;cases h
 |adr b=>simp only[Rp]at r;subst r;cases h
def aGw(h:flatV v=true):eqV v v=true:=by cases v <;> first|(cases h;done)|rfl|(simp[eqV];done)
def iM{d d':D}(hf:fv d=some u)(h:Rp K μ H d v)(h':Rp K μ H d' v):eqD d d'=true:=by
 obtain⟨rfl,fl⟩:=aGt hf h;rw[<- aLu hf (aQw h' fl)];exact aGw fl
inductive At(K:Frag)(μ:List Addr)(H:Hp):D->Addr->List D->Bool->Prop where
 |tup {a vs ds:_}:SqT K H a vs->Rps K μ H ds vs->At K μ H (.tup ds) a ds true
 |lst {a vs ds:_}:SqL K H a vs->Rps K μ H ds vs->At K μ H (.lst ds) a ds false
 |fz {a vs ds:_}:SqL K H a vs->Rps K μ H ds vs->At K μ H (.fz ds) a ds false
def lV{a:Addr}(I:Inv X pins σ H s)(h1:SqT X.K H a vs)(h2:SqL X.K H a us):False:=by
 obtain⟨its,q1,p1,_⟩:=I.tuple h1;obtain⟨its2,q2,p2,_⟩:=I.list h2;exact SeqAt.ne_of_list_tuple p2.isList p1 rfl
mutual
def aGp(I:Inv X pins σ H s)(hk:X.K=K):∀(d d':D) (v:V),dep d<=100->dep d'<=100->Rp K μ H d v->Rp K μ H d' v->eqD d d'=true
 |.non,d',v,n,n',h,h'=>iM rfl h h'|.bl x,d',v,n,n',h,h'=>iM rfl h h'|.int x,d',v,n,n',h,h'=>iM rfl h h'|.str x,d',v,n,n',h,h'=>iM rfl h h'|.tup xs,d',v,n,n',h,h'=>by
  simp only[Rp]at h;obtain⟨a,vs,rfl,h1,r1⟩:=h;cases d' with
  |tup ys =>
   simp only[Rp]at h';obtain⟨b,us,e,h2,r2⟩:=h';cases e;cases I.tuple_inj (SqT.of (K:=X.K) h1) (SqT.of h2);simp only[eqD];exact gE I hk xs ys vs (by simp only[dep]at n;lia) (by simp only[dep]at n';lia) r1 r2
  |lst ys=>simp only[Rp]at h';obtain⟨b,us,e,h2,_,r2⟩:=h';cases e;exact(lV I (SqT.of h1) (SqL.of h2)).elim
  |fz ys=>simp only[Rp]at h';obtain⟨b,us,e,h2,r2⟩:=h';cases e;exact(lV I (SqT.of h1) (hk▸h2.sq)).elim
  |exn c f ys=>simp[dep]at n'
  |adr b=>simp[dep]at n'
  |_=>simp only[Rp]at h';cases h'
 |.lst xs,d',v,n,n',h,h'=>by
  simp only[Rp]at h;obtain⟨a,vs,rfl,h1,_,r1⟩:=h;cases d' with
  |tup ys=>simp only[Rp]at h';obtain⟨b,us,e,h2,r2⟩:=h';cases e;exact(lV I (SqT.of h2) (SqL.of h1)).elim
  |lst ys =>
   simp only[Rp]at h';obtain⟨b,us,e,h2,_,r2⟩:=h';cases e;cases I.list_inj (SqL.of h1) (SqL.of h2);simp only[eqD];exact gE I hk xs ys vs (by simp only[dep]at n;lia) (by simp only[dep]at n';lia) r1 r2
  |fz ys =>
   simp only[Rp]at h';obtain⟨b,us,e,h2,r2⟩:=h';cases e;cases I.list_inj (SqL.of h1) (hk▸h2.sq);simp only[eqD];exact gE I hk xs ys vs (by simp only[dep]at n;lia) (by simp only[dep]at n';lia) r1 r2
  |exn c f ys=>simp[dep]at n'
  |adr b=>simp[dep]at n'
  |_=>simp only[Rp]at h';cases h'
 |.fz xs,d',v,n,n',h,h'=>by
  simp only[Rp]at h;obtain⟨a,vs,rfl,h1,r1⟩:=h;cases d' with
  |tup ys=>simp only[Rp]at h';obtain⟨b,us,e,h2,r2⟩:=h';cases e;exact(lV I (SqT.of h2) (hk▸h1.sq)).elim
  |lst ys =>
   simp only[Rp]at h';obtain⟨b,us,e,h2,_,r2⟩:=h';cases e;cases I.list_inj (hk▸h1.sq) (SqL.of h2);simp only[eqD];exact gE I hk xs ys vs (by simp only[dep]at n;lia) (by simp only[dep]at n';lia) r1 r2
  |fz ys =>
   simp only[Rp]at h';obtain⟨b,us,e,h2,r2⟩:=h';cases e;cases I.list_inj (hk▸h1.sq) (hk▸h2.sq);simp only[eqD];exact gE I hk xs ys vs (by simp only[dep]at n;lia) (by simp only[dep]at n';lia) r1 r2
  |exn c f ys=>simp[dep]at n'
  |adr b=>simp[dep]at n'
  |_=>simp only[Rp]at h';cases h'
 |.exn c f xs,d',v,n,n',h,h'=>by simp[dep]at n
 |.adr a,d',v,n,n',h,h'=>by simp[dep]at n
def gE(I:Inv X pins σ H s)(hk:X.K=K):∀(xs ys:List D) (vs:List V),deps xs<=100->deps ys<=100->Rps K μ H xs vs->Rps K μ H ys vs->eqDs xs ys=true
 |[],ys,vs,n,n',h,h'=>by simp only[Rps]at h;subst h;cases ys with|nil=>rfl|cons y ys=>simp only[Rps]at h';obtain⟨_,_,e,_⟩:=h';cases e
 |x::xs,ys,vs,n,n',h,h'=>by
  simp only[Rps]at h;obtain⟨v,r,rfl,e2,e3⟩:=h;cases ys with
  |nil=>simp only[Rps]at h';cases h'
  |cons y ys =>
   simp only[Rps]at h';obtain⟨v',r',e,e2',e3'⟩:=h';cases e;simp only[deps]at n n';simp only[eqDs,aGp I hk x y v (by lia) (by lia) e2 e2',gE I hk xs ys r (by lia) (by lia) e3 e3',Bool.and_self]
end
def iW{d:D}(h:fv d=none)(n:dep d<=100)(r:Rp K μ H d v):∃a ds k,v=.ref a/\At K μ H d a ds k:=by
 cases d with
 |tup xs=>simp only[Rp]at r;obtain⟨a,vs,e,q1,q2⟩:=r;exact⟨a,xs,true,e,.tup (SqT.of q1) q2⟩
 |lst xs=>simp only[Rp]at r;obtain⟨a,vs,e,q1,_,q2⟩:=r;exact⟨a,xs,false,e,.lst (SqL.of q1) q2⟩
 |fz xs=>simp only[Rp]at r;obtain⟨a,vs,e,q1,q2⟩:=r;exact⟨a,xs,false,e,.fz q1.sq q2⟩
 |adr b=>simp[dep]at n
 |exn c f xs=>simp[dep]at n
 |_=>simp[fv]at h
variable{v1 v2 w2:V}{u1:Value}
def aKx{d d2:D}(n1:fv d=some w)(n2:fv d2=some w2)(h1:Rp K μ H d v1)(h2:Rp K μ H d2 v2)(q1:RelV v1 u1)(q2:RelV v2 u2) :
  (SeqAt.RcAt A s u1 u2 (eqD d d2)/\SeqAt.RcNeAt A s u1 u2 (!eqD d d2)):=by
 cases d with
 |non =>
  simp only[Rp]at h1;subst h1;cases q1;cases d2 with
  |non=>simp only[Rp]at h2;subst h2;cases q2;simp only[eqD];exact⟨SeqAt.RcAt.none_none,SeqAt.RcNeAt.none_none⟩
  |bl y=>simp only[Rp]at h2;subst h2;cases q2;simp only[eqD];exact⟨SeqAt.RcAt.none_bool y,SeqAt.RcNeAt.none_bool y⟩
  |int y=>simp only[Rp]at h2;subst h2;obtain⟨t2,rfl⟩:=q2;simp only[eqD];exact⟨SeqAt.RcAt.none_int y t2,SeqAt.RcNeAt.none_int y t2⟩
  |str y=>simp only[Rp]at h2;subst h2;obtain⟨t2,rfl⟩:=q2;simp only[eqD];exact⟨SeqAt.RcAt.none_str y t2,SeqAt.RcNeAt.none_str y t2⟩
  |_=>simp[fv]at n2
 |bl x =>
  simp only[Rp]at h1;subst h1;cases q1;cases d2 with
  |non=>simp only[Rp]at h2;subst h2;cases q2;simp only[eqD];exact⟨SeqAt.RcAt.bool_none x,SeqAt.RcNeAt.bool_none x⟩
  |bl y=>simp only[Rp]at h2;subst h2;cases q2;simp only[eqD];exact⟨SeqAt.RcAt.bool_bool x y,SeqAt.RcNeAt.bool_bool x y⟩
  |int y=>simp only[Rp]at h2;subst h2;obtain⟨t2,rfl⟩:=q2;simp only[eqD];exact⟨SeqAt.RcAt.bool_int x y t2,SeqAt.RcNeAt.bool_int x y t2⟩
  |str y=>simp only[Rp]at h2;subst h2;obtain⟨t2,rfl⟩:=q2;simp only[eqD];exact⟨SeqAt.RcAt.bool_str x y t2,SeqAt.RcNeAt.bool_str x y t2⟩
  |_=>simp[fv]at n2
 |int x =>
  simp only[Rp]at h1;subst h1;obtain⟨t,rfl⟩:=q1;cases d2 with
  |non=>simp only[Rp]at h2;subst h2;cases q2;simp only[eqD];exact⟨SeqAt.RcAt.int_none x t,SeqAt.RcNeAt.int_none x t⟩
  |bl y=>simp only[Rp]at h2;subst h2;cases q2;simp only[eqD];exact⟨SeqAt.RcAt.int_bool x t y,SeqAt.RcNeAt.int_bool x t y⟩
  |int y=>simp only[Rp]at h2;subst h2;obtain⟨t2,rfl⟩:=q2;simp only[eqD];exact⟨SeqAt.RcAt.int_int x t y t2,SeqAt.RcNeAt.int_int x t y t2⟩
  |str y=>simp only[Rp]at h2;subst h2;obtain⟨t2,rfl⟩:=q2;simp only[eqD];exact⟨SeqAt.RcAt.int_str x t y t2,SeqAt.RcNeAt.int_str x t y t2⟩
  |_=>simp[fv]at n2
 |str x =>
  simp only[Rp]at h1;subst h1;obtain⟨t,rfl⟩:=q1;cases d2 with
  |non=>simp only[Rp]at h2;subst h2;cases q2;simp only[eqD];exact⟨SeqAt.RcAt.str_none x t,SeqAt.RcNeAt.str_none x t⟩
  |bl y=>simp only[Rp]at h2;subst h2;cases q2;simp only[eqD];exact⟨SeqAt.RcAt.str_bool x t y,SeqAt.RcNeAt.str_bool x t y⟩
  |int y=>simp only[Rp]at h2;subst h2;obtain⟨t2,rfl⟩:=q2;simp only[eqD];exact⟨SeqAt.RcAt.str_int x t y t2,SeqAt.RcNeAt.str_int x t y t2⟩
  |str y=>simp only[Rp]at h2;subst h2;obtain⟨t2,rfl⟩:=q2;simp only[eqD];exact⟨SeqAt.RcAt.str_str x t y t2,SeqAt.RcNeAt.str_str x t y t2⟩
  |_=>simp[fv]at n2
 |_=>simp[fv]at n1
variable{its:Array Value}
def yD{a:Addr}(pl:s.heap.IsTuple a its)(hu:A.units < cLine)(n2:fv d2=some w2)(h2:Rp K μ H d2 v2)(q2:RelV v2 u2) :
  SeqAt.EqAt A s (.ref a) u2 false/\SeqAt.EqAt A s u2 (.ref a) false/\SeqAt.RcAt A s (.ref a) u2 false/\SeqAt.RcNeAt A s (.ref a) u2 true/\SeqAt.RcAt A s u2 (.ref a) false/\SeqAt.RcNeAt A s u2 (.ref a) true:=by
 cases d2 with
 |non=>simp only[Rp]at h2;subst h2;cases q2;exact⟨SeqAt.EqAt.tuple_none pl hu,SeqAt.EqAt.none_tuple pl hu,SeqAt.RcAt.tuple_none pl hu,SeqAt.RcNeAt.tuple_none pl hu,SeqAt.RcAt.none_tuple pl hu,SeqAt.RcNeAt.none_tuple pl hu⟩
 |bl y=>simp only[Rp]at h2;subst h2;cases q2;exact⟨SeqAt.EqAt.tuple_bool y pl hu,SeqAt.EqAt.bool_tuple y pl hu,SeqAt.RcAt.tuple_bool y pl hu,SeqAt.RcNeAt.tuple_bool y pl hu,SeqAt.RcAt.bool_tuple y pl hu,SeqAt.RcNeAt.bool_tuple y pl hu⟩
 |int y=>simp only[Rp]at h2;subst h2;obtain⟨t2,rfl⟩:=q2;exact⟨SeqAt.EqAt.tuple_int y t2 pl hu,SeqAt.EqAt.int_tuple y t2 pl hu,SeqAt.RcAt.tuple_int y t2 pl hu,SeqAt.RcNeAt.tuple_int y t2 pl hu,SeqAt.RcAt.int_tuple y t2 pl hu,SeqAt.RcNeAt.int_tuple y t2 pl hu⟩
 |str y=>simp only[Rp]at h2;subst h2;obtain⟨t2,rfl⟩:=q2;exact⟨SeqAt.EqAt.tuple_str y t2 pl hu,SeqAt.EqAt.str_tuple y t2 pl hu,SeqAt.RcAt.tuple_str y t2 pl hu,SeqAt.RcNeAt.tuple_str y t2 pl hu,SeqAt.RcAt.str_tuple y t2 pl hu,SeqAt.RcNeAt.str_tuple y t2 pl hu⟩
 |_=>simp[fv]at n2
def qF{a:Addr}(pl:s.heap.IsList a its)(hu:A.units < cLine)(n2:fv d2=some w2)(h2:Rp K μ H d2 v2)(q2:RelV v2 u2) :
  SeqAt.EqAt A s (.ref a) u2 false/\SeqAt.EqAt A s u2 (.ref a) false/\SeqAt.RcAt A s (.ref a) u2 false/\SeqAt.RcNeAt A s (.ref a) u2 true/\SeqAt.RcAt A s u2 (.ref a) false/\SeqAt.RcNeAt A s u2 (.ref a) true:=by
 cases d2 with
 |non=>simp only[Rp]at h2;subst h2;cases q2;exact⟨SeqAt.EqAt.list_none pl hu,SeqAt.EqAt.none_list pl hu,SeqAt.RcAt.list_none pl hu,SeqAt.RcNeAt.list_none pl hu,SeqAt.RcAt.none_list pl hu,SeqAt.RcNeAt.none_list pl hu⟩
 |bl y=>simp only[Rp]at h2;subst h2;cases q2;exact⟨SeqAt.EqAt.list_bool y pl hu,SeqAt.EqAt.bool_list y pl hu,SeqAt.RcAt.list_bool y pl hu,SeqAt.RcNeAt.list_bool y pl hu,SeqAt.RcAt.bool_list y pl hu,SeqAt.RcNeAt.bool_list y pl hu⟩
 |int y=>simp only[Rp]at h2;subst h2;obtain⟨t2,rfl⟩:=q2;exact⟨SeqAt.EqAt.list_int y t2 pl hu,SeqAt.EqAt.int_list y t2 pl hu,SeqAt.RcAt.list_int y t2 pl hu,SeqAt.RcNeAt.list_int y t2 pl hu,SeqAt.RcAt.int_list y t2 pl hu,SeqAt.RcNeAt.int_list y t2 pl hu⟩
 |str y=>simp only[Rp]at h2;subst h2;obtain⟨t2,rfl⟩:=q2;exact⟨SeqAt.EqAt.list_str y t2 pl hu,SeqAt.EqAt.str_list y t2 pl hu,SeqAt.RcAt.list_str y t2 pl hu,SeqAt.RcNeAt.list_str y t2 pl hu,SeqAt.RcAt.str_list y t2 pl hu,SeqAt.RcNeAt.str_list y t2 pl hu⟩
 |_=>simp[fv]at n2
variable{k:Bool}
def lS{d d2:D}{a:Addr}{xs:List D}(I:Inv X pins σ H s)(hk:X.K=K)(hu:A.units < cLine)(h1:At K μ H d a xs k)(n2:fv d2=some w2)(h2:Rp K μ H d2 v2)(q2:RelV v2 u2) :
  SeqAt.EqAt A s (.ref a) u2 false/\SeqAt.EqAt A s u2 (.ref a) false/\SeqAt.RcAt A s (.ref a) u2 false/\SeqAt.RcNeAt A s (.ref a) u2 true/\SeqAt.RcAt A s u2 (.ref a) false/\SeqAt.RcNeAt A s u2 (.ref a) true:=by
 cases h1 with
 |tup h r=>obtain⟨its,r',pl,_⟩:=I.tuple (hk▸h);exact yD pl hu n2 h2 q2
 |lst h r=>obtain⟨its,r',pl,_⟩:=I.list (hk▸h);exact qF pl.isList hu n2 h2 q2
 |fz h r=>obtain⟨its,r',pl,_⟩:=I.list (hk▸h);exact qF pl.isList hu n2 h2 q2
def eS{d d2:D}(n1:fv d=none)(n2:fv d2=some w):eqD d d2=false/\eqD d2 d=false:=by
 cases d <;> simp only[fv,reduceCtorEq]at n1 <;> (cases d2 <;> simp only[fv,reduceCtorEq]at n2 <;> exact⟨rfl,rfl⟩)
def aLl{d d2:D}{a b:Addr}{xs ys:List D}(I:Inv X pins σ H s)(hk:X.K=K)(hu:A.units < cLine)(h1:At K μ H d a xs k)(h2:At K μ H d2 b ys k2)(n2:dep d2<=100)(ih:Eqs K μ H s A.in1 xs) :
  SeqAt.RcAt A s (.ref a) (.ref b) (eqD d d2)/\SeqAt.RcNeAt A s (.ref a) (.ref b) (!eqD d d2):=by
 cases h1 with
 |tup h r=>cases h2 with
  |tup h' r'=>exact⟨aPt I (hk▸h) (hk▸h') r r' hu (by simp only[dep]at n2;lia) ih,aHi I (hk▸h) (hk▸h') r r' hu (by simp only[dep]at n2;lia) ih⟩
  |lst h' r' =>
   obtain⟨_,_,pl,_⟩:=I.tuple (hk▸h);obtain⟨_,_,pl',_⟩:=I.list (hk▸h');exact⟨.tuple_list pl pl'.isList hu,.tuple_list pl pl'.isList hu⟩
  |fz h' r' =>
   obtain⟨_,_,pl,_⟩:=I.tuple (hk▸h);obtain⟨_,_,pl',_⟩:=I.list (hk▸h');exact⟨.tuple_list pl pl'.isList hu,.tuple_list pl pl'.isList hu⟩
 |lst h r=>cases h2 with
  |tup h' r' =>
   obtain⟨_,_,pl,_⟩:=I.list (hk▸h);obtain⟨_,_,pl',_⟩:=I.tuple (hk▸h');exact⟨.list_tuple pl.isList pl' hu,.list_tuple pl.isList pl' hu⟩
  |lst h' r'=>exact⟨sU I (hk▸h) (hk▸h') r r' hu (by simp only[dep]at n2;lia) ih,iO I (hk▸h) (hk▸h') r r' hu (by simp only[dep]at n2;lia) ih⟩
  |fz h' r'=>exact⟨sU I (hk▸h) (hk▸h') r r' hu (by simp only[dep]at n2;lia) ih,iO I (hk▸h) (hk▸h') r r' hu (by simp only[dep]at n2;lia) ih⟩
 |fz h r=>cases h2 with
  |tup h' r' =>
   obtain⟨_,_,pl,_⟩:=I.list (hk▸h);obtain⟨_,_,pl',_⟩:=I.tuple (hk▸h');exact⟨.list_tuple pl.isList pl' hu,.list_tuple pl.isList pl' hu⟩
  |lst h' r'=>exact⟨sU I (hk▸h) (hk▸h') r r' hu (by simp only[dep]at n2;lia) ih,iO I (hk▸h) (hk▸h') r r' hu (by simp only[dep]at n2;lia) ih⟩
  |fz h' r'=>exact⟨sU I (hk▸h) (hk▸h') r r' hu (by simp only[dep]at n2;lia) ih,iO I (hk▸h) (hk▸h') r r' hu (by simp only[dep]at n2;lia) ih⟩
def eJ{d d2:D}(I:Inv X pins σ H s)(hk:X.K=K)(hu:A.units < cLine)(h1:Rp K μ H d v1)(h2:Rp K μ H d2 v2)(q1:RelV v1 u1)(q2:RelV v2 u2)(m1:dep d<=100)(m2:dep d2<=100)
  (ih:∀a xs k,At K μ H d a xs k->Eqs K μ H s A.in1 xs):SeqAt.EqAt A s u1 u2 (eqD d d2):=by
 cases n1:fv d with
 |some w =>
  cases n2:fv d2 with
  |some w2 =>
   obtain⟨rfl,f1⟩:=aGt n1 h1;obtain⟨rfl,f2⟩:=aGt n2 h2;rw[<- aLu n1 n2];exact aOk q1 q2 f1 f2
  |none =>
   obtain⟨a,ds,k,rfl,at2⟩:=iW n2 m2 h2;cases q2;rw[(eS n2 n1).2];exact(lS I hk hu at2 n1 h1 q1).2.1
 |none =>
  cases n2:fv d2 with
  |some w2 =>
   obtain⟨a,ds,k,rfl,at1⟩:=iW n1 m1 h1;cases q1;rw[(eS n1 n2).1];exact(lS I hk hu at1 n2 h2 q2).1
  |none =>
   obtain⟨a,xs,k,rfl,at1⟩:=iW n1 m1 h1;obtain⟨b,ys,k2,rfl,at2⟩:=iW n2 m2 h2;cases q1;cases q2;by_cases hab:a=b
   ·subst hab
    rw[aGp I hk d d2 _ m1 m2 h1 h2];exact .same _
   ·exact .of_refs hab (aLl I hk hu at1 at2 m2 (ih a xs k at1)).1
mutual
def aGz(I:Inv X pins σ H s)(hk:X.K=K):∀(d:D) (A:Around) (d2:D) (v1 v2:V) (u1 u2:Value),A.units+dep d < cLine->dep d<=100->dep d2<=100->Rp K μ H d v1->Rp K μ H d2 v2->RelV v1 u1->RelV v2 u2->SeqAt.EqAt A s u1 u2 (eqD d d2)
 |.non,A,d2,v1,v2,u1,u2,hu,m1,m2,h1,h2,q1,q2=>eJ I hk (by lia) h1 h2 q1 q2 m1 m2 λa xs k z=>nomatch z
 |.bl x,A,d2,v1,v2,u1,u2,hu,m1,m2,h1,h2,q1,q2=>eJ I hk (by lia) h1 h2 q1 q2 m1 m2 λa xs k z=>nomatch z
 |.int x,A,d2,v1,v2,u1,u2,hu,m1,m2,h1,h2,q1,q2=>eJ I hk (by lia) h1 h2 q1 q2 m1 m2 λa xs k z=>nomatch z
 |.str x,A,d2,v1,v2,u1,u2,hu,m1,m2,h1,h2,q1,q2=>eJ I hk (by lia) h1 h2 q1 q2 m1 m2 λa xs k z=>nomatch z
 |.tup xs,A,d2,v1,v2,u1,u2,hu,m1,m2,h1,h2,q1,q2=>eJ I hk (by lia) h1 h2 q1 q2 m1 m2 λa ys k z=>by
  have e:xs=ys:=by cases z;rfl
  subst e;exact jF I hk xs A.in1 (by simp only[dep]at hu;show A.units+1+deps xs < cLine;lia) (by simp only[dep]at m1;lia)
 |.lst xs,A,d2,v1,v2,u1,u2,hu,m1,m2,h1,h2,q1,q2=>eJ I hk (by lia) h1 h2 q1 q2 m1 m2 λa ys k z=>by
  have e:xs=ys:=by cases z;rfl
  subst e;exact jF I hk xs A.in1 (by simp only[dep]at hu;show A.units+1+deps xs < cLine;lia) (by simp only[dep]at m1;lia)
 |.fz xs,A,d2,v1,v2,u1,u2,hu,m1,m2,h1,h2,q1,q2=>eJ I hk (by lia) h1 h2 q1 q2 m1 m2 λa ys k z=>by
  have e:xs=ys:=by cases z;rfl
  subst e;exact jF I hk xs A.in1 (by simp only[dep]at hu;show A.units+1+deps xs < cLine;lia) (by simp only[dep]at m1;lia)
 |.exn c f xs,A,d2,v1,v2,u1,u2,hu,m1,m2,h1,h2,q1,q2=>by simp[dep]at m1
 |.adr a,A,d2,v1,v2,u1,u2,hu,m1,m2,h1,h2,q1,q2=>by simp[dep]at m1
def jF(I:Inv X pins σ H s)(hk:X.K=K):∀(xs:List D) (A:Around),A.units+deps xs < cLine->deps xs<=100->Eqs K μ H s A xs
 |[],A,hu,m=>λj d h=>by simp at h
 |x::xs,A,hu,m=>λj d h=>match j,h with
  |0,h=>λd2 v1 v2 u1 u2 m2 r1 r2 q1 q2=>by
   have e:d=x:=by simpa using h.symm
   rw[e]at r1 ⊢;exact aGz I hk x A d2 v1 v2 u1 u2 (by simp only[deps]at hu;lia) (by simp only[deps]at m;lia) m2 r1 r2 q1 q2
  |j+1,h=>λd2 v1 v2 u1 u2 m2 r1 r2 q1 q2=>jF I hk xs A (by simp only[deps]at hu;lia) (by simp only[deps]at m;lia) j d (by simpa using h) d2 v1 v2 u1 u2 m2 r1 r2 q1 q2
end
noncomputable def wd(M:Mm):W->Option D
 |.d x=>some x|.ref i=>(M[i]?).map D.lst|_=>none
def Rq(K:Frag)(μ:List Addr)(H:Hp)(d:D)(v:V):Prop:=Rp K μ H d v\/∃a ds vs,d=.lst ds/\v=.ref a/\H a=some (.lst vs)/\Rps K μ H ds vs
def zZ{w:W}{d:D}(hr:HR K μ H M)(r:Rw K μ H w v)(h:wd M w=some d):Rq K μ H d v:=by
 cases w with
 |d x=>simp only[wd,aAS]at h;subst h;exact .inl r
 |ref i =>
  simp only[wd,aAR]at h;obtain⟨ds,h1,rfl⟩:=h;obtain⟨a,q,rfl,il⟩:=r;obtain⟨a',vs,q1,q2,q3⟩:=hr.at h1 q;rw[q]at q1;cases q1;exact .inr ⟨a,ds,vs,rfl,rfl,q2,q3⟩
 |ob _ _=>simp[wd]at h
 |nest _=>simp[wd]at h
def tF{d:D}(n:fv d=none)(m:dep d<=100)(h:Rq K μ H d v):∃a ds k,v=.ref a/\At K μ H d a ds k:=by
 rcases h with h|⟨a,ds,vs,rfl,rfl,q1,q2⟩
 ·exact iW n m h
 ·exact⟨a,ds,false,rfl,.lst (SqL.of q1) q2⟩
def aGy{d:D}(n:fv d=some w)(h:Rq K μ H d v):Rp K μ H d v:=by
 rcases h with h|⟨a,ds,vs,rfl,rfl,q1,q2⟩
 ·exact h
 ·cases n
def aNb{d:D}{a:Addr}{xs:List D}(h:At K μ H d a xs k):dep d=deps xs+1:=by cases h <;> rfl
def pEq(x y:W)(M:Mm):Oc W:=match wd M x,wd M y with
 |some d,some e=>if dep d<=100/\dep e<=100 then .ok (.d (.bl (eqD d e))) M else .bad
 |_,_=>.bad
def pNe(x y:W)(M:Mm):Oc W:=match wd M x,wd M y with
 |some d,some e=>if dep d<=100/\dep e<=100 then .ok (.d (.bl (!eqD d e))) M else .bad
 |_,_=>.bad
def rEqD(K:Frag)(neg:Bool):R2:=λv u H Q=>∃μ d e,Rq K μ H d v/\Rq K μ H e u/\(dep d<=100/\dep e<=100)/\Q (.bl (if neg=true then !eqD d e else eqD d e)) H
def aQi(I:Inv X pins σ H s)(hk:X.K=K){d d2:D}(hu:A.units+dep d+1 < cLine)(m1:dep d<=100)(m2:dep d2<=100)(h1:Rq K μ H d v1)(h2:Rq K μ H d2 v2)(q1:RelV v1 u1)(q2:RelV v2 u2) :
  (SeqAt.RcAt A s u1 u2 (eqD d d2)/\SeqAt.RcNeAt A s u1 u2 (!eqD d d2)):=by
 have hu0:A.units < cLine:=by lia
 cases n1:fv d with
 |some w =>
  have h1:=aGy n1 h1;cases n2:fv d2 with
  |some w2=>exact aKx n1 n2 h1 (aGy n2 h2) q1 q2|none =>
   obtain⟨b,ys,k2,rfl,at2⟩:=tF n2 m2 h2;cases q2;rw[(eS n2 n1).2];obtain⟨_,_,_,_,x,y⟩:=lS I hk hu0 at2 n1 h1 q1;exact⟨x,y⟩
 |none =>
  obtain⟨a,xs,k,rfl,at1⟩:=tF n1 m1 h1;cases q1;cases n2:fv d2 with
  |some w2 =>
   rw[(eS n1 n2).1];obtain⟨_,_,x,y,_⟩:=lS I hk hu0 at1 n2 (aGy n2 h2) q2;exact⟨x,y⟩
  |none =>
   obtain⟨b,ys,k2,rfl,at2⟩:=tF n2 m2 h2;cases q2;have:=aNb at1;exact aLl I hk hu0 at1 at2 m2 (jF I hk xs A.in1 (by show A.units+1+deps xs < cLine;lia) (by lia))
def aNv(hu:X.A.units+101 < cLine):OpR X (compareOp .Eq) (rEqD X.K false):=by
 intro pins s σ H x y v u Q I rx ry h;obtain⟨μ,d,e,h1,h2,h3,q⟩:=h;exact(aQi I rfl (A:=X.A) (by lia) h3.1 h3.2 h1 h2 rx ry).1 _ _ _ _ ⟨.bl _,H,I,rfl,q⟩
def aNm(hu:X.A.units+101 < cLine):OpR X (compareOp .NotEq) (rEqD X.K true):=by
 intro pins s σ H x y v u Q I rx ry h;obtain⟨μ,d,e,h1,h2,h3,q⟩:=h;exact(aQi I rfl (A:=X.A) (by lia) h3.1 h3.2 h1 h2 rx ry).2 _ _ _ _ ⟨.bl _,H,I,rfl,q⟩
def opEq(hu:X.A.units+101 < cLine):OpG X K Z (compareOp .Eq) pEq:=λhk=>⟨_,hk▸aNv hu,by
 intro μ H M x y v u Q hr rx ry p;unfold pEq at p;cases q1:wd M x with
 |none=>rw[q1]at p;exact p.elim
 |some d=>cases q2:wd M y with
  |none=>rw[q1,q2]at p;exact p.elim
  |some e =>
   rw[q1,q2]at p;simp only at p;split at p
   ·exact⟨μ,d,e,zZ hr rx q1,zZ hr ry q2,by assumption,p μ H .refl hr _ (by simp[Rw,Rp])⟩
   ·exact p.elim⟩
def opNe(hu:X.A.units+101 < cLine):OpG X K Z (compareOp .NotEq) pNe:=λhk=>⟨_,hk▸aNm hu,by
 intro μ H M x y v u Q hr rx ry p;unfold pNe at p;cases q1:wd M x with
 |none=>rw[q1]at p;exact p.elim
 |some d=>cases q2:wd M y with
  |none=>rw[q1,q2]at p;exact p.elim
  |some e =>
   rw[q1,q2]at p;simp only at p;split at p
   ·exact⟨μ,d,e,zZ hr rx q1,zZ hr ry q2,by assumption,p μ H .refl hr _ (by simp[Rw,Rp])⟩
   ·exact p.elim⟩
section
variable{K:Frag}{o:Expr}{fo:FE}
@[irreducible] def lid:Nat:=2 ^ 4096
variable{i:Int}
def uX(h:i.natAbs < lid):Builtin.Int.intBits i<=4096:=by unfold lid at h;exact intBits_le_iff.mpr h
def mulOk(i j:Int):Bool:=decide ((-18446744073709551616 < i/\i < 18446744073709551616)\/(-18446744073709551616 < j/\j < 18446744073709551616)\/(i.natAbs < lid/\j.natAbs < lid))
def aKr:OpR X (binaryOp .Mult) (rI (λi j=>CMul i j\/(i.natAbs < lid/\j.natAbs < lid)) λi j=>.int (i*j)):=L2.opI λ_ _ _ _ _ _ _ hc q=>mul_int q (by
 rcases hc with hc|⟨h1,h2⟩
 ·exact hc.ok
 ·exact mulOk_of_bits (uX h1) (uX h2) (by lia))
def pMul(x y:W)(M:Mm):Oc W:=match x,y with
 |.d (.int i),.d (.int j)=>if mulOk i j=true then .ok (.d (.int (i*j))) M else .bad
 |x,.d (.int k)=>match lv M x with
  |some xs=>if xs.length*k.toNat<=16777216/\k < 9223372036854775808 /\ -9223372036854775808<=k then .ok (.d (.lst (List.replicate k.toNat xs).flatten)) M else .bad
  |none=>.bad
 |_,_=>.bad
def jB{x:W}{k:Int}(hr:HR K μ H M)(rx:Rw K μ H x v)(p:Pst K Z μ H (match lv M x with
  |some xs=>if xs.length*k.toNat<=16777216/\k < 9223372036854775808 /\ -9223372036854775808<=k then .ok (.d (.lst (List.replicate k.toNat xs).flatten)) M else .bad
  |none=>.bad) (Wk K Q)):rRep v (.int k) H Q:=by
 cases q1:lv M x with
 |none=>rw[q1]at p;exact p.elim
 |some xs =>
  rw[q1]at p;simp only at p;split at p
  ·rename_i hz
   obtain⟨a,vs,rfl,h1,r1⟩:=vT hr rx q1;exact⟨a,k,vs,rfl,rfl,h1,hz.2.2,hz.2.1,by rw[<- r1.length,aBE];exact hz.1,eF hr (r1.rep k.toNat) p⟩
  ·exact p.elim
def opMul:OpG X K Z (binaryOp .Mult) pMul:=λhk=>by
 refine⟨_,OpR.or aKr aPz,?_⟩;intro μ H M x y v u Q hr rx ry p;cases y with
 |ref j=>cases x with
  |d x=>cases x <;> exact p.elim
  |_=>exact p.elim
 |ob _ _=>cases x with
  |d x=>cases x <;> exact p.elim
  |_=>exact p.elim
 |nest _=>cases x with
  |d x=>cases x <;> exact p.elim
  |_=>exact p.elim
 |d y=>cases y with
  |int k =>
   have ry':u=.int k:=by simpa only[Rw,Rp]using ry
   subst ry';cases x with
   |ref i=>exact .inr (jB hr rx p)|ob _ _=>exact .inr (jB hr rx p)|nest _=>exact .inr (jB hr rx p)|d x=>cases x with
    |int i =>
     simp only[pMul]at p;simp only[Rw,Rp]at rx;split at p
     ·rename_i hz
      refine .inl ⟨i,k,rx,rfl,?_,p μ H .refl hr _ (by simp[Rw,Rp])⟩;simp only[mulOk,aBO]at hz;rcases hz with hz|hz|hz
      ·exact .inl (.inl hz)
      ·exact .inl (.inr hz)
      ·exact .inr hz
     ·exact p.elim
    |_=>exact .inr (jB hr rx p)
  |_=>cases x with
   |ref i=>exact p.elim|ob _ _=>exact p.elim|nest _=>exact p.elim|d x=>cases x <;> exact p.elim
noncomputable def pNeg(x:W)(M:Mm):Oc W:=match x with
 |.d (.int i)=>.ok (.d (.int (-i))) M|_=>.bad
def aOy(ha:Ev X K Z a fa):Ev X K Z (.UnaryOp .USub a pos) (e1 pNeg fa):=by
 refine⟨ha.k,cqE (aRb aPx ha.h) ?_⟩;rintro σ H Q ⟨μ,M,L,hr,lr,p⟩;refine⟨μ,M,L,hr,lr,p.bind.imp λμ1 H1 M1 x e1 hr1 _ p1 v rx=>?_⟩;cases x with
 |ref i=>exact p1.elim|ob _ _=>exact p1.elim|nest _=>exact p1.elim|d x=>cases x with
  |int i=>simp only[Rw,Rp]at rx;exact⟨i,rx,p1 μ1 H1 .refl hr1 _ (by simp[Rw,Rp])⟩
  |_=>exact p1.elim
noncomputable def eAnd(f g:FE):FE:=λL M=>(f L M).bind λx M1=>match x with
 |.d (.bl true)=>g L M1|.d (.bl false)=>.ok (.d (.bl false)) M1|_=>.bad
variable{rest:List Expr}
def aOp{op}(ha:Ev X K Z a fa):Ev X K Z (.BoolOp op [a] pos) fa:=⟨ha.k,aPe ha.h⟩
def aPk(ha:Ev X K Z a fa)(hb:Ev X K Z (.BoolOp .And (b::rest) pos) fb):Ev X K Z (.BoolOp .And (a::b::rest) pos) (eAnd fa fb):=by
 refine⟨ha.k,cqE (aNy ha.h hb.h) ?_⟩;rintro σ H Q ⟨μ,M,L,hr,lr,p⟩;refine⟨μ,M,L,hr,lr,p.bind.imp λμ1 H1 M1 x e1 hr1 _ p1 v rx=>?_⟩;cases x with
 |ref i=>exact p1.elim|ob _ _=>exact p1.elim|nest _=>exact p1.elim|d x=>cases x with
  |bl i =>
   simp only[Rw,Rp]at rx;refine⟨i,rx,?_⟩;cases i with
   |true=>exact⟨μ1,M1,L,hr1,lr.ext hr.lsts e1,p1⟩|false=>exact p1 μ1 H1 .refl hr1 _ (by simp[Rw,Rp])
  |_=>exact p1.elim
def pIx(x y:W)(M:Mm):Oc W:=match y with
 |.d (.int i)=>match x with
  |.d (.str z)=>match atI z.cps.toList i with
   |some c=>if z.length<=16777216 then .ok (.d (.str ⟨#[c]⟩)) M else .bad
   |none=>.bad
  |x=>match sv M x with
   |some xs=>match atI xs i with
    |some d=>.ok (.d d) M|none=>.bad
   |none=>.bad
 |_=>.bad
def aMg{d:D}(r:Rps K μ H ds vs)(h:atI ds i=some d):∃v,atI vs i=some v/\Rp K μ H d v:=by
 unfold atI at h ⊢;rw[r.length]at h;cases q:ixN vs.length i with
 |none=>rw[q]at h;cases h
 |some j=>rw[q]at h;exact r.get h
def mB{x:W}(hr:HR K μ H M)(rx:Rw K μ H x v)(p:Pst K Z μ H (match sv M x with
   |some xs=>match atI xs i with
    |some d=>Oc.ok (.d d) M|none=>.bad
   |none=>.bad) (Wk K Q)):rIx K v (.int i) H Q:=by
 cases q1:sv M x with
 |none=>rw[q1]at p;exact p.elim
 |some xs =>
  rw[q1]at p;cases q2:atI xs i with
  |none=>simp only[q2]at p;exact p.elim
  |some d =>
   simp only[q2]at p;obtain⟨a,vs,rfl,h1,r1⟩:=qC hr rx q1;obtain⟨v,h2,r2⟩:=aMg r1 q2;have q:=p μ H .refl hr v r2;rcases h1 with h1|h1
   ·exact .inl ⟨a,vs,i,v,rfl,rfl,h1,h2,q⟩
   ·exact .inr (.inl ⟨a,vs,i,v,rfl,rfl,h1,h2,q⟩)
def aMz:Op2 K Z (rIx K) pIx:=by
 intro μ H M x y v u Q hr rx ry p;cases y with
 |ref j=>exact p.elim|ob _ _=>exact p.elim|nest _=>exact p.elim|d y=>cases y with
  |int i =>
   have:u=.int i:=by simpa only[Rw,Rp]using ry
   subst this;cases x with
   |ref j=>exact mB hr rx p|ob _ _=>exact mB hr rx p|nest _=>exact mB hr rx p|d x=>cases x with
    |str z =>
     simp only[Rw,Rp]at rx;simp only[pIx]at p;cases q:atI z.cps.toList i with
     |none=>simp only[q]at p;exact p.elim
     |some c =>
      simp only[q]at p;split at p
      ·exact .inr (.inr ⟨z,i,c,rx,rfl,by rw[aBE];assumption,q,p μ H .refl hr _ (by simp[Rw,Rp])⟩)
      ·exact p.elim
    |_=>exact mB hr rx p
  |_=>exact p.elim
def bE(ha:Ev X K Z a fa)(hb:Ev X K Z b fb)(hs:PlainIx b:=by intro _ _;rfl):Ev X K Z (.Subscript a b pos) (e2 pIx fa fb):=by
 have h:=aRd (pos:=pos) (aOg (X:=X)) ha.h hb.h hs;rw[ha.k]at h;exact⟨ha.k,cqE h (lift2 aMz)⟩
noncomputable def aNil:FA:=λ_ M=>.ok [] M
noncomputable def aCons(f:FE)(g:FA):FA:=λL M=>(f L M).bind λw M1=>(g L M1).bind λws M2=>.ok (w::ws) M2
def aD(hk:X.K=K:=by rfl):Ea X K Z [] aNil:=⟨hk,cqA cJ λσ H Q ⟨μ,M,L,hr,lr,p⟩=>p μ H .refl hr [] rfl⟩
def aA(ha:Ev X K Z e fa)(hr:Ea X K Z es fs)(hs:starEach (e::es) X.env=(false,eval e X.env)::starEach es X.env:=by rfl):Ea X K Z (e::es) (aCons fa fs):=by
 refine⟨ha.k,cqA (bF ha.h hr.h hs) ?_⟩;rintro σ H Q ⟨μ,M,L,hr,lr,p⟩;refine⟨μ,M,L,hr,lr,p.bind.imp λμ1 H1 M1 x e1 hr1 _ p1 v rx=>?_⟩;refine⟨μ1,M1,L,hr1,lr.ext hr.lsts e1,p1.bind.imp λμ2 H2 M2 y e2 hr2 _ p2 us ry=>?_⟩;exact p2 μ2 H2 .refl hr2 (v::us) ⟨v,us,rfl,rx.ext hr1.lsts e2,ry⟩
noncomputable def allD:List W->Option (List D)
 |[]=>some []|.d x::ws=>(allD ws).map (x::·)|_::_=>none
def jC:∀{ws:List W} {vs:List V} {ds:List D},Rws K μ H ws vs->allD ws=some ds->Rps K μ H ds vs
 |[],_,_,h,q=>by cases h;simp only[allD,aAS]at q;subst q;exact .nil
 |.d x::ws,_,_,⟨v,r,e1,e2,e3⟩,q=>by
  simp only[allD,aAR]at q;obtain⟨ds,q1,rfl⟩:=q;subst e1;exact .cons e2 (jC e3 q1)
 |.ref i::ws,_,_,_,q=>by simp[allD]at q
 |.ob _ i::ws,_,_,_,q=>by simp[allD]at q
 |.nest i::ws,_,_,_,q=>by simp[allD]at q
def mkT(ws:List W)(M:Mm):Oc W:=match allD ws with
 |some ds=>if ds.length<=16777216 then okD (.tup ds) M else .bad
 |none=>.bad
def mkL(ws:List W)(M:Mm):Oc W:=match allD ws with
 |some ds=>if ds.length<=16777216 then okD (.lst ds) M else .bad
 |none=>.bad
def mkR(ws:List W)(M:Mm):Oc W:=match allD ws with
 |some ds=>if ds.length<=16777216 then .ok (.ref M.length) (M++[ds])else .bad
 |none=>.bad
noncomputable def eA(g:List W->Mm->Oc W)(fs:FA):FE:=λL M=>(fs L M).bind g
def aU{x1}(h:Ea X K Z es fs):Ev X K Z (.Tuple es x1 pos) (eA mkT fs):=by
 refine⟨h.k,cqE (aMt h.h) ?_⟩;rintro σ H Q ⟨μ,M,L,hr,lr,p⟩;refine⟨μ,M,L,hr,lr,p.bind.imp λμ1 H1 M1 ws e1 hr1 _ p1 vs rx=>?_⟩;unfold mkT at p1;cases q:allD ws with
 |none=>rw[q]at p1;exact p1.elim
 |some ds =>
  rw[q]at p1;simp only at p1;split at p1
  ·have r:=jC rx q
   exact⟨by rw[<- r.length,aBE];assumption,iQ hr1 r p1⟩
  ·exact p1.elim
def dQ(h:Ea X K Z es fs):Ev X K Z (.List es pos) (eA mkL fs):=by
 refine⟨h.k,cqE (zA h.h) ?_⟩;rintro σ H Q ⟨μ,M,L,hr,lr,p⟩;refine⟨μ,M,L,hr,lr,p.bind.imp λμ1 H1 M1 ws e1 hr1 _ p1 vs rx=>?_⟩;unfold mkL at p1;cases q:allD ws with
 |none=>rw[q]at p1;exact p1.elim
 |some ds =>
  rw[q]at p1;simp only at p1;split at p1
  ·have r:=jC rx q
   exact⟨by rw[<- r.length,aBE];assumption,eF hr1 r p1⟩
  ·exact p1.elim
def fY(h:Ea X K Z es fs):Ev X K Z (.List es pos) (eA mkR fs):=by
 refine⟨h.k,cqE (zA h.h) ?_⟩;rintro σ H Q ⟨μ,M,L,hr,lr,p⟩;refine⟨μ,M,L,hr,lr,p.bind.imp λμ1 H1 M1 ws e1 hr1 _ p1 vs rx=>?_⟩;unfold mkR at p1;cases q:allD ws with
 |none=>rw[q]at p1;exact p1.elim
 |some ds =>
  rw[q]at p1;simp only at p1;split at p1
  ·have r:=jC rx q
   exact⟨by rw[<- r.length,aBE];assumption,aIk hr1 r p1⟩
  ·exact p1.elim
noncomputable def eInts(ns:List Int):FE:=λ_ M=>.ok (.d (.lst (ns.map D.int))) M
def aLg(h:IntsE es ns)(hn:ns.length<=16777216:=by decide)(hk:X.K=K:=by rfl):Ev X K Z (.List es pos) (eInts ns):=by
 refine⟨hk,cqE (zA (aIx h)) ?_⟩;rintro σ H Q ⟨μ,M,L,hr,lr,p⟩;exact⟨by rw[aAM,aBE];exact hn,eF hr Rps.ints p⟩
def Cl(K:Frag)(Z:Zt)(r:List V->Hp->VK->Prop)(g:List W->Mm->Oc W):Prop :=
 ∀(μ:List Addr) (H:Hp) (M:Mm) (ws:List W) (vs:List V) (Q:VK),HR K μ H M->Rws K μ H ws vs->Pst K Z μ H (g ws M) (Wk K Q)->r vs H Q
def ClG(X:Cx)(K:Frag)(Z:Zt)(f:Value)(g:List W->Mm->Oc W):Prop:=X.K=K->∃r,CallR X f r/\Cl K Z r g
def liftC{g:List W->Mm->Oc W}(h:Cl K Z r g):∀σ H Q,lift K Z (eA g fs) σ H Q->tCB r (liftA K Z fs) σ H Q:=by
 rintro σ H Q ⟨μ,M,L,hr,lr,p⟩;exact⟨μ,M,L,hr,lr,p.bind.imp λμ1 H1 M1 ws e1 hr1 _ p1 vs rx=>h μ1 H1 M1 ws vs Q hr1 rx p1⟩
variable{p:Pos}
def aV{id:String}{g:List W->Mm->Oc W}(hc:ClG X K Z (.builtin id) g)(hg:Gl X x)(hm:X.mg x=none)(hv:bootBuiltins x=some (.builtin id))(ha:Ea X K Z (e::es) fs)
  (hn:x≠"__name__":=by decide)(hdb:(x==("__debug__":Str))=false:=by decide)(he:starEach (e::es) X.env=(false,eval e X.env)::starEach es X.env:=by rfl)
  (hpl:(backTo pos (starEach es X.env)).any (·.1)=false:=by rfl):Ev X K Z (.Call (.Name x p) (e::es) [] pos) (eA g fs):=by
 obtain⟨r,h1,h2⟩:=hc ha.k;exact⟨ha.k,cqE (uZ h1 hg hm hv ha.h hn hdb he hpl) (liftC h2)⟩
def cU{T:String}{g:List W->Mm->Oc W}(hc:ClG X K Z (.type T) g)(hg:Gl X x)(hm:X.mg x=none)(hv:bootBuiltins x=some (.type T))(ha:Ea X K Z (e::es) fs)
  (hn:x≠"__name__":=by decide)(hdb:(x==("__debug__":Str))=false:=by decide)(he:starEach (e::es) X.env=(false,eval e X.env)::starEach es X.env:=by rfl)
  (hpl:(backTo pos (starEach es X.env)).any (·.1)=false:=by rfl):Ev X K Z (.Call (.Name x p) (e::es) [] pos) (eA g fs):=by
 obtain⟨r,h1,h2⟩:=hc ha.k;exact⟨ha.k,cqE (qL h1 hg hm hv ha.h hn hdb he hpl) (liftC h2)⟩
def cLen(ws:List W)(M:Mm):Oc W:=match ws with
 |[.d (.str z)]=>if z.length<=16777216 then .ok (.d (.int z.length)) M else .bad
 |[w]=>match sv M w with
  |some xs=>.ok (.d (.int xs.length)) M|none=>.bad
 |_=>.bad
def jI{w:W}(hr:HR K μ H M)(rx:Rw K μ H w v)(p:Pst K Z μ H (match sv M w with
  |some xs=>Oc.ok (.d (.int xs.length)) M|none=>.bad) (Wk K Q)):∃p ys,[v]=[V.ref p]/\(SqL K H p ys\/SqT K H p ys)/\Q (.int ys.length) H:=by
 cases q1:sv M w with
 |none=>rw[q1]at p;exact p.elim
 |some xs =>
  rw[q1]at p;obtain⟨a,vs,rfl,h1,r1⟩:=qC hr rx q1;exact⟨a,vs,rfl,h1,p μ H .refl hr _ (by simp[Rw,Rp,r1.length])⟩
def callLen:ClG X K Z (.builtin "len") cLen:=λhk=>by
 refine⟨_,CallR.or (hk▸rO) sY,?_⟩;intro μ H M ws vs Q hr rx p
 match ws,rx,p with
 |[],_,p=>exact p.elim|.ref i::[],⟨v,r,e1,e2,e3⟩,p=>cases e3;subst e1;exact .inl (jI hr e2 p)
 |.ob _ i::[],⟨v,r,e1,e2,e3⟩,p=>cases e3;subst e1;exact .inl (jI hr e2 p)
 |.nest i::[],⟨v,r,e1,e2,e3⟩,p=>cases e3;subst e1;exact .inl (jI hr e2 p)
 |.d x::[],⟨v,r,e1,e2,e3⟩,p =>
  cases e3;subst e1;cases x with
  |str z =>
   simp only[cLen]at p;simp only[Rw,Rp]at e2;subst e2;split at p
   ·exact .inr ⟨z,rfl,by rw[aBE];assumption,p μ H .refl hr _ (by simp[Rw,Rp])⟩
   ·exact p.elim
  |_=>exact .inl (jI hr e2 p)
 |.ref i::_::_,_,p=>exact p.elim|.ob _ i::_::_,_,p=>exact p.elim|.nest i::_::_,_,p=>exact p.elim|.d x::_::_,_,p=>cases x <;> exact p.elim
noncomputable def cInt(ws:List W)(M:Mm):Oc W:=match ws with
 |[.d (.int i)]=>.ok (.d (.int i)) M|[.d (.bl k)]=>.ok (.d (.int (if k=true then 1 else 0))) M
 |_=>.bad
def callInt:ClG X K Z (.type "int") cInt:=λhk=>by
 refine⟨_,aDg,?_⟩;intro μ H M ws vs Q hr rx p
 match ws,rx,p with
 |[],_,p=>exact p.elim|.ref i::_,_,p=>exact p.elim|.ob _ i::_,_,p=>exact p.elim|.nest i::_,_,p=>exact p.elim|.d x::[],⟨v,r,e1,e2,e3⟩,p =>
  cases e3;subst e1;cases x with
  |int i=>simp only[Rw,Rp]at e2;subst e2;exact .inl ⟨i,rfl,p μ H .refl hr _ (by simp[Rw,Rp])⟩
  |bl k=>simp only[Rw,Rp]at e2;subst e2;exact .inr ⟨k,rfl,p μ H .refl hr _ (by simp[Rw,Rp])⟩
  |_=>exact p.elim
 |.d x::_::_,_,p=>cases x <;> exact p.elim
noncomputable def cMax2(ws:List W)(M:Mm):Oc W:=match ws with
 |[.d (.int i),.d (.int j)]=>.ok (.d (.int (if j > i then j else i))) M
 |_=>.bad
noncomputable def cMin2(ws:List W)(M:Mm):Oc W:=match ws with
 |[.d (.int i),.d (.int j)]=>.ok (.d (.int (if j < i then j else i))) M
 |_=>.bad
def callMax2(hc:X.calm=true):ClG X K Z (.builtin "max") cMax2:=λhk=>by
 refine⟨_,aDd hc,?_⟩;intro μ H M ws vs Q hr rx p;unfold cMax2 at p;split at p
 ·obtain⟨v,r,e1,e2,v',r',e1',e2',e3⟩:=rx
  simp only[Rw,Rp]at e2 e2';cases e3;subst e1' e1 e2 e2';exact⟨_,_,rfl,p μ H .refl hr _ (by simp[Rw,Rp])⟩
 ·exact p.elim
def callMin2(hc:X.calm=true):ClG X K Z (.builtin "min") cMin2:=λhk=>by
 refine⟨_,aBx hc,?_⟩;intro μ H M ws vs Q hr rx p;unfold cMin2 at p;split at p
 ·obtain⟨v,r,e1,e2,v',r',e1',e2',e3⟩:=rx
  simp only[Rw,Rp]at e2 e2';cases e3;subst e1' e1 e2 e2';exact⟨_,_,rfl,p μ H .refl hr _ (by simp[Rw,Rp])⟩
 ·exact p.elim
def cTup(ws:List W)(M:Mm):Oc W:=match ws with
 |[w]=>match sv M w with
  |some xs=>okD (.tup xs) M|none=>.bad
 |_=>.bad
def aIu{g:List D->Oc W}{ws:List W}{Q:List Addr->Hp->Mm->W->Prop}(hr:HR K μ H M)(rx:Rws K μ H ws vs)(p:Pst K Z μ H (match ws with
 |[w]=>match sv M w with
  |some xs=>g xs|none=>.bad
 |_=>.bad) Q):∃w a us xs,ws=[w]/\vs=[.ref a]/\sv M w=some xs/\Rw K μ H w (.ref a)/\(SqL K H a us\/SqT K H a us)/\Rps K μ H xs us/\Pst K Z μ H (g xs) Q:=by
 match ws,rx,p with
 |[],_,p=>exact p.elim|[w],⟨v,r,e1,e2,e3⟩,p =>
  cases e3;subst e1;simp only at p;cases q:sv M w with
  |none=>rw[q]at p;exact p.elim
  |some xs =>
   rw[q]at p;obtain⟨a,us,rfl,h1,r1⟩:=qC hr e2 q;exact⟨w,a,us,xs,rfl,rfl,q,e2,h1,r1,p⟩
 |_::_::_,_,p=>exact p.elim
def callTup:ClG X K Z (.type "tuple") cTup:=λhk=>by
 refine⟨_,hk▸pQ,?_⟩;intro μ H M ws vs Q hr rx p;obtain⟨w,a,us,xs,rfl,rfl,q,e2,h1,r1,p⟩:=aIu hr rx p;by_cases hw:∃ys,w=.d (.tup ys)
 ·obtain⟨ys,rfl⟩:=hw
  simp only[sv,aAS]at q;subst q;have e2':=e2;simp only[Rw,Rp]at e2;obtain⟨a',vs',ea,h1',r1'⟩:=e2;cases ea;exact⟨a,vs',rfl,.inr ⟨SqT.of h1',p μ H .refl hr _ e2'⟩⟩
 ·have hl:lr M w=some xs:=by
   cases w with
   |ref i=>exact q|ob _ _=>exact q|nest _=>exact q|d x=>cases x <;> first|exact q|exact(hw ⟨_,rfl⟩).elim
  obtain⟨a',vs',ea,h1',r1'⟩:=aAa hr e2 hl;cases ea;exact⟨a,vs',rfl,.inl ⟨h1',iQ hr r1' p⟩⟩
end
section
variable{K:Frag}{o:Expr}{fo:FE}{st:Stmt}{rest:List Stmt}{F G:FS}
def sNil:FS:=λL M=>.ok (.nx L) M
def sSeq(F G:FS):FS:=λL M=>(F L M).bind λo M1=>match o with
 |.nx L1=>G L1 M1|.bk L1=>.ok (.bk L1) M1|.ct L1=>.ok (.ct L1) M1|.rt w=>.ok (.rt w) M1
def bG(hk:X.K=K:=by rfl):Ess X K Z [] sNil:=⟨hk,cqSs aKv λE σ H ⟨μ,M,L,hr,lr,p⟩=>p μ H .refl hr σ lr⟩
def aE(h1:Es X K Z st F)(h2:Ess X K Z rest G):Ess X K Z (st::rest) (sSeq F G):=by
 refine⟨h1.k,cqSs (aHb h1.h h2.h) ?_⟩;rintro E σ H ⟨μ,M,L,hr,lr,p⟩;refine⟨μ,M,L,hr,lr,p.bind.imp λμ1 H1 M1 o e1 hr1 _ p1=>?_⟩;cases o with
 |nx L1=>exact λσ' lr'=>⟨μ1,M1,L1,hr1,lr',p1⟩
 |bk L1=>exact p1 μ1 H1 .refl hr1|ct L1=>exact p1 μ1 H1 .refl hr1|rt w=>exact p1 μ1 H1 .refl hr1
def aF(h1:Es X K Z st F):Ess X K Z [st] F:=⟨h1.k,aIv h1.h⟩
def sEx(f:FE):FS:=λL M=>(f L M).bind λ_ M1=>.ok (.nx L) M1
def jD(h:Ev X K Z e f)(hs:swapsWith e none pos.line X.env=pure false:=by rfl):Es X K Z (.Expr e pos) (sEx f):=by
 refine⟨h.k,cqS (aIp h.h hs) ?_⟩;rintro E σ H ⟨μ,M,L,hr,lr,p⟩;exact⟨μ,M,L,hr,lr,p.bind.imp λμ1 H1 M1 x e1 hr1 _ p1 v rx=>p1 μ1 H1 .refl hr1 σ (lr.ext hr.lsts e1)⟩
noncomputable def sRt(f:FE):FS:=λL M=>(f L M).bind λw M1=>.ok (.rt w) M1
def aR(h:Ev X K Z e f):Es X K Z (.Return (some e) pos) (sRt f):=by
 refine⟨h.k,cqS (aMv h.h) ?_⟩;rintro E σ H ⟨μ,M,L,hr,lr,p⟩;exact⟨μ,M,L,hr,lr,p.bind.imp λμ1 H1 M1 x e1 hr1 _ p1 v rx=>p1 μ1 H1 .refl hr1 v rx⟩
noncomputable def sIf(t:FT)(F G:FS):FS:=λL M=>(t L M).bind λb M1=>if b=true then F L M1 else G L M1
def bY{c:Expr}{p q:List Stmt}{t:FT}(hc:Et X K Z c t)(ha:Ess X K Z p F)(hb:Ess X K Z q G):Es X K Z (.If c p q pos) (sIf t F G):=by
 refine⟨hc.k,cqS (aQy hc.h ha.h hb.h) ?_⟩;rintro E σ H ⟨μ,M,L,hr,lr,p⟩;refine⟨μ,M,L,hr,lr,p.bind.imp λμ1 H1 M1 x e1 hr1 _ p1=>?_⟩;cases x with
 |true=>exact⟨μ1,M1,L,hr1,lr.ext hr.lsts e1,p1⟩|false=>exact⟨μ1,M1,L,hr1,lr.ext hr.lsts e1,p1⟩
noncomputable def gN(i:Nat):FG:=λw L M=>.ok (L.set i (some w)) M
def LR.set{L:Lc}{σ:St}{i:Nat}{w:W}{v:V}(h:LR K μ H L σ)(r:Rw K μ H w v):LR K μ H (L.set i (some w)) (σ.set i (some v))where
 len:=by simp[h.len]
 ent:=λj u q=>by
  by_cases hj:i=j
  ·subst hj
   have hl:i < L.length:=by
    by_cases hl:i < L.length
    ·exact hl
    ·rw[List.set_eq_of_length_le (by lia)]at q
     rw[aGK (by lia)]at q;cases q
   rw[aBZ hl]at q;cases q;exact⟨v,by rw[aBZ (by rw[<- h.len];exact hl)],r⟩
  ·rw[aDX hj]at q
   obtain⟨x,q1,q2⟩:=h.ent j u q;exact⟨x,by rw[aDX hj];exact q1,q2⟩
def aK(hN:X.N.Nodup)(hi:X.N[i]?=some x:=by rfl)(hx:Loc X.env.scope x:=by first|exact Or.inl rfl|exact Or.inr rfl)(hk:X.K=K:=by rfl)(hf:X.fn x=true\/X.env.scope.names.lookup x=some .local:=by first|exact .inl rfl|exact .inr rfl|assumption) :
  Eg X K Z (.Name x pos) (gN i):=⟨hk,cqG (aJf hN hi hx hf) λv σ H Q ⟨μ,M,L,w,hr,lr,rx,p⟩=>p μ H .refl hr _ (lr.set rx)⟩
noncomputable def gsNil:FGs:=λds L M=>match ds with
 |[]=>.ok L M|_=>.bad
noncomputable def gsCons(g:FG)(gs:FGs):FGs:=λds L M=>match ds with
 |d::r=>(g (.d d) L M).bind λL1 M1=>gs r L1 M1
 |[]=>.bad
def bX(hk:X.K=K:=by rfl):Egs X K Z [] gsNil:=⟨hk,cqGs aIa λvs σ H Q ⟨μ,M,L,ds,hr,lr,rx,p⟩=>by
 cases ds with
 |nil=>simp only[Rps]at rx;exact⟨rx,p μ H .refl hr σ lr⟩
 |cons d r=>exact p.elim⟩
variable{gs:FGs}
def aM{g:FG}(h1:Eg X K Z e g)(h2:Egs X K Z es gs)(hs:(assignEach (e::es) X.env).map (·.2)=assign e X.env::(assignEach es X.env).map (·.2):=by rfl):Egs X K Z (e::es) (gsCons g gs) :=
 ⟨h1.k,cqGs (aGj h1.h h2.h hs) λvs σ H Q ⟨μ,M,L,ds,hr,lr,rx,p⟩=>by
  cases ds with
  |nil=>exact p.elim|cons d r =>
   simp only[Rps]at rx;obtain⟨v,vr,e1,rd,rr⟩:=rx;refine⟨v,vr,e1,μ,M,L,.d d,hr,lr,rd,p.bind.imp λμ1 H1 M1 L1 e1 hr1 _ p1 σ1 lr1=>?_⟩;exact⟨μ1,M1,L1,r,hr1,lr1,Rps.ext hr.lsts e1 _ _ rr,p1⟩⟩
noncomputable def gT(n:Nat)(gs:FGs):FG:=λw L M=>match w with
 |.d (.tup xs)=>if xs.length=n then gs xs L M else .bad
 |_=>.bad
def dA{k:Nat}(hc:X.calm=true)(h:Egs X K Z es gs)(hn:(assignEach es X.env).length=n:=by rfl)(hst:(assignEach es X.env).findIdx? (·.1)=none:=by rfl):Eg X K Z (.Tuple es k pos) (gT n gs):=by
 have h':=aPq (k:=k) (pos:=pos) hc h.h hn hst;rw[h.k]at h';refine⟨h.k,cqG h' λv σ H Q ⟨μ,M,L,w,hr,lr,rx,p⟩=>?_⟩;cases w with
 |ref i=>exact p.elim|ob _ _=>exact p.elim|nest _=>exact p.elim|d x=>cases x with
  |tup xs =>
   simp only[gT]at p;split at p
   ·simp only[Rw,Rp]at rx
    obtain⟨a,vs,e1,q1,r1⟩:=rx;exact⟨a,vs,e1,SqT.of q1,by rw[<- r1.length];assumption,μ,M,L,xs,hr,lr,r1,p⟩
   ·exact p.elim
  |_=>exact p.elim
def gS(fo fi:FE):FG:=λw L M=>(fo L M).bind λo M1=>(fi L M1).bind λi M2=>match o,i,w with
 |.ref k,.d (.int j),.d x=>match M2[k]? with
  |some xs=>match ixN xs.length j with
   |some t=>.ok L (M2.set k (xs.set t x))|none=>.bad
  |none=>.bad
 |_,_,_=>.bad
def xT{i:Expr}{fi:FE}(ho:Ev X K Z o fo)(hi:Ev X K Z i fi)(ha:∀v,assign (.Subscript o i pos) X.env v=(do
   let ov <- holding [v] (eval o X.env)
   let iv <- holding [v,ov] (eval i X.env)
   standAt pos
   holding [v,ov,iv] (setItem ov iv v)
   release [v,ov,iv] []):=by intro _;rfl):Eg X K Z (.Subscript o i pos) (gS fo fi):=by
 refine⟨ho.k,cqG (aPl ho.h hi.h aHp ha) λv σ H Q ⟨μ,M,L,w,hr,lr,rx,p⟩=>?_⟩;refine⟨μ,M,L,hr,lr,p.bind.imp λμ1 H1 M1 x e1 hr1 _ p1 vo ro=>?_⟩;refine⟨μ1,M1,L,hr1,lr.ext hr.lsts e1,p1.bind.imp λμ2 H2 M2 y e2 hr2 _ p2 vi ri=>?_⟩;cases x with
 |d x=>exact p2.elim|ob _ _=>exact p2.elim|nest _=>exact p2.elim|ref k=>cases y with
  |ref j=>exact p2.elim|ob _ _=>exact p2.elim|nest _=>exact p2.elim|d y=>cases y with
   |int j=>cases w with
    |ref q=>exact p2.elim|ob _ _=>exact p2.elim|nest _=>exact p2.elim|d z =>
     simp only at p2;cases q1:M2[k]? with
     |none=>simp only[q1]at p2;exact p2.elim
     |some xs =>
      simp only[q1]at p2;cases q2:ixN xs.length j with
      |none=>simp only[q2]at p2;exact p2.elim
      |some t =>
       simp only[q2]at p2;have ro:=ro.ext hr1.lsts e2;obtain⟨a,qa,rfl,il⟩:=ro;obtain⟨a',vs,qa',h1,r1⟩:=hr2.at q1 qa;rw[qa]at qa';cases qa';simp only[Rw,Rp]at ri;subst ri;have rz:=Rw.ext hr1.lsts e2 (Rw.ext hr.lsts e1 rx);refine⟨a,vs,j,t,rfl,rfl,h1,by rw[<- r1.length];exact q2,?_⟩;exact p2 μ2 _ (bQ qa) (hr2.set qa (Rps.set rz t r1)) σ ((lr.ext hr.lsts (e1.trans e2)).ext hr2.lsts (bQ qa))
   |_=>exact p2.elim
def sAs(f:FE)(g:FG):FS:=λL M=>(f L M).bind λw M1=>(g w L M1).bind λL1 M2=>.ok (.nx L1) M2
def kT{tg:Expr}{g:FG}(he:Ev X K Z e f)(hg:Eg X K Z tg g)(hs:swapsWithSole [tg] e pos.line X.env=pure false:=by rfl)(hw:swappedStores [tg] e X.env=pure none:=by rfl)
  (h1:(assignEach [tg] X.env).map (·.2)=[assign tg X.env]:=by rfl):Es X K Z (.Assign [tg] e pos) (sAs f g):=by
 refine⟨he.k,cqS (aMn he.h hg.h hs hw h1) ?_⟩;rintro E σ H ⟨μ,M,L,hr,lr,p⟩;refine⟨μ,M,L,hr,lr,p.bind.imp λμ1 H1 M1 x e1 hr1 _ p1 v rx=>?_⟩;exact⟨μ1,M1,L,x,hr1,lr.ext hr.lsts e1,rx,p1.bind.imp λμ2 H2 M2 L2 e2 hr2 _ p2 σ2 lr2=>p2 μ2 H2 .refl hr2 σ2 lr2⟩
def aL(hN:X.N.Nodup)(he:Ev X K Z e f)(hi:X.N[i]?=some x:=by rfl)(hx:Loc X.env.scope x:=by first|exact Or.inl rfl|exact Or.inr rfl)(hs:swapsWith e (some (.Name x pos')) pos.line X.env=pure false:=by rfl)
  (hf:X.fn x=true\/X.env.scope.names.lookup x=some .local:=by first|exact .inl rfl|exact .inr rfl|assumption):Es X K Z (.Assign [.Name x pos'] e pos) (sAs f (gN i)):=by
 refine⟨he.k,cqS (aOb hN hi hx he.h hs hf) ?_⟩;rintro E σ H ⟨μ,M,L,hr,lr,p⟩;refine⟨μ,M,L,hr,lr,p.bind.imp λμ1 H1 M1 x e1 hr1 _ p1 v rx=>?_⟩;exact p1 μ1 H1 .refl hr1 _ (LR.set (lr.ext hr.lsts e1) rx)
def sPar(i j:Nat)(fs:FA):FS:=λL M=>(fs L M).bind λws M1=>match ws with
 |[v,w]=>.ok (.nx ((L.set i (some v)).set j (some w))) M1|_=>.bad
end
section
variable{K:Frag}{o:Expr}{fo:FE}{st:Stmt}{rest:List Stmt}{F G:FS}
def oK{y:Str}{px py pt:Pos}{kt k2 pt2}(hc:cP)(hN:X.N.Nodup)(ha:Ea X K Z [a,b] fs)(hi:X.N[i]?=some x:=by rfl)(hj:X.N[j]?=some y:=by rfl)(hij:i≠j:=by decide)
  (hx:X.env.scope.names.lookup x=some .local:=by rfl)(hy:X.env.scope.names.lookup y=some .local:=by rfl)
  (hw:swappedStores [.Tuple [.Name x px,.Name y py] kt pt] (.Tuple [a,b] k2 pt2) X.env=pure (some [x,y]):=by rfl)
  (hs:swapsWithSole [.Tuple [.Name x px,.Name y py] kt pt] (.Tuple [a,b] k2 pt2) pos.line X.env=pure false:=by rfl) :
  Es X K Z (.Assign [.Tuple [.Name x px,.Name y py] kt pt] (.Tuple [a,b] k2 pt2) pos) (sPar i j fs):=by
 refine⟨ha.k,cqS (aMu hc hN hi hj hij hx hy ha.h hw hs) ?_⟩;rintro E σ H ⟨μ,M,L,hr,lr,p⟩;refine⟨μ,M,L,hr,lr,p.bind.imp λμ1 H1 M1 ws e1 hr1 _ p1 vs rx=>?_⟩
 match ws,rx,p1 with
 |[],_,p1=>exact p1.elim|[_],_,p1=>exact p1.elim|[v,w],⟨v1,r,q1,q2,v2,r',q1',q2',q3⟩,p1 =>
  cases q3;subst q1' q1;exact⟨v1,v2,rfl,p1 μ1 H1 .refl hr1 _ (LR.set (LR.set (lr.ext hr.lsts e1) q2) q2')⟩
 |_::_::_::_,_,p1=>exact p1.elim
noncomputable def pAppend(x y:W)(M:Mm):Oc W:=match x,y with
 |.ref k,.d d=>match M[k]? with
  |some xs=>if xs.length < 16777216 then .ok (.d .non) (M.set k (xs++[d]))else .bad
  |none=>.bad
 |_,_=>.bad
def xF{k:Nat}(hr:HR K μ H M)(r:Rw K μ H (.ref k) v):tyV K "list" v H:=by
 obtain⟨a,q,rfl,il⟩:=r;obtain⟨vs,h⟩:=il;exact .inl ⟨rfl,vs,SqL.of h⟩
noncomputable def eM1(g:W->W->Mm->Oc W)(fo fe:FE):FE:=λL M=>(fo L M).bind λx M1=>match x with
 |.ref k=>(fe L M1).bind λy M2=>g (.ref k) y M2
 |_=>.bad
def jV(ho:Ev X K Z o fo)(he:Ev X K Z e fa)(hbase:attributeBase o "append" X.env (eval o X.env)=eval o X.env:=by rfl)
  (hfew:((backTo cpos (starEach [e] X.env)).all (λx=>!x.1)&&(backToKw cpos (keywordEach [] X.env)).all (λx=>x.1.isSome)&&decide ([e].length+([]:List Keyword).length+(if([]:List Keyword).isEmpty then 0 else 1) < 30))=true:=by rfl)
  (hline:(apos.endLine==cpos.line)=true:=by rfl)(hs:starEach [e] X.env=(false,eval e X.env)::starEach [] X.env:=by rfl)(hplain:(backTo cpos (starEach [] X.env)).any (·.1)=false:=by rfl) :
  Ev X K Z (.Call (.Attribute o "append" apos) [e] [] cpos) (eM1 pAppend fo fa):=by
 have h:=aLs aHS PySem.F.slot_list_append PySem.F.type_list_append pS ho.h (bF he.h cJ hs) hbase hfew hline hs hplain;rw[ho.k]at h;refine⟨ho.k,cqE h ?_⟩;rintro σ H Q ⟨μ,M,L,hr,lr,p⟩;refine⟨μ,M,L,hr,lr,p.bind.imp λμ1 H1 M1 x e1 hr1 _ p1 v rx=>?_⟩;cases x with
 |d x=>exact p1.elim|ob _ _=>exact p1.elim|nest _=>exact p1.elim|ref k =>
  refine⟨xF hr1 rx,μ1,M1,L,hr1,lr.ext hr.lsts e1,p1.bind.imp λμ2 H2 M2 y e2 hr2 _ p2 u ry=>?_⟩;cases y with
  |ref j=>exact p2.elim|ob _ _=>exact p2.elim|nest _=>exact p2.elim|d d =>
   simp only[pAppend]at p2;cases q1:M2[k]? with
   |none=>simp only[q1]at p2;exact p2.elim
   |some xs =>
    simp only[q1]at p2;split at p2
    ·rename_i hz
     obtain⟨a,qa,rfl,il⟩:=rx.ext hr1.lsts e2;obtain⟨a',vs,qa',h1,r1⟩:=hr2.at q1 qa;rw[qa]at qa';cases qa';refine⟨a,vs,u,rfl,rfl,h1,by rw[<- r1.length,aBE];exact hz,?_⟩;exact p2 μ2 _ (bQ qa) (hr2.set qa (r1.append (.cons ry .nil))) _ (by simp[Rw,Rp])
    ·exact p2.elim
def pExtend(x y:W)(M:Mm):Oc W:=match x with
 |.ref k=>match M[k]?,lv M y with
  |some xs,some ys=>if xs.length+ys.length<=16777216 then .ok (.d .non) (M.set k (xs++ys))else .bad
  |_,_=>.bad
 |_=>.bad
noncomputable def pPop(x:W)(M:Mm):Oc W:=match x with
 |.ref k=>match M[k]? with
  |some xs=>match xs.getLast? with
   |some d=>.ok (.d d) (M.set k xs.dropLast)|none=>.bad
  |none=>.bad
 |_=>.bad
def aOo(ho:Ev X K Z o fo)(hbase:attributeBase o "pop" X.env (eval o X.env)=eval o X.env:=by rfl)(hline:(apos.endLine==cpos.line)=true:=by rfl) :
  Ev X K Z (.Call (.Attribute o "pop" apos) [] [] cpos) (e1 pPop fo):=by
 have h:=aPu aHS PySem.F.slot_list_pop PySem.F.type_list_pop aPd ho.h hbase hline;rw[ho.k]at h;refine⟨ho.k,cqE h ?_⟩;rintro σ H Q ⟨μ,M,L,hr,lr,p⟩;refine⟨μ,M,L,hr,lr,p.bind.imp λμ1 H1 M1 x e1 hr1 _ p1 v rx=>?_⟩;cases x with
 |d x=>exact p1.elim|ob _ _=>exact p1.elim|nest _=>exact p1.elim|ref k =>
  refine⟨xF hr1 rx,?_⟩;simp only[pPop]at p1;cases q1:M1[k]? with
  |none=>simp only[q1]at p1;exact p1.elim
  |some xs =>
   simp only[q1]at p1;cases q2:xs.getLast? with
   |none=>simp only[q2]at p1;exact p1.elim
   |some d =>
    simp only[q2]at p1;obtain⟨a,qa,rfl,il⟩:=rx;obtain⟨a',vs,qa',h1,r1⟩:=hr1.at q1 qa;rw[qa]at qa';cases qa';rw[List.getLast?_eq_getElem?]at q2;obtain⟨u,q3,q4⟩:=r1.get q2;refine⟨a,vs,u,rfl,rfl,h1,by rw[<- r1.length];exact q3,?_⟩;exact p1 μ1 _ (bQ qa) (hr1.set qa r1.dropLast) u (Rp.ext hr1.lsts (bQ qa) _ _ q4)
abbrev FO:=Lc->Mm->Oc (Option Int)
def liftO(K:Frag)(Z:Zt)(f:FO):TO:=λσ H Q=>∃μ M L,HR K μ H M/\LR K μ H L σ/\Pst K Z μ H (f L M) λμ' H' _ w=>Q w H'
structure Eo(X:Cx)(K:Frag)(Z:Zt)(e:Option Expr)(f:FO):Prop where
 k:X.K=K
 h:PO X e (liftO K Z f)
noncomputable def oNo:FO:=λ_ M=>.ok none M
noncomputable def oAt(f:FE):FO:=λL M=>(f L M).bind λw M1=>match w with
 |.d (.int i)=>.ok (some i) M1|_=>.bad
def cqO{oe:Option Expr}{t t':TO}(h:PO X oe t)(i:∀σ H Q,t' σ H Q->t σ H Q):PO X oe t':=λpins s σ H Q I q=>h pins s σ H Q I (i _ _ _ q)
def wH(hk:X.K=K:=by rfl):Eo X K Z none oNo:=⟨hk,cqO aIy λσ H Q ⟨μ,M,L,hr,lr,p⟩=>p μ H .refl hr⟩
def vH(h:Ev X K Z e f):Eo X K Z (some e) (oAt f):=by
 refine⟨h.k,cqO (aJn h.h) ?_⟩;rintro σ H Q ⟨μ,M,L,hr,lr,p⟩;refine⟨μ,M,L,hr,lr,p.bind.imp λμ1 H1 M1 x e1 hr1 _ p1 v rx=>?_⟩;cases x with
 |ref i=>exact p1.elim|ob _ _=>exact p1.elim|nest _=>exact p1.elim|d x=>cases x with
  |int i=>simp only[Rw,Rp]at rx;exact⟨i,rx,p1 μ1 H1 .refl hr1⟩
  |_=>exact p1.elim
def cut(xs:List α)(lo hi:Option Int):List α:=(xs.drop (HT.sIx xs.length 0 lo)).take (HT.sIx xs.length xs.length hi - HT.sIx xs.length 0 lo)
def pSl(x:W)(lo hi:Option Int)(M:Mm):Oc W:=match x with
 |.d (.tup xs)=>okD (.tup (cut xs lo hi)) M|x=>match lr M x with
  |some xs=>okD (.lst (cut xs lo hi)) M|none=>.bad
def eSl(f:FE)(fl fh:FO):FE:=λL M=>(f L M).bind λx M1=>(fl L M1).bind λlo M2=>(fh L M2).bind λhi M3=>pSl x lo hi M3
def zO{lo:Option Int}(r:Rps K μ H ds vs):Rps K μ H (cut ds lo hi) (cutV vs lo hi):=by
 unfold cut cutV;rw[r.length];exact(r.drop _).take _
end
theorem kR:fillsNumberSlot (.type "tuple") "mul"=pure false :=
 PySem.fillsNumberSlot_seq (id:="tuple.__mul__") (r:=some (.builtin "tuple.__rmul__")) aGS.lookup (by decide +kernel) F.slot_tuple_rmul.lookup (by decide +kernel)
theorem sZ:seqRepeat? (.type "tuple")=pure (some (.builtin "tuple.__mul__")):=by
 unfold seqRepeat?;rw[PySem.seqSlot_of (T:="tuple") (name:="__mul__") (id:="tuple.__mul__") aGS.lookup (by decide +kernel),PySem.seqSlot_of (T:="tuple") (name:="__rmul__") (id:="tuple.__rmul__") F.slot_tuple_rmul.lookup (by decide +kernel)];rfl
def nP(a:Int)(t:Tok)(l:Addr)(items:Array Value)(n:Nat)(dd:Option Addr)(sl:Array (Option Value)) :
  Meets (Builtin.«int.__rmul__» ⟨[.int a t,.ref l],[]⟩) (λ_ R s=>s.heap.get? l=some {cls:=.type "tuple",dict:=dd,data:=.seq items n,slots:=sl}/\R (.ok (.ret Value.notImplemented)) s) :=
 .of_wp λprog w A R s h=>by obtain⟨hp,g,d,tk,os⟩:=s;obtain⟨hl,h⟩:=h;wp_walk using aBQ hl;exact⟨_,rfl,h⟩
def yS(l:Addr)(items:Array Value)(n:Nat)(dd:Option Addr)(sl:Array (Option Value))(x:Int)(u:Tok)(h1:(decide (x < -(2 ^ 63)) || decide (x>=2 ^ 63))=false)(h2:(items.isEmpty || x==1)=true) :
  Meets (Builtin.«tuple.__mul__» ⟨[.ref l,.int x u],[]⟩) (λ_ R s=>s.heap.get? l=some {cls:=.type "tuple",dict:=dd,data:=.seq items n,slots:=sl}/\R (.ok (.ret (Value.ref l))) s) :=
 .of_wp λprog w A R s h=>by
  obtain⟨hp,g,d,tk,os⟩:=s;obtain⟨hl,h⟩:=h;have f1:=aIH
  wp_walk using aBQ hl
  refine aIS (by rw[h1];rfl) ?_
  wp_walk using aBQ hl
  exact⟨_,rfl,h⟩
def wQ(l:Addr)(items:Array Value)(n:Nat)(dd:Option Addr)(sl:Array (Option Value))(x:Int)(u:Tok)(h1:(decide (x < -(2 ^ 63)) || decide (x>=2 ^ 63))=false)(h2:(items.isEmpty || x==1)=false)(h3:(decide (x<=0) || items.isEmpty)=true) :
  Meets (Builtin.«tuple.__mul__» ⟨[.ref l,.int x u],[]⟩) (λ_ R s=>s.heap.get? l=some {cls:=.type "tuple",dict:=dd,data:=.seq items n,slots:=sl}/\R (.ok (.ret (Value.ref s.heap.objs.size))) {s with heap:=s.heap.push {cls:=Value.type "tuple",data:=Data.seq #[]},toks:=s.toks}) :=
 .of_wp λprog w A R s h=>by
  obtain⟨hp,g,d,tk,os⟩:=s;obtain⟨hl,h⟩:=h;have f1:=aIH
  wp_walk using aBQ hl
  refine aIS (by rw[h1];rfl) ?_
  wp_walk using aBQ hl
  exact⟨_,rfl,h⟩
def xD(l:Addr)(items:Array Value)(n:Nat)(dd:Option Addr)(sl:Array (Option Value))(x:Int)(u:Tok)(h1:(decide (x < -(2 ^ 63)) || decide (x>=2 ^ 63))=false)(h2:(items.isEmpty || x==1)=false)(h3:(decide (x<=0) || items.isEmpty)=false)
  (h4:¬((items.size:Int)*x > (2 ^ 63 - 1) / 8))(h5:¬Builtin.Tuple.tupleTooMany (items.size*x)=true)(hsz:(List.foldl (λx1 x2=>x1++x2) #[] (List.replicate x.toNat items)).size<=sizeLine) :
  Meets (Builtin.«tuple.__mul__» ⟨[.ref l,.int x u],[]⟩) (λ_ R s=>s.heap.get? l=some {cls:=.type "tuple",dict:=dd,data:=.seq items n,slots:=sl}/\R (.ok (.ret (Value.ref s.heap.objs.size))) {s with heap:=s.heap.push {cls:=Value.type "tuple",data:=Data.seq (List.foldl (λx1 x2=>x1++x2) #[] (List.replicate x.toNat items))},toks:=s.toks}) :=
 .of_wp λprog w A R s h=>by
  obtain⟨hp,g,d,tk,os⟩:=s;obtain⟨hl,h⟩:=h;have f1:=aIH
  wp_walk using aBQ hl
  refine aIS (by rw[h1];rfl) ?_
  wp_walk using aBQ hl
  refine aIS (aCA h4) ?_
  wp_walk using aBQ hl
  exact⟨_,rfl,h⟩
variable{K:Frag}
def rRepT(K:Frag):R2:=λx y H Q=>∃a k xs,x=.ref a/\y=.int k/\SqT K H a xs /\ -(2 ^ 63)<=k/\k < 2 ^ 63/\xs.length*k.toNat<=sizeLine /\
 ((xs=[]\/k=1)->Q (.ref a) H)/\∀p,H p=none->Q (.ref p) (upd H p (.tup (List.replicate k.toNat xs).flatten))
def mX(its:List Value)(m:Nat):List.foldl (λx1 x2=>x1++x2) #[] (List.replicate m its.toArray)=(List.replicate m its).flatten.toArray:=by
 have:=kX its m [];rw[aFG]at this;exact this
theorem aIo:OpR X (binaryOp .Mult) (rRepT X.K):=by
 intro pins s σ H x y v u Q I rx ry h;obtain⟨l,k,xs,rfl,rfl,hH,h1,h2,hz,qs,q⟩:=h;cases rx;obtain⟨t,rfl⟩:=ry;obtain⟨its,r,pl,hsz⟩:=I.tuple hH;obtain⟨⟨cls,dd,data,sl⟩,ho,hc,n,hd⟩:=id pl;simp only at hc hd;subst hc hd;have hl:=r.length;have b1:(decide (k < -(2 ^ 63)) || decide (k>=2 ^ 63))=false:=by
  rw[aIW];exact⟨aCA (by lia),aCA (by lia)⟩
 refine wpAny_binaryOp_repeat_ref (T:="tuple") (U:="int") (by decide) ⟨_,ho,rfl⟩ (λs'=>aKA s' k t) kR F.fills_int_mul aIM sZ F.slot_int_index.lookup
  (aEP aIM (aKA s k t) F.entry_int_rmul (F.args_int_rmul_2 _ _) (nP k t l its.toArray n dd sl) ⟨ho,rfl,⟨_,ho,rfl⟩,?_⟩)
 by_cases hs:xs=[]\/k=1
 ·refine aEP aGS ⟨_,ho,rfl⟩ aJV (aJM _ _) (yS l its.toArray n dd sl k t b1 ?_) ⟨ho,⟨.ref l,H,I,rfl,qs hs⟩⟩
  rcases hs with hs|hs
  ·subst hs
   have:its=[]:=by simpa using hl.symm
   simp[this]
  ·simp[hs]
 ·have hne:its≠[]:=λz=>hs (.inl (by subst z;simpa using hl))
  have hn1:(its.toArray.isEmpty || k==1)=false:=by
   rw[aIW];exact⟨by simpa using hne,by simp;exact λz=>hs (.inr z)⟩
  by_cases h0:k<=0
  ·refine aEP aGS ⟨_,ho,rfl⟩ aJV (aJM _ _) (wQ l its.toArray n dd sl k t b1 hn1 (by simp[h0])) ⟨ho,?_⟩
   have e:(List.replicate k.toNat xs).flatten=[]:=by rw[show k.toNat=0 by lia];rfl
   have q:=q s.heap.objs.size I.fresh;rw[e]at q;refine⟨.ref s.heap.objs.size,_,I.laid (t':=s.toks) (o:=.tup []) (λb ob q=>aAB _ q) (aAD _) ?_,rfl,q⟩;exact⟨aCE _,[],.nil,IsTp.new _ _⟩
  ·have hk:((k.toNat:Nat):Int)=k:=by lia
   have hz':its.length*k.toNat<=sizeLine:=by rw[<- hl];exact hz
   have hcast:((its.toArray.size:Nat):Int)*k=((its.length*k.toNat:Nat):Int):=by
    rw[aAL,Int.natCast_mul,hk]
   have hs24:(sizeLine:Nat)=16777216:=aBE;refine aEP aGS ⟨_,ho,rfl⟩ aJV (aJM _ _) (xD l its.toArray n dd sl k t b1 hn1 ?_ ?_ ?_ ?_) ⟨ho,?_⟩
   ·rw[aIW];exact⟨aCA h0,by simpa using hne⟩
   ·rw[hcast];lia
   ·unfold Builtin.Tuple.tupleTooMany
    rw[hcast];intro z;have z:=aFK z;lia
   ·rw[mX,aAL,sF,Nat.mul_comm];exact hz'
   ·rw[mX]
    refine⟨.ref s.heap.objs.size,_,I.laid (t':=s.toks) (o:=.tup (List.replicate k.toNat xs).flatten) (λb ob q=>aAB _ q) (aAD _) ?_,rfl,q _ I.fresh⟩;exact⟨by rw[sF,Nat.mul_comm];exact hz,_,r.rep k.toNat,IsTp.new _ _⟩
def pMulA(x y:W)(M:Mm):Oc W:=match x,y with
 |.d (.tup xs),.d (.int k)=>if xs.length*k.toNat<=16777216/\k < 9223372036854775808 /\ -9223372036854775808<=k then okD (.tup (List.replicate k.toNat xs).flatten) M else .bad
 |x,y=>pMul x y M
def opMulA:OpG X K Z (binaryOp .Mult) pMulA:=λhk=>by
 obtain⟨r,h1,h2⟩:=(opMul (X:=X) (K:=K) (Z:=Z)) hk;refine⟨_,OpR.or (hk▸aIo) h1,?_⟩;intro μ H M x y v u Q hr rx ry p;have gen:=λp=>(Or.inr (h2 μ H M x y v u Q hr rx ry p):rRepT K v u H Q\/r v u H Q)
 cases x with
 |ref i=>exact gen (by cases y with|ref j=>exact p|ob _ _=>exact p|nest _=>exact p|d y=>cases y <;> exact p)
 |ob _ _=>exact gen (by cases y with|ref j=>exact p|ob _ _=>exact p|nest _=>exact p|d y=>cases y <;> exact p)
 |nest _=>exact gen (by cases y with|ref j=>exact p|ob _ _=>exact p|nest _=>exact p|d y=>cases y <;> exact p)
 |d x=>cases x with
  |tup xs=>cases y with
   |ref j=>exact gen p|ob _ _=>exact gen p|nest _=>exact gen p|d y=>cases y with
    |int k =>
     simp only[pMulA]at p;split at p
     ·rename_i hz
      have rx':=rx;simp only[Rw,Rp]at rx ry;obtain⟨a,vs,rfl,q1,r1⟩:=rx;refine .inl ⟨a,k,vs,rfl,ry,SqT.of q1,hz.2.2,hz.2.1,by rw[<- r1.length,aBE];exact hz.1,λe=>?_,iQ hr (r1.rep k.toNat) p⟩;refine p μ H .refl hr _ ?_;have:(List.replicate k.toNat xs).flatten=xs:=by
       rcases e with e|e
       ·subst e
        have:xs=[]:=by have:=r1.length;simpa using this
        subst this;simp
       ·subst e;simp[List.replicate]
      rw[this];exact rx'
     ·exact p.elim
    |_=>exact gen p
  |_=>exact gen (by cases y with|ref j=>exact p|ob _ _=>exact p|nest _=>exact p|d y=>cases y <;> exact p)
end EV
end
variable{M M':EV.Mm}{f fa fb fc fo fi:EV.FE}{B F G:EV.FS}{L:EV.Lc}{Z:EV.Zt}{QS:EV.Out->EV.Mm->Prop}{QG:EV.Lc->EV.Mm->Prop}{gg:EV.FG}{QO:Option Int->EV.Mm->Prop}{EX:EV.Exn->EV.Mm->Prop}
section
open PySem PySem.Spec PyProof.Rows
namespace HT
variable{prog:Program}{E:Value->Shared->Prop}
def getItem_tuple_whole{t sl:Addr}{vl vu:Value}{lo:Option Int}(ht:IsTup s.heap t items)(hs:s.heap.IsSliceOf sl vl vu .none)(pl:IsPart vl lo)(pu:IsPart vu hi)
  (hw:sIx items.size 0 lo=0/\sIx items.size items.size hi=items.size)(h:Q (.ref t) s):wpAny (model prog w) A (getItem (.ref t) (.ref sl)) Q E s:=by
 obtain⟨os,hos,hcs,hds⟩:=id hs;have hTs:s.TypeIs (.ref sl) "slice":=⟨os,hos,hcs⟩
 unfold getItem
 try with_reducible refine aBC ?_
 first|refine aAA (aAC ?_)|skip
 refine aAA (wpAny_sequenceKey ht.typeIs (by decide) ?_);refine aAA (aBL (name:=Str.ofString "__getitem__") ht.typeIs aCW
  (aBH aCW ht.typeIs entry_tuple_getitem ?_ (args_tuple_getitem _ _)))
 show wpAny _ _ (Builtin.Tuple.tupleItemsOf (.ref t) >>= _) _ _ s;refine aAA (tupleItemsOf_ ht ?_);refine aAA (aFQ hTs ?_);rw[aAG (by decide)];refine aAA (dU hs pl pu ?_);have hyes:((((sIx items.size 0 lo:Nat):Int)==0&&(1:Int)==1&&(sIx items.size items.size hi - sIx items.size 0 lo)==items.size)=true):=by
  rw[hw.1,hw.2];simp
 show wpAny _ _ (if(((sIx items.size 0 lo:Nat):Int)==0&&(1:Int)==1&&(sIx items.size items.size hi - sIx items.size 0 lo)==items.size)=true then _ else _) _ _ s;rw[aAG hyes];refine aAA (m:=Builtin.Tuple.tupleIsExact _) ?_;unfold Builtin.Tuple.tupleIsExact;refine aAA (aFQ ht.typeIs (aAC ?_));show wpAny _ _ (if((Value.type "tuple"==Value.type "tuple")=true)then _ else _) _ _ s;rw[aAG (by decide)];first
  |exact aAA (aCM (aAC ⟨_,rfl,aAC h⟩))
  |exact aAA (aCM (aAA (aAC ⟨_,rfl,aAC h⟩)))
  |exact aAA (aCM (aAA (aAC (aAC ⟨_,rfl,aAC h⟩))))
end HT
namespace EV
open L2
def kL(K:Frag):PySem.W.kitOne K (.type "NoneType") (.type "int")=some false:=by with_unfolding_all rfl
def iU(K:Frag):PySem.W.kitOne K (.type "NoneType") (.type "bool")=some false:=by with_unfolding_all rfl
def hV(K:Frag):PySem.W.kitOne K (.type "NoneType") (.type "tuple")=some false:=by with_unfolding_all rfl
def sX(K:Frag):PySem.W.kitOne K (.type "bool") (.type "int")=some true:=by with_unfolding_all rfl
def pN(K:Frag):PySem.W.kitOne K (.type "bool") (.type "bool")=some true:=by with_unfolding_all rfl
def mP(K:Frag):PySem.W.kitOne K (.type "bool") (.type "tuple")=some false:=by with_unfolding_all rfl
def vJ(K:Frag):PySem.W.kitOne K (.type "int") (.type "int")=some true:=by with_unfolding_all rfl
def sJ(K:Frag):PySem.W.kitOne K (.type "int") (.type "bool")=some false:=by with_unfolding_all rfl
def pO(K:Frag):PySem.W.kitOne K (.type "int") (.type "tuple")=some false:=by with_unfolding_all rfl
def tL(K:Frag):PySem.W.kitOne K (.type "str") (.type "int")=some false:=by with_unfolding_all rfl
def rS(K:Frag):PySem.W.kitOne K (.type "str") (.type "bool")=some false:=by with_unfolding_all rfl
def pH(K:Frag):PySem.W.kitOne K (.type "str") (.type "tuple")=some false:=by with_unfolding_all rfl
def rV(K:Frag):PySem.W.kitOne K (.type "list") (.type "int")=some false:=by with_unfolding_all rfl
def pD(K:Frag):PySem.W.kitOne K (.type "list") (.type "bool")=some false:=by with_unfolding_all rfl
def mV(K:Frag):PySem.W.kitOne K (.type "list") (.type "tuple")=some false:=by with_unfolding_all rfl
def pF(K:Frag):PySem.W.kitOne K (.type "tuple") (.type "int")=some false:=by with_unfolding_all rfl
def nQ(K:Frag):PySem.W.kitOne K (.type "tuple") (.type "bool")=some false:=by with_unfolding_all rfl
def lQ(K:Frag):PySem.W.kitOne K (.type "tuple") (.type "tuple")=some true:=by with_unfolding_all rfl
section
variable{K:Frag}{e a b o:Expr}{es:List Expr}{fs:FA}{st:Stmt}{rest:List Stmt}
def rSlA(K:Frag):V->Option Int->Option Int->Hp->VK->Prop:=λx lo hi H Q=>∃a xs,x=.ref a/\SqT K H a xs /\
 ((HT.sIx xs.length 0 lo=0/\HT.sIx xs.length xs.length hi=xs.length)->Q (.ref a) H)/\∀p,H p=none->Q (.ref p) (upd H p (.tup (cutV xs lo hi)))
def aJc:SlR X (rSlA X.K):=by
 intro pins s σ H x v vl vu lo hi sl Q I rx hs pl pu h;obtain⟨a,xs,rfl,hx,q1,q2⟩:=h;by_cases hw:HT.sIx xs.length 0 lo=0/\HT.sIx xs.length xs.length hi=xs.length
 ·cases rx
  obtain⟨its,r,ht,hz⟩:=I.tuple hx;have hlen:its.toArray.size=xs.length:=by rw[aAL];exact r.length.symm
  refine⟨"tuple",_,aCW.lookup,ht.typeIs,?_⟩;exact HT.getItem_tuple_whole ht hs pl pu (by rw[hlen];exact hw) ⟨.ref a,H,I,rfl,q1 hw⟩
 ·exact aNi pins s σ H _ v vl vu lo hi sl Q I rx hs pl pu ⟨a,xs,rfl,hx,hw,q2⟩
def aDf{xs:List D}{lo:Option Int}(h:HT.sIx xs.length 0 lo=0/\HT.sIx xs.length xs.length hi=xs.length):cut xs lo hi=xs:=by
 unfold cut;rw[h.1,h.2];simp
def iR{x:W}{lo:Option Int}{Q:VK}(hr:HR K μ H M)(rx:Rw K μ H x v)(p:Pst K Z μ H (match lr M x with
  |some xs=>okD (.lst (cut xs lo hi)) M|none=>.bad) (Wk K Q)):rSlL K v lo hi H Q:=by
 cases q1:lr M x with
 |none=>rw[q1]at p;exact p.elim
 |some xs =>
  rw[q1]at p;obtain⟨a,vs,rfl,h1,r1⟩:=aAa hr rx q1;exact⟨a,vs,rfl,h1,eF hr (zO r1) p⟩
def fN{lo hi:Option Expr}{fl fh:FO}(he:Ev X K Z e f)(hl:Eo X K Z lo fl)(hh:Eo X K Z hi fh):Ev X K Z (.Subscript e (.Slice lo hi none p2) pos) (eSl f fl fh):=by
 have h:=aFa (p2:=p2) (pos:=pos) (SlR.or (aJc (X:=X)) aLc) he.h hl.h hh.h;rw[he.k]at h;refine⟨he.k,cqE h ?_⟩;rintro σ H Q ⟨μ,M,L,hr,lr,p⟩;refine⟨μ,M,L,hr,lr,p.bind.imp λμ1 H1 M1 x e1 hr1 _ p1 v rx=>?_⟩;refine⟨μ1,M1,L,hr1,lr.ext hr.lsts e1,p1.bind.imp λμ2 H2 M2 l e2 hr2 _ p2=>?_⟩;refine⟨μ2,M2,L,hr2,lr.ext hr.lsts (e1.trans e2),p2.bind.imp λμ3 H3 M3 u e3 hr3 _ p3=>?_⟩;have rx:=rx.ext hr1.lsts (e2.trans e3);cases x with
 |ref i=>exact .inr (iR hr3 rx p3)|ob _ _=>exact .inr (iR hr3 rx p3)|nest _=>exact .inr (iR hr3 rx p3)|d x=>cases x with
  |tup xs =>
   have rx':=rx;simp only[Rw,Rp]at rx;obtain⟨a,vs,rfl,q1,r1⟩:=rx;refine .inl ⟨a,vs,rfl,SqT.of q1,λhw=>?_,iQ hr3 (zO r1) p3⟩;refine p3 μ3 H3 .refl hr3 _ ?_;rw[aDf (by rw[r1.length];exact hw)];exact rx'
  |_=>exact .inr (iR hr3 rx p3)
def isT(T:String)(M:Mm):W->Option Bool
 |.d .non=>some false|.d (.bl _)=>some (T=="bool" || T=="int")|.d (.int _)=>some (T=="int")|.d (.str _)=>some (T=="str")|.d (.tup _)=>some (T=="tuple")|.d (.lst _)=>some (T=="list")|.d (.fz _)=>none|.d (.exn _ _ _)=>none|.d (.adr _)=>none|.ref _=>some (T=="list")|.ob _ _=>none|.nest _=>none
def pIsI(T:String)(x:W)(M:Mm):Oc W:=match isT T M x with
 |some b=>.ok (.d (.bl b)) M|none=>.bad
structure KitT(T:String):Prop where
 non:∀K,PySem.W.kitOne K (.type "NoneType") (.type T)=some false
 bl:∀K,PySem.W.kitOne K (.type "bool") (.type T)=some (T=="bool" || T=="int")
 int:∀K,PySem.W.kitOne K (.type "int") (.type T)=some (T=="int")
 str:∀K,PySem.W.kitOne K (.type "str") (.type T)=some (T=="str")
 tup:∀K,PySem.W.kitOne K (.type "tuple") (.type T)=some (T=="tuple")
 lst:∀K,PySem.W.kitOne K (.type "list") (.type T)=some (T=="list")
def aFt:KitT "int":=⟨kL,sX,vJ,tL,pF,rV⟩
def zQ:KitT "bool":=⟨iU,pN,sJ,rS,nQ,pD⟩
def mM:KitT "tuple":=⟨hV,mP,pO,pH,lQ,mV⟩
def aOw{T:String}(k:KitT T){x:W}{c:Bool}(hr:HR K μ H M)(rx:Rw K μ H x v)(h:isT T M x=some c):∃t,TyOf K H v t/\PySem.W.kitOne K t (.type T)=some c:=by
 cases x with
 |ref i =>
  simp only[isT,aAS]at h;subst h;obtain⟨a,q,rfl,il⟩:=rx;obtain⟨vs,h⟩:=il;exact⟨_,.lst h,k.lst K⟩
 |ob _ _=>simp[isT]at h
 |nest _=>simp[isT]at h
 |d x=>cases x with
  |non=>simp only[isT,aAS]at h;subst h;simp only[Rw,Rp]at rx;subst rx;exact⟨_,.non,k.non K⟩
  |bl y=>simp only[isT,aAS]at h;subst h;simp only[Rw,Rp]at rx;subst rx;exact⟨_,.bl y,k.bl K⟩
  |int y=>simp only[isT,aAS]at h;subst h;simp only[Rw,Rp]at rx;subst rx;exact⟨_,.int y,k.int K⟩
  |str y=>simp only[isT,aAS]at h;subst h;simp only[Rw,Rp]at rx;subst rx;exact⟨_,.str y,k.str K⟩
  |tup y=>simp only[isT,aAS]at h;subst h;simp only[Rw,Rp]at rx;obtain⟨a,vs,rfl,q1,_⟩:=rx;exact⟨_,.tup q1,k.tup K⟩
  |lst y=>simp only[isT,aAS]at h;subst h;simp only[Rw,Rp]at rx;obtain⟨a,vs,rfl,q1,_⟩:=rx;exact⟨_,.lst q1,k.lst K⟩
  |fz y=>simp[isT]at h
  |exn c f y=>simp[isT]at h
  |adr a=>simp[isT]at h
def iF{T:String}{q:Pos}(kt:KitT T)(hm:X.mg "isinstance"=none)(hmT:X.mg x=none)(hvT:bootBuiltins x=some (.type T))(he:Ev X K Z e f)(hg:Gl X "isinstance":=by rfl)(hgT:Gl X x:=by rfl)(hn:x≠"__name__":=by decide)(hd:(x==("__debug__":Str))=false:=by decide)
  (hs:starEach [e,.Name x q] X.env=(false,eval e X.env)::starEach [.Name x q] X.env:=by rfl)(hs2:starEach [.Name x q] X.env=(false,eval (.Name x q) X.env)::starEach [] X.env:=by rfl)(hpl:(backTo pos (starEach [.Name x q] X.env)).any (·.1)=false:=by rfl) :
  Ev X K Z (.Call (.Name "isinstance" p) [e,.Name x q] [] pos) (e1 (pIsI T) f):=by
 have h:=uZ (pos:=pos) (p:=p) vM hg hm pB (bF he.h (bF (aKg (v:=.ty T) hgT hmT hvT rfl hn hd) cJ hs2) hs) (by decide) (by decide) hs hpl;rw[he.k]at h;refine⟨he.k,cqE h ?_⟩;rintro σ H Q ⟨μ,M,L,hr,lr,p⟩;refine⟨μ,M,L,hr,lr,p.bind.imp λμ1 H1 M1 x e1 hr1 _ p1 v rx=>?_⟩;unfold pIsI at p1;cases q:isT T M1 x with
 |none=>rw[q]at p1;exact p1.elim
 |some c =>
  rw[q]at p1;obtain⟨t,h1,h2⟩:=aOw kt hr1 rx q;exact⟨v,T,t,c,rfl,h1,h2,p1 μ1 H1 .refl hr1 _ (by simp[Rw,Rp])⟩
end
def whileD(t:FT)(B:FS):Nat->FS
 |0=>λ_ _=>.bad
 |n+1=>λL M=>(t L M).bind λb M1=>if b=true then(B L M1).bind λo M2=>match o with
   |.nx L2=>whileD t B n L2 M2|.ct L2=>whileD t B n L2 M2|.bk L2=>.ok (.nx L2) M2|.rt w=>.ok (.rt w) M2
  else .ok (.nx L) M1
inductive Ck
 |one (t:Nat)
 |two (t:Nat) (ys:List D)
instance:Coe Nat Ck:=⟨.one⟩
def Ck.ok(ds:List D)(M:Mm):Ck->Prop
 |.one t=>M[t]?=some ds|.two t ys=>M[t]?=some ys
structure Src where
 ds:List D
 k:Option Ck
abbrev FI:=Lc->Mm->Oc Src
def Chk(s:Src)(M:Mm):Prop:=∀t,s.k=some t->t.ok s.ds M
open Classical in
def forD(s:Src)(g:FG)(B:FS):List D->FS
 |[]=>λL M=>if Chk s M then .ok (.nx L) M else .bad
 |d::r=>λL M=>if Chk s M then(g (.d d) L M).bind λL1 M1=>(B L1 M1).bind λo M2=>match o with
   |.nx L2=>forD s g B r L2 M2|.ct L2=>forD s g B r L2 M2|.bk L2=>.ok (.nx L2) M2|.rt w=>.ok (.rt w) M2
  else .bad
def sFor(fi:FI)(g:FG)(B:FS):FS:=λL M=>(fi L M).bind λs M1=>forD s g B s.ds L M1
def ItOk(K:Frag)(μ:List Addr)(H:Hp)(s:Src)(J:It):Prop :=
 ∃S:List Addr->Hp->Prop,S μ H/\(∀μ1 H1 μ2 H2,Lsts μ1 H1->S μ1 H1->Ext μ1 H1 μ2 H2->S μ2 H2) /\
  ∀μ1 H1 M1 i,HR K μ1 H1 M1->S μ1 H1->Chk s M1 ->
   (∀d,s.ds[i]?=some d->J.go i H1/\∀x H2,J.yld i H1 x H2->Ext μ1 H1 μ1 H2/\HR K μ1 H2 M1/\Rp K μ1 H2 d x)/\(s.ds.length<=i->J.stop i H1)
def liftI(K:Frag)(Z:Zt)(fi:FI):TI:=λσ H R=>∃μ M L,HR K μ H M/\LR K μ H L σ/\Pst K Z μ H (fi L M) λμ' H' _ s=>∀J,ItOk K μ' H' s J->R J H'
structure Ei(X:Cx)(K:Frag)(Z:Zt)(tg iter:Expr)(fi:FI)(q:Prop:=False):Prop where
 k:X.K=K
 h:PI X tg iter (liftI K Z fi) q
variable{tg iter:Expr}
def cqI{t t':TI}(h:PI X tg iter t q)(i:∀σ H Q,t' σ H Q->t σ H Q):PI X tg iter t' q:=λpins s σ H Q I q=>h pins s σ H Q I (i _ _ _ q)
section
variable{K:Frag}{e a b o:Expr}{es:List Expr}{fs:FA}{st:Stmt}{rest:List Stmt}
def jK{c:Expr}{t:FT}(n:Nat)(hp:PassesOwn (model X.prog X.w) X.A X.env X.xe)(hc:Et X K Z c t)(hb:Ess X K Z body B):Es X K Z (.While c body [] pos) (whileD t B n):=by
 refine⟨hc.k,cqS (aEq hp hc.h hb.h) ?_⟩;rintro E σ H ⟨μ,M,L,hr,lr,p⟩;refine⟨λm σ H=>∃μ M L,HR K μ H M/\LR K μ H L σ/\Pst K Z μ H (whileD t B m L M) (Sk K E),⟨n,μ,M,L,hr,lr,p⟩,?_⟩;rintro m σ H ⟨μ,M,L,hr,lr,p⟩;cases m with
 |zero=>exact p.elim|succ m =>
  refine⟨μ,M,L,hr,lr,(show Pst K Z μ H ((t L M).bind _) _ from p).bind.imp λμ1 H1 M1 b e1 hr1 _ p1=>?_⟩;cases b with
  |false=>exact p1 μ1 H1 .refl hr1 σ (lr.ext hr.lsts e1)|true =>
   refine⟨λσ' H'=>∃μ M L,HR K μ H' M/\LR K μ H' L σ'/\Pst K Z μ H' (whileD t B m L M) (Sk K E),λσ' H' q=>⟨m,aEJ m,q⟩,?_⟩;refine⟨μ1,M1,L,hr1,lr.ext hr.lsts e1,(show Pst K Z μ1 H1 ((B L M1).bind _) _ from p1).bind.imp λμ2 H2 M2 o e2 hr2 _ p2=>?_⟩;cases o with
   |nx L2=>exact λσ' lr'=>⟨μ2,M2,L2,hr2,lr',p2⟩
   |ct L2=>exact λσ' lr'=>⟨μ2,M2,L2,hr2,lr',p2⟩
   |bk L2=>exact p2 μ2 H2 .refl hr2|rt w=>exact p2 μ2 H2 .refl hr2
variable{fi:FI}
def aIq{g:FG}(hp:PassesOwn (model X.prog X.w) X.A X.env X.xe)(hc:X.calm=true\/qq)(hi:Ei X K Z tg iter fi qq)(hg:Eg X K Z tg g)(hb:Ess X K Z body B)
  (hs:∀x,foldedSetIterable iter X.env x=pure x:=by intro _;rfl):Es X K Z (.For tg iter body [] pos) (sFor fi g B):=by
 refine⟨hi.k,cqS (aKi hp hc hi.h hg.h hb.h hs) ?_⟩;rintro E σ H ⟨μ,M,L,hr,lr,p⟩;refine⟨μ,M,L,hr,lr,p.bind.imp λμ1 H1 M1 s e1 hr1 _ p1 J hJ=>?_⟩;obtain⟨S,s0,sx,step⟩:=hJ;refine⟨λi m σ H=>m=s.ds.length - i/\i<=s.ds.length/\∃μ M L,HR K μ H M/\LR K μ H L σ/\S μ H/\Pst K Z μ H (forD s g B (s.ds.drop i) L M) (Sk K E),⟨s.ds.length,by simp,aCE _,μ1,M1,L,hr1,lr.ext hr.lsts e1,s0,by simpa using p1⟩,?_⟩;rintro i m σ H ⟨rfl,hi,μ,M,L,hr,lr,sS,p⟩;by_cases hlt:i < s.ds.length
 ·rw[aCI hlt]at p
  unfold forD at p;split at p
  ·rename_i hch
   obtain⟨go,yl⟩:=(step μ H M i hr sS hch).1 s.ds[i] (by simp[hlt]);refine .inr ⟨go,λσ' H'=>i+1<=s.ds.length/\∃μ M L,HR K μ H' M/\LR K μ H' L σ'/\S μ H'/\Pst K Z μ H' (forD s g B (s.ds.drop (i+1)) L M) (Sk K E),λσ' H' q=>⟨s.ds.length - (i+1),by lia,rfl,q.1,q.2⟩,λx H2 y=>?_⟩;obtain⟨e2,hr2,rx⟩:=yl x H2 y;have lr2:=lr.ext hr.lsts e2;have s2:=sx _ _ _ _ hr.lsts sS e2;refine⟨μ,M,L,.d s.ds[i],hr2,lr2,rx,(Pst.mono e2 p).bind.imp λμ3 H3 M3 L3 e3 hr3 _ p3 σ3 lr3=>?_⟩;refine⟨μ3,M3,L3,hr3,lr3,p3.bind.imp λμ4 H4 M4 o e4 hr4 _ p4=>?_⟩;have s4:=sx _ _ _ _ hr3.lsts (sx _ _ _ _ hr2.lsts s2 e3) e4;cases o with
   |nx L4=>exact λσ' lr'=>⟨hlt,μ4,M4,L4,hr4,lr',s4,p4⟩
   |ct L4=>exact λσ' lr'=>⟨hlt,μ4,M4,L4,hr4,lr',s4,p4⟩
   |bk L4=>exact p4 μ4 H4 .refl hr4|rt w=>exact p4 μ4 H4 .refl hr4
  ·exact p.elim
 ·have e:i=s.ds.length:=by lia
  subst e;rw[aEI (aAD _)]at p;unfold forD at p;split at p
  ·rename_i hch
   exact .inl ⟨(step μ H M _ hr sS hch).2 (aAD _),p μ H .refl hr σ lr⟩
  ·exact p.elim
def bP{g:FG}(hp:PassesOwn (model X.prog X.w) X.A X.env X.xe)(hc:X.calm=true)(hi:Ei X K Z tg iter fi)(hg:Eg X K Z tg g)(hb:Ess X K Z body B)
  (hs:∀x,foldedSetIterable iter X.env x=pure x:=by intro _;rfl):Es X K Z (.For tg iter body [] pos) (sFor fi g B):=aIq hp (.inl hc) hi hg hb hs
def aFk:Chk ⟨ds,none⟩ M:=λt h=>by cases h
@[simp]theorem aIj:Chk ⟨ds,none⟩ M ↔ True:=⟨λ_=>trivial,λ_=>aFk⟩
@[simp]theorem aKn{t:Nat}:Chk ⟨ds,some t⟩ M ↔ M[t]?=some ds:=⟨λh=>h t rfl,λh t' e=>by cases e;exact h⟩
def iSq(K:Frag)(tl:TE):TI:=λσ H R=>tl σ H λx H1=>∃a,x=.ref a/\(((∃xs,SqL K H1 a xs)/\R (Itl K a) H1)\/((∃xs,SqT K H1 a xs)/\R (Itt K a) H1))
def aQg{l:Expr}{tl:TE}(hl:PE X l tl):PI X tg l (iSq X.K tl) q:=by
 intro pins s σ H R I h;refine thn (hl pins s σ H _ I h) λv s1 ⟨x,H1,I1,r1,q1⟩=>?_
 obtain⟨a,e,⟨⟨xs,hq⟩,q⟩|⟨⟨xs,hq⟩,q⟩⟩:=q1
 ·subst e
  cases r1;obtain⟨its,rv,p,hz⟩:=I1.list hq;refine aHU p.isList ?_;refine⟨s1.heap.objs.size,[s1.heap.objs.size],_,_,H1,rfl,I1.kept (t':=s1.toks) λb o e=>aAB _ e,(aBz a _).weak,⟨_,aAI _ rfl,rfl,rfl⟩,λb hb=>?_,q⟩;have e:b=s1.heap.objs.size:=by simpa using hb
  subst e;exact I1.fpOk (aAD _) (I1.hok.fresh (aAD _))
 ·subst e
  cases r1;obtain⟨its,rv,p,hz⟩:=I1.tuple hq;refine aGB (show s1.heap.IsTuple a its.toArray from p) ?_;refine⟨s1.heap.objs.size,[s1.heap.objs.size],_,_,H1,rfl,I1.kept (t':=s1.toks) λb o e=>aAB _ e,(yM a _).weak,⟨_,aAI _ rfl,rfl,rfl⟩,λb hb=>?_,q⟩;have e:b=s1.heap.objs.size:=by simpa using hb
  subst e;exact I1.fpOk (aAD _) (I1.hok.fresh (aAD _))
def srcOf(M:Mm):W->Option Src
 |.d (.tup xs)=>some ⟨xs,none⟩|.d (.lst xs)=>some ⟨xs,none⟩|.d (.fz xs)=>some ⟨xs,none⟩|.ref t=>(M[t]?).map λxs=>⟨xs,some t⟩
 |_=>none
def iE(f:FE):FI:=λL M=>(f L M).bind λw M1=>match srcOf M1 w with
 |some s=>.ok s M1|none=>.bad
variable{s:Src}
def yV{a:Addr}(S:List Addr->Hp->Prop)(s0:S μ H)(sx:∀μ1 H1 μ2 H2,Lsts μ1 H1->S μ1 H1->Ext μ1 H1 μ2 H2->S μ2 H2)
  (rd:∀μ1 H1 M1,HR K μ1 H1 M1->S μ1 H1->Chk s M1->∃vs,SqL K H1 a vs/\Rps K μ1 H1 s.ds vs):ItOk K μ H s (Itl K a):=by
 refine⟨S,s0,sx,λμ1 H1 M1 i hr hS hc=>?_⟩;obtain⟨vs,h1,r1⟩:=rd μ1 H1 M1 hr hS hc;refine⟨λd hd=>?_,λhl=>⟨vs,h1,by rw[<- r1.length];exact hl⟩⟩;obtain⟨v,q1,q2⟩:=r1.get hd;refine⟨⟨vs,v,h1,q1⟩,λx H2 y=>?_⟩;obtain⟨rfl,y⟩:=y;have:=y vs h1;rw[q1]at this;cases this;exact⟨.refl,hr,q2⟩
def aNl{a:Addr}(S:List Addr->Hp->Prop)(s0:S μ H)(sx:∀μ1 H1 μ2 H2,Lsts μ1 H1->S μ1 H1->Ext μ1 H1 μ2 H2->S μ2 H2)
  (rd:∀μ1 H1 M1,HR K μ1 H1 M1->S μ1 H1->Chk s M1->∃vs,SqT K H1 a vs/\Rps K μ1 H1 s.ds vs):ItOk K μ H s (Itt K a):=by
 refine⟨S,s0,sx,λμ1 H1 M1 i hr hS hc=>?_⟩;obtain⟨vs,h1,r1⟩:=rd μ1 H1 M1 hr hS hc;refine⟨λd hd=>?_,λhl=>⟨vs,h1,by rw[<- r1.length];exact hl⟩⟩;obtain⟨v,q1,q2⟩:=r1.get hd;refine⟨⟨vs,v,h1,q1⟩,λx H2 y=>?_⟩;obtain⟨rfl,y⟩:=y;have:=y vs h1;rw[q1]at this;cases this;exact⟨.refl,hr,q2⟩
def iC{d:D}:∀μ1 H1 μ2 H2,Lsts μ1 H1->Rp K μ1 H1 d v->Ext μ1 H1 μ2 H2->Rp K μ2 H2 d v:=λμ1 H1 μ2 H2 l h e=>Rp.ext l e d v h
def gX(h:Ev X K Z e f):Ei X K Z tg e (iE f) qq:=by
 have h':=aQg (q:=qq) (tg:=tg) h.h;rw[h.k]at h';refine⟨h.k,cqI h' ?_⟩;rintro σ H R ⟨μ,M,L,hr,lr,p⟩;refine⟨μ,M,L,hr,lr,p.bind.imp λμ1 H1 M1 w e1 hr1 _ p1 v rw'=>?_⟩;cases w with
 |ref t =>
  simp only[srcOf]at p1;cases q:M1[t]? with
  |none=>simp only[q,Option.map_none]at p1;exact p1.elim
  |some xs =>
   simp only[q,aEO]at p1;obtain⟨a,qa,rfl,il⟩:=rw';obtain⟨a',vs,qa',h1,r1⟩:=hr1.at q qa;rw[qa]at qa';cases qa';refine⟨a,rfl,.inl ⟨⟨vs,SqL.of h1⟩,p1 μ1 H1 .refl hr1 _ ?_⟩⟩;refine yV (λμ2 H2=>μ2[t]?=some a/\IsL H2 a) ⟨qa,il⟩ (λμ1 H1 μ2 H2 _ z e=>⟨e.pre _ _ z.1,z.2.ext e⟩) λμ2 H2 M2 hr2 z c=>?_
   obtain⟨a',vs,qa',h1,r1⟩:=hr2.at (c t rfl) z.1 z.2;rw[z.1]at qa';cases qa';exact⟨vs,SqL.of h1,r1⟩
 |ob _ _=>exact p1.elim|nest _=>exact p1.elim|d x =>
  cases x with
  |tup xs =>
   have rw2:=rw';simp only[Rw,Rp]at rw';obtain⟨a,vs,rfl,h1,r1⟩:=rw';refine⟨a,rfl,.inr ⟨⟨vs,SqT.of h1⟩,p1 μ1 H1 .refl hr1 _ ?_⟩⟩;refine aNl (λμ2 H2=>Rp K μ2 H2 (.tup xs) (.ref a)) rw2 iC λμ2 H2 M2 hr2 z c=>?_
   simp only[Rp]at z;obtain⟨a',vs,e,h1,r1⟩:=z;cases e;exact⟨vs,SqT.of h1,r1⟩
  |lst xs =>
   have rw2:=rw';simp only[Rw,Rp]at rw';obtain⟨a,vs,rfl,h1,_,r1⟩:=rw';refine⟨a,rfl,.inl ⟨⟨vs,SqL.of h1⟩,p1 μ1 H1 .refl hr1 _ ?_⟩⟩;refine yV (λμ2 H2=>Rp K μ2 H2 (.lst xs) (.ref a)) rw2 iC λμ2 H2 M2 hr2 z c=>?_
   simp only[Rp]at z;obtain⟨a',vs,e,h1,_,r1⟩:=z;cases e;exact⟨vs,SqL.of h1,r1⟩
  |fz xs =>
   have rw2:=rw';simp only[Rw,Rp]at rw';obtain⟨a,vs,rfl,h1,r1⟩:=rw';refine⟨a,rfl,.inl ⟨⟨vs,h1.sq⟩,p1 μ1 H1 .refl hr1 _ ?_⟩⟩;refine yV (λμ2 H2=>Rp K μ2 H2 (.fz xs) (.ref a)) rw2 iC λμ2 H2 M2 hr2 z c=>?_
   simp only[Rp]at z;obtain⟨a',vs,e,h1,r1⟩:=z;cases e;exact⟨vs,h1.sq,r1⟩
  |_=>exact p1.elim
def rngD(lo:Int)(n:Nat):List D:=(List.range n).map λk=>D.int (lo+(k:Nat))
variable{lo:Int}
def cE{d:D}(h:(rngD lo n)[i]?=some d):i < n/\d=.int (lo+i):=by
 unfold rngD at h;rw[aAV]at h;by_cases hi:i < n
 ·rw[aJD hi]at h;simp at h;exact⟨hi,h.symm⟩
 ·rw[aGK (by simpa using hi)]at h;cases h
def aHk :ItOk K μ H ⟨rngD lo n,none⟩ (Itr lo n):=by
 refine⟨λ_ _=>True,trivial,λ_ _ _ _ _ _ _=>trivial,λμ1 H1 M1 i hr _ _=>⟨λd hd=>?_,λhl=>by simp only[rngD,aAM,aHW]at hl;exact hl⟩⟩;obtain⟨hi,rfl⟩:=cE hd;refine⟨hi,λx H2 y=>?_⟩;obtain⟨rfl,rfl⟩:=y;exact⟨.refl,hr,by simp[Rp]⟩
noncomputable def in62(i:Int):Bool:=decide (-4611686018427387904<=i/\i < 4611686018427387904)
def iR1(f:FE):FI:=λL M=>(f L M).bind λw M1=>match w with
 |.d (.int j)=>if in62 j=true then .ok ⟨rngD 0 j.toNat,none⟩ M1 else .bad
 |_=>.bad
def iR2(f g:FE):FI:=λL M=>(f L M).bind λw M1=>(g L M1).bind λu M2=>match w,u with
 |.d (.int i),.d (.int j)=>if in62 i=true/\in62 j=true then .ok ⟨rngD i (j - i).toNat,none⟩ M2 else .bad
 |_,_=>.bad
def cO(hm:X.mg "range"=none)(ha:Ev X K Z a f)(hg:Gl X "range":=by rfl)(hs:starEach [a] X.env=[(false,eval a X.env)]:=by rfl):Ei X K Z tg (.Call (.Name "range" p) [a] [] pos) (iR1 f) qq:=by
 refine⟨ha.k,cqI (aBr hg hm (bF ha.h cJ hs) hs) ?_⟩;rintro σ H R ⟨μ,M,L,hr,lr,p⟩;refine⟨μ,M,L,hr,lr,p.bind.imp λμ1 H1 M1 w e1 hr1 _ p1 v rw'=>?_⟩;cases w with
 |ref i=>exact p1.elim|ob _ _=>exact p1.elim|nest _=>exact p1.elim|d x=>cases x with
  |int j =>
   simp only at p1;split at p1
   ·rename_i hz
    simp only[in62,aBO]at hz;simp only[Rw,Rp]at rw';subst rw';exact⟨j,rfl,hz.1,hz.2,p1 μ1 H1 .refl hr1 _ aHk⟩
   ·exact p1.elim
  |_=>exact p1.elim
def jT(hm:X.mg "range"=none)(ha:Ev X K Z a fa)(hb:Ev X K Z b fb)(hg:Gl X "range":=by rfl)(hs:starEach [a,b] X.env=[(false,eval a X.env),(false,eval b X.env)]:=by rfl)(hs2:starEach [b] X.env=[(false,eval b X.env)]:=by rfl) :
  Ei X K Z tg (.Call (.Name "range" p) [a,b] [] pos) (iR2 fa fb) qq:=by
 refine⟨ha.k,cqI (aDp hg hm (bF ha.h (bF hb.h cJ hs2) (by rw[hs,hs2])) hs hs2) ?_⟩;rintro σ H R ⟨μ,M,L,hr,lr,p⟩;refine⟨μ,M,L,hr,lr,p.bind.imp λμ1 H1 M1 w e1 hr1 _ p1 v rw'=>?_⟩;refine⟨μ1,M1,L,hr1,lr.ext hr.lsts e1,p1.bind.imp λμ2 H2 M2 u e2 hr2 _ p2 v2 ru=>?_⟩;have rw':=rw'.ext hr1.lsts e2;cases w with
 |ref i=>exact p2.elim|ob _ _=>exact p2.elim|nest _=>exact p2.elim|d x=>cases x with
  |int i=>cases u with
   |ref j=>exact p2.elim|ob _ _=>exact p2.elim|nest _=>exact p2.elim|d y=>cases y with
    |int j =>
     simp only at p2;split at p2
     ·rename_i hz
      simp only[in62,aBO]at hz;simp only[Rw,Rp]at rw' ru;subst rw' ru;exact⟨i,j,rfl,⟨hz.1.1,hz.1.2,hz.2.1,hz.2.2⟩,p2 μ2 H2 .refl hr2 _ aHk⟩
     ·exact p2.elim
    |_=>exact p2.elim
  |_=>exact p2.elim
end
section
variable{K:Frag}{μ2:List Addr}{M2:Mm}
def Ext.back(e:Ext μ H μ2 H2):Ext μ H μ H2:=⟨e.keep,λa h=>.inl h,λ_ _ h=>h,e.kin⟩
def Ext.take(e:Ext μ H μ2 H2):μ2.take μ.length=μ:=by
 apply aJW;intro i;rw[aJL];split
 ·rename_i hi
  have:=e.pre i μ[i] (by simp[hi]);rw[this];simp[hi]
 ·rename_i hi
  rw[aGK (by lia)]
mutual
def Rp.sub(hs:∀a,a∈μ1->a∈μ):∀(d:D) (v:V),Rp K μ H d v->Rp K μ1 H d v
 |.non,v,h=>by simpa[Rp]using h|.bl b,v,h=>by simpa[Rp]using h|.int b,v,h=>by simpa[Rp]using h|.str b,v,h=>by simpa[Rp]using h|.tup ds,v,h=>by simp only[Rp]at h ⊢;obtain⟨a,vs,e1,e2,e3⟩:=h;exact⟨a,vs,e1,e2,Rps.sub hs ds vs e3⟩
 |.lst ds,v,h=>by simp only[Rp]at h ⊢;obtain⟨a,vs,e1,e2,n,e3⟩:=h;exact⟨a,vs,e1,e2,λz=>n (hs a z),Rps.sub hs ds vs e3⟩
 |.fz ds,v,h=>by simp only[Rp]at h ⊢;obtain⟨a,vs,e1,e2,e3⟩:=h;exact⟨a,vs,e1,e2,Rps.sub hs ds vs e3⟩
 |.exn c f ds,v,h=>by simp only[Rp]at h ⊢;obtain⟨a,vs,C,LE,d,e1,e2,e3,e4,e5⟩:=h;exact⟨a,vs,C,LE,d,e1,e2,e3,e4,Rps.sub hs ds vs e5⟩
 |.adr a,v,h=>by simpa[Rp]using h
def Rps.sub(hs:∀a,a∈μ1->a∈μ):∀(ds:List D) (vs:List V),Rps K μ H ds vs->Rps K μ1 H ds vs
 |[],vs,h=>by simpa[Rps]using h|d::ds,vs,h=>by simp only[Rps]at h ⊢;obtain⟨v,r,e1,e2,e3⟩:=h;exact⟨v,r,e1,Rp.sub hs d v e2,Rps.sub hs ds r e3⟩
end
def Frs.sub(hs:∀a,a∈μ1->a∈μ):∀{ds:List D} {fs:List (Str×V)},Frs K μ H ds fs->Frs K μ1 H ds fs
 |[],_,h=>h|_::_,_,⟨f,x,v,r,e1,e2,e3,e4⟩=>⟨f,x,v,r,e1,e2,Rp.sub hs _ _ e3,Frs.sub hs e4⟩
def Krs.sub(hs:∀a,a∈μ1->a∈μ):∀{ds:List D} {fs:List (List Key×V)},Krs K μ H ds fs->Krs K μ1 H ds fs
 |[],_,h=>h|_::_,_,⟨f,x,v,r,e1,e2,e3,e4⟩=>⟨f,x,v,r,e1,e2,Rp.sub hs _ _ e3,Krs.sub hs e4⟩
def Kns.sub(hs:∀a,a∈μ1->a∈μ):∀{ds:List D} {fs:List (Key×V)},Kns K μ H ds fs->Kns K μ1 H ds fs
 |[],_,h=>h|_::_,_,⟨f,x,v,r,e1,e2,e3,e4⟩=>⟨f,x,v,r,e1,e2,Rp.sub hs _ _ e3,Kns.sub hs e4⟩
def CelO.sub(hs:∀a,a∈μ1->a∈μ)(h:CelO K μ H o ds):CelO K μ1 H o ds:=by
 cases o with
 |frz ob u=>cases u <;> first|exact h.elim|exact let⟨es,a,b⟩:=h;⟨es,a,Krs.sub hs b⟩
 |_=>first|exact h.elim|exact Rps.sub hs _ _ h|exact Krs.sub hs h|exact Kns.sub hs h|exact Frs.sub hs h
def HR.back(h:HR K μ2 H2 M2)(e:Ext μ H μ2 H2):HR K μ H2 (M2.take μ.length):=by
 have ht:=e.take;have hsub:∀a,a∈μ->a∈μ2:=λa ha=>by rw[<- ht]at ha;exact aCZ ha
 have hlen:μ.length<=μ2.length:=by have:=congrArg List.length ht;simp at this;lia
 refine⟨by rw[aDT,<- h.len];lia,by rw[<- ht];exact h.nd.sublist (aJU _ _),λi a ds q1 q2=>?_⟩;rw[aJL]at q2;split at q2
 ·obtain⟨vs,q3,q4⟩:=h.ent i a ds (e.pre i a q1) q2
  exact⟨vs,q3,CelO.sub hsub q4⟩
 ·cases q2
def nestD(n:Nat)(M:Mm):List Nat->Option (List D)
 |[]=>some []|j::js=>if j < n then none else match M[j]?,nestD n M js with
  |some xs,some r=>some (.lst xs::r)|_,_=>none
def retc(n:Nat)(w:W)(M:Mm):Oc W:=match w with
 |.d x=>.ok (.d x) (M.take n)|.ref i=>if i < n then .ok (.ref i) (M.take n)else match M[i]? with
  |some ds=>.ok (.d (.lst ds)) (M.take n)|none=>.bad
 |.ob c i=>if i < n then .ok (.ob c i) (M.take n)else .bad
 |.nest (.ls js)=>match nestD n M js with
  |some ds=>.ok (.d (.lst ds)) (M.take n)|none=>.bad
 |.nest (.pr x i)=>if i < n then .bad else match M[i]? with
  |some ds=>.ok (.d (.tup [x,.lst ds])) (M.take n)|none=>.bad
variable{a:Addr}
def HR.fresh(hr1:HR K μ2 H2 M2)(e1:Ext μ H μ2 H2)(qa:μ2[i]?=some a)(hi:¬i < μ.length):a∉μ:=λha=>by
 obtain⟨j,hj,ej⟩:=aCK.mp ha;have h2:=e1.pre j a (by rw[<- ej];simp[hj]);have l1:=(aAF.mp qa).1;have l2:=(aAF.mp h2).1;have g1:=(aAF.mp qa).2;have g2:=(aAF.mp h2).2;have pw:=aBD.mp hr1.nd;exact pw j i l2 l1 (by lia) (g2.trans g1.symm)
def qT{n:Nat}(hn:n=μ.length)(e1:Ext μ H μ2 H2)(hr1:HR K μ2 H2 M2)(hsub:∀a,a∈μ->a∈μ2):∀{js:List Nat} {vs:List V} {ds:List D},Rjs μ2 H2 js vs->nestD n M2 js=some ds->Rps K μ H2 ds vs
 |[],vs,ds,h,q=>by cases h;simp only[nestD,aAS]at q;subst q;exact .nil
 |j::js,vs,ds,⟨a,r,e1',e2,e3,e4⟩,q=>by
  subst e1';simp only[nestD]at q;split at q
  ·cases q
  ·rename_i hj
   cases q1:M2[j]? with
   |none=>rw[q1]at q;cases q
   |some xs =>
    cases q2:nestD n M2 js with
    |none=>rw[q1,q2]at q;cases q
    |some r' =>
     rw[q1,q2]at q;cases q;obtain⟨a',us,qa',h1,r1⟩:=hr1.at q1 e2 e3;rw[e2]at qa';cases qa';refine .cons ?_ (qT hn e1 hr1 hsub e4 q2);simp only[Rp];exact⟨a,us,rfl,h1,hr1.fresh e1 e2 (by lia),Rps.sub hsub _ _ r1⟩
variable{Q:VK}
def pX{w:W}(hr:HR K μ H M)(e1:Ext μ H μ2 H2)(hr1:HR K μ2 H2 M2)(hw:(∃c i,w=.ob c i)\/∃js,w=.nest js)(rv:Rw K μ2 H2 w v)(p:Pst K Z μ H (retc M.length w M2) (Wk K Q)):Q v H2:=by
 have hb:=hr1.back e1;rw[hr.len]at hb;have hsub:∀a,a∈μ->a∈μ2:=λa ha=>by rw[<- e1.take]at ha;exact aCZ ha
 rcases hw with⟨c,i,rfl⟩|⟨js,rfl⟩
 ·simp only[retc]at p
  split at p
  ·rename_i hi
   obtain⟨a,qa,rfl,il⟩:=rv;refine p μ H2 e1.back hb _ ⟨a,?_,rfl,il⟩;rw[<- hr.len]at hi;have:=e1.pre i μ[i] (by simp[hi]);rw[qa]at this;cases this;simp[hi]
  ·exact p.elim
 ·cases js with
  |ls js =>
   simp only[retc]at p;cases q:nestD M.length M2 js with
   |none=>rw[q]at p;exact p.elim
   |some ds =>
    rw[q]at p;obtain⟨a,vs,rfl,h1,hna,hj⟩:=rv;refine p μ H2 e1.back hb _ ?_;simp only[Rw,Rp];exact⟨a,vs,rfl,h1,λz=>hna (hsub a z),qT hr.len.symm e1 hr1 hsub hj q⟩
  |pr x i =>
   simp only[retc]at p;split at p
   ·exact p.elim
   ·rename_i hi
    cases q:M2[i]? with
    |none=>rw[q]at p;exact p.elim
    |some ds =>
     rw[q]at p;obtain⟨a,vs,rfl,h1,v,b,rfl,rp,mb,il⟩:=rv;obtain⟨a',us,qa',h2,r1⟩:=hr1.at q mb il;rw[mb]at qa';cases qa';refine p μ H2 e1.back hb _ ?_;simp only[Rw,Rp];refine⟨a,_,rfl,h1,.cons (Rp.sub hsub _ _ rp) (.cons ?_ .nil)⟩;simp only[Rp];exact⟨b,us,rfl,h2,hr1.fresh e1 mb (by rw[hr.len];exact hi),Rps.sub hsub _ _ r1⟩
def aKj{w:W}{z:D}:retc n w M≠.ex z M':=λe=>by
 unfold retc at e
 repeat' split at e
 all_goals cases e
def vS{w:W}(hr:HR K μ H M)(e1:Ext μ H μ2 H2)(hr1:HR K μ2 H2 M2)(rv:Rw K μ2 H2 w v)(p:Pst K Z μ H (retc M.length w M2) (Wk K Q)):Q v H2:=by
 have hb:=hr1.back e1;rw[hr.len]at hb;have hsub:∀a,a∈μ->a∈μ2:=λa ha=>by rw[<- e1.take]at ha;exact aCZ ha
 cases w with
 |ob c i=>exact pX hr e1 hr1 (.inl ⟨_,_,rfl⟩) rv p|nest c=>exact pX hr e1 hr1 (.inr ⟨_,rfl⟩) rv p|d x=>exact p μ H2 e1.back hb v (Rp.sub hsub x v rv)|ref i =>
  simp only[retc]at p;obtain⟨a,qa,rfl,il⟩:=rv;by_cases hi:i < M.length
  ·rw[aAG hi]at p
   refine p μ H2 e1.back hb _ ⟨a,?_,rfl,il⟩;rw[<- hr.len]at hi;rw[<- e1.take,aHG hi];exact qa
  ·rw[aAH hi]at p
   cases q2:M2[i]? with
   |none=>rw[q2]at p;exact p.elim
   |some ds =>
    rw[q2]at p;obtain⟨a',vs',qa',h1,r1⟩:=hr1.at q2 qa il;rw[qa]at qa';cases qa';refine p μ H2 e1.back hb _ ?_;simp only[Rw,Rp];exact⟨a,vs',rfl,h1,hr1.fresh e1 qa (by rw[hr.len];exact hi),Rps.sub hsub _ _ r1⟩
def wF(hr:HR K μ H M)(e1:Ext μ H μ2 H2)(hr1:HR K μ2 H2 M2)(hi:M.length<=i)(q2:M2[i]?=some ds)(qa:μ2[i]?=some a)(h1:H2 a=some o)(r1:CelO K μ2 H2 o ds):Ext μ H (μ++[a]) H2/\HR K (μ++[a]) H2 (M2.take M.length++[ds]):=by
 have hb:=hr1.back e1;rw[hr.len]at hb;have hsub2:∀b,b∈μ++[a]->b∈μ2:=λb hb=>by
  rcases aCH.mp hb with hb|hb
  ·rw[<- e1.take]at hb;exact aCZ hb
  ·rw[aBP]at hb;subst hb;exact aAQ qa
 refine⟨⟨e1.keep,λb hb=>e1.new b (hsub2 b hb),λj b hj=>by rw[aAW (aAF.mp hj).1];exact hj,e1.kin⟩,by simp[hb.len],aGG.mpr ⟨hb.nd,by simp,λb hb' c hc=>by rw[aBP]at hc;subst hc;rintro rfl;exact hr1.fresh e1 qa (by rw[hr.len];lia) hb'⟩,λj b es q1 q3=>?_⟩;by_cases hj:j < μ.length
 ·rw[aAW hj]at q1
  rw[aAW (by rw[<- hb.len];exact hj),aJL]at q3;split at q3
  ·obtain⟨us,q4,q5⟩:=hr1.ent j b es (e1.pre j b q1) q3
   exact⟨us,q4,CelO.sub hsub2 q5⟩
  ·cases q3
 ·have hj':j=μ.length:=by have:=(aAF.mp q1).1;simp at this;lia
  subst hj';rw[aBU (aAD _)]at q1;rw[hb.len,aBU (aAD _)]at q3;simp at q1 q3;subst q1 q3;exact⟨_,h1,CelO.sub hsub2 r1⟩
end
def outL(js:List (Option Nat))(L:Lc):Lc:=js.map λo=>o.bind λj=>(L[j]?).join
open Classical in
def compD(t:Nat)(s:Src)(g:FG)(c:FT)(f:FE):List D->Lc->Mm->Oc Unit
 |[]=>λ_ M=>if Chk s M then .ok () M else .bad
 |d::r=>λL M=>if Chk s M then(g (.d d) L M).bind λL1 M1=>(c L1 M1).bind λb M2=>if b=true then(f L1 M2).bind λw M3=>match w,M3[t]? with
   |.d x,some acc=>if acc.length < 16777216 then compD t s g c f r L1 (M3.set t (acc++[x]))else .bad
   |_,_=>.bad
   else compD t s g c f r L1 M2
  else .bad
def compT(js:List (Option Nat))(fi:FI)(g:FG)(c:FT)(f:FE)(L:Lc)(M:Mm):Oc (List D):=(fi L M).bind λs M1=>match compD M1.length s g c f s.ds (outL js L) (M1++[[]])with
 |.ok _ M2=>match M2[M1.length]? with
  |some acc=>.ok acc (M2.take M1.length)|none=>.bad
 |_=>.bad
def eComp(js:List (Option Nat))(fi:FI)(g:FG)(c:FT)(f:FE):FE:=λL M=>(compT js fi g c f L M).bind λacc M1=>.ok (.d (.lst acc)) M1
noncomputable def tYes:FT:=λ_ M=>.ok true M
structure Eif(X:Cx)(K:Frag)(Z:Zt)(ifs:List Expr)(t:FT):Prop where
 k:X.K=K
 h:PIf X ifs (liftT K Z t)
section
variable{K:Frag}{e a b o:Expr}{es:List Expr}{fs:FA}{st:Stmt}{rest:List Stmt}
def cM(hk:X.K=K:=by rfl):Eif X K Z [] tYes:=⟨hk,λpins s σ H Q I ⟨μ,M,L,hr,lr,p⟩=>aKw pins s σ H Q I (p μ H .refl hr)⟩
def aJv{c:Expr}{t:FT}(h:Et X K Z c t):Eif X K Z [c] t:=⟨h.k,aJt h.h⟩
variable{σ:St}
def LR.out(h:LR K μ H L σ):LR K μ H (outL js L) (outσ js σ)where
 len:=by simp[outL,outσ]
 ent:=λi w q=>by
  unfold outL at q;unfold outσ;rw[aAV]at q ⊢;cases e:js[i]? with
  |none=>rw[e]at q;cases q
  |some oj =>
   rw[e]at q;cases oj with
   |none=>simp at q
   |some j =>
    simp only[aEO,Option.bind_some,aAS]at q ⊢;cases e2:L[j]? with
    |none=>rw[e2]at q;cases q
    |some ow =>
     rw[e2]at q;simp at q;subst q;obtain⟨v,q1,q2⟩:=h.ent j w e2;exact⟨v,by rw[q1];rfl,q2⟩
variable{c:FT}
def aFg{Zi:Zt}{s:Src}{g:FG}{Dt:Addr}{Q:Hp->Prop}(n:Nat)(μ0:List Addr)(H0:Hp)(e0:Ext μ0 H0 μ H)(hn:μ0.length=n)(hD:μ[n]?=some Dt)(hIL:IsL H Dt)
  (hr:HR K μ H M)(lr:LR K μ H L σ)(hJ:ItOk K μ H s J)
  (p:match compD n s g c f s.ds L M with
   |.ok _ M2=>∀μ2 H2,Ext μ H μ2 H2->HR K μ2 H2 M2->Q H2|.ex z M2=>Zi.z z M2 μ H|.bad=>False):tTurns J (liftG K Zi g) (liftT K Zi c) (lift K Zi f) Dt σ H Q:=by
 obtain⟨S,s0,sx,step⟩:=hJ
 let R:List Addr->Hp->Lc->Mm->List D->Prop:=λμ1 H1 L M rest=>match compD n s g c f rest L M with
   |.ok _ M2=>∀μ2 H2,Ext μ1 H1 μ2 H2->HR K μ2 H2 M2->Q H2|.ex z M2=>Zi.z z M2 μ1 H1|.bad=>False
 refine⟨λi m σ H1=>m=s.ds.length - i/\i<=s.ds.length/\∃μ1 M L,Ext μ0 H0 μ1 H1/\(μ1[n]?=some Dt/\IsL H1 Dt)/\HR K μ1 H1 M/\LR K μ1 H1 L σ/\S μ1 H1/\R μ1 H1 L M (s.ds.drop i),⟨s.ds.length,by simp,aCE _,μ,M,L,e0,⟨hD,hIL⟩,hr,lr,s0,by simpa[R]using p⟩,?_⟩;rintro i m σ H1 ⟨rfl,hi,μ1,M,L,e1,⟨hD1,hI1⟩,hr,lr,sS,p⟩;by_cases hlt:i < s.ds.length
 ·simp only[R]at p
  rw[aCI hlt]at p;unfold compD at p;by_cases hch:Chk s M
  ·rw[aAG hch]at p
   obtain⟨go,yl⟩:=(step μ1 H1 M i hr sS hch).1 s.ds[i] (by simp[hlt]);refine .inr ⟨go,λσ' H'=>i+1<=s.ds.length/\∃μ1 M L,Ext μ0 H0 μ1 H'/\(μ1[n]?=some Dt/\IsL H' Dt)/\HR K μ1 H' M/\LR K μ1 H' L σ'/\S μ1 H'/\R μ1 H' L M (s.ds.drop (i+1)),λσ' H' q=>⟨s.ds.length - (i+1),by lia,rfl,q.1,q.2⟩,λx H2 y=>?_⟩;obtain⟨e2,hr2,rx⟩:=yl x H2 y;have lr2:=lr.ext hr.lsts e2;have s2:=sx _ _ _ _ hr.lsts sS e2;refine⟨μ1,M,L,.d s.ds[i],hr2,lr2,rx,?_⟩;cases q3:g (.d s.ds[i]) L M with
   |bad=>rw[q3]at p;exact p.elim
   |ex z M2=>rw[q3]at p;exact Zi.mono e2 p
   |ok L3 M3 =>
    rw[q3]at p;intro μ3 H3 e3 hr3 σ3 lr3;refine⟨μ3,M3,L3,hr3,lr3,?_⟩;simp only[bI]at p;have s3:=sx _ _ _ _ hr2.lsts s2 e3;cases q4:c L3 M3 with
    |bad=>rw[q4]at p;exact p.elim
    |ex z M2=>rw[q4]at p;exact Zi.mono (e2.trans e3) p
    |ok b M4 =>
     rw[q4]at p;intro μ4 H4 e4 hr4;simp only[bI]at p;have s4:=sx _ _ _ _ hr3.lsts s3 e4;have lr4:=lr3.ext hr3.lsts e4;have E4:=((e1.trans e2).trans e3).trans e4;have D4:=e4.pre _ _ (e3.pre _ _ (e2.pre _ _ hD1));cases b with
     |false =>
      refine⟨hlt,μ4,M4,L3,E4,⟨D4,hI1.ext ((e2.trans e3).trans e4)⟩,hr4,lr4,s4,?_⟩;simp only[R];simp only[aAT,aBW]at p;cases q5:compD n s g c f (s.ds.drop (i+1)) L3 M4 with
      |ok u M5=>rw[q5]at p;exact λμ5 H5 e5 hr5=>p μ5 H5 (((e2.trans e3).trans e4).trans e5) hr5
      |ex z M5=>rw[q5]at p;exact Zi.mono ((e2.trans e3).trans e4) p
      |bad=>rw[q5]at p;exact p
     |true =>
      simp only[aBM]at p;refine⟨μ4,M4,L3,hr4,lr4,?_⟩;cases q5:f L3 M4 with
      |bad=>rw[q5]at p;exact p.elim
      |ex z M2=>rw[q5]at p;exact Zi.mono ((e2.trans e3).trans e4) p
      |ok w M5 =>
       rw[q5]at p;intro μ5 H5 e5 hr5 v rw';simp only[bI]at p;cases w with
       |ref k=>exact p.elim|ob _ _=>exact p.elim|nest _=>exact p.elim|d x =>
        cases q6:M5[n]? with
        |none=>rw[q6]at p;exact p.elim
        |some acc =>
         rw[q6]at p;simp only at p;by_cases hz:acc.length < 16777216
         ·rw[aAG hz]at p
          have D5:=e5.pre _ _ D4;have I5:=hI1.ext (((e2.trans e3).trans e4).trans e5);obtain⟨a',vs,qa',h1,r1⟩:=hr5.at q6 D5;rw[D5]at qa';cases qa';refine⟨vs,h1,by rw[<- r1.length,aBE];exact hz,hlt,μ5,M5.set n (acc++[x]),L3,(E4.trans e5).trans (bQ D5),⟨D5,_,aS⟩,hr5.set D5 (r1.append (.cons rw' .nil)),?_,?_,?_⟩
          ·exact(lr4.ext hr4.lsts e5).ext hr5.lsts (bQ D5)
          ·exact sx _ _ _ _ hr5.lsts (sx _ _ _ _ hr4.lsts s4 e5) (bQ D5)
          ·simp only[R]
           cases q7:compD n s g c f (s.ds.drop (i+1)) L3 (M5.set n (acc++[x]))with
           |ok u M6=>rw[q7]at p;exact λμ6 H6 e6 hr6=>p μ6 H6 (((((e2.trans e3).trans e4).trans e5).trans (bQ D5)).trans e6) hr6
           |ex z M6=>rw[q7]at p;exact Zi.mono ((((e2.trans e3).trans e4).trans e5).trans (bQ D5)) p
           |bad=>rw[q7]at p;exact p
         ·rw[aAH hz]at p;exact p.elim
  ·rw[aAH hch]at p;exact p.elim
 ·have e:i=s.ds.length:=by lia
  subst e;simp only[R]at p;rw[aEI (aAD _)]at p;unfold compD at p;by_cases hch:Chk s M
  ·rw[aAG hch]at p
   exact .inl ⟨(step μ1 H1 M _ hr sS hch).2 (aAD _),p μ1 H1 .refl hr⟩
  ·rw[aAH hch]at p;exact p.elim
variable{fi:FI}
def aHc{g:FG}{Q:VK}(h:∃μ M L,HR K μ H M/\LR K μ H L σ/\Pst K Z μ H (compT js fi g c f L M) λμ' H' M' acc=>∀q vs,H' q=some (.lst vs)->q∉μ'->Rps K μ' H' acc vs->Q (.ref q) H') :
  tComp js (liftI K Z fi) (liftG K Z0 g) (liftT K Z0 c) (lift K Z0 f) σ H Q:=by
 obtain⟨μ,M,L,hr,lr,p⟩:=h;refine⟨μ,M,L,hr,lr,p.bind.imp λμ1 H1 M1 s e1 hr1 _ p1 J hJ Dt hDt=>?_⟩;have x:=zB (vs:=[]) hr1 hDt;have hlen:=hr1.len;obtain⟨S,s0,sx,step⟩:=hJ;refine aFg (M:=M1++[[]]) M1.length μ1 H1 x hr1.len (by rw[<- hlen];simp) ⟨_,aS⟩ (hr1.new hDt .nil) (LR.out ((lr.ext hr.lsts e1).ext hr1.lsts x)) ⟨S,sx _ _ _ _ hr1.lsts s0 x,sx,step⟩ ?_;cases q:compD M1.length s g c f s.ds (outL js L) (M1++[[]])with
 |bad=>simp only[q]at p1;exact p1.elim
 |ex z M2=>simp only[q]at p1;exact p1.elim
 |ok u M2 =>
  simp only[q]at p1;intro μ2 H2 e2 hr2;cases q2:M2[M1.length]? with
  |none=>simp only[q2]at p1;exact p1.elim
  |some acc =>
   simp only[q2]at p1;have E:=x.trans e2;have hb:=hr2.back E;rw[hlen]at hb;have hD2:μ2[M1.length]?=some Dt:=e2.pre _ _ (by rw[<- hlen];simp);obtain⟨a',vs,qa',h1,r1⟩:=hr2.at q2 hD2 (IsL.ext e2 ⟨_,aS⟩);rw[hD2]at qa';cases qa';exact p1 μ1 H2 E.back hb Dt vs h1 (hr1.out hDt) (Rps.sub (λa ha=>by rw[<- E.take]at ha;exact aCZ ha) _ _ r1)
def vO{g:FG} :∀σ H Q,lift K Z (eComp js fi g c f) σ H Q->tComp js (liftI K Z fi) (liftG K Z0 g) (liftT K Z0 c) (lift K Z0 f) σ H Q:=by
 rintro σ H Q ⟨μ,M,L,hr,lr,p⟩;refine aHc ⟨μ,M,L,hr,lr,p.bind.imp λμ1 H1 M1 acc e1 hr1 _ p1 q vs h1 h2 h3=>?_⟩;exact p1 μ1 H1 .refl hr1 _ (by simp only[Rw,Rp];exact⟨q,vs,rfl,h1,h2,h3⟩)
variable{ifs:List Expr}{scope:Scope}
def eO{elt:Expr}{g:FG}(hc:X.calm=true)(T:CompOk X.N X.env.scope scope Nc js)(hit:Ei X K Z tg iter fi)
  (hg:∀cl C fp pins s₂ H₂,Eg (compCx X Nc scope cl C fp pins s₂ H₂) K Z0 tg g)(hi:∀cl C fp pins s₂ H₂,Eif (compCx X Nc scope cl C fp pins s₂ H₂) K Z0 ifs c)(he:∀cl C fp pins s₂ H₂,Ev (compCx X Nc scope cl C fp pins s₂ H₂) K Z0 elt f)
  (hs:∀x,foldedSetIterable iter X.env x=pure x:=by intro _;rfl):Ev X K Z (.ListComp elt [⟨tg,iter,ifs,0⟩] scope pos) (eComp js fi g c f) :=
 ⟨hit.k,cqE (aGg (.inl hc) T hit.h (λ_ _ _ _ _ _=>(hg _ _ _ _ _ _).h) (λ_ _ _ _ _ _=>(hi _ _ _ _ _ _).h) (λ_ _ _ _ _ _=>(he _ _ _ _ _ _).h) hs) vO⟩
def aBb{elt:Expr}{g:FG}{y:Str}{py spos:Pos}(hN:X.N.Nodup)(hc:X.calm=true)(T:CompOk X.N X.env.scope scope Nc js)(hit:Ei X K Z tg iter fi)
  (hg:∀cl C fp pins s₂ H₂,Eg (compCx X Nc scope cl C fp pins s₂ H₂) K Z0 tg g)(hi:∀cl C fp pins s₂ H₂,Eif (compCx X Nc scope cl C fp pins s₂ H₂) K Z0 ifs c)(he:∀cl C fp pins s₂ H₂,Ev (compCx X Nc scope cl C fp pins s₂ H₂) K Z0 elt f)
  (hyi:X.N[i]?=some y:=by rfl)(hy:X.env.scope.names.lookup y=some .local:=by rfl)
  (hsw:swapsWith (.ListComp elt [⟨tg,iter,ifs,0⟩] scope pos) (some (.Name y py)) spos.line X.env=pure true:=by rfl)
  (hs:∀x,foldedSetIterable iter X.env x=pure x:=by intro _;rfl):Es X K Z (.Assign [.Name y py] (.ListComp elt [⟨tg,iter,ifs,0⟩] scope pos) spos) (sAs (eComp js fi g c f) (gN i)):=by
 refine⟨hit.k,cqS (aEe hN hyi hy (.inl hc) T hit.h (λ_ _ _ _ _ _=>(hg _ _ _ _ _ _).h) (λ_ _ _ _ _ _=>(hi _ _ _ _ _ _).h) (λ_ _ _ _ _ _=>(he _ _ _ _ _ _).h) hsw hs) ?_⟩;rintro E σ H ⟨μ,M,L,hr,lr,p⟩;refine vO _ _ _ ⟨μ,M,L,hr,lr,p.bind.imp λμ1 H1 M1 x e1 hr1 _ p1 v rx=>?_⟩;exact p1 μ1 H1 .refl hr1 _ (LR.set (lr.ext hr.lsts e1) rx)
def fnD(m n:Nat)(F:FS):Fn:=λws M=>if ws.length=m then(F (ws.map some++List.replicate (n - ws.length) none) M).bind λo M'=>match o with
  |.rt w=>retc M.length w M'|.nx _=>.ok (.d .non) (M'.take M.length)|_=>.bad
 else .bad
noncomputable def fnR(m n:Nat)(F:FS):Fn:=λws M=>if ws.length=m then(F (ws.map some++List.replicate (n - ws.length) none) M).bind λo M'=>match o with
  |.rt (.ref i)=>if M.length<=i then(match M'[i]? with
   |some ds=>.ok (.ref M.length) (M'.take M.length++[ds])|none=>.bad)else .bad
  |_=>.bad
 else .bad
def spF(K:Frag)(Z:Zt)(m:Nat)(Fm:Fn):Sp:=λvs H Q E=>vs.length=m/\∃μ M ws,HR K μ H M/\Rws K μ H ws vs/\Pst K Z μ H (Fm ws M) (Wk K Q)
def jH{ws:List W}(r:Rws K μ H ws vs):LR K μ H (ws.map some++List.replicate (N.length - ws.length) none) (L2.start N vs):=by
 have hl:=r.length;refine⟨by simp[L2.start,hl],λi w q=>?_⟩;by_cases hi:i < ws.length
 ·rw[aAW (by simpa using hi),aAV]at q
  cases e:ws[i]? with
  |none=>rw[e]at q;cases q
  |some w' =>
   rw[e]at q;cases q;obtain⟨v,q1,q2⟩:=r.get e;refine⟨v,?_,q2⟩;unfold L2.start;rw[aAW (by simp;lia),aAV,q1];rfl
 ·rw[aBU (by simpa using hi),List.getElem?_replicate]at q
  split at q <;> cases q
variable{k:Nat}
def aQa{fa:Addr}(hf:Fun K x qual st fa fd)(S:FnScope N ps (defScope st))
  (hb:∀(cdv:Value) (A:Around) (outer:List Env) (s:Shared) (H:Hp) (E:XK),Room k (A.deeper (envOfC qual (defScope st) s.heap.objs.size fa cdv))->Ess (cxOf CX0 P w K mg base N qual (defScope st) fa cdv A outer s H E).nox K Z0 (defBody st) F) :
  FnOk P w K mg base CX0 (k+1) fa fd ps (spF K Z0 ps.length (fnR ps.length N.length F)):=by
 refine hf.ok S (λvs H Q E h=>h.1) λcdv A outer s H vs Q E hr hsp=>⟨_,(hb cdv A outer s H E hr).h,?_⟩
 obtain⟨hv,μ,M,ws,hr,rx,p⟩:=hsp;refine⟨μ,M,_,hr,jH rx,?_⟩;unfold fnR at p;rw[aAG (by rw[rx.length];exact hv)]at p;cases q:F (ws.map some++List.replicate (N.length - ws.length) none) M with
 |bad=>rw[q]at p;exact p
 |ex z M'=>rw[q]at p;exact p
 |ok o M' =>
  rw[q]at p;simp only[bI]at p;intro μ1 H1 e1 hr1;have hb:=hr1.back e1;rw[hr.len]at hb;cases o with
  |nx L'=>exact p.elim|bk L'=>exact p.elim|ct L'=>exact p.elim|rt w =>
   intro v rv;cases w with
   |d x=>exact p.elim|ob _ _=>exact p.elim|nest _=>exact p.elim|ref i =>
    simp only at p;split at p
    ·rename_i hi
     cases q2:M'[i]? with
     |none=>simp only[q2]at p;exact p.elim
     |some ds =>
      simp only[q2]at p;obtain⟨a,qa,rfl,il⟩:=rv;obtain⟨a',vs',qa',h1,r1⟩:=hr1.at q2 qa;rw[qa]at qa';cases qa';have z:=wF hr e1 hr1 hi q2 qa h1 r1;exact p (μ++[a]) H1 z.1 z.2 _ ⟨a,by rw[<- hr.len];simp,rfl,_,h1⟩
    ·exact p.elim
variable{Fm:Fn}
def aJk{fa:Addr}{m:Nat}(Gf:FnOk X.prog X.w X.K X.mg X.base CX0 k fa fd ps (spF K Z0 m Fm))(hr:Room k X.A)(hm:X.mg x=some (.ref fa))(hk:keepIn X.K (.ref fa)=true)(hb:Binds X.K fd ps [])
  (ha:Ea X K Z0 (e::es) fs)(hl:ps.length=m:=by rfl)(hg:Gl X x:=by rfl)(hdb:(x==("__debug__":Str))=false:=by decide)(he:starEach (e::es) X.env=(false,eval e X.env)::starEach es X.env:=by rfl)(hpl:(backTo pos (starEach es X.env)).any (·.1)=false:=by rfl)
  (hlen:∀ws M,ws.length≠m->Fm ws M=.bad:=by intro ws M h;first|exact aAH h|rfl):Ev X K Z0 (.Call (.Name x p) (e::es) [] pos) (eA Fm fs):=by
 refine⟨ha.k,cqE (aJg Gf hr hg hm hk hb .nil pass0 ha.h hdb he hpl) ?_⟩;rintro σ H Q ⟨μ,M,L,hr,lr,p⟩;refine⟨μ,M,L,hr,lr,p.bind.imp λμ1 H1 M1 ws e1 hr1 _ p1 vs rx=>?_⟩;show spF K Z0 m Fm (vs++[]) H1 Q E0;rw[aEF];refine⟨?_,μ1,M1,ws,hr1,rx,p1⟩;by_cases hw:ws.length=m
 ·rw[<- rx.length];exact hw
 ·rw[hlen ws M1 hw]at p1;exact p1.elim
def aOu{a:Addr}(hO:Only H)(hS:SqL K H a (ns.map V.int))(h:∃M',Fm [.d (.fz (ns.map D.int))] []=.ok (.d (.bl true)) M'):spF K Z0 1 Fm [.ref a] H (λv _=>v=.bl true) λ_ _ _=>False:=by
 obtain⟨M',h⟩:=h;refine⟨rfl,[],[],[.d (.fz (ns.map D.int))],⟨rfl,List.nodup_nil,λi a ds q=>by simp at q⟩,⟨.ref a,[],rfl,?_,rfl⟩,?_⟩
 ·simp only[Rw,Rp]
  refine⟨a,ns.map V.int,rfl,?_,Rps.ints⟩;rcases hS with(z|z)|z
  ·rcases hO a with q|⟨o,xs,q⟩ <;> rw[z]at q <;> cases q
  ·exact .inl z
  ·exact .inr z
 ·rw[h]
  intro μ' H' _ _ v rv;simpa only[Rw,Rp]using rv
end
@[irreducible] def NW:Nat:=18446744073709551616
def aGl:NW=18446744073709551616:=by unfold NW;rfl
def aN{k:Nat}(hr:Room k A):A.units+101 < cLine:=by have:=hr.un;lia
section
variable{K:Frag}{e a b o:Expr}{es:List Expr}{fs:FA}{st:Stmt}{rest:List Stmt}
end
end EV
namespace ZP
variable{prog:Program}{E:Value->Shared->Prop}{x:Value}
def jE{it:Addr}(hit:s.heap.IsTupleIter it l i)
  (hl:s.heap.IsTuple l items)(hx:items[i]?=some x)
  (hQ:∀h',h'.IsTupleIter it l (i+1)->Heap.SameBut it s.heap h'->Q x {s with heap:=h'}) :
  wpAny (model prog w) A (Builtin.SmallTypes.nextOf (.ref it)) Q E s:=by
 obtain⟨o,ho,hc,hd⟩:=id hit;obtain⟨ol,hol,_,nl,hdl⟩:=hl;unfold Builtin.SmallTypes.nextOf;refine aAA (aBL (name:=Str.ofString "__next__") hit.typeIs aDM
  (aBH aDM hit.typeIs aGQ ?_ (aGJ _)))
 show wpAny _ _ (field (.ref it) 0 >>= _) _ _ s;refine aAA (aBB ho hd (x:=.ref l) rfl ?_);show wpAny _ _ (if(Value.ref l==Value.none)=true then _ else _) _ _ s;rw[aAH (show ¬((Value.ref l==Value.none)=true)from aAY)];show wpAny _ _ (field (.ref it) 1 >>= _) _ _ s;refine aAA (aBB ho hd (x:=.int i 0) rfl ?_);show wpAny _ _ (seqItems? (.ref l) >>= _) _ _ s;refine aAA (aCS hol hdl ?_);simp only[aDD,hx];refine aAA (aDF ho hd (by simp) (aAC ⟨x,rfl,aAC (hQ _ ?_ (aJC ..))⟩));exact⟨_,aCF _ ho (Obj.isFreed_of_fields (aHE hd _)),(Obj.cls_mapFields ..).trans hc,by
  rw[aHE hd];simp[rawInt]⟩
def jQ{it:Addr}(hh:A.handled=none)
  (hit:s.heap.IsTupleIter it l i)(hl:s.heap.IsTuple l items)(hx:items[i]?=none)
  (hE:∀h' e,Heap.ExtBut it s.heap h'->(∃o,h'.get? e=some o/\o.cls=.type "StopIteration")->E (.ref e) {s with heap:=h'}) :
  wpAny (model prog w) A (Builtin.SmallTypes.nextOf (.ref it)) Q E s:=by
 obtain⟨o,ho,hc,hd⟩:=id hit;obtain⟨ol,hol,_,nl,hdl⟩:=hl;unfold Builtin.SmallTypes.nextOf;refine aAA (aBL (name:=Str.ofString "__next__") hit.typeIs aDM
  (aBH aDM hit.typeIs aGQ ?_ (aGJ _)))
 show wpAny _ _ (field (.ref it) 0 >>= _) _ _ s;refine aAA (aBB ho hd (x:=.ref l) rfl ?_);show wpAny _ _ (if(Value.ref l==Value.none)=true then _ else _) _ _ s;rw[aAH (show ¬((Value.ref l==Value.none)=true)from aAY)];show wpAny _ _ (field (.ref it) 1 >>= _) _ _ s;refine aAA (aBB ho hd (x:=.int i 0) rfl ?_);show wpAny _ _ (seqItems? (.ref l) >>= _) _ _ s;refine aAA (aCS hol hdl ?_);simp only[aDD,hx];refine aAA (aCM (aAA (aDF ho hd (by simp) ?_)));show wpAny _ _ (newExc (.type "StopIteration") [] >>= _) _ _ _;refine aAA ?_;simp only[newExc,newTuple];refine aAA (aBR ?_ (by size_fits));refine aAA (m:=firstArgMember _ _) (wpAny_of_eq (a:=Value.none) (by first|rfl|(simp only[firstArgMember];rfl)) ?_);refine aBR ?_ (by size_fits);simp only[raiseNew];refine aAA (wpAny_handled ?_);first|rw[show A.in1.handled=none from hh]|rw[hh]
 refine aAA (aAC (wpAny_throw ?_));exact hE _ _ (((aJC ..).extBut.push _).push _) ⟨_,aAI _ rfl,rfl⟩
def It1(h:Heap)(it src:Addr)(i:Nat)(xs:Array Value):Prop:=(h.IsListIter it src i/\h.IsList src xs)\/(h.IsTupleIter it src i/\h.IsTuple src xs)
def It1.at{h h':Heap}{it src:Addr}{i:Nat}{xs:Array Value}(x:It1 h it src i xs)(k1:∀o,h.get? it=some o->h'.get? it=some o)(k2:∀o,h.get? src=some o->h'.get? src=some o):It1 h' it src i xs:=by
 rcases x with⟨a,b⟩|⟨a,b⟩
 ·exact .inl ⟨a.at k1,b.at k2⟩
 ·refine .inr ⟨a.at k1,?_⟩
  obtain⟨o,ho,r⟩:=b;exact⟨o,k2 o ho,r⟩
def It1.lt{it:Addr}(x:It1 h it src i xs):it < h.objs.size:=by
 rcases x with⟨⟨_,e,_⟩,_⟩|⟨⟨_,e,_⟩,_⟩ <;> exact aAE e
def It1.ne{it:Addr}(x:It1 h it src i xs):src≠it:=by
 rintro rfl;rcases x with⟨⟨o,e,c,_⟩,⟨o',e',c',_⟩⟩|⟨⟨o,e,c,_⟩,⟨o',e',c',_⟩⟩ <;> (rw[e]at e';cases e';rw[c]at c';simp at c')
def It1.next{it:Addr}(h:It1 s.heap it src i xs)(hx:xs[i]?=some x)(hQ:∀h',It1 h' it src (i+1) xs->Heap.SameBut it s.heap h'->Q x {s with heap:=h'}) :
  wpAny (model prog w) A (Builtin.SmallTypes.nextOf (.ref it)) Q E s:=by
 have hn:=h.ne;rcases h with⟨a,b⟩|⟨a,b⟩
 ·exact wpAny_nextOf_list_item a b hx λh' a' sb=>hQ h' (.inl ⟨a',b.extBut sb.extBut hn⟩) sb
 ·exact jE a b hx λh' a' sb=>hQ h' (.inr ⟨a',b.extBut sb.extBut hn⟩) sb
def It1.stop{it:Addr}(hh:A.handled=none)(h:It1 s.heap it src i xs)(hx:xs[i]?=none)
  (hE:∀h' e,Heap.ExtBut it s.heap h'->(∃o,h'.get? e=some o/\o.cls=.type "StopIteration")->E (.ref e) {s with heap:=h'}):wpAny (model prog w) A (Builtin.SmallTypes.nextOf (.ref it)) Q E s:=by
 rcases h with⟨a,b⟩|⟨a,b⟩
 ·exact wpAny_nextOf_list_end hh a b hx hE
 ·exact jQ hh a b hx hE
def loadAlive{a:Addr}{Q:Option Obj->Shared->Prop}(h:Q (s.heap.get? a) s):wpAny (model prog w) A (loadIfAlive a) Q E s:=by
 intro Γ p hΓ;show Sem.wp _ _ (Sem.loadIfAlive a _) _ _ _ _;rw[Sem.wp_loadIfAlive];simpa using h
abbrev zobj(TI TO:Addr)(f0 f1:Value):Obj:={cls:=.type "zip",dict:=none,data:=.fields #[f0,f1,.bool false,.ref TI,.ref TO],slots:=#[]}
structure Ap(z TI TO i1 i2 l1 l2:Addr):Prop where
 TIz:TI≠z
 TOz:TO≠z
 i1z:i1≠z
 i2z:i2≠z
 TITO:TI≠TO
 TIi1:TI≠i1
 TIi2:TI≠i2
 TOi1:TO≠i1
 TOi2:TO≠i2
 i12:i1≠i2
 l1z:l1≠z
 l1TO:l1≠TO
 l1i1:l1≠i1
 l1i2:l1≠i2
 l2z:l2≠z
 l2TO:l2≠TO
 l2i1:l2≠i1
 l2i2:l2≠i2
structure Zs(h:Heap)(z TI TO i1 i2 l1 l2:Addr)(i:Nat)(xs ys:Array Value):Prop where
 z:∃f0 f1,h.get? z=some (zobj TI TO f0 f1)/\(f0=.none\/∃T:Nat,f0=rawInt T)
 ti:IsPair h TI (.ref i1) (.ref i2)
 to:∃a b,IsPair h TO a b
 a:It1 h i1 l1 i xs
 b:It1 h i2 l2 i ys
def zY{TI TO:Addr}{Q:Bool->Shared->Prop}(hz:s.heap.get? z=some (zobj TI TO f0 f1))(hf:f0=.none\/∃T:Nat,f0=rawInt T)(h1:Q true s)(h2:∀h' f1',h'.get? z=some (zobj TI TO f0 f1')->Heap.SameBut z s.heap h'->Q false {s with heap:=h'}) :
  wpAny (model prog w) A (Builtin.SmallTypes.ownedTupleIsFree (.ref z)) Q E s:=by
 unfold Builtin.SmallTypes.ownedTupleIsFree;refine aAA (aBB hz rfl (x:=f0) rfl ?_);rcases hf with rfl|⟨T,rfl⟩
 ·exact aAC h1
 ·show wpAny _ _ (loadIfAlive _ >>= _) _ _ _
  refine aAA (loadAlive ?_);cases q:s.heap.get? ((T:Int).toNat)with
  |none=>exact aAC h1|some o =>
   show wpAny _ _ (field (.ref z) 1 >>= _) _ _ _;refine aAA (aBB hz rfl (x:=f1) rfl ?_);by_cases hb:(f1 != .bool true)=true
   ·rw[aAG hb]
    refine aAA (aCD hz (by simp) λh1 hz1 hs1=>aAC (h2 h1 _ hz1 hs1))
   ·rw[aAH hb]
    exact aAC (h2 s.heap f1 hz ⟨rfl,λ_ _=>rfl⟩)
variable{k:Nat}
def pK{TI TO:Addr}{y:Value}(D:Ap z TI TO i1 i2 l1 l2)(Z:Zs s.heap z TI TO i1 i2 l1 l2 k xs ys)(hx:xs[k]?=some x)(hy:ys[k]?=some y)
  (hQ:∀h' T,Zs h' z TI TO i1 i2 l1 l2 (k+1) xs ys->IsPair h' T x y->s.heap.objs.size<=T->(∀c o,c≠z->c≠TO->c≠i1->c≠i2->s.heap.get? c=some o->h'.get? c=some o)->Q (.ref T) {s with heap:=h'}) :
  wpAny (model prog w) A (Builtin.«zip.__next__» ⟨[.ref z],[]⟩) (λfin s'=>∃v,fin=.done (.ret v)/\Q v s') E s:=by
 obtain⟨⟨f0,f1,hz,hf⟩,hTI,⟨a,b,hTO⟩,h1,h2⟩:=Z;show wpAny _ _ (field (.ref z) 2 >>= _) _ _ _;refine aAA (aBB hz rfl (x:=.bool false) rfl ?_);show wpAny _ _ (field (.ref z) 3 >>= _) _ _ _;refine aAA (aBB hz rfl (x:=.ref TI) rfl ?_);refine aAA (aCS hTI rfl ?_);show wpAny _ _ (Builtin.SmallTypes.ownedTupleIsFree (.ref z) >>= _) _ _ _;refine aAA (zY hz hf ?_ λh₁ f1' hz₁ hs₁=>?_)
 ·simp only[aBM]
  refine aAA (aCM ?_);refine aAA (aBB hz rfl (x:=.ref TO) rfl ?_);refine aAA (aCD hz (by simp) λh₁ hz₁ hs₁=>?_);replace hz₁:h₁.get? z=some (zobj TI TO .ellipsis f1):=hz₁;refine aAA ?_;simp only[List.zipIdx_cons,List.zipIdx_nil,aGD,aJE];refine aAA (aAA (aJT ?_));show wpAny _ _ (Builtin.SmallTypes.nextOf (.ref i1) >>= _) _ _ _;refine aAA (It1.next (h1.at (λo e=>hs₁.extBut _ _ D.i1z e) λo e=>hs₁.extBut _ _ D.l1z e) hx λh₂ h1₂ hs₂=>aAC ?_);have hTO₂:IsPair h₂ TO a b:=hs₂.extBut _ _ D.TOi1 (hs₁.extBut _ _ D.TOz hTO);refine aAA (aCS hTO₂ rfl ?_);refine aAA (aJA hTO₂ λh₃ hTO₃ hs₃=>?_);replace hTO₃:IsPair h₃ TO x b:=hTO₃;refine aAA (aFN (aAC ?_));refine aAA (aAA (aJT ?_));show wpAny _ _ (Builtin.SmallTypes.nextOf (.ref i2) >>= _) _ _ _;refine aAA (It1.next (h2.at (λo e=>hs₃.extBut _ _ D.TOi2.symm (hs₂.extBut _ _ D.i12.symm (hs₁.extBut _ _ D.i2z e))) λo e=>hs₃.extBut _ _ D.l2TO (hs₂.extBut _ _ D.l2i1 (hs₁.extBut _ _ D.l2z e))) hy λh₄ h2₄ hs₄=>aAC ?_);have hTO₄:IsPair h₄ TO x b:=hs₄.extBut _ _ D.TOi2 hTO₃;refine aAA (aCS hTO₄ rfl ?_);refine aAA (aJA hTO₄ λh₅ hTO₅ hs₅=>?_);replace hTO₅:IsPair h₅ TO x y:=hTO₅;refine aAA (aFN (aAC (aAC ?_)));refine aAA (aCS hTO₅ rfl ?_);refine aAA (aHO ?_);have hsz:h₅.objs.size=s.heap.objs.size:=by rw[hs₅.1,hs₄.1,hs₃.1,hs₂.1,hs₁.1]
  have hz₅:h₅.get? z=some (zobj TI TO .ellipsis f1):=hs₅.extBut _ _ D.TOz.symm (hs₄.extBut _ _ D.i2z.symm (hs₃.extBut _ _ D.TOz.symm (hs₂.extBut _ _ D.i1z.symm hz₁)));have hk₅:∀c o,c≠z->c≠TO->c≠i1->c≠i2->s.heap.get? c=some o->h₅.get? c=some o:=λc o c1 c2 c3 c4 e =>
   hs₅.extBut _ _ c2 (hs₄.extBut _ _ c4 (hs₃.extBut _ _ c2 (hs₂.extBut _ _ c3 (hs₁.extBut _ _ c1 e))))
  have h1₅:It1 h₅ i1 l1 (k+1) xs:=h1₂.at (λo e=>hs₅.extBut _ _ D.TOi1.symm (hs₄.extBut _ _ D.i12 (hs₃.extBut _ _ D.TOi1.symm e))) λo e=>hs₅.extBut _ _ D.l1TO (hs₄.extBut _ _ D.l1i2 (hs₃.extBut _ _ D.l1TO e))
  have h2₅:It1 h₅ i2 l2 (k+1) ys:=h2₄.at (λo e=>hs₅.extBut _ _ D.TOi2.symm e) λo e=>hs₅.extBut _ _ D.l2TO e
  have hzlt:z < h₅.objs.size:=aAE hz₅;show wpAny _ _ (Builtin.SmallTypes.ownedTupleHandOut (.ref z) (.ref h₅.objs.size) >>= _) _ _ _;refine aAA ?_;unfold Builtin.SmallTypes.ownedTupleHandOut;have hz₆:(h₅.push {cls:=.type "tuple",data:=.seq #[x,y]}).get? z=some (zobj TI TO .ellipsis f1):=aAB _ hz₅;refine aAA (aCD hz₆ (by simp) λh₇ hz₇ hs₇=>?_);replace hz₇:h₇.get? z=some (zobj TI TO (rawInt h₅.objs.size) f1):=hz₇;refine aCD hz₇ (by simp) λh₈ hz₈ hs₈=>?_
  replace hz₈:h₈.get? z=some (zobj TI TO (rawInt h₅.objs.size) (.bool false)):=hz₈;have up:∀c o,c≠z->h₅.get? c=some o->h₈.get? c=some o:=λc o c1 e=>hs₈.extBut _ _ c1 (hs₇.extBut _ _ c1 (aAB _ e))
  have hT₈:IsPair h₈ h₅.objs.size x y:=hs₈.extBut _ _ (aBJ hzlt) (hs₇.extBut _ _ (aBJ hzlt) (aAI _ rfl));refine aAC ⟨_,rfl,hQ h₈ h₅.objs.size ⟨⟨_,_,hz₈,.inr ⟨_,rfl⟩⟩,up _ _ D.TIz (hk₅ _ _ D.TIz D.TITO D.TIi1 D.TIi2 hTI),⟨_,_,up _ _ D.TOz hTO₅⟩,h1₅.at (λo e=>up _ o D.i1z e) λo e=>up _ o D.l1z e,h2₅.at (λo e=>up _ o D.i2z e) λo e=>up _ o D.l2z e⟩ hT₈ (by rw[hsz];exact aAD _) λc o c1 c2 c3 c4 e=>up c o c1 (hk₅ c o c1 c2 c3 c4 e)⟩
 ·simp only[aAT,aBW]
  refine aAA ?_;simp only[List.forIn_toArray,aGD,aJE];refine aAA (aAA (aBC ?_));show wpAny _ _ (Builtin.SmallTypes.nextOf (.ref i1) >>= _) _ _ _;refine aAA (It1.next (h1.at (λo e=>hs₁.extBut _ _ D.i1z e) λo e=>hs₁.extBut _ _ D.l1z e) hx λh₂ h1₂ hs₂=>aAC (aAC ?_));refine aAA (aAA (aBC ?_));show wpAny _ _ (Builtin.SmallTypes.nextOf (.ref i2) >>= _) _ _ _;refine aAA (It1.next (h2.at (λo e=>hs₂.extBut _ _ D.i12.symm (hs₁.extBut _ _ D.i2z e)) λo e=>hs₂.extBut _ _ D.l2i1 (hs₁.extBut _ _ D.l2z e)) hy λh₃ h2₃ hs₃=>aAC (aAC (aAC ?_)));show wpAny _ _ (newTuple [x,y] >>= _) _ _ _;refine aAA (aHO ?_);have hsz:h₃.objs.size=s.heap.objs.size:=by rw[hs₃.1,hs₂.1,hs₁.1]
  have kp:∀c o,c≠z->c≠i1->c≠i2->s.heap.get? c=some o->(h₃.push {cls:=.type "tuple",data:=.seq #[x,y]}).get? c=some o:=λc o c1 c2 c3 e=>aAB _ (hs₃.extBut _ _ c3 (hs₂.extBut _ _ c2 (hs₁.extBut _ _ c1 e)))
  refine aAC ⟨_,rfl,hQ _ h₃.objs.size ⟨⟨f0,f1',aAB _ (hs₃.extBut _ _ D.i2z.symm (hs₂.extBut _ _ D.i1z.symm hz₁)),hf⟩,kp _ _ D.TIz D.TIi1 D.TIi2 hTI,⟨_,_,kp _ _ D.TOz D.TOi1 D.TOi2 hTO⟩,?_,?_⟩ (aAI _ rfl) (by rw[hsz];exact aAD _) λc o c1 c2 c3 c4 e=>kp c o c1 c3 c4 e⟩
  ·exact h1₂.at (λo e=>aAB _ (hs₃.extBut _ _ D.i12 e)) λo e=>aAB _ (hs₃.extBut _ _ D.l1i2 e)
  ·exact h2₃.at (λo e=>aAB _ e) λo e=>aAB _ e
def sW{TI TO:Addr}{Q:Fin->Shared->Prop}(hh:A.handled=none)(D:Ap z TI TO i1 i2 l1 l2)(Z:Zs s.heap z TI TO i1 i2 l1 l2 k xs ys)(hend:xs[k]?=none\/ys[k]?=none)
  (hE:∀h' e,(∀c o,c≠z->c≠TO->c≠i1->c≠i2->s.heap.get? c=some o->h'.get? c=some o)->(∃o,h'.get? e=some o/\o.cls=.type "StopIteration")->E (.ref e) {s with heap:=h'}) :
  wpAny (model prog w) A (Builtin.«zip.__next__» ⟨[.ref z],[]⟩) Q E s:=by
 obtain⟨⟨f0,f1,hz,hf⟩,hTI,⟨a,b,hTO⟩,h1,h2⟩:=Z;show wpAny _ _ (field (.ref z) 2 >>= _) _ _ _;refine aAA (aBB hz rfl (x:=.bool false) rfl ?_);show wpAny _ _ (field (.ref z) 3 >>= _) _ _ _;refine aAA (aBB hz rfl (x:=.ref TI) rfl ?_);refine aAA (aCS hTI rfl ?_);show wpAny _ _ (Builtin.SmallTypes.ownedTupleIsFree (.ref z) >>= _) _ _ _;refine aAA (zY hz hf ?_ λh₁ f1' hz₁ hs₁=>?_)
 ·simp only[aBM]
  refine aAA (aCM ?_);refine aAA (aBB hz rfl (x:=.ref TO) rfl ?_);refine aAA (aCD hz (by simp) λh₁ hz₁ hs₁=>?_);replace hz₁:h₁.get? z=some (zobj TI TO .ellipsis f1):=hz₁;refine aAA ?_;simp only[List.zipIdx_cons,List.zipIdx_nil,aGD,aJE];refine aAA (aAA (aJT ?_));show wpAny _ _ (Builtin.SmallTypes.nextOf (.ref i1) >>= _) _ _ _;have h1':=h1.at (h':=h₁) (λo e=>hs₁.extBut _ _ D.i1z e) λo e=>hs₁.extBut _ _ D.l1z e
  cases hx:xs[k]? with
  |none =>
   refine aAA (It1.stop hh h1' hx λh₂ e hs₂ he=>?_);obtain⟨oe,hoe,hce⟩:=he;have hz₂:h₂.get? z=some (zobj TI TO .ellipsis f1):=hs₂ _ _ D.i1z.symm hz₁;have hez:e≠z:=λx=>by subst x;rw[hz₂]at hoe;cases hoe;simp at hce
   exact aCD hz₂ (by simp) λh₃ _ hs₃=>hE h₃ e (λc o c1 _ c3 _ x=>hs₃.extBut _ _ c1 (hs₂ _ _ c3 (hs₁.extBut _ _ c1 x))) ⟨oe,hs₃.extBut _ _ hez hoe,hce⟩
  |some x =>
   have hy:ys[k]?=none:=by rcases hend with h|h;rw[hx]at h;cases h;exact h
   refine aAA (It1.next h1' hx λh₂ h1₂ hs₂=>aAC ?_);have hTO₂:IsPair h₂ TO a b:=hs₂.extBut _ _ D.TOi1 (hs₁.extBut _ _ D.TOz hTO);refine aAA (aCS hTO₂ rfl ?_);refine aAA (aJA hTO₂ λh₃ hTO₃ hs₃=>?_);refine aAA (aFN (aAC ?_));refine aAA (aAA (aJT ?_));show wpAny _ _ (Builtin.SmallTypes.nextOf (.ref i2) >>= _) _ _ _;refine aAA (It1.stop hh (h2.at (λo e=>hs₃.extBut _ _ D.TOi2.symm (hs₂.extBut _ _ D.i12.symm (hs₁.extBut _ _ D.i2z e))) λo e=>hs₃.extBut _ _ D.l2TO (hs₂.extBut _ _ D.l2i1 (hs₁.extBut _ _ D.l2z e))) hy λh₄ e hs₄ he=>?_);obtain⟨oe,hoe,hce⟩:=he;have hz₄:h₄.get? z=some (zobj TI TO .ellipsis f1):=hs₄ _ _ D.i2z.symm (hs₃.extBut _ _ D.TOz.symm (hs₂.extBut _ _ D.i1z.symm hz₁));have hez:e≠z:=λx=>by subst x;rw[hz₄]at hoe;cases hoe;simp at hce
   exact aCD hz₄ (by simp) λh₅ _ hs₅=>hE h₅ e (λc o c1 c2 c3 c4 x=>hs₅.extBut _ _ c1 (hs₄ _ _ c4 (hs₃.extBut _ _ c2 (hs₂.extBut _ _ c3 (hs₁.extBut _ _ c1 x))))) ⟨oe,hs₅.extBut _ _ hez hoe,hce⟩
 ·simp only[aAT,aBW]
  refine aAA ?_;simp only[List.forIn_toArray,aGD,aJE];refine aAA (aAA (aBC ?_));show wpAny _ _ (Builtin.SmallTypes.nextOf (.ref i1) >>= _) _ _ _;have h1':=h1.at (h':=h₁) (λo e=>hs₁.extBut _ _ D.i1z e) λo e=>hs₁.extBut _ _ D.l1z e
  cases hx:xs[k]? with
  |none=>exact aAA (It1.stop hh h1' hx λh₂ e hs₂ he=>hE h₂ e (λc o c1 _ c3 _ x=>hs₂ _ _ c3 (hs₁.extBut _ _ c1 x)) he)
  |some x =>
   have hy:ys[k]?=none:=by rcases hend with h|h;rw[hx]at h;cases h;exact h
   refine aAA (It1.next h1' hx λh₂ h1₂ hs₂=>aAC (aAC ?_));refine aAA (aAA (aBC ?_));show wpAny _ _ (Builtin.SmallTypes.nextOf (.ref i2) >>= _) _ _ _;exact aAA (It1.stop hh (h2.at (λo e=>hs₂.extBut _ _ D.i12.symm (hs₁.extBut _ _ D.i2z e)) λo e=>hs₂.extBut _ _ D.l2i1 (hs₁.extBut _ _ D.l2z e)) hy λh₃ e hs₃ he=>hE h₃ e (λc o c1 _ c3 c4 x=>hs₃ _ _ c4 (hs₂.extBut _ _ c3 (hs₁.extBut _ _ c1 x))) he)
variable{TI TO:Addr}{k:Nat}{Q:Option Value->Shared->Prop}
theorem zip_item{y:Value}(D:Ap z TI TO i1 i2 l1 l2)(Z:Zs s.heap z TI TO i1 i2 l1 l2 k xs ys)(hx:xs[k]?=some x)(hy:ys[k]?=some y)
  (hQ:∀h' T,Zs h' z TI TO i1 i2 l1 l2 (k+1) xs ys->IsPair h' T x y->s.heap.objs.size<=T->(∀c o,c≠z->c≠TO->c≠i1->c≠i2->s.heap.get? c=some o->h'.get? c=some o)->Q (some (.ref T)) {s with heap:=h'}):wpAny (model prog w) A (pyNext (.ref z)) Q E s:=by
 have hT:s.TypeIs (.ref z) "zip":=let⟨_,_,hz,_⟩:=Z.z;⟨_,hz,rfl⟩
 unfold pyNext;exact aAA (aDL (aBL (name:=Str.ofString "__next__") hT aHD
  (aBH aHD hT F.entry_zip_next (pK D Z hx hy λh' T z' p' n' k'=>aAC (hQ h' T z' p' n' k')) (F.args_zip_next_1 _))))
theorem zip_done(hh:A.handled=none)(D:Ap z TI TO i1 i2 l1 l2)(Z:Zs s.heap z TI TO i1 i2 l1 l2 k xs ys)(he:xs[k]?=none\/ys[k]?=none)
  (hQ:∀h',(∀c o,c≠z->c≠TO->c≠i1->c≠i2->s.heap.get? c=some o->h'.get? c=some o)->Q none {s with heap:=h'}):wpAny (model prog w) A (pyNext (.ref z)) Q E s:=by
 have hT:s.TypeIs (.ref z) "zip":=let⟨_,_,hz,_⟩:=Z.z;⟨_,hz,rfl⟩
 unfold pyNext;refine aAA (aDL (aBL (name:=Str.ofString "__next__") hT aHD
  (aBH aHD hT F.entry_zip_next (sW hh D Z he λh' e hk he=>?_) (F.args_zip_next_1 _))))
 obtain⟨o,ho,hc⟩:=he;exact aAA (aDV (T:="StopIteration") (b:=true) ⟨o,ho,hc⟩ aGI (aAC (hQ h' hk)))
variable{Q:Value->Shared->Prop}
theorem zip_self(hz:∃f0 f1,s.heap.get? z=some (zobj TI TO f0 f1))(hQ:Q (.ref z) s):wpAny (model prog w) A (pyIter (.ref z)) Q E s:=by
 obtain⟨_,_,hz⟩:=hz;have hT:s.TypeIs (.ref z) "zip":=⟨_,hz,rfl⟩
 refine aHV hT F.slot_zip_iter (aBH F.slot_zip_iter hT F.entry_zip_iter ?_ (F.args_zip_iter_1 _));show wpAny _ _ (ret (.ref z)) _ _ s;exact aAC ⟨_,rfl,"zip",_,hT,aHD.lookup,hQ⟩
def Sq(t:Bool)(h:Heap)(l:Addr)(xs:Array Value):Prop:=if t=true then h.IsTuple l xs else h.IsList l xs
abbrev itO(t:Bool)(l:Addr):Obj:={cls:=.type (if t=true then "tuple_iterator"else "list_iterator"),data:=.fields #[.ref l,.int 0 0]}
abbrev zH2(t1 t2:Bool)(h:Heap)(l1 l2:Addr):Heap:=(h.push (itO t1 l1)).push (itO t2 l2)
abbrev zH4(t1 t2:Bool)(h:Heap)(l1 l2:Addr):Heap:=((zH2 t1 t2 h l1 l2).push {cls:=.type "tuple",data:=.seq #[.ref h.objs.size,.ref (h.push (itO t1 l1)).objs.size]}).push {cls:=.type "tuple",data:=.seq #[.none,.none]}
abbrev zH5(t1 t2:Bool)(h:Heap)(l1 l2:Addr):Heap:=(zH4 t1 t2 h l1 l2).push {cls:=.type "zip",data:=.fields #[.none,.bool false,.bool false,.ref (zH2 t1 t2 h l1 l2).objs.size,.ref ((zH2 t1 t2 h l1 l2).push {cls:=.type "tuple",data:=.seq #[.ref h.objs.size,.ref (h.push (itO t1 l1)).objs.size]}).objs.size]}
variable{t:Bool}
def Sq.keep(x:Sq t h l xs)(k:∀o,h.get? l=some o->h'.get? l=some o):Sq t h' l xs:=by
 cases t <;> exact let⟨o,ho,r⟩:=x;⟨o,k o ho,r⟩
def Sq.iter(x:Sq t s.heap l xs)(h:Q (.ref s.heap.objs.size) {s with heap:=s.heap.push (itO t l)}):wpAny (model prog w) A (pyIter (.ref l)) Q E s:=by
 cases t
 ·exact aHU x h
 ·exact aGB x h
def Sq.it{t:Bool}{h:Heap}{l it:Addr}{xs:Array Value}(x:Sq t h l xs)(g:h.get? it=some (itO t l)):It1 h it l 0 xs:=by
 cases t
 ·exact .inl ⟨⟨_,g,rfl,rfl⟩,x⟩
 ·exact .inr ⟨⟨_,g,rfl,rfl⟩,x⟩
def yT(t1 t2:Bool)(l1 l2:Addr)(xs ys:Array Value) :
  Meets (Builtin.«zip.__new__» ⟨[.type "zip",.ref l1,.ref l2],[]⟩) (λ_ R s=>Sq t1 s.heap l1 xs/\Sq t2 s.heap l2 ys /\
   R (.ok (.ret (.ref (zH4 t1 t2 s.heap l1 l2).objs.size))) {s with heap:=zH5 t1 t2 s.heap l1 l2}) :=
 .of_wp λprog w A R s h=>by
  obtain⟨hp,g,d,tk,os⟩:=s;obtain⟨hl1,hl2,h⟩:=h;have hsub:=sub_zip;have hL1:Sq t1 (Shared.heap ⟨hp,g,d,tk,os⟩) l1 xs:=hl1;have hL2:Sq t2 (Shared.heap ⟨hp.push (itO t1 l1),g,d,tk,os⟩) l2 ys:=hl2.keep λo ho=>aAB _ ho
  wp_walk using hL1.iter,hL2.iter
  exact⟨_,rfl,h⟩
theorem aDk(hl1:Sq t1 s.heap l1 xs)(hl2:Sq t2 s.heap l2 ys)
  (h:∀h',Zs h' (s.heap.objs.size+4) (s.heap.objs.size+2) (s.heap.objs.size+3) s.heap.objs.size (s.heap.objs.size+1) l1 l2 0 xs ys->h'.objs.size=s.heap.objs.size+5 ->
   (∀c o,s.heap.get? c=some o->h'.get? c=some o)->Q (.ref (s.heap.objs.size+4)) {s with heap:=h'}) :
  wpAny (model prog w) A (call (.type "zip") [.ref l1,.ref l2]) Q E s:=by
 refine callType_new F.called_zip (by decide) (F.typeCall_zip_2 _ _) (F.newCall_zip_2 _ _) (λobj=>F.args_object_init_3 obj _ _) F.entry_zip_new
  (yT t1 t2 l1 l2 xs ys) ⟨hl1,hl2,?_⟩
 have z1:(s.heap.push (itO t1 l1)).objs.size=s.heap.objs.size+1:=aDG ..;have z2:(zH2 t1 t2 s.heap l1 l2).objs.size=s.heap.objs.size+2:=by rw[aDG,z1]
 have z3:((zH2 t1 t2 s.heap l1 l2).push {cls:=.type "tuple",data:=.seq #[.ref s.heap.objs.size,.ref (s.heap.push (itO t1 l1)).objs.size]}).objs.size=s.heap.objs.size+3:=by rw[aDG,z2]
 have z4:(zH4 t1 t2 s.heap l1 l2).objs.size=s.heap.objs.size+4:=by rw[aDG,z3]
 have z5:(zH5 t1 t2 s.heap l1 l2).objs.size=s.heap.objs.size+5:=by rw[aDG,z4]
 have g5:(zH5 t1 t2 s.heap l1 l2).get? (zH4 t1 t2 s.heap l1 l2).objs.size=some _:=aAI _ rfl;have g4:(zH5 t1 t2 s.heap l1 l2).get? ((zH2 t1 t2 s.heap l1 l2).push {cls:=.type "tuple",data:=.seq #[.ref s.heap.objs.size,.ref (s.heap.push (itO t1 l1)).objs.size]}).objs.size=some _:=aAB _ (aAI _ rfl);have g3:(zH5 t1 t2 s.heap l1 l2).get? (zH2 t1 t2 s.heap l1 l2).objs.size=some _:=aAB _ (aAB _ (aAI _ rfl));have g2:(zH5 t1 t2 s.heap l1 l2).get? (s.heap.push (itO t1 l1)).objs.size=some (itO t2 l2):=aAB _ (aAB _ (aAB _ (aAI _ rfl)));have g1:(zH5 t1 t2 s.heap l1 l2).get? s.heap.objs.size=some (itO t1 l1):=aAB _ (aAB _ (aAB _ (aAB _ (aAI _ rfl))));have kp:∀c o,s.heap.get? c=some o->(zH5 t1 t2 s.heap l1 l2).get? c=some o:=λc o x =>
  aAB _ (aAB _ (aAB _ (aAB _ (aAB _ x))))
 show _/\_;rw[z2,z3,z4]at g5;rw[z1,z2]at g3;rw[z3]at g4;rw[z1]at g2;rw[z4];exact⟨⟨_,g5,rfl⟩,h _ ⟨⟨_,_,g5,.inl rfl⟩,g3,⟨_,_,g4⟩,(hl1.keep λo=>kp _ o).it g1,(hl2.keep λo=>kp _ o).it g2⟩ z5 kp⟩
def call_zipG(h1:s.heap.IsList l1 xs\/s.heap.IsTuple l1 xs)(h2:s.heap.IsList l2 ys\/s.heap.IsTuple l2 ys)
  (h:∀h',Zs h' (s.heap.objs.size+4) (s.heap.objs.size+2) (s.heap.objs.size+3) s.heap.objs.size (s.heap.objs.size+1) l1 l2 0 xs ys->h'.objs.size=s.heap.objs.size+5 ->
   (∀c o,s.heap.get? c=some o->h'.get? c=some o)->Q (.ref (s.heap.objs.size+4)) {s with heap:=h'}) :
  wpAny (model prog w) A (call (.type "zip") [.ref l1,.ref l2]) Q E s:=by
 have sq:∀{l:Addr} {xs:Array Value},(s.heap.IsList l xs\/s.heap.IsTuple l xs)->∃t,Sq t s.heap l xs:=λx=>x.elim (⟨false,·⟩) (⟨true,·⟩)
 obtain⟨_,h1⟩:=sq h1;obtain⟨_,h2⟩:=sq h2;exact aDk h1 h2 h
def wK:typeLookup (.type "zip") "__len__"=pure none:=by rw[typeLookup_type,builtinLookup_eq_fast];kernel_rfl
def uL:typeLookup (.type "zip") "__length_hint__"=pure none:=by rw[typeLookup_type,builtinLookup_eq_fast];kernel_rfl
def ap_of{l1 l2:Nat}(h1:l1 < n)(h2:l2 < n):Ap (n+4) (n+2) (n+3) n (n+1) l1 l2:=by
 constructor <;> (show(_:Nat)≠(_:Nat);lia)
end ZP
namespace L2
open ZP
variable{σ:St}
def Inv.turnLay{T:Addr}(I:Inv X pins σ H s)(hf:∀b∈fp,FpOk X pins H b)(k:∀b u,b∉fp->s.heap.get? b=some u->h'.get? b=some u)(hT:s.heap.objs.size<=T)(new:ObjOk X.prog X.w (upd H T o) h' T o) :
  Inv X pins σ (upd H T o) {s with heap:=h',toks:=t'}:=by
 have hn:H T=none:=I.hok.fresh hT;have nfp:∀b u,H b=some u->b∉fp:=λb u e z=>by rw[(hf b z).1]at e;cases e
 have lt:∀b u,s.heap.get? b=some u->b≠T:=λb u e z=>by subst z;exact absurd (aAE e) (Nat.not_lt.mpr hT)
 have neT:∀b u,H b=some u->b≠T:=λb u e z=>by rw[z,hn]at e;cases e
 refine I.step (g':=s.gens) (d':=s.drawn) (ch:=fp) (λb hb=>?_) (λb u _ _ hc e _=>k b u hc e) (λb u _ _ hc e _=>⟨u.slots,k b u hc e⟩) (λb u _ e n=>by rw[aI (lt b u e)];exact n)
  (λb u hc e=>⟨u,k b u hc e⟩) (λb xs e=>by rw[aI (neT b _ e)];exact e) (λb u v e=>by rw[aI (neT b _ e)];exact e) (λb ps e=>⟨#[],by rw[aI (neT b _ e),e];simp⟩) (λb C d e=>by rw[aI (neT b _ e)];exact e) (λm hm=>?_) (λb u e=>?_) I.bare
 ·obtain⟨_,f1,_,f3,f4,f5⟩:=hf b hb
  exact⟨f3,f1,f4,f5⟩
 ·obtain⟨u,es,ep,ho,r⟩:=hm
  exact⟨u,es,ep,k _ u (λz=>(hf _ z).2.1 rfl) ho,r⟩
 ·by_cases hb:b=T
  ·subst hb;rw[aS]at e;cases e;exact new
  ·rw[aI hb]at e
   refine(I.hok b u e).stay (λc v hc q=>k c v ?_ q) (λc q=>by rw[aI (neT c _ q)];exact q) λc xs q=>by rw[aI (neT c _ q)];exact q
   rcases hc with z|z
   ·rw[z];exact nfp b u e
   ·exact nfp c _ z
def Inv.turnedL(I:Inv X pins σ H s)(hf:∀b∈fp,FpOk X pins H b)(k:∀b u,b∉fp->s.heap.get? b=some u->h'.get? b=some u):Inv X pins σ H {s with heap:=h',toks:=t'}:=by
 have nfp:∀b u,H b=some u->b∉fp:=λb u e z=>by rw[(hf b z).1]at e;cases e
 refine I.step (g':=s.gens) (d':=s.drawn) (ch:=fp) (λb hb=>?_) (λb u _ _ hc e _=>k b u hc e) (λb u _ _ hc e _=>⟨u.slots,k b u hc e⟩) (λ_ _ _ _ n=>n)
  (λb u hc e=>⟨u,k b u hc e⟩) (λ_ _ e=>e) (λ_ _ _ e=>e) (λb ps e=>⟨#[],by rw[e];simp⟩) (λ_ _ _ e=>e) (λm hm=>?_) (λb u e=>?_) I.bare
 ·obtain⟨_,f1,_,f3,f4,f5⟩:=hf b hb
  exact⟨f3,f1,f4,f5⟩
 ·obtain⟨u,es,ep,ho,r⟩:=hm
  exact⟨u,es,ep,k _ u (λz=>(hf _ z).2.1 rfl) ho,r⟩
 ·refine(I.hok b u e).stay (λc v hc q=>k c v ?_ q) (λ_ q=>q) λ_ _ q=>q
  rcases hc with z|z
  ·rw[z];exact nfp b u e
  ·exact nfp c _ z
section
variable{TI TO:Addr}{xs ys:List V}
def FpOk.of{b:Addr}(f:FpOk X pins H b)(n:H' b=none):FpOk X pins H' b:=⟨n,f.2⟩
def Prt(H:Hp)(xs ys:List V)(S:Addr)(Ts:List Addr):Prop:=H S=some (.lst (Ts.map V.ref))/\∀(j:Nat) (T:Addr) (x y:V),Ts[j]?=some T->xs[j]?=some x->ys[j]?=some y->H T=some (.tup [x,y])
theorem aEi{res:Value}{S:Addr}{Hb:Hp}(hh:A.handled=none)(D:Ap z TI TO i1 i2 l1 l2)(q1:Vals xs its)(q2:Vals ys its2)(hz:min xs.length ys.length<=sizeLine)(sS:S∉[z,TI,TO,i1,i2,l1,l2])(h0:Hb S=none)
  (q:∀s' H' Ts,Inv X pins σ H' s'->(∀b o,Hb b=some o->H' b=some o)->Prt H' xs ys S Ts->Ts.length=min xs.length ys.length->R (.ok (.ret res)) s') :
  ∀(k i:Nat) (s:Shared) (H:Hp) (Ts:List Addr),min xs.length ys.length - i=k->i<=min xs.length ys.length->Inv X pins σ H s->(∀b∈[z,TI,TO,i1,i2],FpOk X pins H b)->(∀b o,Hb b=some o->H b=some o)->Prt H xs ys S Ts->Ts.length=i ->
  Zs s.heap z TI TO i1 i2 l1 l2 i its.toArray its2.toArray->codeAny (model X.prog X.w) A (.builtin "list.extend.loop" ⟨[.ref S,.ref z,res],[]⟩) R s:=by
 have e1:=q1.length;have e2:=q2.length;intro k;induction k with
 |zero =>
  intro i s H Ts hk hi I hf old hP hl Z;refine aEE F.entry_extend_loop ?_;rw[aER aGZ _];show wpAny _ A.in1 (pyNext (.ref z) >>= _) _ _ s;refine aAA (zip_done (A:=A.in1) hh D Z (by
   rcases Nat.le_total xs.length ys.length with h|h
   ·exact .inl (by simp;lia)
   ·exact .inr (by simp;lia)) λh' hk=>aAC (q _ H Ts (I.turnedL (t':=s.toks) hf λb o hb e=>?_) old hP (by lia)))
  simp only[aAU,aCR,aFJ,not_or]at hb;obtain⟨p1,p2,p3,p4,p5⟩:=hb;exact hk b o p1 p3 p4 p5 e
 |succ k ih =>
  intro i s H Ts hk hi I hf old hP hl Z;have hx:i < xs.length:=by lia
  have hy:i < ys.length:=by lia
  obtain⟨u,hu,ru⟩:=q1.get (aAP hx);obtain⟨v,hv,rv⟩:=q2.get (aAP hy);refine aEE F.entry_extend_loop ?_;rw[aER aGZ _];show wpAny _ A.in1 (pyNext (.ref z) >>= _) _ _ s;refine aAA (zip_item D Z (x:=u) (y:=v) (by simpa using hu) (by simpa using hv) λh' T z' p' n' k'=>?_);have hT:H T=none:=I.hok.fresh n';have TS:S≠T:=λe=>by have:=hP.1;rw[e,hT]at this;cases this
  have I2:Inv X pins σ (upd H T (.tup [xs[i],ys[i]])) {s with heap:=h'}:=I.turnLay (t':=s.toks) hf (λb o hb e=>by
   simp only[aAU,aCR,aFJ,not_or]at hb;obtain⟨p1,p2,p3,p4,p5⟩:=hb;exact k' b o p1 p3 p4 p5 e) n' (show ObjOk X.prog X.w _ h' T (.tup [xs[i],ys[i]])from⟨by show 2<=sizeLine;decide,[u,v],.cons ru (.cons rv .nil),_,p',rfl,_,rfl⟩)
  have hS2:upd H T (.tup [xs[i],ys[i]]) S=some (.lst (Ts.map V.ref)):=(aI TS).trans hP.1;obtain⟨hz1,js,n,r,hl2,e⟩:=I2.lstM hS2;rw[aAM,hl]at hl2;show wpAny _ A.in1 (updateSeq S (·.push (.ref T)) >>= _) _ _ _;have I3:=I2.lset (t':=s.toks) (its':=js++[.ref T]) (f:=(·.push (.ref T))) (ys:=(Ts++[T]).map V.ref) hS2 e (by simp) (by rw[aDR];exact r.append (.cons rfl .nil)) (by simp[hl];lia);simp only[aAU,aCR,aFJ,not_or]at sS;obtain⟨s1,s2,s3,s4,s5,s6,s7⟩:=sS;have up:∀b o,b≠S->h'.get? b=some o->(h'.update S (Obj.mapSeq λx=>x.push (.ref T))).get? b=some o:=λb o hb e=>(aCL _ _ (Ne.symm hb)).trans e
  have lt:∀b∈[z,TI,TO,i1,i2],b < s.heap.objs.size:=λb hb=>by
   obtain⟨⟨g0,g1,gz,_⟩,gTI,⟨_,_,gTO⟩,ga,gb⟩:=Z;simp only[aAU,aCR,aFJ]at hb;rcases hb with rfl|rfl|rfl|rfl|rfl
   ·exact aAE gz
   ·exact aAE gTI
   ·exact aAE gTO
   ·exact ga.lt
   ·exact gb.lt
  refine aAA (aEN e rfl (aAC ⟨aEU aGZ _,ih (i+1) _ _ (Ts++[T]) (by lia) (by lia) I3 (λb hb=>(hf b hb).of ?_) (λb o e=>?_) ⟨aS,λj T' x y a1 a2 a3=>?_⟩ (by simp[hl]) ?_⟩) (by simp;lia) (by simp;lia))
  ·rw[aI,aI (λz:b=T=>absurd (lt b hb) (Nat.not_lt.mpr (z▸n')))]
   ·exact(hf b hb).1
   ·rintro rfl
    simp only[aAU,aCR,aFJ]at hb;exact hb.elim s1 λhb=>hb.elim s2 λhb=>hb.elim s3 λhb=>hb.elim s4 s5
  ·rw[aI (λz=>by rw[z,h0]at e;cases e),aI (λz=>by have:=old b o e;rw[z,hT]at this;cases this)]
   exact old b o e
  ·rw[aIP]at a1
   split at a1
   ·have h:=hP.2 j T' x y a1 a2 a3
    rw[aI (λz=>by rw[z,hP.1]at h;cases h),aI (λz=>by rw[z,hT]at h;cases h)];exact h
   ·have:j=i:=by have:=(aAF.mp a1).1;simp at this;lia
    subst this;rw[hl,aGM]at a1;cases a1;rw[aAP hx]at a2;rw[aAP hy]at a3;cases a2;cases a3;rw[aI (Ne.symm TS),aS]
  ·obtain⟨⟨g0,g1,gz,gf⟩,gTI,⟨ga,gb,gTO⟩,g1',g2'⟩:=z'
   exact⟨⟨g0,g1,up _ _ (Ne.symm s1) gz,gf⟩,up _ _ (Ne.symm s2) gTI,⟨ga,gb,up _ _ (Ne.symm s3) gTO⟩,g1'.at (λo e=>up _ o (Ne.symm s4) e) λo e=>up _ o (Ne.symm s6) e,g2'.at (λo e=>up _ o (Ne.symm s5) e) λo e=>up _ o (Ne.symm s7) e⟩
theorem rQ{E:Value->Shared->Prop}(hh:A.handled=none)(D:Ap z TI TO i1 i2 l1 l2)(I:Inv X pins σ H s)(hf:∀b∈[z,TI,TO,i1,i2],FpOk X pins H b)(Z:Zs s.heap z TI TO i1 i2 l1 l2 0 its.toArray its2.toArray)(q1:Vals xs its)(q2:Vals ys its2)(hn:min xs.length ys.length<=sizeLine)
  (hQ:∀s' H' S Ts,Inv X pins σ H' s'->(∀b o,H b=some o->H' b=some o)->H S=none->Prt H' xs ys S Ts->Ts.length=min xs.length ys.length->Q (.ref S) s') :
  wpAny (model X.prog X.w) A (call (.type "list") [.ref z]) Q E s:=by
 refine aJJ (Q₁:=λobj s₁=>obj=.ref s.heap.objs.size/\s₁={s with heap:=s.heap.push {cls:=.type "list",data:=.seq #[]}}) F.called_list (F.typeCall_list_1 _) F.entry_list_init
  (code_list_new _ ⟨rfl,rfl⟩) λobj s₁ h₁=>?_
 obtain⟨rfl,rfl⟩:=h₁;have hS:(s.heap.push {cls:=.type "list",data:=.seq #[]}).get? s.heap.objs.size=some {cls:=.type "list",data:=.seq #[]}:=aAI _ rfl;obtain⟨f0,f1,hz,hf0⟩:=id Z.z;obtain⟨ta,tb,hTO⟩:=id Z.to;have l1lt:l1 < s.heap.objs.size:=by rcases Z.a with⟨_,o,e,_⟩|⟨_,o,e,_⟩ <;> exact aAE e
 have l2lt:l2 < s.heap.objs.size:=by rcases Z.b with⟨_,o,e,_⟩|⟨_,o,e,_⟩ <;> exact aAE e
 have hSf:s.heap.objs.size∉[z,TI,TO,i1,i2,l1,l2]:=by
  simp only[aAU,aCR,aFJ,not_or];exact⟨aBJ (aAE hz),aBJ (aAE Z.ti),aBJ (aAE hTO),aBJ Z.a.lt,aBJ Z.b.lt,aBJ l1lt,aBJ l2lt⟩
 have hSz:s.heap.objs.size≠z:=aBJ (aAE hz);refine⟨⟨_,hS,rfl⟩,F.args_list_init_2 _ _,?_⟩;show wpAny _ A.in1.in1 (do let old <- Builtin.List.listItems (.ref s.heap.objs.size);Builtin.List.listUpdate (.ref s.heap.objs.size) (λ_=>#[]);letGo old.toList.reverse;Builtin.List.listExtendWith (.ref s.heap.objs.size) (.ref z) .none) _ _ _;refine aAA ?_;unfold Builtin.List.listItems;refine aAA (aCS hS rfl (aAC ?_));show wpAny _ _ (updateSeq s.heap.objs.size (λ_=>#[]) >>= λ_=>letGo (#[]:Array Value).toList.reverse >>= λ_=>Builtin.List.listExtendWith (.ref s.heap.objs.size) (.ref z) .none) _ _ _;refine aAA (aEN hS rfl ?_);have hS₂:=aCF (Obj.mapSeq (λ_=>(#[]:Array Value))) hS rfl;refine aAA (aFN ?_);have kp:∀b o,b≠s.heap.objs.size->s.heap.get? b=some o->((s.heap.push {cls:=.type "list",data:=.seq #[]}).update s.heap.objs.size (Obj.mapSeq (λ_=>(#[]:Array Value)))).get? b=some o :=
  λb o hb e=>(aCL _ _ (Ne.symm hb)).trans (aAB _ e)
 have mv:∀h',(∀b o,b≠s.heap.objs.size->s.heap.get? b=some o->h'.get? b=some o)->Zs h' z TI TO i1 i2 l1 l2 0 its.toArray its2.toArray:=λh' k=>by
  refine⟨⟨f0,f1,k _ _ hSz.symm hz,hf0⟩,k _ _ (aAO (aAE Z.ti)) Z.ti,⟨ta,tb,k _ _ (aAO (aAE hTO)) hTO⟩,Z.a.at (λo e=>k _ o (aAO Z.a.lt) e) λo e=>k _ o (aAO l1lt) e,Z.b.at (λo e=>k _ o (aAO Z.b.lt) e) λo e=>k _ o (aAO l2lt) e⟩
 unfold Builtin.List.listExtendWith;refine aAA (aFQ (T:="zip") ⟨_,kp z _ hSz.symm hz,rfl⟩ ?_);have e1:Builtin.List.listSameRef (.ref s.heap.objs.size) (.ref z)=false:=by simp[Builtin.List.listSameRef,hSz]
 have e2:(Value.type "zip"==Value.type "list")=false:=by decide
 have e3:(Value.type "zip"==Value.type "tuple")=false:=by decide
 simp only[e1,e2,e3,Bool.or_false,aAT,aBW];refine aAA (zip_self (A:=A.in1.in1) (let⟨f0,f1,e,_⟩:=(mv _ kp).z;⟨f0,f1,e⟩) ?_);refine aAA (aBC ?_);unfold Builtin.List.listLengthHint;refine aAA (aFX (T:="zip") ⟨_,kp z _ hSz.symm hz,rfl⟩ wK ?_);show wpAny _ _ (specialOf (Value.ref z) (Str.ofString "__length_hint__") >>= _) _ _ _;refine aAA (aFX (T:="zip") ⟨_,kp z _ hSz.symm hz,rfl⟩ uL ?_);refine aAC ?_;show wpAny _ _ (rule "list.extend.makes-room" >>= λ_=>Builtin.List.listTouch (.ref s.heap.objs.size) >>= λ_ =>
  again (.builtin "list.extend.loop" ⟨[.ref s.heap.objs.size,.ref z,.none],[]⟩)) _ _ _
 refine aAA (aCM ?_);refine aAA ?_;show wpAny _ _ (updateSeq s.heap.objs.size (·.push .none) >>= λ_=>updateSeq s.heap.objs.size (·.pop)) _ _ _;refine aAA (aEN hS₂ rfl ?_);have hS₃:=aCF (Obj.mapSeq (·.push Value.none)) hS₂ rfl;refine aEN (hz:=by seq_fits) hS₃ rfl ?_;have hS₄:=aCF (Obj.mapSeq (·.pop)) hS₃ rfl;have kp2:∀b o,b≠s.heap.objs.size->s.heap.get? b=some o->((((s.heap.push {cls:=.type "list",data:=.seq #[]}).update s.heap.objs.size (Obj.mapSeq (λ_=>(#[]:Array Value)))).update s.heap.objs.size (Obj.mapSeq (·.push Value.none))).update s.heap.objs.size (Obj.mapSeq (·.pop))).get? b=some o :=
  λb o hb e=>(aCL _ _ (Ne.symm hb)).trans ((aCL _ _ (Ne.symm hb)).trans (kp b o hb e))
 have I2:Inv X pins σ (upd H s.heap.objs.size (.lst [])) {s with heap:=_}:=I.laid (t':=s.toks) (λb o e=>kp2 b o (aAO (aAE e)) e) (aAD _) ⟨aCE _,[],_,.nil,hS₄⟩;refine aAC ⟨aEU aGZ _,aEi (A:=A.in1) hh D q1 q2 hn hSf I.fresh (λs' H' Ts a b c d=>⟨rfl,hQ s' H' _ Ts a b I.fresh c d⟩) (min xs.length ys.length) 0 _ _ [] (by lia) (aCE _) I2 (λb hb=>(hf b hb).of ?_) (λb o e=>(aI (aQ e I.fresh)).trans e) ⟨aS,λj T x y e=>by simp at e⟩ rfl (mv _ kp2)⟩;rw[aI]
 ·exact(hf b hb).1
 ·rintro rfl
  simp only[aAU,aCR,aFJ,not_or]at hSf hb;exact hb.elim hSf.1 λhb=>hb.elim hSf.2.1 λhb=>hb.elim hSf.2.2.1 λhb=>hb.elim hSf.2.2.2.1 hSf.2.2.2.2.1
end
end L2
namespace EV
open L2
def rZip(K:Frag):R2:=λx y H Q=>∃a b xs ys,x=.ref a/\y=.ref b/\(SqL K H a xs\/SqT K H a xs)/\(SqL K H b ys\/SqT K H b ys) /\
 ∀(H':Hp) (p:Addr) (Ts:List Addr),(∀b o,H b=some o->H' b=some o)->H p=none->H' p=some (.lst (Ts.map V.ref))->Ts.length=min xs.length ys.length ->
  (∀(j:Nat) (T:Addr) (x y:V),Ts[j]?=some T->xs[j]?=some x->ys[j]?=some y->H' T=some (.tup [x,y]))->Q (.ref p) H'
variable{K:Frag}{a b:Expr}{q:Pos}
def aGa{a:Addr}{xs:List V}(I:Inv X pins σ H s)(h:SqL X.K H a xs\/SqT X.K H a xs):∃its:List Value,Vals xs its/\(s.heap.IsList a its.toArray\/s.heap.IsTuple a its.toArray)/\xs.length<=sizeLine:=by
 rcases h with h|h
 ·obtain⟨its,r,pl,hz⟩:=I.list h;exact⟨its,r,.inl pl.isList,hz⟩
 ·obtain⟨its,r,pl,hz⟩:=I.tuple h;exact⟨its,r,.inr pl,hz⟩
def yG(hc:X.calm=true)(h1:X.mg "list"=none)(h2:X.mg "zip"=none)(ha:PE X a ta)(hb:PE X b tb)(g1:Gl X "list":=by rfl)(g2:Gl X "zip":=by rfl)
  (hs:starEach [.Call (.Name "zip" q) [a,b] [] pos2] X.env=(false,eval (.Call (.Name "zip" q) [a,b] [] pos2) X.env)::starEach [] X.env:=by rfl)(hpl:(backTo pos (starEach [] X.env)).any (·.1)=false:=by rfl)
  (hs2:starEach [a,b] X.env=(false,eval a X.env)::starEach [b] X.env:=by rfl)(hs3:starEach [b] X.env=(false,eval b X.env)::starEach [] X.env:=by rfl)(hpl2:(backTo pos2 (starEach [b] X.env)).any (·.1)=false:=by rfl) :
  PE X (.Call (.Name "list" p) [.Call (.Name "zip" q) [a,b] [] pos2] [] pos) (tOp (rZip X.K) ta tb):=by
 intro pins s σ H Q I h;refine aDU (dJ I g1 h1 aKz ?_);refine aDI ?_ hs hpl;rw[hs];show wpAny _ _ (spliced ((false,eval (.Call (.Name "zip" q) [a,b] [] pos2) X.env)::backTo pos (starEach [] X.env))) _ _ s;refine aHL ?_;refine aDU (dJ I g2 h2 aHj ?_);refine aDI (thn (bF ha (bF hb cJ hs3) hs2 pos2 pins s σ H (λvs H2=>match vs with|[x,y]=>rZip X.K x y H2 Q|_=>False) I h) λus s1 ⟨vs,H1,I1,r1,hr⟩=>?_) hs2 hpl2
 match vs,r1,hr with
 |[],_,hr=>exact hr.elim|[_],_,hr=>exact hr.elim|_::_::_::_,_,hr=>exact hr.elim|[x,y],r1,hr =>
 obtain⟨u1,u2,rfl,rx,ry⟩:=r1.two;obtain⟨aa,bb,xs,ys,rfl,rfl,sx,sy,hq⟩:=hr;cases rx;cases ry;obtain⟨its,q1,p1,z1⟩:=aGa I1 sx;obtain⟨its2,q2,p2,z2⟩:=aGa I1 sy;have hl1:aa < s1.heap.objs.size:=by rcases p1 with⟨o,e,_⟩|⟨o,e,_⟩ <;> exact aAE e
 have hl2:bb < s1.heap.objs.size:=by rcases p2 with⟨o,e,_⟩|⟨o,e,_⟩ <;> exact aAE e
 refine ZP.call_zipG p1 p2 λh1 Zs1 hsz kp=>?_
 refine aJY ?_;have fp:∀b∈[s1.heap.objs.size+4,s1.heap.objs.size+2,s1.heap.objs.size+3,s1.heap.objs.size,s1.heap.objs.size+1],s1.heap.objs.size<=b:=λb hb=>by
  simp only[aAU,aCR,aFJ]at hb;rcases hb with rfl|rfl|rfl|rfl|rfl <;> (show(_:Nat)<=(_:Nat);lia)
 refine rQ (I1.ok.hd hc) (ZP.ap_of hl1 hl2) (I1.kept (t':=s1.toks) kp) (λb hb=>I1.fpOk (fp b hb) (I1.hok.fresh (fp b hb))) Zs1 q1 q2 (by lia) λs2 H2 S Ts I3 old hS hP hl=>?_
 exact⟨.ref S,H2,I3,rfl,hq H2 S Ts old hS hP.1 hl hP.2⟩
def zipT(xs ys:List D):List D:=(xs.zip ys).map λp=>.tup [p.1,p.2]
def pZip(x y:W)(M:Mm):Oc W:=match sv M x,sv M y with
 |some xs,some ys=>okD (.lst (zipT xs ys)) M|_,_=>.bad
def aKf:Op2 K Z (rZip K) pZip:=by
 intro μ H M x y v u Q hr rx ry p;unfold pZip at p;cases q1:sv M x with
 |none=>rw[q1]at p;exact p.elim
 |some xs =>
  cases q2:sv M y with
  |none=>rw[q1,q2]at p;exact p.elim
  |some ys =>
   rw[q1,q2]at p;obtain⟨a,vs,rfl,h1,r1⟩:=qC hr rx q1;obtain⟨b,us,rfl,h2,r2⟩:=qC hr ry q2;refine⟨a,b,vs,us,rfl,rfl,h1,h2,λH' q Ts old hq hS hl hT=>?_⟩;have ex:Ext μ H μ H':=⟨λa o _ h=>old a o h,λa h=>.inl h,λ_ _ h=>h,λa o h=>⟨o,old a o h,.refl⟩⟩
   have hr':HR K μ H' M:=⟨hr.len,hr.nd,λi a ds e1 e2=>by
    obtain⟨vs,e3,e4⟩:=hr.ent i a ds e1 e2;exact⟨vs,old _ _ e3,CelO.ext hr.lsts ex e4⟩⟩
   refine p μ H' ex hr' _ ?_;simp only[Rw,Rp];refine⟨q,Ts.map V.ref,rfl,hS,hr.out hq,?_⟩;have r1':=Rps.ext hr.lsts ex _ _ r1;have r2':=Rps.ext hr.lsts ex _ _ r2;clear p q1 q2 rx ry h1 h2 hS hq r1 r2;unfold zipT;induction Ts generalizing xs ys vs us with
   |nil =>
    have:(xs.zip ys).length=0:=by rw[List.length_zip,r1'.length,r2'.length,<- hl];rfl
    rw[aEY.mp this];exact .nil
   |cons T r ih =>
    cases xs with
    |nil=>simp only[Rps]at r1';subst r1';simp at hl
    |cons x xs =>
     cases ys with
     |nil=>simp only[Rps]at r2';subst r2';simp at hl
     |cons y ys =>
      simp only[Rps]at r1' r2';obtain⟨v,vr,rfl,e1,t1⟩:=r1';obtain⟨u,ur,rfl,e2,t2⟩:=r2';refine .cons ?_ (ih xs ys vr ur (by simpa using hl) (λj T x y a b c=>hT (j+1) T x y (by simpa using a) (by simpa using b) (by simpa using c)) t1 t2);simp only[Rp];exact⟨T,[v,u],rfl,hT 0 T v u rfl rfl rfl,.cons e1 (.cons e2 .nil)⟩
def wT(hc:X.calm=true)(h1:X.mg "list"=none)(h2:X.mg "zip"=none)(ha:Ev X K Z a fa)(hb:Ev X K Z b fb)(g1:Gl X "list":=by rfl)(g2:Gl X "zip":=by rfl)
  (hs:starEach [.Call (.Name "zip" q) [a,b] [] pos2] X.env=(false,eval (.Call (.Name "zip" q) [a,b] [] pos2) X.env)::starEach [] X.env:=by rfl)(hpl:(backTo pos (starEach [] X.env)).any (·.1)=false:=by rfl)
  (hs2:starEach [a,b] X.env=(false,eval a X.env)::starEach [b] X.env:=by rfl)(hs3:starEach [b] X.env=(false,eval b X.env)::starEach [] X.env:=by rfl)(hpl2:(backTo pos2 (starEach [b] X.env)).any (·.1)=false:=by rfl) :
  Ev X K Z (.Call (.Name "list" p) [.Call (.Name "zip" q) [a,b] [] pos2] [] pos) (e2 pZip fa fb):=by
 have h:=yG (p:=p) (q:=q) (pos:=pos) (pos2:=pos2) hc h1 h2 ha.h hb.h g1 g2 hs hpl hs2 hs3 hpl2;rw[ha.k]at h;exact⟨ha.k,cqE h (lift2 aKf)⟩
end EV
namespace RT
variable{prog:Program}{E:Value->Shared->Prop}
def IsRvT(h:Heap)(a l:Addr)(i:Int):Prop:=∃o,h.get? a=some o/\o.cls=.type "reversed"/\o.data=.fields #[.ref l,rawInt i]
def IsRvT.at{a:Addr}{i:Int}(x:IsRvT h a l i)(e:∀o,h.get? a=some o->h'.get? a=some o):IsRvT h' a l i:=let⟨o,ho,r⟩:=x;⟨o,e _ ho,r⟩
end RT
namespace L2
end L2
namespace EV
open L2
variable{K:Frag}{a:Expr}{tg:Expr}{K:Frag}
end EV
end
variable{QI:EV.Src->EV.Mm->Prop}
namespace EV
open PySem L2
@[irreducible] def Okx(EX:D->Mm->Prop)(o:Oc α)(Q:α->Mm->Prop):Prop:=match o with
 |.ok a M=>Q a M|.ex x M=>EX x M|.bad=>False
abbrev NX:D->Mm->Prop:=λ_ _=>False
abbrev Ok(o:Oc α)(Q:α->Mm->Prop):Prop:=Okx NX o Q
variable{α β:Type}{EX EX':D->Mm->Prop}{o o':Oc α}{Q Q':α->Mm->Prop}{a:α}
def gC:Okx EX o Q ↔ (∃a M,o=.ok a M/\Q a M)\/∃x M,o=.ex x M/\EX x M:=by
 unfold Okx;cases o with
 |ok a M=>exact⟨λh=>.inl ⟨a,M,rfl,h⟩,λh=>by rcases h with⟨_,_,e,q⟩|⟨_,_,e,q⟩ <;> cases e;exact q⟩
 |ex x M=>exact⟨λh=>.inr ⟨x,M,rfl,h⟩,λh=>by rcases h with⟨_,_,e,q⟩|⟨_,_,e,q⟩ <;> cases e;exact q⟩
 |bad=>exact⟨λh=>h.elim,λh=>by rcases h with⟨_,_,e,q⟩|⟨_,_,e,q⟩ <;> cases e⟩
def gY:Ok o Q ↔ ∃a M,o=.ok a M/\Q a M:=by
 refine Iff.trans (gC (EX:=NX)) ⟨λh=>?_,.inl⟩;rcases h with h|⟨_,_,_,q⟩
 ·exact h
 ·exact q.elim
def aH(q:Q a M):Okx EX (.ok a M) Q:=gC.mpr (.inl ⟨a,M,rfl,q⟩)
def nX{x:D}(q:EX x M):Okx EX (.ex x M:Oc α) Q:=gC.mpr (.inr ⟨x,M,rfl,q⟩)
def aG{k:α->Mm->Oc β}{Q:β->Mm->Prop}(h:Okx EX o λa M=>Okx EX (k a M) Q):Okx EX (o.bind k) Q:=by
 rcases gC.mp h with⟨a,M,rfl,q⟩|⟨x,M,rfl,q⟩
 ·exact q
 ·exact nX q
def Okx.mono(h:Okx EX o Q)(f:∀a M,Q a M->Q' a M):Okx EX o Q':=by
 rcases gC.mp h with⟨a,M,rfl,q⟩|⟨x,M,rfl,q⟩
 ·exact aH (f _ _ q)
 ·exact nX q
def Okx.monoX(h:Okx EX o Q)(f:∀a M,Q a M->Q' a M)(g:∀x M,EX x M->EX' x M):Okx EX' o Q':=by
 rcases gC.mp h with⟨a,M,rfl,q⟩|⟨x,M,rfl,q⟩
 ·exact aH (f _ _ q)
 ·exact nX (g _ _ q)
def Ok.mono(h:Ok o Q)(f:∀a M,Q a M->Q' a M):Okx EX o Q':=Okx.monoX h f λ_ _ z=>z.elim
variable{EX:D->Mm->Prop}{p:Prop}
def dN[Decidable p]{a b:Oc α}{Q:α->Mm->Prop}(h1:p->Okx EX a Q)(h2:¬p->Okx EX b Q):Okx EX (if decide p=true then a else b) Q:=by by_cases h:p <;> simp_all
def aPs[Decidable p]{a b:Oc α}{Q:α->Mm->Prop}(h1:p->Okx EX b Q)(h2:¬p->Okx EX a Q):Okx EX (if(!decide p)=true then a else b) Q:=by by_cases h:p <;> simp_all
variable{c:Bool}
def aFq{a b:Oc α}{Q:α->Mm->Prop}(h:c=true)(h1:Okx EX a Q):Okx EX (if c=true then a else b) Q:=by rw[aAG h];exact h1
def gZ{a b:Oc α}{Q:α->Mm->Prop}(h:c=false)(h1:Okx EX b Q):Okx EX (if c=true then a else b) Q:=by rw[aAH (by simp[h])];exact h1
section
variable{α β:Type}(EX:D->Mm->Prop)(L:Lc)(Q:W->Mm->Prop)(QA:List W->Mm->Prop)(QS:Out->Mm->Prop)(QT:Bool->Mm->Prop)(QG:Lc->Mm->Prop)(QI:Src->Mm->Prop)
abbrev poA(p:α->Mm->Oc β)(Q:β->Mm->Prop):α->Mm->Prop:=λx M=>Okx EX (p x M) Q
abbrev poF(f:α->β)(Q:β->Mm->Prop):α->Mm->Prop:=λx M=>Q (f x) M
abbrev poK(P:Mm->Prop):α->Mm->Prop:=λ_ M=>P M
abbrev poE(p:W->W->Mm->Oc W)(g:FE):W->Mm->Prop:=λx M=>Okx EX (g L M) (poA EX (p x) Q)
abbrev poC(fs:FA):W->Mm->Prop:=λw M=>Okx EX (fs L M) (poF (List.cons w) QA)
abbrev poB:W->Mm->Prop:=λw M=>∃b,w=.d (.bl b)/\QT b M
abbrev poV:W->Mm->Prop:=λw M=>∃b,tru M w=some b/\QT b M
abbrev poAnd(g:FE):W->Mm->Prop:=λw M=>∃b,w=.d (.bl b)/\(b=true->Okx EX (g L M) Q)/\(b=false->Q (.d (.bl false)) M)
abbrev poTA(u:FT):Bool->Mm->Prop:=λb M=>(b=true->Okx EX (u L M) QT)/\(b=false->QT false M)
abbrev poTO(u:FT):Bool->Mm->Prop:=λb M=>(b=true->QT true M)/\(b=false->Okx EX (u L M) QT)
abbrev poI(F G:Lc->Mm->Oc α)(Q:α->Mm->Prop):Bool->Mm->Prop:=λb M=>Okx EX (if b=true then F L M else G L M) Q
abbrev poS(G:FS):Out->Mm->Prop:=λo M=>match o with
 |.nx L1=>Okx EX (G L1 M) QS|.bk L1=>QS (.bk L1) M|.ct L1=>QS (.ct L1) M|.rt w=>QS (.rt w) M
abbrev poG(gg:FG):W->Mm->Prop:=λw M=>Okx EX (gg w L M) (poF Out.nx QS)
abbrev poP(i j:Nat):List W->Mm->Prop:=λws M=>∃v w,ws=[v,w]/\QS (.nx ((L.set i (some v)).set j (some w))) M
abbrev poL(gg:FG)(B:FS):Src->Mm->Prop:=λs M=>Okx EX (forD s gg B s.ds L M) QS
abbrev poN:W->Mm->Prop:=λw M=>∃s,srcOf M w=some s/\QI s M
abbrev poR:W->Mm->Prop:=λw M=>∃j,w=.d (.int j)/\in62 j=true/\QI ⟨rngD 0 j.toNat,none⟩ M
abbrev poRT(w:W):W->Mm->Prop:=λu M=>∃i j,w=.d (.int i)/\u=.d (.int j)/\(in62 i=true/\in62 j=true)/\QI ⟨rngD i (j - i).toNat,none⟩ M
abbrev poR2(g:FE):W->Mm->Prop:=λw M=>Okx EX (g L M) (poRT QI w)
abbrev poM(p:W->W->Mm->Oc W)(g:FE):W->Mm->Prop:=λx M=>∃k,x=.ref k/\Okx EX (g L M) (poA EX (p (.ref k)) Q)
abbrev poT3(p:W->Option Int->Option Int->Mm->Oc W)(fh:FO)(x:W):Option Int->Mm->Prop:=λlo M=>Okx EX (fh L M) (poA EX (p x lo) Q)
abbrev poT(p:W->Option Int->Option Int->Mm->Oc W)(fl fh:FO):W->Mm->Prop:=λx M=>Okx EX (fl L M) (poT3 EX L Q p fh x)
abbrev poO(J:Lc->Mm->Prop):Out->Mm->Prop:=λo M=>match o with
 |.nx L=>J L M|.ct L=>J L M|.bk L=>QS (.nx L) M|.rt w=>QS (.rt w) M
abbrev poD(n:Nat):Out->Mm->Prop:=λo M'=>match o with
 |.rt w=>Okx EX (retc n w M') Q|.nx _=>Q (.d .non) (M'.take n)|_=>False
end
section
variable{i j:Nat}{w x y:W}{Q:W->Mm->Prop}{QA:List W->Mm->Prop}{QT:Bool->Mm->Prop}{g h:FE}{t u:FT}{fs:FA}
def aRn(h:L[i]?=some (some w))(q:Q w M):Okx EX (eV i L M) Q:=by unfold eV;rw[h];exact aH q
def aRl{d:D}(q:Q (.d d) M):Okx EX (eC d L M) Q:=aH q
def aJx(q:Q (.d (.lst (ns.map D.int))) M):Okx EX (eInts ns L M) Q:=aH q
def aQu{p:W->Mm->Oc W}(h:Okx EX (f L M) (poA EX p Q)):Okx EX (e1 p f L M) Q:=aG h
def aRi{p:W->W->Mm->Oc W}(h:Okx EX (f L M) (poE EX L Q p g)):Okx EX (e2 p f g L M) Q:=aG (h.mono λ_ _ z=>aG z)
def aRk{p:List W->Mm->Oc W}(h:Okx EX (fs L M) (poA EX p Q)):Okx EX (eA p fs L M) Q:=aG h
def aQk(q:QA [] M):Okx EX (aNil L M) QA:=aH q
def aQq(h:Okx EX (f L M) (poC EX L QA fs)):Okx EX (aCons f fs L M) QA:=aG (h.mono λ_ _ z=>aG (z.mono λ_ _ z=>aH z))
def aMc(h:Okx EX (f L M) (poAnd EX L Q g)):Okx EX (eAnd f g L M) Q:=by
 refine aG (h.mono λw M1 ⟨b,e,h1,h2⟩=>?_);subst e;cases b with
 |true=>exact h1 rfl|false=>exact aH (h2 rfl)
def aQl(h:Okx EX (f L M) (poB QT)):Okx EX (EV.tB f L M) QT:=aG (h.mono λw M1 ⟨b,e,q⟩=>by subst e;exact aH q)
def aQx(h:Okx EX (f L M) (poV QT)):Okx EX (tV f L M) QT:=aG (h.mono λw M1 ⟨b,e,q⟩=>by rw[e];exact aH q)
def aLd(h:Okx EX (t L M) (poF not QT)):Okx EX (EV.tNot t L M) QT:=aG (h.mono λ_ _ z=>aH z)
def aKs(h:Okx EX (t L M) (poTA EX L QT u)):Okx EX (EV.tAnd t u L M) QT:=aG (h.mono λb M1 ⟨h1,h2⟩=>by cases b with|true=>exact h1 rfl|false=>exact aH (h2 rfl))
def aMw(h:Okx EX (t L M) (poTO EX L QT u)):Okx EX (EV.tOr t u L M) QT:=aG (h.mono λb M1 ⟨h1,h2⟩=>by cases b with|true=>exact aH (h1 rfl)|false=>exact h2 rfl)
def aHz(q:QT true M):Okx EX (EV.tYes L M) QT:=aH q
def rW(q:QS (.nx L) M):Okx EX (sNil L M) QS:=aH q
def xB(h:Okx EX (F L M) (poS EX QS G)):Okx EX (sSeq F G L M) QS:=aG (h.mono λo M1 z=>by cases o with|nx L1=>exact z|bk L1=>exact aH z|ct L1=>exact aH z|rt w=>exact aH z)
def aQc(h:Okx EX (f L M) (poK (QS (.nx L)))):Okx EX (sEx f L M) QS:=aG (h.mono λ_ _ z=>aH z)
def aQj(h:Okx EX (f L M) (poF Out.rt QS)):Okx EX (sRt f L M) QS:=aG (h.mono λ_ _ z=>aH z)
def xC(h:Okx EX (t L M) (poI EX L F G QS)):Okx EX (sIf t F G L M) QS:=aG h
def aNx(h:Okx EX (f L M) (poG EX L QS gg)):Okx EX (sAs f gg L M) QS:=aG (h.mono λ_ _ z=>aG (z.mono λ_ _ z=>aH z))
def aJl(h:Okx EX (fs L M) (poP L QS i j)):Okx EX (sPar i j fs L M) QS:=aG (h.mono λws M1 ⟨v,w,e,q⟩=>by subst e;exact aH q)
def aBq(q:QG (L.set i (some w)) M):Okx EX (gN i w L M) QG:=aH q
variable{gs:FGs}
def aQs{xs:List D}(hn:xs.length=n)(h:Okx EX (gs xs L M) QG):Okx EX (gT n gs (.d (.tup xs)) L M) QG:=by unfold gT;simp only;rw[aAG hn];exact h
def aOv(q:QG L M):Okx EX (gsNil [] L M) QG:=aH q
def aOt{d:D}(h:Okx EX (gg (.d d) L M) (poA EX (gs ds) QG)):Okx EX (gsCons gg gs (d::ds) L M) QG:=aG h
def aRh{d:D}(h:Okx EX (f L M) λo M1=>Okx EX (g L M1) λi M2=>∃k j xs t,o=.ref k/\i=.d (.int j)/\M2[k]?=some xs/\ixN xs.length j=some t/\QG L (M2.set k (xs.set t d))):Okx EX (gS f g (.d d) L M) QG:=by
 refine aG (h.mono λo M1 z=>aG (z.mono λi M2 ⟨k,j,xs,t,e1,e2,e3,e4,q⟩=>?_));subst e1 e2;simp only[e3,e4];exact aH q
def aLt{c:Int->Int->Bool}{gg:Int->Int->D}{i j:Int}(hc:c i j=true)(q:Q (.d (gg i j)) M):Okx EX (pI c gg (.d (.int i)) (.d (.int j)) M) Q:=by unfold pI;simp only;rw[aAG hc];exact aH q
def aNt{i j:Int}(q:Q (.d (.int (i+j))) M):Okx EX (pAdd (.d (.int i)) (.d (.int j)) M) Q:=aH q
def eI{xs ys:List D}(hz:xs.length+ys.length<=16777216)(q:Q (.d (.tup (xs++ys))) M):Okx EX (pAdd (.d (.tup xs)) (.d (.tup ys)) M) Q:=by unfold pAdd;simp only;rw[aAG hz];exact aH q
def zH{xs ys:List D}(h1:lv M x=some xs)(h2:lv M y=some ys)(hz:xs.length+ys.length<=16777216)(q:Q (.d (.lst (xs++ys))) M):Okx EX (pAdd x y M) Q:=by
 have:pAdd x y M=.ok (.d (.lst (xs++ys))) M:=by
  cases x with
  |ref i=>simp only[pAdd,h1,h2];rw[aAG hz]|ob _ i=>simp only[pAdd,h1,h2];rw[aAG hz]|nest i=>simp only[pAdd,h1,h2];rw[aAG hz]
  |d a=>cases a <;> simp only[lv,reduceCtorEq]at h1
        cases y with
        |ref i=>cases h1;simp only[lv]at h2;simp only[pAdd,lv,h2];rw[aAG hz]
        |ob _ i=>simp[lv]at h2
        |nest i=>simp[lv]at h2
        |d b=>cases b <;> simp only[lv,reduceCtorEq]at h2
              simp only[pAdd,lv];cases h1;cases h2;rw[aAG hz]
 rw[this];exact aH q
def aMx{i j:Int}(hz:mulOk i j=true)(q:Q (.d (.int (i*j))) M):Okx EX (pMulA (.d (.int i)) (.d (.int j)) M) Q:=by unfold pMulA pMul;simp only;rw[aAG hz];exact aH q
def aNp{i:Int}(q:Q (.d (.int (-i))) M):Okx EX (pNeg (.d (.int i)) M) Q:=aH q
def aAg{a b:D}(h1:wd M x=some a)(h2:wd M y=some b)(hd:dep a<=100/\dep b<=100)(q:Q (.d (.bl (eqD a b))) M):Okx EX (pEq x y M) Q:=by unfold pEq;rw[h1,h2];simp only;rw[aAG hd];exact aH q
def pR{a b:D}(h1:wd M x=some a)(h2:wd M y=some b)(hd:dep a<=100/\dep b<=100)(q:Q (.d (.bl (!eqD a b))) M):Okx EX (pNe x y M) Q:=by unfold pNe;rw[h1,h2];simp only;rw[aAG hd];exact aH q
def aMk{i j:Int}(q:Q (.d (.bl (decide (i=j)))) M):Okx EX (pEq (.d (.int i)) (.d (.int j)) M) Q:=aAg rfl rfl (by simp[dep]) (by simp only[eqD];exact q)
def aMs{i j:Int}(q:Q (.d (.bl (!decide (i=j)))) M):Okx EX (pNe (.d (.int i)) (.d (.int j)) M) Q:=pR rfl rfl (by simp[dep]) (by simp only[eqD];exact q)
def aOe{a b:Str}(q:Q (.d (.bl (!(a==b)))) M):Okx EX (pNe (.d (.str a)) (.d (.str b)) M) Q:=pR rfl rfl (by simp[dep]) (by simpa only[eqD]using q)
def aDw{a b:Bool}(q:Q (.d (.bl (!(a==b)))) M):Okx EX (pNe (.d (.bl a)) (.d (.bl b)) M) Q:=pR rfl rfl (by simp[dep]) (by simpa only[eqD]using q)
variable{k:Int}
def hG{xs:List D}{d:D}(h:atI xs k=some d)(q:Q (.d d) M):Okx EX (pIx (.d (.tup xs)) (.d (.int k)) M) Q:=by unfold pIx;simp only[sv,h];exact aH q
def aGv{xs:List D}{d:D}(hs:∀z,x≠.d (.str z))(h1:sv M x=some xs)(h:atI xs k=some d)(q:Q (.d d) M):Okx EX (pIx x (.d (.int k)) M) Q:=by
 have:pIx x (.d (.int k)) M=.ok (.d d) M:=by
  cases x with
  |ref i=>simp only[pIx,h1,h]|ob _ i=>simp only[pIx,h1,h]|nest i=>simp only[pIx,h1,h]|d a=>cases a <;> first|(exact(hs _ rfl).elim)|(simp only[pIx,h1,h])
 rw[this];exact aH q
def cL{xs:List D}{d:D}(h:atI xs k=some d)(q:Q (.d d) M):Okx EX (pIx (.d (.lst xs)) (.d (.int k)) M) Q:=aGv (by simp) rfl h q
def xP{xs:List D}{d:D}(h:atI xs k=some d)(q:Q (.d d) M):Okx EX (pIx (.d (.fz xs)) (.d (.int k)) M) Q:=aGv (by simp) rfl h q
variable{b:Nat}
def xI{xs:List D}{d:D}(h1:M[b]?=some xs)(h:atI xs k=some d)(q:Q (.d d) M):Okx EX (pIx (.ref b) (.d (.int k)) M) Q:=aGv (by simp) h1 h q
def aMl{ws:List W}{ds:List D}(h:allD ws=some ds)(hz:ds.length<=16777216)(q:Q (.d (.tup ds)) M):Okx EX (mkT ws M) Q:=by unfold mkT;rw[h];simp only;rw[aAG hz];exact aH q
def aOc{ws:List W}{ds:List D}(h:allD ws=some ds)(hz:ds.length<=16777216)(q:Q (.d (.lst ds)) M):Okx EX (mkL ws M) Q:=by unfold mkL;rw[h];simp only;rw[aAG hz];exact aH q
def aNe{ws:List W}{ds:List D}(h:allD ws=some ds)(hz:ds.length<=16777216)(q:Q (.ref M.length) (M++[ds])):Okx EX (mkR ws M) Q:=by unfold mkR;rw[h];simp only;rw[aAG hz];exact aH q
def aOq{xs:List D}(hs:∀z,x≠.d (.str z))(h:sv M x=some xs)(q:Q (.d (.int xs.length)) M):Okx EX (cLen [x] M) Q:=by
 have:cLen [x] M=.ok (.d (.int xs.length)) M:=by
  cases x with
  |ref i=>simp only[cLen,h]|ob _ i=>simp only[cLen,h]|nest i=>simp only[cLen,h]|d a=>cases a <;> first|(exact(hs _ rfl).elim)|(simp only[cLen,h])
 rw[this];exact aH q
def rM{xs:List D}(q:Q (.d (.int xs.length)) M):Okx EX (cLen [.d (.tup xs)] M) Q:=aH q
def aKu{xs:List D}(q:Q (.d (.int xs.length)) M):Okx EX (cLen [.d (.lst xs)] M) Q:=aH q
def aIr{xs:List D}(q:Q (.d (.int xs.length)) M):Okx EX (cLen [.d (.fz xs)] M) Q:=aH q
def aJd{xs:List D}(h:M[b]?=some xs)(q:Q (.d (.int xs.length)) M):Okx EX (cLen [.ref b] M) Q:=aOq (by simp) h q
variable{b:Bool}
def aLa(q:Q (.d (.int (if b=true then 1 else 0))) M):Okx EX (cInt [.d (.bl b)] M) Q:=aH q
def aPh{l:Int}(q:Q (.d (.int (if l > k then l else k))) M):Okx EX (cMax2 [.d (.int k),.d (.int l)] M) Q:=aH q
def aNg{l:Int}(q:Q (.d (.int (if l < k then l else k))) M):Okx EX (cMin2 [.d (.int k),.d (.int l)] M) Q:=aH q
def jL{xs:List D}(h:sv M x=some xs)(q:Q (.d (.tup xs)) M):Okx EX (cTup [x] M) Q:=by unfold cTup;simp only[h];exact aH q
def aNz{T:String}(h:isT T M x=some b)(q:Q (.d (.bl b)) M):Okx EX (pIsI T x M) Q:=by unfold pIsI;rw[h];exact aH q
def aRg{p:W->W->Mm->Oc W}(h:Okx EX (f L M) (poM EX L Q p g)):Okx EX (eM1 p f g L M) Q:=aG (h.mono λx M1 ⟨k,e,z⟩=>by subst e;exact aG z)
variable{k:Nat}
def kU{d:D}{xs:List D}(h:M[k]?=some xs)(hz:xs.length < 16777216)(q:Q (.d .non) (M.set k (xs++[d]))):Okx EX (pAppend (.ref k) (.d d) M) Q:=by unfold pAppend;simp only[h];rw[aAG hz];exact aH q
def qN{xs ys:List D}(h:M[k]?=some xs)(h2:lv M y=some ys)(hz:xs.length+ys.length<=16777216)(q:Q (.d .non) (M.set k (xs++ys))):Okx EX (pExtend (.ref k) y M) Q:=by unfold pExtend;simp only[h,h2];rw[aAG hz];exact aH q
def aOn{xs:List D}{d:D}(h:M[k]?=some (xs++[d]))(q:Q (.d d) (M.set k xs)):Okx EX (pPop (.ref k) M) Q:=by
 unfold pPop;simp only[h,List.getLast?_concat,List.dropLast_concat];exact aH q
def aQb{fl fh:FO}(z:Okx EX (f L M) (poT EX L Q pSl fl fh)):Okx EX (eSl f fl fh L M) Q:=aG (z.mono λ_ _ z=>aG (z.mono λ_ _ z=>aG z))
def aPy(q:QO none M):Okx EX (oNo L M) QO:=aH q
def aPb(h:Okx EX (f L M) λw M1=>∃k,w=.d (.int k)/\QO (some k) M1):Okx EX (oAt f L M) QO:=aG (h.mono λw M1 ⟨k,e,q⟩=>by subst e;exact aH q)
def aNn{xs:List D}{lo:Option Int}(q:Q (.d (.tup (cut xs lo hi))) M):Okx EX (pSl (.d (.tup xs)) lo hi M) Q:=aH q
def aMj{xs:List D}{lo:Option Int}(hs:∀z,x≠.d (.tup z))(h:lr M x=some xs)(q:Q (.d (.lst (cut xs lo hi))) M):Okx EX (pSl x lo hi M) Q:=by
 have:pSl x lo hi M=okD (.lst (cut xs lo hi)) M:=by
  cases x with
  |ref i=>simp only[pSl,h]|ob _ i=>simp only[pSl,h]|nest i=>simp only[pSl,h]|d a=>cases a <;> first|(exact(hs _ rfl).elim)|(simp only[pSl,h])
 rw[this];exact aH q
variable{fi:FI}
def aMi(h:Okx EX (fi L M) (poL EX L QS gg B)):Okx EX (sFor fi gg B L M) QS:=aG h
def aRc{s:Src}(h:Okx EX (f L M) (poN QI)):Okx EX (iE f L M) QI:=aG (h.mono λw M1 ⟨s,e,q⟩=>by rw[e];exact aH q)
def aLx(h:Okx EX (f L M) (poR QI)):Okx EX (iR1 f L M) QI:=aG (h.mono λw M1 ⟨j,e,hz,q⟩=>by subst e;simp only;rw[aAG hz];exact aH q)
def aNo(h:Okx EX (f L M) (poR2 EX L QI g)):Okx EX (iR2 f g L M) QI :=
 aG (h.mono λw M1 z=>aG (z.mono λu M2 ⟨i,j,e1,e2,hz,q⟩=>by subst e1 e2;simp only;rw[aAG hz];exact aH q))
def uK{s:Src}(I:Nat->Lc->Mm->Prop)(h0:I 0 L M)(hc:∀i L M,i<=s.ds.length->I i L M->Chk s M)
  (hs:∀i d L M,s.ds[i]?=some d->I i L M->Okx EX (gg (.d d) L M) (poA EX B (poO QS (I (i+1)))))(hd:∀L M,I s.ds.length L M->QS (.nx L) M):Okx EX (forD s gg B s.ds L M) QS:=by
 have key:∀k i L M,s.ds.length - i=k->i<=s.ds.length->I i L M->Okx EX (forD s gg B (s.ds.drop i) L M) QS:=by
  intro k;induction k with
  |zero =>
   intro i L M e hi hI;have:i=s.ds.length:=by lia
   subst this;rw[aEI (aAD _)];unfold forD;rw[aAG (hc _ L M (aAD _) hI)];exact aH (hd L M hI)
  |succ k ih =>
   intro i L M e hi hI;have hlt:i < s.ds.length:=by lia
   rw[aCI hlt];unfold forD;rw[aAG (hc _ L M hi hI)];refine aG ((hs i s.ds[i] L M (by simp[hlt]) hI).mono λL1 M1 z=>aG (z.mono λo M2 z=>?_));cases o with
   |nx L2=>exact ih (i+1) L2 M2 (by lia) (by lia) z|ct L2=>exact ih (i+1) L2 M2 (by lia) (by lia) z|bk L2=>exact aH z|rt w=>exact aH z
 simpa using key s.ds.length 0 L M (by lia) (by lia) h0
def kE(I:Nat->Lc->Mm->Prop)(hs:∀m L M,I m L M->Okx EX (t L M) λb M1=>(b=true->Okx EX (B L M1) λo M2=>match o with
   |.nx L2=>∃m',m' < m/\I m' L2 M2|.ct L2=>∃m',m' < m/\I m' L2 M2|.bk L2=>QS (.nx L2) M2|.rt w=>QS (.rt w) M2)/\(b=false->QS (.nx L) M1)):∀(n m:Nat) (L:Lc) (M:Mm),I m L M->m < n->Okx EX (whileD t B n L M) QS:=by
 intro n;induction n with
 |zero=>intro m L M _ h;lia|succ n ih =>
  intro m L M hI hm;unfold whileD;refine aG ((hs m L M hI).mono λb M1 ⟨h1,h2⟩=>?_);cases b with
  |false=>exact aH (h2 rfl)|true =>
   refine aG ((h1 rfl).mono λo M2 z=>?_);cases o with
   |nx L2=>obtain⟨m',l,z⟩:=z;exact ih m' L2 M2 z (by lia)
   |ct L2=>obtain⟨m',l,z⟩:=z;exact ih m' L2 M2 z (by lia)
   |bk L2=>exact aH z|rt w=>exact aH z
def cF{c:FT}(I:Nat->List D->Lc->Mm->Prop)
  (h:Okx EX (fi L M) λs M1=>(I 0 [] (outL js L) M1/\(∀i acc L M,i<=s.ds.length->I i acc L M->M.length=M1.length/\Chk s (M++[acc])/\acc.length<=i)/\s.ds.length<=16777216 /\
   (∀i d acc L M,s.ds[i]?=some d->I i acc L M->Ok (gg (.d d) L (M++[acc])) λL1 M2=>Ok (c L1 M2) λb M3=>(b=true->Ok (f L1 M3) λw M4=>∃x M5,w=.d x/\M4=M5++[acc]/\I (i+1) (acc++[x]) L1 M5)/\(b=false->∃M5,M3=M5++[acc]/\I (i+1) acc L1 M5)) /\
   (∀acc L M,I s.ds.length acc L M->Q (.d (.lst acc)) M))):Okx EX (eComp js fi gg c f L M) Q:=by
 unfold eComp compT;refine aG (aG (h.mono λs M1 ⟨h0,hc,hz,hs,hd⟩=>?_));have key:∀k i acc L M,s.ds.length - i=k->i<=s.ds.length->I i acc L M->∃acc' L' M',compD M1.length s gg c f (s.ds.drop i) L (M++[acc])=.ok () (M'++[acc'])/\I s.ds.length acc' L' M':=by
  intro k;induction k with
  |zero =>
   intro i acc L M e hi hI;have:i=s.ds.length:=by lia
   subst this;rw[aEI (aAD _)];unfold compD;rw[aAG (hc _ acc L M (aAD _) hI).2.1];exact⟨acc,L,M,rfl,hI⟩
  |succ k ih =>
   intro i acc L M e hi hI;have hlt:i < s.ds.length:=by lia
   rw[aCI hlt];unfold compD;obtain⟨hl,hch,hal⟩:=hc _ acc L M hi hI;rw[aAG hch];obtain⟨L1,M2,e1,hh⟩:=gY.mp (hs i s.ds[i] acc L M (by simp[hlt]) hI);obtain⟨L1',M3,e2,h1,h2⟩:=gY.mp hh;rw[e1];simp only[bI];rw[e2];simp only[bI];cases L1' with
   |false =>
    obtain⟨M5,e3,hI'⟩:=h2 rfl;subst e3;simp only[aAT,aBW];exact ih (i+1) acc L1 M5 (by lia) (by lia) hI'
   |true =>
    obtain⟨w,M4,e3,x,M5,rfl,rfl,hI'⟩:=gY.mp (h1 rfl);simp only[aBM];rw[e3];simp only[bI];have hl5:=(hc _ _ _ _ (by lia) hI').1;have g1:(M5++[acc])[M1.length]?=some acc:=by rw[<- hl5];simp
    rw[g1];simp only;rw[aAG (by lia)];have g2:(M5++[acc]).set M1.length (acc++[x])=M5++[acc++[x]]:=by rw[<- hl5];simp
    rw[g2];exact ih (i+1) (acc++[x]) L1 M5 (by lia) (by lia) hI'
 obtain⟨acc,L',M',e,hI⟩:=key s.ds.length 0 [] (outL js L) M1 (by lia) (by lia) h0;rw[aHN]at e;rw[e];have hl:=(hc _ _ _ _ (aAD _) hI).1;have g1:(M'++[acc])[M1.length]?=some acc:=by rw[<- hl];simp
 have g2:(M'++[acc]).take M1.length=M':=by rw[<- hl];simp
 simp only[g1,g2];exact aH (aH (hd acc L' M' hI))
def bN{m:Nat}{ws:List W}(hm:ws.length=m)(h:Okx EX (F (ws.map some++List.replicate (n - ws.length) none) M) (poD EX Q M.length)):Okx EX (fnD m n F ws M) Q:=by
 unfold fnD;rw[aAG hm];refine aG (h.mono λo M' z=>?_);cases o with
 |rt w=>exact z|nx L=>exact aH z|bk L=>exact z.elim|ct L=>exact z.elim
def aAk{d:D}(q:Q (.d d) (M.take n)):Okx EX (retc n (.d d) M) Q:=aH q
def aIl{b:Nat}{xs:List D}(hb:¬b < n)(h:M[b]?=some xs)(q:Q (.d (.lst xs)) (M.take n)):Okx EX (retc n (.ref b) M) Q:=by unfold retc;simp only;rw[aAH hb];simp only[h];exact aH q
def aOz{m:Nat}{ws:List W}(hm:ws.length=m)(h:Okx EX (F (ws.map some++List.replicate (n - ws.length) none) M) λo M'=>∃i ds,o=.rt (.ref i)/\M.length<=i/\M'[i]?=some ds/\Q (.ref M.length) (M'.take M.length++[ds])):Okx EX (fnR m n F ws M) Q:=by
 unfold fnR;rw[aAG hm];refine aG (h.mono λo M' ⟨i,ds,e,hi,e2,q⟩=>?_);subst e;simp only[e2];rw[aAG hi];exact aH q
end
def Bx(M:Mm)(b:Nat):Prop:=∃x y z,M[b]?=some [.int x,.int y,.int z]
def Nx(b:Nat)(M M':Mm):Prop:=∃x y z,M'=M.set b [.int x,.int y,.int z]
variable{b:Nat}
def Bx.lt(h:Bx M b):b < M.length:=by obtain⟨x,y,z,e⟩:=h;exact(aAF.mp e).1
def Nx.len(h:Nx b M M'):M'.length=M.length:=by obtain⟨x,y,z,rfl⟩:=h;simp
def Nx.bx(h:Nx b M M')(l:Bx M b):Bx M' b:=by
 obtain⟨x,y,z,rfl⟩:=h;exact⟨x,y,z,aBZ l.lt⟩
def Nx.trans{M1 M2:Mm}(h:Nx b M M1)(h':Nx b M1 M2):Nx b M M2:=by
 obtain⟨x,y,z,rfl⟩:=h;obtain⟨x',y',z',rfl⟩:=h';exact⟨x',y',z',by rw[List.set_set]⟩
def Nx.refl(h:Bx M b):Nx b M M:=by
 obtain⟨x,y,z,e⟩:=h;refine⟨x,y,z,?_⟩;apply aJW;intro i;by_cases hi:b=i
 ·subst hi;rw[aBZ (aAF.mp e).1,e]
 ·rw[aDX hi]
def Nx.get{M M':Mm}{b i:Nat}(h:Nx b M M')(n:b≠i):M'[i]?=M[i]?:=by
 obtain⟨x,y,z,rfl⟩:=h;rw[aDX n]
def Nx.unapp{J:Mm}(h:Nx b (M++J) M')(l:b < M.length):∃M1,M'=M1++J/\Nx b M M1:=by
 obtain⟨x,y,z,rfl⟩:=h;exact⟨_,List.set_append_left _ _ l,x,y,z,rfl⟩
def Bx.app{J:Mm}(h:Bx M b):Bx (M++J) b:=by
 obtain⟨x,y,z,e⟩:=h;exact⟨x,y,z,by rw[aAW (aAF.mp e).1];exact e⟩
def Nx.take{M M':Mm}{b:Nat}(h:Nx b M M'):M'.take M.length=M':=by rw[<- h.len,aBA]
mutual
def sz:D->Nat
 |.tup xs=>szs xs+1|.lst xs=>szs xs+1|.fz xs=>szs xs+1|.exn _ _ xs=>szs xs+1|_=>1
def szs:List D->Nat
 |[]=>0|x::xs=>sz x+szs xs
end
mutual
def noL:D->Bool
 |.tup xs=>noLs xs|.lst _=>false|.fz _=>false|.exn _ _ _=>false|.adr _=>false|_=>true
def noLs:List D->Bool
 |[]=>true|x::xs=>noL x&&noLs xs
end
def aHe(d:D):0 < sz d:=by cases d <;> simp[sz]
def iB:∀xs ys:List D,szs (xs++ys)=szs xs+szs ys
 |[],ys=>by simp[szs]|x::xs,ys=>by simp[szs,iB xs ys];lia
def tI:∀xs:List D,xs.length<=szs xs
 |[]=>by simp[szs]|x::xs=>by have:=tI xs;have:=aHe x;simp[szs];lia
def vU:∀{xs:List D},noLs xs=true->∀{x},x∈xs->noL x=true
 |[],_,_,h=>by cases h
 |y::ys,h,x,hx=>by
  simp only[noLs,aFP]at h;rcases aAU.mp hx with rfl|hx
  ·exact h.1
  ·exact vU h.2 hx
def aIi{xs:List D}(h:noL (.tup xs)=true){x:D}(hx:x∈xs):noL x=true:=vU (by simpa[noL]using h) hx
def aMp{x y:W}{xs ys:List D}{Q:W->Mm->Prop}(h1:sv M x=some xs)(h2:sv M y=some ys)(q:Q (.d (.lst (zipT xs ys))) M):Okx EX (pZip x y M) Q:=by unfold pZip;rw[h1,h2];exact aH q
def atBox(c:Int):atI [D.int 0,D.int c] (if decide ((10:Int) ^ (Int.toNat 18)<=c)=true then 1 else 0)=some (.int (if(1000000000000000000:Int)<=c then c else 0)):=by
 by_cases hc:(1000000000000000000:Int)<=c <;> simp[hc,atI,ixN]
end EV
section
open PySem PySem.Spec PyProof.Rows
namespace EV
open L2
variable{EX:D->Mm->Prop}{K:Frag}{Q:W->Mm->Prop}
end EV
set_option maxHeartbeats 4000000
namespace L2
def hdl(A:Around):List Addr:=match A.handled with
 |some (.ref e)=>[e]|_=>[]
def wS(q:A.handled=some (.ref e)):hdl A=[e]:=by unfold hdl;rw[q]
def Calm.there{A:Around}(c:Calm A h):∀b∈hdl A,∃o,h.get? b=some o:=by
 rcases c with c|⟨e,cc,d,vs,sl,h1,h2,h3⟩
 ·unfold hdl;rw[c];intro b hb;cases hb
 ·rw[wS h1];intro b hb;rw[aBP.mp hb];exact⟨_,h2⟩
def Calm.kept{A:Around}(c:Calm A h)(k:∀b∈hdl A,∀o,h.get? b=some o->h'.get? b=some o):Calm A h' :=
 c.mono λe _ _ _ _ q _ z=>k e (by rw[wS z];exact aBP.mpr rfl) _ q
def Calm.ne{A:Around}{o:Obj}{x y:Value}(c:Calm A h)(q:h.get? I=some o)(d:o.data=.fields #[x,y]):∀b∈hdl A,b≠I:=by
 rcases c with c|⟨e,cc,dd,vs,sl,h1,h2,h3⟩
 ·unfold hdl;rw[c];intro b hb;cases hb
 ·rw[wS h1];intro b hb z
  rw[aBP.mp hb]at z;rw[z,q]at h2;cases h2;cases d;simp at h3
variable{prog:Program}
def Walks.listQ(I ax:Addr)(hne:ax≠I)(items:Array Value) :
  Walks prog w A I (I::ax::hdl A) [I] items.size (λi v=>items[i]?=some v) (λi h=>h.IsListIter I ax i/\h.IsList ax items/\Calm A h)where
 sub:=λb hb=>by simp at hb;simp[hb]
 frame:=λ_ _ _ st hk=>⟨st.1.at λo e=>hk I (by simp) o e,st.2.1.at λo e=>hk ax (by simp) o e,st.2.2.kept λb hb=>hk b (by simp[hb])⟩
 item:=λi s Q E hi st hQ=>by
  obtain⟨o,ho,hc,hd⟩:=id st.1;refine aIB st.1 st.2.1 (x:=items[i]) (by simp[hi]) λh' hit' hs'=>?_
  exact hQ _ h' s.toks (by simp[hi]) ⟨hit',st.2.1.extBut hs'.extBut hne,st.2.2.kept λb hb o e=>hs'.extBut b o (st.2.2.ne ho hd b hb) e⟩ λb o hb e=>hs'.extBut b o (λh=>hb (by simp[h])) e
 done:=λs Q E st hQ=>lB st.2.2 st.1 st.2.1 (by simp) λh' he'=>hQ h' s.toks λb o hb e=>he' b o (λh=>hb (by simp[h])) e
 self:=λ_ _ _ _ st hQ=>wpAny_pyIter_listiter st.1 hQ
def Walks.tupleQ(I ax:Addr)(hne:ax≠I)(items:Array Value) :
  Walks prog w A I (I::ax::hdl A) [I] items.size (λi v=>items[i]?=some v) (λi h=>h.IsTupleIter I ax i/\h.IsTuple ax items/\Calm A h)where
 sub:=λb hb=>by simp at hb;simp[hb]
 frame:=λ_ _ _ st hk=>⟨st.1.at λo e=>hk I (by simp) o e,st.2.1.at λo e=>hk ax (by simp) o e,st.2.2.kept λb hb=>hk b (by simp[hb])⟩
 item:=λi s Q E hi st hQ=>by
  obtain⟨o,ho,hc,hd⟩:=id st.1;refine aHQ st.1 st.2.1 (x:=items[i]) (by simp[hi]) λh' hit' hs'=>?_
  exact hQ _ h' s.toks (by simp[hi]) ⟨hit',st.2.1.extBut hs'.extBut hne,st.2.2.kept λb hb o e=>hs'.extBut b o (st.2.2.ne ho hd b hb) e⟩ λb o hb e=>hs'.extBut b o (λh=>hb (by simp[h])) e
 done:=λs Q E st hQ=>eE st.2.2 st.1 st.2.1 (by simp) λh' he'=>hQ h' s.toks λb o hb e=>he' b o (λh=>hb (by simp[h])) e
 self:=λ_ _ _ _ st hQ=>wpAny_pyIter_tupleiter st.1 hQ
end L2
set_option maxHeartbeats 4000000
namespace EV
open L2
variable{EX:D->Mm->Prop}{K:Frag}{a b c:Expr}{fs:FA}
noncomputable def srt(ns:List Int):List Int:=ns.mergeSort λa b=>decide (a<=b)
def eL:∀{ns:List Int},Vals (ns.map V.int) us->IntsAre us ns:=by
 induction us with
 |nil=>intro ns h;cases ns with
  |nil=>exact .nil|cons n r=>cases h
 |cons u us ih=>intro ns h;cases ns with
  |nil=>cases h
  |cons n r =>
   cases h with
   |cons p q =>
    obtain⟨t,rfl⟩:=p;exact .cons n t (ih q)
noncomputable def intsOf:List D->Option (List Int)
 |[]=>some []|.int i::r=>(intsOf r).map (i::·)|_::_=>none
def yA(ns:List Int):intsOf (ns.map D.int)=some ns:=by
 induction ns with
 |nil=>rfl|cons n r ih=>simp only[aAK,intsOf,ih,aEO]
def cQ:∀{ds:List D} {ns:List Int},intsOf ds=some ns->ds=ns.map D.int
 |[],ns,h=>by cases h;rfl
 |.int i::r,ns,h=>by
  simp only[intsOf,aAR]at h;obtain⟨ms,h1,rfl⟩:=h;rw[cQ h1];rfl
 |.non::_,_,h=>by cases h
 |.bl _::_,_,h=>by cases h
 |.str _::_,_,h=>by cases h
 |.tup _::_,_,h=>by cases h
 |.lst _::_,_,h=>by cases h
 |.fz _::_,_,h=>by cases h
 |.exn _ _ _::_,_,h=>by cases h
 |.adr _::_,_,h=>by cases h
def fD:∀{ns:List Int} {vs:List V},Rps K μ H (ns.map D.int) vs->vs=ns.map V.int
 |[],vs,h=>by simpa[Rps]using h|n::r,vs,h=>by
  simp only[aAK,Rps,Rp]at h;obtain⟨v,t,rfl,rfl,h3⟩:=h;rw[fD h3];rfl
def aEl{p:Addr}{ys:List V}(hc:cP)(I:Inv X pins σ H s)(hq:SqL X.K H p ys\/SqT X.K H p ys)
  (h:∀(s2:Shared) (J:Addr) (fp:List Addr) (its:Array Value) (St:Nat->Heap->Prop),Vals ys its.toList->Walks X.prog X.w X.A.in1 J fp [J] its.size (λi v=>its[i]?=some v) St->St 0 s2.heap->(∀b∈fp,b < s2.heap.objs.size) ->
   (∀h' tk,(∀b o,b∉[J]->s2.heap.get? b=some o->h'.get? b=some o)->Inv X pins σ H {s2 with heap:=h',toks:=tk})->Q (.ref J) s2):wpAny (model X.prog X.w) X.A.in1 (pyIter (.ref p)) Q X.xe s:=by
 have cm:Calm X.A.in1 s.heap:=I.cm;rcases hq with hq|hq
 ·obtain⟨its,rv,pl,hz⟩:=I.list hq
  have hp:p < s.heap.objs.size:=by
   obtain⟨o,e,_⟩:=pl.isList;exact aAE e
  have I1:Inv X pins σ H {s with heap:=s.heap.push {cls:=.type "list_iterator",data:=.fields #[.ref p,rawInt 0]}}:=I.kept (t':=s.toks) λb o e=>aAB _ e
  refine aHU pl.isList (h _ s.heap.objs.size (s.heap.objs.size::p::hdl X.A.in1) its.toArray _ (by simpa using rv) (Walks.listQ s.heap.objs.size p (aAO hp) its.toArray) ⟨⟨_,aAI _ rfl,rfl,rfl⟩,pl.isList.at λo e=>aAB _ e,cm.kept λb _ o e=>aAB _ e⟩ (λb hb=>?_) λh' tk hk=>?_)
  ·show b < (s.heap.push _).objs.size
   rw[aDG];simp only[aAU]at hb;rcases hb with rfl|rfl|hb
   ·exact aEJ _
   ·exact aEC hp
   ·obtain⟨_,z⟩:=cm.there b hb
    exact aEC (aAE z)
  ·obtain⟨f0,f1,f2,f3,f4,f5⟩:=I.fpOk (H':=H) (aAD _) (I.hok.fresh (aAD _))
   exact I1.turned (t':=tk) (it:=s.heap.objs.size) (λb o hb e=>hk b o (by simpa using hb) e) f0 f1 f3 f4 f5
 ·obtain⟨its,rv,pl,hz⟩:=I.tuple hq
  have pl:s.heap.IsTuple p its.toArray:=pl;have hp:p < s.heap.objs.size:=by
   obtain⟨o,e,_⟩:=pl;exact aAE e
  have I1:Inv X pins σ H {s with heap:=s.heap.push {cls:=.type "tuple_iterator",data:=.fields #[.ref p,rawInt 0]}}:=I.kept (t':=s.toks) λb o e=>aAB _ e
  refine aGB pl (h _ s.heap.objs.size (s.heap.objs.size::p::hdl X.A.in1) its.toArray _ (by simpa using rv) (Walks.tupleQ s.heap.objs.size p (aAO hp) its.toArray) ⟨⟨_,aAI _ rfl,rfl,rfl⟩,pl.at λo e=>aAB _ e,cm.kept λb _ o e=>aAB _ e⟩ (λb hb=>?_) λh' tk hk=>?_)
  ·show b < (s.heap.push _).objs.size
   rw[aDG];simp only[aAU]at hb;rcases hb with rfl|rfl|hb
   ·exact aEJ _
   ·exact aEC hp
   ·obtain⟨_,z⟩:=cm.there b hb
    exact aEC (aAE z)
  ·obtain⟨f0,f1,f2,f3,f4,f5⟩:=I.fpOk (H':=H) (aAD _) (I.hok.fresh (aAD _))
   exact I1.turned (t':=tk) (it:=s.heap.objs.size) (λb o hb e=>hk b o (by simpa using hb) e) f0 f1 f3 f4 f5
noncomputable def blsOf:List D->Option (List Bool)
 |[]=>some []|.bl i::r=>(blsOf r).map (i::·)|_::_=>none
def aBs(ns:List Bool):blsOf (ns.map D.bl)=some ns:=by
 induction ns with
 |nil=>rfl|cons n r ih=>simp only[aAK,blsOf,ih,aEO]
def wI:∀{ds:List D} {ns:List Bool},blsOf ds=some ns->ds=ns.map D.bl
 |[],ns,h=>by cases h;rfl
 |.bl i::r,ns,h=>by
  simp only[blsOf,aAR]at h;obtain⟨ms,h1,rfl⟩:=h;rw[wI h1];rfl
 |.non::_,_,h=>by cases h
 |.int _::_,_,h=>by cases h
 |.str _::_,_,h=>by cases h
 |.tup _::_,_,h=>by cases h
 |.lst _::_,_,h=>by cases h
 |.fz _::_,_,h=>by cases h
 |.exn _ _ _::_,_,h=>by cases h
 |.adr _::_,_,h=>by cases h
def aAl:∀{ns:List Bool} {vs:List V},Rps K μ H (ns.map D.bl) vs->vs=ns.map V.bl
 |[],vs,h=>by simpa[Rps]using h|n::r,vs,h=>by
  simp only[aAK,Rps,Rp]at h;obtain⟨v,t,rfl,rfl,h3⟩:=h;rw[aAl h3];rfl
variable{bs:List Bool}
def aQt{its:Array Value}(rv:Vals (bs.map V.bl) its.toList){v:Value}(hv:its[i]?=some v):v=.bool (bs.getD i false):=by
 have hv:its.toList[i]?=some v:=by simpa using hv
 have hlt:i < bs.length:=by have:=(aAF.mp hv).1;have h2:=rv.length;simp at h2 this;lia
 obtain⟨w',hw,rw'⟩:=rv.get (show(bs.map V.bl)[i]?=some (.bl (bs.getD i false)) by simp[hlt]);rw[hv]at hw;cases hw;exact rw'
def aCp(bs:List Bool):(List.range bs.length).all (λi=>bs.getD i false)=bs.all id:=by
 rw[Bool.eq_iff_iff,List.all_eq_true,List.all_eq_true];constructor
 ·intro h x hx
  obtain⟨i,hi,rfl⟩:=aCK.mp hx;have:=h i (aCP.mpr hi);simpa[hi]using this
 ·intro h i hi
  have hi:=aCP.mp hi;have:=h bs[i] (aCQ hi);simpa[hi]using this
def aCh(hc:cP):CallR X (.builtin "all") (λxs H Q=>∃(p:Addr) (bs:List Bool),xs=[.ref p]/\(SqL X.K H p (bs.map V.bl)\/SqT X.K H p (bs.map V.bl))/\Q (.bl (bs.all id)) H):=by
 intro pins s σ H xs us Q I r h;obtain⟨p,bs,rfl,hq,q⟩:=h;obtain⟨u,rfl,rx⟩:=vals1 r;cases rx;refine call_all_walk (aEl hc I hq λs2 J fp its St rv W st0 hfp hI=>?_);have hl:bs.length=its.size:=by have:=rv.length;simpa using this
 refine⟨J,fp,[J],_,_,St,λi=>bs.getD i false,rfl,W,st0,λi v s3 Q3 E3 hv q3=>?_,λh' tk hk=>?_⟩
 ·rw[aQt rv hv];exact aGH q3
 ·rw[<- hl,aCp]
  exact⟨.bl _,H,hI h' tk hk,rfl,q⟩
def cBls(g:List Bool->Bool)(ws:List W)(M:Mm):Oc W:=match ws with
 |[w]=>match sv M w with
  |some xs=>match blsOf xs with
   |some bs=>okD (.bl (g bs)) M|none=>.bad
  |none=>.bad
 |_=>.bad
abbrev cAllB:=cBls λbs=>bs.all id
def clBls{g:List Bool->Bool}:Cl K Z (λxs H Q=>∃(p:Addr) (bs:List Bool),xs=[.ref p]/\(SqL K H p (bs.map V.bl)\/SqT K H p (bs.map V.bl))/\Q (.bl (g bs)) H) (cBls g):=by
 intro μ H M ws vs Q hr rx p
 match ws,rx,p with
 |[],_,p=>exact p.elim|[w],⟨v,r,e1,e2,e3⟩,p =>
  cases e3;subst e1;simp only[cBls]at p;cases q:sv M w with
  |none=>rw[q]at p;exact p.elim
  |some xs =>
   rw[q]at p;simp only at p;cases q2:blsOf xs with
   |none=>rw[q2]at p;exact p.elim
   |some ns =>
    rw[q2]at p;obtain⟨a,us,rfl,h1,r1⟩:=qC hr e2 q;have e:=wI q2;subst e;have e:=aAl r1;subst e;exact⟨a,ns,rfl,h1,p μ H .refl hr _ (by simp[Rw,Rp])⟩
 |_::_::_,_,p=>exact p.elim
def callAllB(hc:X.calm=true):ClG X K Z (.builtin "all") cAllB:=λhk=>⟨_,hk▸aCh hc,clBls⟩
variable{w x:W}{Q:W->Mm->Prop}
def aOx{g:List Bool->Bool}(h:sv M x=some ds)(e:ds=bs.map D.bl)(q:Q (.d (.bl (g bs))) M):Okx EX (cBls g [x] M) Q:=by
 subst e;unfold cBls;simp only[h,aBs];exact aH q
end EV
namespace EV
open L2
variable{EX:D->Mm->Prop}{K:Frag}{a b c o i e:Expr}{fs:FA}{fe:FE}
end EV
namespace L2
def SqB(b:Bool)(K:Frag)(H:Hp)(a:Addr)(xs:List V):Prop:=if b=true then SqL K H a xs else SqT K H a xs
def It0(b:Bool)(h:Heap)(it src:Addr)(i:Nat):Prop:=if b=true then h.IsListIter it src i else h.IsTupleIter it src i
def IsB(b:Bool)(h:Heap)(a:Addr)(xs:Array Value):Prop:=if b=true then h.IsList a xs else h.IsTuple a xs
def It0.at{b:Bool}{h h':Heap}{it src:Addr}{i:Nat}(x:It0 b h it src i)(k:∀o,h.get? it=some o->h'.get? it=some o):It0 b h' it src i:=by
 cases b
 ·exact Heap.IsTupleIter.at x k
 ·exact Heap.IsListIter.at x k
variable{b:Bool}{it:Addr}
def It0.obj(x:It0 b h it src i):∃o,h.get? it=some o/\∀v,o.data≠.cell v:=by
 cases b
 ·obtain⟨o,e,c,d⟩:=(show h.IsTupleIter it src i from x)
  exact⟨o,e,λv z=>by rw[d]at z;cases z⟩
 ·obtain⟨o,e,c,d⟩:=(show h.IsListIter it src i from x)
  exact⟨o,e,λv z=>by rw[d]at z;cases z⟩
def rY(x:It0 b h it src i)(y:IsB b h src xs):ZP.It1 h it src i xs:=by
 cases b
 ·exact .inr ⟨x,y⟩
 ·exact .inl ⟨x,y⟩
def rN(y:IsB b h src ys)(x:ZP.It1 h it src i xs):It0 b h it src i:=by
 cases b
 ·rcases x with⟨_,o,e,c,_⟩|⟨x,_⟩
  ·obtain⟨o',e',c',_⟩:=(show h.IsTuple src ys from y)
   rw[e]at e';cases e';rw[c]at c';simp at c'
  ·exact x
 ·rcases x with⟨x,_⟩|⟨_,o,e,c,_⟩
  ·exact x
  ·obtain⟨o',e',c',_⟩:=(show h.IsList src ys from y)
   rw[e]at e';cases e';rw[c]at c';simp at c'
variable{a:Addr}
def IsB.at(x:IsB b h a xs)(k:∀o,h.get? a=some o->h'.get? a=some o):IsB b h' a xs:=by
 cases b
 ·obtain⟨o,e,r⟩:=(show h.IsTuple a xs from x);exact⟨o,k o e,r⟩
 ·obtain⟨o,e,r⟩:=(show h.IsList a xs from x);exact⟨o,k o e,r⟩
def IsB.lt(x:IsB b h a xs):a < h.objs.size:=by
 cases b
 ·obtain⟨o,e,r⟩:=(show h.IsTuple a xs from x);exact aAE e
 ·obtain⟨o,e,r⟩:=(show h.IsList a xs from x);exact aAE e
def SqB.inv{xs:List V}(I:Inv X pins σ H s)(h:SqB b X.K H a xs):∃its:List Value,Vals xs its/\IsB b s.heap a its.toArray/\xs.length<=sizeLine:=by
 cases b
 ·obtain⟨its,r,pl,hz⟩:=I.tuple (show SqT X.K H a xs from h);exact⟨its,r,pl,hz⟩
 ·obtain⟨its,r,pl,hz⟩:=I.list (show SqL X.K H a xs from h);exact⟨its,r,pl.isList,hz⟩
variable{prog:Program}{E:Value->Shared->Prop}{elts:List Expr}
def aCg{x1}{TI TO T:Addr}{Q:Unit->Shared->Prop}(hz:s.heap.get? z=some (ZP.zobj TI TO f0 f1))(hf:f0=.none\/∃T:Nat,f0=rawInt T)
  (hQ:∀h' g0,h'.get? z=some (ZP.zobj TI TO g0 f1)->(g0=.none\/∃T:Nat,g0=rawInt T)->Heap.SameBut z s.heap h'->Q () {s with heap:=h'}):wpAny (model prog w) A (letOwnedTupleGo (.Tuple elts x1 pos) (.ref z) (.ref T)) Q E s:=by
 unfold letOwnedTupleGo;refine aAA (wpAny_load hz ?_);show wpAny _ A (if(["enumerate","zip","dict_itemiterator","dict_reverseitemiterator","odict_iterator","itertools.zip_longest","itertools.pairwise"].contains "zip"&&(#[f0,f1,.bool false,.ref TI,.ref TO]:Array Value)[0]?==some (rawInt T))=true then _ else _) Q E s;by_cases hc:(["enumerate","zip","dict_itemiterator","dict_reverseitemiterator","odict_iterator","itertools.zip_longest","itertools.pairwise"].contains "zip"&&(#[f0,f1,.bool false,.ref TI,.ref TO]:Array Value)[0]?==some (rawInt T))=true
 ·rw[aAG hc]
  refine aAA (aCM ?_);show wpAny _ A (setField (.ref z) 0 .none) Q E s;exact aCD hz (by simp) λh' hz' hs'=>hQ h' .none hz' (.inl rfl) hs'
 ·rw[aAH hc]
  exact aAC (hQ s.heap f0 hz hf ⟨rfl,λ_ _=>rfl⟩)
def tnz(b1 b2:Bool)(z TI TO i1 i2 l1 l2:Addr)(i:Nat)(h:Heap):Prop :=
 (∃f0 f1,h.get? z=some (ZP.zobj TI TO f0 f1)/\(f0=.none\/∃T:Nat,f0=rawInt T))/\IsPair h TI (.ref i1) (.ref i2)/\(∃a b,IsPair h TO a b)/\It0 b1 h i1 l1 i/\It0 b2 h i2 l2 i
def Itz(b1 b2:Bool)(K:Frag)(l1 l2:Addr)(xs ys:List V):It :=
 ⟨λi H=>SqB b1 K H l1 xs/\SqB b2 K H l2 ys/\i < xs.length/\i < ys.length,λi H x H'=>∃T u v,H T=none/\x=.ref T/\xs[i]?=some u/\ys[i]?=some v/\H'=upd H T (.tup [u,v]),λi H=>SqB b1 K H l1 xs/\SqB b2 K H l2 ys/\(xs.length<=i\/ys.length<=i)⟩
def wJ{x1}{b1 b2:Bool}{TI TO:Addr}(D:ZP.Ap z TI TO i1 i2 l1 l2)(xs ys:List V):Turn P w K (.Tuple elts x1 pos) (Itz b1 b2 K l1 l2 xs ys) [z,TI,TO,i1,i2] z (tnz b1 b2 z TI TO i1 i2 l1 l2)where
 mem:=by simp
 obj:=λi h st b hb=>by
  obtain⟨⟨f0,f1,hz,_⟩,hTI,⟨a,c,hTO⟩,h1,h2⟩:=st;simp only[aAU,aCR,aFJ]at hb;rcases hb with rfl|rfl|rfl|rfl|rfl
  ·exact⟨_,hz,λv z=>by cases z⟩
  ·exact⟨_,hTI,λv z=>by cases z⟩
  ·exact⟨_,hTO,λv z=>by cases z⟩
  ·exact h1.obj
  ·exact h2.obj
 keep:=λi h h' st k=>by
  obtain⟨⟨f0,f1,hz,hf⟩,hTI,⟨a,c,hTO⟩,h1,h2⟩:=st;exact⟨⟨f0,f1,k z (by simp) _ hz,hf⟩,k TI (by simp) _ hTI,⟨a,c,k TO (by simp) _ hTO⟩,h1.at λo e=>k i1 (by simp) o e,h2.at λo e=>k i2 (by simp) o e⟩
 item:=by
  intro X hP hw hK hc i pins s σ H E I hf st hg;subst hP hw hK;obtain⟨sx,sy,hx,hy⟩:=hg;obtain⟨its1,r1,y1,z1⟩:=sx.inv I;obtain⟨its2,r2,y2,z2⟩:=sy.inv I;obtain⟨⟨f0,f1,hz,hf0⟩,hTI,hTO,h1,h2⟩:=st;obtain⟨u,hu,ru⟩:=r1.get (aAP hx);obtain⟨v,hv,rv⟩:=r2.get (aAP hy);have zlt:z < s.heap.objs.size:=aAE hz;refine ZP.zip_item D ⟨⟨f0,f1,hz,hf0⟩,hTI,hTO,rY h1 y1,rY h2 y2⟩ (x:=u) (y:=v) (by simpa using hu) (by simpa using hv) λh' T z' p' n' k'=>?_
  refine⟨_,rfl,?_⟩;obtain⟨⟨g0,g1,hz',hg0⟩,hTI',⟨c,d,hTO'⟩,a1',a2'⟩:=z';have y1':IsB b1 h' l1 its1.toArray:=y1.at λo e=>k' l1 o D.l1z D.l1TO D.l1i1 D.l1i2 e
  have y2':IsB b2 h' l2 its2.toArray:=y2.at λo e=>k' l2 o D.l2z D.l2TO D.l2i1 D.l2i2 e
  refine aCg (s:={s with heap:=h'}) hz' hg0 λh2 g2 hz2 hg2 sb=>?_
  have sb:Heap.SameBut z h' h2:=sb;have kk:∀b o,b∉[z,TI,TO,i1,i2]->s.heap.get? b=some o->h2.get? b=some o:=λb o hb e=>by
   simp only[aAU,aCR,aFJ,not_or]at hb;obtain⟨q1,q2,q3,q4,q5⟩:=hb;exact sb.extBut b o q1 (k' b o q1 q3 q4 q5 e)
  have hTz:T≠z:=λe=>absurd zlt (Nat.not_lt.mpr (e▸n'))
  have hp2:h2.get? T=some {cls:=.type "tuple",data:=.seq #[u,v]}:=sb.extBut T _ hTz p';refine⟨.ref T,upd H T (.tup [xs[i],ys[i]]),I.turnLay (t':=s.toks) hf kk n' (show ObjOk X.prog X.w _ h2 T (.tup [xs[i],ys[i]])from⟨by show 2<=sizeLine;decide,[u,v],.cons ru (.cons rv .nil),_,hp2,rfl,_,rfl⟩),rfl,⟨T,xs[i],ys[i],I.hok.fresh n',rfl,aAP hx,aAP hy,rfl⟩,?_,λb hb=>?_⟩
  ·exact⟨⟨g2,g1,hz2,hg2⟩,sb.extBut TI _ D.TIz hTI',⟨c,d,sb.extBut TO _ D.TOz hTO'⟩,(rN y1' a1').at λo e=>sb.extBut i1 o D.i1z e,(rN y2' a2').at λo e=>sb.extBut i2 o D.i2z e⟩
  ·rw[aI]
   ·exact(hf b hb).1
   ·rintro rfl
    simp only[aAU,aCR,aFJ]at hb;have:b < s.heap.objs.size:=by
     rcases hb with rfl|rfl|rfl|rfl|rfl
     ·exact zlt
     ·exact aAE hTI
     ·obtain⟨_,_,q⟩:=hTO;exact aAE q
     ·obtain⟨o,q,_⟩:=h1.obj;exact aAE q
     ·obtain⟨o,q,_⟩:=h2.obj;exact aAE q
    exact absurd this (Nat.not_lt.mpr n')
 done:=by
  intro X hP hw hK hc i pins s σ H E I hf st hg;subst hP hw hK;obtain⟨sx,sy,hend⟩:=hg;obtain⟨its1,r1,y1,z1⟩:=sx.inv I;obtain⟨its2,r2,y2,z2⟩:=sy.inv I;obtain⟨⟨f0,f1,hz,hf0⟩,hTI,hTO,h1,h2⟩:=st;have l1':=r1.length;have l2':=r2.length;refine ZP.zip_done (I.ok.hd (hc.resolve_right id)) D ⟨⟨f0,f1,hz,hf0⟩,hTI,hTO,rY h1 y1,rY h2 y2⟩ (by
    rcases hend with q|q
    ·exact .inl (by simp;lia)
    ·exact .inr (by simp;lia)) λh' hk=>⟨rfl,I.turnedL (t':=s.toks) hf λb o hb e=>?_⟩
  simp only[aAU,aCR,aFJ,not_or]at hb;obtain⟨q1,q2,q3,q4,q5⟩:=hb;exact hk b o q1 q3 q4 q5 e
 self:=λA i s Q E st hQ=>by
  obtain⟨⟨f0,f1,hz,_⟩,_⟩:=st;exact ZP.zip_self ⟨f0,f1,hz⟩ hQ
def aMq{x1}{a b:Expr}(hg:Gl X "zip")(hm:X.mg "zip"=none)(ha:PE X a ta)(hb:PE X b tb)
  (hs2:starEach [a,b] X.env=(false,eval a X.env)::starEach [b] X.env:=by rfl)(hs3:starEach [b] X.env=(false,eval b X.env)::starEach [] X.env:=by rfl)(hpl2:(backTo pos (starEach [b] X.env)).any (·.1)=false:=by rfl) :
  PI X (.Tuple elts x1 tpos) (.Call (.Name "zip" p) [a,b] [] pos) (λσ H R=>ta σ H λx H1=>tb σ H1 λy H2=>∃l1 l2 b1 b2 xs ys,x=.ref l1/\y=.ref l2/\SqB b1 X.K H2 l1 xs/\SqB b2 X.K H2 l2 ys/\R (Itz b1 b2 X.K l1 l2 xs ys) H2):=by
 intro pins s σ H R I h;refine aDU (dJ I hg hm aHj ?_);refine aDI (thn (bF ha (bF hb cJ hs3) hs2 pos pins s σ H (λvs H2=>match vs with|[x,y]=>∃l1 l2 b1 b2 xs ys,x=.ref l1/\y=.ref l2/\SqB b1 X.K H2 l1 xs/\SqB b2 X.K H2 l2 ys/\R (Itz b1 b2 X.K l1 l2 xs ys) H2|_=>False) I h) λus s1 ⟨vs,H1,I1,r1,hr⟩=>?_) hs2 hpl2
 match vs,r1,hr with
 |[],_,hr=>exact hr.elim|[_],_,hr=>exact hr.elim|_::_::_::_,_,hr=>exact hr.elim|[x,y],r1,hr =>
 obtain⟨u1,u2,rfl,rx,ry⟩:=r1.two;obtain⟨l1,l2,b1,b2,xs,ys,rfl,rfl,sx,sy,hq⟩:=hr;cases rx;cases ry;obtain⟨its,q1,p1,z1⟩:=sx.inv I1;obtain⟨its2,q2,p2,z2⟩:=sy.inv I1;have hl1:=p1.lt;have hl2:=p2.lt;have e1:s1.heap.IsList l1 its.toArray\/s1.heap.IsTuple l1 its.toArray:=by cases b1;exact .inr p1;exact .inl p1
 have e2:s1.heap.IsList l2 its2.toArray\/s1.heap.IsTuple l2 its2.toArray:=by cases b2;exact .inr p2;exact .inl p2
 have D:=ZP.ap_of hl1 hl2;refine ZP.call_zipG e1 e2 λh1 Zs1 hsz kp=>?_
 obtain⟨⟨f0,f1,hz,hf0⟩,hTI,hTO,a1,a2⟩:=Zs1;have tz:tnz b1 b2 (s1.heap.objs.size+4) (s1.heap.objs.size+2) (s1.heap.objs.size+3) s1.heap.objs.size (s1.heap.objs.size+1) l1 l2 0 h1:=⟨⟨f0,f1,hz,hf0⟩,hTI,hTO,rN (p1.at λo e=>kp l1 o e) a1,rN (p2.at λo e=>kp l2 o e) a2⟩
 refine(wJ (P:=X.prog) (w:=X.w) (K:=X.K) (elts:=elts) (x1:=x1) (pos:=tpos) (b1:=b1) (b2:=b2) D xs ys).self _ 0 _ _ _ tz ?_;refine⟨s1.heap.objs.size+4,_,_,_,H1,rfl,I1.kept (t':=s1.toks) λb o e=>kp b o e,wJ D xs ys,tz,λb hb=>?_,hq⟩;refine I1.fpOk ?_ (I1.hok.fresh ?_) <;>
 ·simp only[aAU,aCR,aFJ]at hb
  rcases hb with rfl|rfl|rfl|rfl|rfl <;> (show(_:Nat)<=(_:Nat);lia)
end L2
namespace EV
open L2
variable{EX:D->Mm->Prop}
section
variable{K:Frag}{a b:Expr}{g:FE}{tg:Expr}
noncomputable def dz:W->Option (List D)
 |.d (.tup xs)=>some xs|.d (.lst xs)=>some xs|.d (.fz xs)=>some xs|_=>none
def xX{w:W}(r:Rw K μ H w v)(h:dz w=some ds):∃(b:Bool) (a:Addr) (vs:List V) (S:List Addr->Hp->Prop),v=.ref a/\S μ H/\(∀μ1 H1 μ2 H2,Lsts μ1 H1->S μ1 H1->Ext μ1 H1 μ2 H2->S μ2 H2)/\∀μ1 H1,S μ1 H1->SqB b K H1 a vs/\Rps K μ1 H1 ds vs:=by
 cases w with
 |ref i=>cases h
 |ob _ _=>cases h
 |nest _=>cases h
 |d x=>cases x with
  |tup xs =>
   cases h;simp only[Rw,Rp]at r;obtain⟨p,vs,rfl,h1,r1⟩:=r;exact⟨false,p,vs,λμ2 H2=>H2 p=some (.tup vs)/\Rps K μ2 H2 ds vs,rfl,⟨h1,r1⟩,λμ1 H1 μ2 H2 l z e=>⟨e.keep _ _ (λq=>by obtain⟨us,q,mq⟩:=l p q;rw[z.1]at q;cases q;exact mq) z.1,Rps.ext l e _ _ z.2⟩,λμ1 H1 z=>⟨SqT.of z.1,z.2⟩⟩
  |lst xs =>
   cases h;simp only[Rw,Rp]at r;obtain⟨p,vs,rfl,h1,hn,r1⟩:=r;exact⟨true,p,vs,λμ2 H2=>H2 p=some (.lst vs)/\p∉μ2/\Rps K μ2 H2 ds vs,rfl,⟨h1,hn,r1⟩,λμ1 H1 μ2 H2 l z e=>⟨e.keep _ _ z.2.1 z.1,λq=>(e.new p q).elim z.2.1 (λq=>by rw[z.1]at q;cases q),Rps.ext l e _ _ z.2.2⟩,λμ1 H1 z=>⟨SqL.of z.1,z.2.2⟩⟩
  |fz xs =>
   cases h;simp only[Rw,Rp]at r;obtain⟨p,vs,rfl,h1,r1⟩:=r;exact⟨true,p,vs,λμ2 H2=>FzL K H2 p vs/\Rps K μ2 H2 ds vs,rfl,⟨h1,r1⟩,λμ1 H1 μ2 H2 l z e=>⟨z.1.ext l e,Rps.ext l e _ _ z.2⟩,λμ1 H1 z=>⟨z.1.sq,z.2⟩⟩
  |_=>cases h
def oN{xs ys:List D}{d:D}(h:(zipT xs ys)[i]?=some d):∃x y,xs[i]?=some x/\ys[i]?=some y/\d=.tup [x,y]:=by
 unfold zipT at h;rw[aAV,aAR]at h;obtain⟨p,h1,rfl⟩:=h;rw[aDP]at h1;exact⟨_,_,h1.1,h1.2,rfl⟩
def lE{xs ys:List D}:(zipT xs ys).length=min xs.length ys.length:=by simp[zipT]
def mS{T:Addr}{x y:D}{u:V}(hr:HR K μ H M)(hT:H T=none)(r1:Rp K μ H x u)(r2:Rp K μ H y v):Ext μ H μ (upd H T (.tup [u,v]))/\HR K μ (upd H T (.tup [u,v])) M/\Rp K μ (upd H T (.tup [u,v])) (.tup [x,y]) (.ref T):=by
 have e:=fW (o:=.tup [u,v]) hr hT;refine⟨e,hr.lay hT,?_⟩;simp only[Rp];exact⟨T,[u,v],rfl,aS,.cons (Rp.ext hr.lsts e _ _ r1) (.cons (Rp.ext hr.lsts e _ _ r2) .nil)⟩
def cz(M:Mm):W->Option (Nat×List D)
 |.ref t=>match M[t]? with
  |some ys=>if(intsOf ys).isSome then some (t,ys)else none
  |none=>none
 |_=>none
def aQe{y:W}{t:Nat}{ys:List D}(h:cz M y=some (t,ys)):y=.ref t/\M[t]?=some ys/\∃ns:List Int,ys=ns.map D.int:=by
 cases y with
 |d x=>cases h
 |ob _ _=>cases h
 |nest _=>cases h
 |ref t' =>
  simp only[cz]at h;cases q:M[t']? with
  |none=>simp only[q]at h;cases h
  |some ys' =>
   simp only[q]at h;cases e:intsOf ys' with
   |none=>simp[e]at h
   |some ns =>
    simp only[e,aFW,aBM,aAS,Prod.mk.injEq]at h;obtain⟨rfl,rfl⟩:=h;exact⟨rfl,q,ns,cQ e⟩
def iZip(f g:FE):FI:=λL M=>(f L M).bind λx M1=>(g L M1).bind λy M2=>match dz x,dz y with
 |some xs,some ys=>.ok ⟨zipT xs ys,none⟩ M2|some xs,none=>match cz M2 y with
  |some (t,ys)=>.ok ⟨zipT xs ys,some (.two t ys)⟩ M2|none=>.bad
 |_,_=>.bad
def aNw{elts:List Expr}{x1}(hm:X.mg "zip"=none)(ha:Ev X K Z a f)(hb:Ev X K Z b g)(hg:Gl X "zip":=by rfl)
  (hs2:starEach [a,b] X.env=(false,eval a X.env)::starEach [b] X.env:=by rfl)(hs3:starEach [b] X.env=(false,eval b X.env)::starEach [] X.env:=by rfl)(hpl2:(backTo pos (starEach [b] X.env)).any (·.1)=false:=by rfl):Ei X K Z (.Tuple elts x1 tpos) (.Call (.Name "zip" p) [a,b] [] pos) (iZip f g):=by
 have h':=aMq (elts:=elts) (x1:=x1) (tpos:=tpos) (p:=p) (pos:=pos) hg hm ha.h hb.h hs2 hs3 hpl2;rw[ha.k]at h';refine⟨ha.k,cqI h' ?_⟩;rintro σ H R ⟨μ,M,L,hr,lr,p⟩;refine⟨μ,M,L,hr,lr,p.bind.imp λμ1 H1 M1 w e1 hr1 _ p1 v rw'=>?_⟩;refine⟨μ1,M1,L,hr1,lr.ext hr.lsts e1,p1.bind.imp λμ2 H2 M2 w2 e2 hr2 _ p2 v2 rw2=>?_⟩;cases q1:dz w with
 |none=>simp only[q1]at p2;exact p2.elim
 |some xs =>
  cases q2:dz w2 with
  |none =>
   cases q3:cz M2 w2 with
   |none=>simp only[q1,q2,q3]at p2;exact p2.elim
   |some ty =>
   obtain⟨t,ys⟩:=ty;simp only[q1,q2,q3]at p2;obtain⟨rfl,hM,ns,rfl⟩:=aQe q3;obtain⟨b1,l1,vs1,S1,rfl,s1,x1,d1⟩:=xX (rw'.ext hr1.lsts e2) q1;obtain⟨a,qa,rfl,il⟩:=rw2;have cell:∀{μ3:List Addr} {H3:Hp} {M3:Mm},HR K μ3 H3 M3->(μ3[t]?=some a/\IsL H3 a)->M3[t]?=some (ns.map D.int)->SqB true K H3 a (ns.map V.int):=λhr3 z c=>by
    obtain⟨a',vs,qa',h1,r1⟩:=hr3.at c z.1 z.2;rw[z.1]at qa';cases qa';rw[fD r1]at h1;exact SqL.of h1
   refine⟨l1,a,b1,true,vs1,ns.map V.int,rfl,rfl,(d1 _ _ s1).1,cell hr2 ⟨qa,il⟩ hM,p2 μ2 H2 .refl hr2 _ ?_⟩;refine⟨λμ H=>S1 μ H/\μ[t]?=some a/\IsL H a,⟨s1,qa,il⟩,λμ1 H1 μ2 H2 l z e=>⟨x1 _ _ _ _ l z.1 e,e.pre _ _ z.2.1,z.2.2.ext e⟩,λμ3 H3 M3 i hr3 hS hc=>?_⟩;obtain⟨c1,r1⟩:=d1 _ _ hS.1;have c2:=cell hr3 hS.2 (hc _ rfl);have r2:Rps K μ3 H3 (ns.map D.int) (ns.map V.int):=Rps.ints;refine⟨λd hd=>?_,λhl=>?_⟩
   ·obtain⟨x,y,hx,hy,rfl⟩:=oN hd
    obtain⟨u,hu,ru⟩:=r1.get hx;obtain⟨v,hv,rv⟩:=r2.get hy;refine⟨⟨c1,c2,(aAF.mp hu).1,(aAF.mp hv).1⟩,λx' H4 hy4=>?_⟩;obtain⟨T,u',v',hT,rfl,hu',hv',rfl⟩:=hy4;rw[hu]at hu';cases hu';rw[hv]at hv';cases hv';exact mS hr3 hT ru rv
   ·refine⟨c1,c2,?_⟩
    simp only[lE]at hl;rw[<- r1.length,<- r2.length];lia
  |some ys =>
   simp only[q1,q2]at p2;obtain⟨b1,l1,vs1,S1,rfl,s1,x1,d1⟩:=xX (rw'.ext hr1.lsts e2) q1;obtain⟨b2,l2,vs2,S2,rfl,s2,x2,d2⟩:=xX rw2 q2;refine⟨l1,l2,b1,b2,vs1,vs2,rfl,rfl,(d1 _ _ s1).1,(d2 _ _ s2).1,p2 μ2 H2 .refl hr2 _ ?_⟩;refine⟨λμ H=>S1 μ H/\S2 μ H,⟨s1,s2⟩,λμ1 H1 μ2 H2 l z e=>⟨x1 _ _ _ _ l z.1 e,x2 _ _ _ _ l z.2 e⟩,λμ3 H3 M3 i hr3 hS hc=>?_⟩;obtain⟨c1,r1⟩:=d1 _ _ hS.1;obtain⟨c2,r2⟩:=d2 _ _ hS.2;refine⟨λd hd=>?_,λhl=>?_⟩
   ·obtain⟨x,y,hx,hy,rfl⟩:=oN hd
    obtain⟨u,hu,ru⟩:=r1.get hx;obtain⟨v,hv,rv⟩:=r2.get hy;refine⟨⟨c1,c2,(aAF.mp hu).1,(aAF.mp hv).1⟩,λx' H4 hy4=>?_⟩;obtain⟨T,u',v',hT,rfl,hu',hv',rfl⟩:=hy4;rw[hu]at hu';cases hu';rw[hv]at hv';cases hv';exact mS hr3 hT ru rv
   ·refine⟨c1,c2,?_⟩
    simp only[lE]at hl;rw[<- r1.length,<- r2.length];lia
end
section
variable{g:FE}
def aIm(h:Okx EX (f L M) λx M1=>Okx EX (g L M1) λy M2=>∃xs ys,dz x=some xs/\dz y=some ys/\QI ⟨zipT xs ys,none⟩ M2):Okx EX (iZip f g L M) QI :=
 aG (h.mono λx M1 z=>aG (z.mono λy M2 ⟨xs,ys,e1,e2,q⟩=>by simp only[e1,e2];exact aH q))
end
end EV
namespace L2
variable{prog:Program}{E:Value->Shared->Prop}
def tne(b:Bool)(e it src:Addr)(c:Int)(i:Nat)(h:Heap):Prop:=(∃old,IsEnum h e it (c+i) old)/\It0 b h it src i
end L2
namespace L2
open AutoSeq1 (wpAny_loadPart')
variable{prog:Program}{E:Value->Shared->Prop}
end L2
namespace EV
open L2
variable{EX:D->Mm->Prop}
section
variable{K:Frag}{a b:Expr}{g:FE}{tg:Expr}
end
section
variable{g:FE}
end
end EV
namespace L2
open AutoSeq1 (wpAny_loadPart')
def wR(l b:Addr)(xs ys:Array Value)(n n2:Nat)(dd:Option Addr)(sl:Array (Option Value))(h0:¬(!xs.isEmpty&&Builtin.List.listTooLong (xs.size+ys.size))=true)(h1:xs.size<=sizeLine)(h2:xs.size+ys.size<=sizeLine+1) :
  Meets (Builtin.«list.extend» ⟨[.ref l,.ref b],[]⟩) (λ_ R s=>s.heap.get? l=some {cls:=.type "list",dict:=none,data:=.seq xs n,slots:=#[]}/\s.heap.get? b=some {cls:=.type "tuple",dict:=dd,data:=.seq ys n2,slots:=sl}/\R (.ok (.ret Value.none)) {s with heap:=s.heap.update l (Obj.mapSeq λx=>x++ys),toks:=s.toks}) :=
 .of_wp λprog w A R s h=>by
  obtain⟨hp,g,d,tk,os⟩:=s;obtain⟨hl,hb,h⟩:=h;have f1:=aIH;have f2:=AutoSeq1.sub_tuple_tuple;have f3:=AutoSeq1.sub_list_list;have f4:=AutoSeq1.sub_tuple_list;have f5:=AutoSeq1.sub_list_tuple;have hz':(xs++ys).size<=sizeLine+1:=by rw[Array.size_append];exact h2
  wp_walk using(aEN hl rfl (hz:=h1) (_hz':=hz')),aBQ hl,aBQ hb
  exact⟨_,rfl,h⟩
def rExtendT(K:Frag):V->List V->Hp->VK->Prop:=λx vs H Q=>∃l b xs zs,x=.ref l/\vs=[.ref b]/\H l=some (.lst xs)/\SqT K H b zs/\xs.length+zs.length<=sizeLine/\Q .non (upd H l (.lst (xs++zs)))
theorem xG:MtM X "list.extend" (λx vs H Q=>rExtend x vs H Q\/rExtendT X.K x vs H Q):=by
 intro pins s σ H x vs v us Q I rx rv h;rcases h with h|h
 ·exact aDn pins s σ H x vs v us Q I rx rv h
 obtain⟨l,b,xs,zs,rfl,rfl,hH,hB,hz,q⟩:=h;cases rx;obtain⟨u,rfl,ru⟩:=rv.one;cases ru;obtain⟨z,its,n,r,hl,e⟩:=I.lstM hH;obtain⟨its2,r2,⟨o,e2,c2,n2,d2⟩,z2⟩:=I.tuple hB;obtain⟨oc,od,odt,osl⟩:=o;have c2:oc=.type "tuple":=c2;have d2:odt=.seq its2.toArray n2:=d2;subst c2 d2;have l1:=r.length;have l2:=r2.length;have hsz:its.toArray.size+its2.toArray.size<=sizeLine:=by rw[aAL,aAL];lia
 have hlong:¬(!its.toArray.isEmpty&&Builtin.List.listTooLong (its.toArray.size+its2.toArray.size))=true:=by
  rw[notLongL hsz,Bool.and_false];exact aAY
 refine aEP F.slot_list_extend ⟨_,e,rfl⟩ F.entry_list_extend (F.args_list_extend_2 _ _) (wR l b its.toArray its2.toArray n n2 od osl hlong (by rw[aAL];lia) (by lia)) ⟨e,e2,?_⟩;refine⟨.non,_,I.lset (its':=its++its2) hH e (by simp) (r.append r2) ?_,rfl,q⟩;rw[aCC];lia
end L2
namespace EV
open L2
variable{EX:D->Mm->Prop}{K:Frag}{a b c o e i:Expr}{es:List Expr}{fs:FA}{fe:FE}{tg:Expr}
def pExtendA(x y:W)(M:Mm):Oc W:=match x,y with
 |.ref k,.d (.tup ys)=>match M[k]? with
  |some xs=>if xs.length+ys.length<=16777216 then .ok (.d .non) (M.set k (xs++ys))else .bad
  |_=>.bad
 |x,y=>pExtend x y M
def oP(ho:Ev X K Z o fo)(he:Ev X K Z e fa)(hbase:attributeBase o "extend" X.env (eval o X.env)=eval o X.env:=by rfl)
  (hfew:((backTo cpos (starEach [e] X.env)).all (λx=>!x.1)&&(backToKw cpos (keywordEach [] X.env)).all (λx=>x.1.isSome)&&decide ([e].length+([]:List Keyword).length+(if([]:List Keyword).isEmpty then 0 else 1) < 30))=true:=by rfl)
  (hline:(apos.endLine==cpos.line)=true:=by rfl)(hs:starEach [e] X.env=(false,eval e X.env)::starEach [] X.env:=by rfl)(hplain:(backTo cpos (starEach [] X.env)).any (·.1)=false:=by rfl) :
  Ev X K Z (.Call (.Attribute o "extend" apos) [e] [] cpos) (eM1 pExtendA fo fa):=by
 have h:=aLs aHS PySem.F.slot_list_extend PySem.F.type_list_extend xG ho.h (bF he.h cJ hs) hbase hfew hline hs hplain;rw[ho.k]at h;refine⟨ho.k,cqE h ?_⟩;rintro σ H Q ⟨μ,M,L,hr,lr,p⟩;refine⟨μ,M,L,hr,lr,p.bind.imp λμ1 H1 M1 x e1 hr1 _ p1 v rx=>?_⟩;cases x with
 |d x=>exact p1.elim|ob _ _=>exact p1.elim|nest _=>exact p1.elim|ref k =>
  refine⟨xF hr1 rx,μ1,M1,L,hr1,lr.ext hr.lsts e1,p1.bind.imp λμ2 H2 M2 y e2 hr2 _ p2 u ry=>?_⟩;have lst:Pst K Z μ2 H2 (pExtend (.ref k) y M2) (λμ' H' _ w=>∀v,Rw K μ' H' w v->Q v H')->rExtend v [u] H2 Q:=λp2=>by
   simp only[pExtend]at p2;cases q1:M2[k]? with
   |none=>simp only[q1]at p2;exact p2.elim
   |some xs =>
    cases q2:lv M2 y with
    |none=>simp only[q1,q2]at p2;exact p2.elim
    |some ys =>
     simp only[q1,q2]at p2;split at p2
     ·rename_i hz
      obtain⟨a,qa,rfl,il⟩:=rx.ext hr1.lsts e2;obtain⟨a',vs,qa',h1,r1⟩:=hr2.at q1 qa;rw[qa]at qa';cases qa';obtain⟨b,us,rfl,h2,r2⟩:=vT hr2 ry q2;refine⟨a,b,vs,us,rfl,rfl,h1,h2,by rw[<- r1.length,<- r2.length,aBE];exact hz,?_⟩;exact p2 μ2 _ (bQ qa) (hr2.set qa (r1.append r2)) _ (by simp[Rw,Rp])
     ·exact p2.elim
  cases y with
  |ref j=>exact .inl (lst p2)|ob _ _=>exact .inl (lst p2)|nest _=>exact .inl (lst p2)|d y=>cases y with
   |tup ys =>
    simp only[pExtendA]at p2;cases q1:M2[k]? with
    |none=>simp only[q1]at p2;exact p2.elim
    |some xs =>
     simp only[q1]at p2;split at p2
     ·rename_i hz
      obtain⟨a,qa,rfl,il⟩:=rx.ext hr1.lsts e2;obtain⟨a',vs,qa',h1,r1⟩:=hr2.at q1 qa;rw[qa]at qa';cases qa';simp only[Rw,Rp]at ry;obtain⟨b,us,rfl,h2,r2⟩:=ry;refine .inr ⟨a,b,vs,us,rfl,rfl,h1,SqT.of h2,by rw[<- r1.length,<- r2.length,aBE];exact hz,?_⟩;exact p2 μ2 _ (bQ qa) (hr2.set qa (r1.append r2)) _ (by simp[Rw,Rp])
     ·exact p2.elim
   |_=>exact .inl (lst p2)
variable{x y:W}{Q:W->Mm->Prop}
def yK{k:Nat}{xs ys:List D}(hy:∀z,y≠.d (.tup z))(h:M[k]?=some xs)(h2:lv M y=some ys)(hz:xs.length+ys.length<=16777216)(q:Q (.d .non) (M.set k (xs++ys))):Okx EX (pExtendA (.ref k) y M) Q:=by
 have:pExtendA (.ref k) y M=pExtend (.ref k) y M:=by
  unfold pExtendA;split
  ·exact(hy _ rfl).elim
  ·rfl
 rw[this];exact qN h h2 hz q
end EV
namespace L2
variable{prog:Program}{E:Value->Shared->Prop}
end L2
namespace EV
open L2
variable{EX:D->Mm->Prop}{K:Frag}{es:List Expr}
end EV
namespace L2
end L2
namespace EV
open L2
variable{EX:D->Mm->Prop}{K:Frag}{x:W}{Q:W->Mm->Prop}
end EV
namespace EV
open L2
variable{EX:D->Mm->Prop}{K:Frag}{a tg:Expr}
end EV
namespace EV
open L2
variable{EX:D->Mm->Prop}{K:Frag}{Q:W->Mm->Prop}
end EV
namespace EV
open L2
def ZR(K:Frag)(R:Addr->Hp->Prop):Zt:=⟨λx M μ H=>∀μ' H',Ext μ H μ' H'->HR K μ' H' M->∀a,Rp K μ' H' x (.ref a)->R a H',λe h μ' H' e' hr a ra=>h μ' H' (e.trans e') hr a ra⟩
abbrev wishR(E:XK):Addr->Hp->Prop:=λa H'=>E (.ref a) none H'
def spX(K:Frag)(m:Nat)(Fm:Fn):Sp:=λvs H Q E=>vs.length=m/\∃μ M ws,HR K μ H M/\Rws K μ H ws vs/\Pst K (ZR K (wishR E)) μ H (Fm ws M) (Wk K Q)
section
variable{K:Frag}{R:Addr->Hp->Prop}{e a b:Expr}{es:List Expr}{fs:FA}{st:Stmt}{rest:List Stmt}
def fnX(m n:Nat)(F:FS):Fn:=λws M=>match fnD m n F ws M with
 |.ok w M'=>.ok w M'|.ex x M'=>.ex x (M'.take M.length)|.bad=>.bad
structure FunG(K:Frag)(x qual:Str)(st:Stmt)(f:Addr)(fd:FuncData):Prop where
 ex:∃(oc:Value) (od:Option Addr) (dV kV doc pm:Value) (an:Option Addr) (cdv ct:Value) (osl:Array (Option Value)),
  fd=fnOf x qual (defArgs st) (defBody st) (defScope st) dV kV doc pm an cdv ct/\K.lookup f=some ⟨oc,od,.func fd,osl⟩/\codeIn K cdv qual=true
theorem _root_.L2.Fun.g{f:Addr}(F:Fun K x qual st f fd):FunG K x qual st f fd:=by
 obtain⟨oc,od,kV,doc,pm,an,cdv,ct,osl,h⟩:=F.ex;exact⟨oc,od,_,kV,doc,pm,an,cdv,ct,osl,h⟩
structure FunD(K:Frag)(x qual:Str)(st:Stmt)(f:Addr)(fd:FuncData)(d:Value):Prop where
 ex:∃(T:Addr) (oc:Value) (od:Option Addr) (kV doc pm:Value) (an:Option Addr) (cdv ct:Value) (osl:Array (Option Value)),
  fd=fnOf x qual (defArgs st) (defBody st) (defScope st) (.ref T) kV doc pm an cdv ct/\K.lookup f=some ⟨oc,od,.func fd,osl⟩/\codeIn K cdv qual=true/\∃c dd n sl,K.lookup T=some ⟨c,dd,.seq #[d] n,sl⟩
variable{d:Value}
theorem FunD.g{f:Addr}(F:FunD K x qual st f fd d):FunG K x qual st f fd:=by
 obtain⟨T,oc,od,kV,doc,pm,an,cdv,ct,osl,h1,h2,h3,_⟩:=F.ex;exact⟨oc,od,_,kV,doc,pm,an,cdv,ct,osl,h1,h2,h3⟩
theorem FunD.binds{f:Addr}(F:FunD K x qual st f fd d)
  (h:∀(T:Addr) (kV doc pm:Value) (an:Option Addr) (cdv ct:Value) (us:List Value),us.length=ps.length->∃k,bindArgs (fnOf x qual (defArgs st) (defBody st) (defScope st) (.ref T) kV doc pm an cdv ct) ⟨us,[]⟩=seqItems? (.ref T) >>= k/\k (some #[d])=pure (ps.zip us)):Binds K fd ps []:=by
 obtain⟨T,oc,od,kV,doc,pm,an,cdv,ct,osl,rfl,h2,h3,c,dd,n,sl,hT⟩:=F.ex;intro s us X hl;rw[aEF]at hl ⊢;obtain⟨k,h1,h2⟩:=h T kV doc pm an cdv ct us hl;exact PySem.W.binds_K X rfl hT rfl h1 h2
theorem FunD.binds1{f:Addr}(F:FunD K x qual st f fd d)
  (h:∀(T:Addr) (kV doc pm:Value) (an:Option Addr) (cdv ct:Value) (us:List Value),(us++[d]).length=ps.length->∃k,bindArgs (fnOf x qual (defArgs st) (defBody st) (defScope st) (.ref T) kV doc pm an cdv ct) ⟨us,[]⟩=seqItems? (.ref T) >>= k/\k (some #[d])=pure (ps.zip (us++[d]))):Binds K fd ps [d]:=by
 obtain⟨T,oc,od,kV,doc,pm,an,cdv,ct,osl,rfl,h2,h3,c,dd,n,sl,hT⟩:=F.ex;intro s us X hl;obtain⟨k,h1,h2⟩:=h T kV doc pm an cdv ct us hl;exact PySem.W.binds_K X rfl hT rfl h1 h2
def aJs{f T:Addr}{kV c:Value}{dd:Option Addr}(l:K.lookup f=some ⟨oc,od,.func (fnOf x qual (defArgs st) (defBody st) (defScope st) (.ref T) kV doc pm an cdv ct),osl⟩)
  (h:codeIn K cdv qual=true)(t:K.lookup T=some ⟨c,dd,.seq #[d] n,sl⟩):FunD K x qual st f (fnOf x qual (defArgs st) (defBody st) (defScope st) (.ref T) kV doc pm an cdv ct) d:=⟨T,oc,od,kV,doc,pm,an,cdv,ct,osl,rfl,l,h,c,dd,n,sl,t⟩
def aJp{m:Nat}{ws:List W}(h:ws.length≠m):fnX m n F ws M=.bad:=by unfold fnX fnD;rw[aAH h]
def aNu{fa:Addr}{k:Nat}(hf:FunG K x qual st fa fd)(S:FnScope N ps (defScope st))
  (hb:∀(cdv:Value) (A:Around) (outer:List Env) (s:Shared) (H:Hp) (E:XK),Room k (A.deeper (envOfC qual (defScope st) s.heap.objs.size fa cdv))->Xz (cxOf (CX1 P w) P w K mg base N qual (defScope st) fa cdv A outer s H E) (wishR E) ->
   Ess (cxOf (CX1 P w) P w K mg base N qual (defScope st) fa cdv A outer s H E) K (ZR K (wishR E)) (defBody st) F) :
  FnOk P w K mg base (CX1 P w) (k+1) fa fd ps (spX K ps.length (fnX ps.length N.length F)):=by
 obtain⟨oc,od,dV,kV,doc,pm,an,cdv,ct,osl,rfl,lk,hcd⟩:=hf.ex;refine aFz lk hcd S (λvs H Q E h=>h.1) λA outer s H vs Q E hr hsp=>⟨_,(hb cdv A outer s H E hr aQn).h,?_⟩
 obtain⟨hv,μ,M,ws,hr,rx,p⟩:=hsp;refine⟨μ,M,_,hr,jH rx,?_⟩;unfold fnX fnD at p;rw[aAG (by rw[rx.length];exact hv)]at p;cases q:F (ws.map some++List.replicate (N.length - ws.length) none) M with
 |bad=>rw[q]at p;exact p
 |ex z M' =>
  rw[q]at p;intro μ1 H1 e1 hr1 a ra;have hb:=hr1.back e1;rw[hr.len]at hb;have hsub:∀a,a∈μ->a∈μ1:=λa ha=>by rw[<- e1.take]at ha;exact aCZ ha
  exact p μ H1 e1.back hb a (Rp.sub hsub z _ ra)
 |ok o M' =>
  rw[q]at p;simp only[bI]at p;intro μ1 H1 e1 hr1;have hb:=hr1.back e1;rw[hr.len]at hb;cases o with
  |nx L'=>exact λσ' lr'=>p μ H1 e1.back hb _ (by simp[Rw,Rp])
  |bk L'=>exact p.elim|ct L'=>exact p.elim|rt w =>
   refine λv rv=>vS (Z:=ZR K (wishR E)) hr e1 hr1 rv ?_
   dsimp only at p;cases e:retc M.length w M' with
   |ex z M2=>exact(aKj e).elim|_=>rw[e]at p;exact p
def nx(Fm:Fn):Fn:=λws M=>match Fm ws M with
 |.ok w M'=>.ok w M'|_=>.bad
end
def liftX(K:Frag)(f:FE)(σ:L2.St)(H:Hp)(Q:VK)(R:Addr->Hp->Prop):Prop:=∃μ M L,HR K μ H M/\LR K μ H L σ/\Pst K (ZR K R) μ H (f L M) (Wk K Q)
def liftB(K:Frag)(F:FS)(D:Ends)(R:Addr->Hp->Prop)(σ:L2.St)(H:Hp):Prop:=∃μ M L,HR K μ H M/\LR K μ H L σ/\Pst K (ZR K R) μ H (F L M) (Sk K D)
structure Exx(X:Cx)(K:Frag)(e:Expr)(f:FE):Prop where
 k:X.K=K
 h:PEx X e (liftX K f)
structure Tb(X:Cx)(K:Frag)(b:List Stmt)(F:FS):Prop where
 k:X.K=K
 h:PBx X b (liftB K F)
section
variable{K:Frag}{R:Addr->Hp->Prop}{e a b:Expr}{es:List Expr}{fs:FA}{st:Stmt}{rest:List Stmt}
end
def mt(cn c:Str):Bool:=c==cn || cn=="LentError" || cn=="ValueError"
variable{K:Frag}
structure Ecs(X:Cx)(K:Frag)(es:List Expr)(cns:List Str):Prop where
 k:X.K=K
 h:∃ys cvs,PA X es (λ_ H Q=>Q ys H)/\ys.map clV=cvs.map some/\ys.length<=es.length/\∀c C LE,Xc K c C LE->PySem.W.kitAny K (.ref C) cvs=some (cns.any λn=>mt n c)
section
variable{K:Frag}{R:Addr->Hp->Prop}{e a b:Expr}{es:List Expr}{fs:FA}{st:Stmt}{rest:List Stmt}
end
end EV
end
namespace EV
open PySem L2
section
variable{EX:D->Mm->Prop}{i j:Nat}{w x y:W}{Q:W->Mm->Prop}{QA:List W->Mm->Prop}{g h:FE}{FB FH:FS}{fs:FA}{Fm:Fn}{ws:List W}
end
end EV
section
open PySem PySem.Spec PyProof.Rows
namespace EV
open PySem.W L2
variable{K:Frag}
end EV
end
namespace LS
open PySem L2 EV
def Cg(n a b:Int):Prop:=∃k,a=b+n*k
variable{n a:Int}
def Cg.rfl:Cg n a a:=⟨0,by simp⟩
variable{b:Int}
def Cg.symm(h:Cg n a b):Cg n b a:=by obtain⟨k,rfl⟩:=h;exact⟨-k,by grind⟩
variable{c:Int}
def Cg.trans(h:Cg n a b)(g:Cg n b c):Cg n a c:=by obtain⟨k,rfl⟩:=h;obtain⟨l,rfl⟩:=g;exact⟨k+l,by grind⟩
def Cg.add{d:Int}(h:Cg n a b)(g:Cg n c d):Cg n (a+c) (b+d):=by obtain⟨k,rfl⟩:=h;obtain⟨l,rfl⟩:=g;exact⟨k+l,by grind⟩
def Cg.sub{d:Int}(h:Cg n a b)(g:Cg n c d):Cg n (a - c) (b - d):=by obtain⟨k,rfl⟩:=h;obtain⟨l,rfl⟩:=g;exact⟨k - l,by grind⟩
def Cg.mul{d:Int}(h:Cg n a b)(g:Cg n c d):Cg n (a*c) (b*d):=by obtain⟨k,rfl⟩:=h;obtain⟨l,rfl⟩:=g;exact⟨b*l+d*k+n*k*l,by grind⟩
def Cg.mod:Cg n (a % n) a:=⟨-(a / n),by have:=Int.emod_def a n;grind⟩
def Cg.emod(h:Cg n a b):a % n=b % n:=by obtain⟨k,rfl⟩:=h;simp[Int.add_mul_emod_self_left]
def Cg.of(h:a % n=b % n):Cg n a b:=Cg.mod.symm.trans (h▸Cg.mod)
def Cg.of_eq(h:a=b):Cg n a b:=h▸Cg.rfl
inductive Dd
 |add (s:Nat) (c:Int) (gs ts:List Nat)
 |scale (s:Nat) (u:Int)
noncomputable def pr(xs:List Int)(is:List Nat):Int:=is.foldl (λa i=>a*xs.getD i 0) 1
def dn(n:Int)(gs cs:List Int):Dd->List Int
 |.add s c g t=>cs.set s ((cs.getD s 0+c*pr gs g*pr cs t) % n)|.scale s u=>cs.set s (cs.getD s 0*u % n)
def Rs(n:Int)(cs:List Int):Prop:=∀c∈cs,0<=c/\c < n
def Rs.getD{n:Int}{cs:List Int}(h:Rs n cs){i:Nat}(hi:i < cs.length):0<=cs.getD i 0/\cs.getD i 0 < n:=h _ (by simp[hi])
def Rs.set{n:Int}{cs:List Int}(h:Rs n cs){i:Nat}{v:Int}(l:0<=v)(u:v < n):Rs n (cs.set i v):=by
 intro c hc;rcases List.mem_or_eq_of_mem_set hc with hc|rfl
 ·exact h c hc
 ·exact⟨l,u⟩
variable{v:Int}
def Rs.setM{cs:List Int}(hn:0 < n)(h:Rs n cs) :Rs n (cs.set i (v % n)):=h.set (aCO _ (by lia)) (aCN _ hn)
def Rs.dn{n:Int}{gs cs:List Int}(hn:0 < n)(h:Rs n cs){d:Dd}:Rs n (dn n gs cs d):=by cases d <;> exact h.setM hn
def IsIv(n u v:Int):Prop:=0<=v/\v < n/\(u*v) % n=1 % n
variable{u:Int}
def IsIv.uniq{w:Int}(h:IsIv n u v)(g:IsIv n u w):v=w:=by
 obtain⟨l,k,e⟩:=h;obtain⟨l',k',e'⟩:=g;have e1:Cg n (u*v) 1:=Cg.of e;have e2:Cg n (u*w) 1:=Cg.of e';have:Cg n v w:=by
  have h1:Cg n v (v*(u*w)):=by simpa using Cg.mul (Cg.rfl (a:=v)) e2.symm
  have h2:Cg n ((u*v)*w) (1*w):=Cg.mul e1 Cg.rfl;exact h1.trans ((Cg.of_eq (by grind)).trans (h2.trans (Cg.of_eq (by grind))))
 have:=this.emod;rwa[Int.emod_eq_of_lt l k,Int.emod_eq_of_lt l' k']at this
open Classical in
def iv(n u:Int):Int:=if h:∃v,IsIv n u v then Classical.choose h else 0
def aLn(h:IsIv n u v):iv n u=v:=by
 have hx:∃v,IsIv n u v:=⟨v,h⟩
 unfold iv;rw[dif_pos hx];exact(Classical.choose_spec hx).uniq h
def rT(h:∃v,IsIv n u v):IsIv n u (iv n u):=by obtain⟨v,h⟩:=h;rw[aLn h];exact h
def Un(n u:Int):Prop:=0<=u/\u < n/\∃v,IsIv n u v
def Un.iv{n u:Int}(h:Un n u):Un n (iv n u):=by
 have h':=rT h.2.2;exact⟨h'.1,h'.2.1,u,h.1,h.2.1,by rw[Int.mul_comm];exact h'.2.2⟩
def OkD(n:Int)(G S:Nat):Dd->Prop
 |.add s c g t=>s < S/\0<=c/\c < n/\(∀i∈g,i < G)/\(∀i∈t,i < S)/\s∉t/\g.length<=4/\t.length<=4|.scale s u=>s < S/\Un n u
def bD(n:Int):Dd->Dd
 |.add s c g t=>.add s (-c % n) g t|.scale s u=>.scale s (iv n u)
def OkD.back{G S:Nat}(hn:0 < n){d:Dd}(h:OkD n G S d):OkD n G S (bD n d):=by
 cases d with
 |add s c g t=>obtain⟨a,b,c,r⟩:=h;exact⟨a,aCO _ (by lia),aCN _ hn,r⟩
 |scale s u=>exact⟨h.1,h.2.iv⟩
inductive Wd|sum|less|times
def Wd.str:Wd->Str
 |.sum=>"sum"|.less=>"less"|.times=>"times"
def Wd.ev(n:Int):Wd->Int->Int->Int
 |.sum,x,y=>(x+y) % n|.less,x,y=>(x - y) % n|.times,x,y=>x*y % n
inductive E
 |num (c:Int)
 |giv (i:Nat)
 |op (w:Wd) (a b:E)
noncomputable def val(n:Int)(gs:List Int):E->Int
 |.num c=>c % n|.giv i=>gs.getD i 0|.op w a b=>w.ev n (val n gs a) (val n gs b)
noncomputable def dp:E->Nat
 |.num _=>0|.giv _=>0|.op _ a b=>max (dp a) (dp b)+1
noncomputable def many:E->Nat
 |.num _=>1|.giv _=>1|.op .times a b=>2*(many a+many b)|.op _ a b=>many a+many b
variable{EX:D->Mm->Prop}
def aJz{xs:List D}{lo:Option Int}{d:D}(h:d∈cut xs lo hi):d∈xs:=aIR (aCZ h)
def aKp{xs:List D}{lo:Option Int}:(cut xs lo hi).length<=xs.length:=by unfold cut;simp only[aDT,List.length_drop];lia
def atInts{i:Int}(l:0<=i)(u:i < ns.length):∃n,atI (ns.map D.int) i=some (.int n)/\n∈ns:=by
 have hi:i.toNat < ns.length:=by lia
 refine⟨ns[i.toNat],?_,by simp⟩;simp only[atI,ixN,aAM];rw[aAG l,aAG u];simp[hi]
variable{s:Nat}
def aHq{cs:List D}(h:s<=cs.length):cut cs none (some (s:Int))=cs.take s:=by
 simp only[cut,HT.sIx];rw[aAH (by lia)];simp only[aHN,Nat.sub_zero,aDD];rw[Nat.min_eq_left h]
def aEj{cs:List D}(h:s<=cs.length):cut cs (some (s:Int)) none=cs.drop s:=by
 simp only[cut,HT.sIx];rw[aAH (by lia)];simp only[aDD];rw[Nat.min_eq_left h,aCJ (by simp)]
mutual
def aGi:∀d:D,eqD d d=true
 |.non=>by simp[eqD]|.bl b=>by simp[eqD]|.int i=>by simp[eqD]|.str x=>by simp[eqD]|.tup xs=>by simp only[eqD];exact dX xs|.lst xs=>by simp only[eqD];exact dX xs|.fz xs=>by simp only[eqD];exact dX xs|.exn c f xs=>by simp only[eqD];rw[dX xs];simp|.adr a=>by simp[eqD]
def dX:∀ds:List D,eqDs ds ds=true
 |[]=>by simp[eqDs]|d::ds=>by simp only[eqDs,aGi d,dX ds,Bool.and_true]
end
variable{x y:W}{Q:W->Mm->Prop}
end LS
namespace LS
open PySem L2 EV
variable{EX:D->Mm->Prop}
def SrtD:Dd->Prop
 |.add _ _ g t=>g.Pairwise (·<=·)/\t.Pairwise (·<=·)|.scale _ _=>True
end LS
namespace LS
open PySem L2 EV
variable{EX:D->Mm->Prop}
end LS
namespace LS
open PySem L2 EV
variable{EX:D->Mm->Prop}
def srtN(ns:List Nat):List Nat:=(srt (ns.map λk:Nat=>(k:Int))).map Int.toNat
def pl(ps:List Nat)(i:Nat):Nat:=ps.getD i 0
end LS
namespace LS
open PySem L2 EV
variable{EX:D->Mm->Prop}
def ho:Dd->Dd->Bool
 |.scale _ _,_=>false|.add s _ _ t,.scale s' _=>decide (s'=s) || decide (s'∈t)|.add _ _ _ t,.add s' _ _ _=>decide (s'∈t)
def gp(a b:Dd):Bool:=!ho a b&&!ho b a
end LS
namespace LS
open PySem L2 EV
variable{EX:D->Mm->Prop}
end LS
namespace LS
open PySem L2 EV
end LS
section
open PySem PySem.Spec PyProof.Rows
namespace L2
open AutoSeq1 (wpAny_loadPart')
variable{prog:Program}{E:Value->Shared->Prop}
end L2
namespace EV
open L2
section
variable{K:Frag}{a b:Expr}{g:FE}
end
variable{EX:D->Mm->Prop}
end EV
end
namespace EV
open PySem
variable{P:List Value->Prop}
def exS{k:Nat}(h:∀a us,us.length=k->P (a::us)):∀us:List Value,us.length=k+1->P us
 |a::us,e=>h a us (Nat.succ.inj e)
def ex0(h:P [])(us:List Value)(e:us.length=0):P us:=by rw[List.eq_nil_of_length_eq_zero e];exact h
def ex1(h:∀a,P [a]):∀us:List Value,us.length=1->P us:=exS λa=>ex0 (P:=λus=>P (a::us)) (h a)
def ex2(h:∀a b,P [a,b]):∀us:List Value,us.length=2->P us:=exS λa=>ex1 (P:=λus=>P (a::us)) (h a)
def ex3(h:∀a b c,P [a,b,c]):∀us:List Value,us.length=3->P us:=exS λa=>ex2 (P:=λus=>P (a::us)) (h a)
def ex4(h:∀a b c d,P [a,b,c,d]):∀us:List Value,us.length=4->P us:=exS λa=>ex3 (P:=λus=>P (a::us)) (h a)
end EV
set_option maxHeartbeats 4000000
section
open PySem PySem.Spec PyProof.Rows
namespace ZP
variable{prog:Program}{E:Value->Shared->Prop}
abbrev IsTrip(h:Heap)(T:Addr)(a b c:Value):Prop:=h.get? T=some {cls:=.type "tuple",data:=.seq #[a,b,c]}
set_option genSizeOf false in
set_option genInjectivity false in
structure Ap3(z TI TO i1 i2 i3 l1 l2 l3:Addr):Prop where
 z_TI:z≠TI
 z_TO:z≠TO
 z_i1:z≠i1
 z_i2:z≠i2
 z_i3:z≠i3
 TI_z:TI≠z
 TI_TO:TI≠TO
 TI_i1:TI≠i1
 TI_i2:TI≠i2
 TI_i3:TI≠i3
 TO_z:TO≠z
 TO_TI:TO≠TI
 TO_i1:TO≠i1
 TO_i2:TO≠i2
 TO_i3:TO≠i3
 i1_z:i1≠z
 i1_TI:i1≠TI
 i1_TO:i1≠TO
 i1_i2:i1≠i2
 i1_i3:i1≠i3
 i2_z:i2≠z
 i2_TI:i2≠TI
 i2_TO:i2≠TO
 i2_i1:i2≠i1
 i2_i3:i2≠i3
 i3_z:i3≠z
 i3_TI:i3≠TI
 i3_TO:i3≠TO
 i3_i1:i3≠i1
 i3_i2:i3≠i2
 l1_z:l1≠z
 l1_TI:l1≠TI
 l1_TO:l1≠TO
 l1_i1:l1≠i1
 l1_i2:l1≠i2
 l1_i3:l1≠i3
 l2_z:l2≠z
 l2_TI:l2≠TI
 l2_TO:l2≠TO
 l2_i1:l2≠i1
 l2_i2:l2≠i2
 l2_i3:l2≠i3
 l3_z:l3≠z
 l3_TI:l3≠TI
 l3_TO:l3≠TO
 l3_i1:l3≠i1
 l3_i2:l3≠i2
 l3_i3:l3≠i3
structure Zs3(h:Heap)(z TI TO i1 i2 i3 l1 l2 l3:Addr)(i:Nat)(xs ys us:Array Value):Prop where
 z:∃f0 f1,h.get? z=some (zobj TI TO f0 f1)/\(f0=.none\/∃T:Nat,f0=rawInt T)
 ti:IsTrip h TI (.ref i1) (.ref i2) (.ref i3)
 to:∃a b c,IsTrip h TO a b c
 a:It1 h i1 l1 i xs
 b:It1 h i2 l2 i ys
 c:It1 h i3 l3 i us
end ZP
namespace L2
end L2
namespace EV
open L2
variable{EX:D->Mm->Prop}
section
variable{K:Frag}{a b c:Expr}{g k:FE}{tg:Expr}
end
section
variable{g k:FE}
end
end EV
namespace RT
variable{prog:Program}{E:Value->Shared->Prop}
end RT
namespace L2
end L2
namespace EV
open L2
variable{K:Frag}{a:Expr}{EX:D->Mm->Prop}
end EV
end
namespace EV
open PySem
end EV
section
open PySem PySem.Spec PyProof.Rows
namespace L2
structure CompOkC(p:Str)(N0:List Str)(sc0:Scope)(scope:Scope)(Nc:List Str)(js:List (Option Nat)):Prop where
 kind:scope.kind=.function
 one:scope.names.filter (λy=>y.2==.cell)=[(p,.cell)]
 pc:scope.names.lookup p=some .cell
 names:∀y∈scope.names,y.2=.local->scope.names.lookup y.1=some .local
 free:∀y∈scope.names,y.2=.free->sc0.names.lookup y.1=some .cell
 len:js.length=Nc.length
 slots:∀p∈Nc.zip js,∀j∈p.2,N0[j]?=some p.1/\scope.names.lookup p.1=some .free/\sc0.names.lookup p.1=some .cell
variable{σ:St}{scope:Scope}{js:List (Option Nat)}{Cc:Addr}{p:Str}{tg iter elt:Expr}{ifs:List Expr}{js:List (Option Nat)}{g:TG}{wi:TI}{pn:Str}
end L2
namespace EV
open L2
variable{K:Frag}{pn:Str}
end EV
namespace L2
end L2
namespace EV
open L2
variable{K:Frag}{EX:D->Mm->Prop}
end EV
namespace L2
open PySem.W PySem.Calls Builtin Builtin.ObjectAttr
variable{e:Expr}
end L2
namespace L2
end L2
namespace EV
open L2
variable{K:Frag}{R:Addr->Hp->Prop}{a:Expr}{EX:D->Mm->Prop}
end EV
end
namespace EV
open PySem
variable{EX:D->Mm->Prop}{Q:W->Mm->Prop}
end EV
section
open PySem PySem.Spec PyProof.Rows
namespace L2
variable{M:Model}{E:Value->Shared->Prop}{env':Env}{L e:Addr}{P:Addr->Prop}{Q:Unit->Shared->Prop}{σ:List (Option V)}{R:Addr->Hp->Prop}{scope:Scope}{tg iter elt:Expr}{ifs:List Expr}{js:List (Option Nat)}{g:TG}{wi:TI}
end L2
namespace EV
open L2
variable{K:Frag}{R:Addr->Hp->Prop}
end EV
namespace L2
structure RoomH(k:Nat)(A:Around):Prop where
 dp:A.depth+3*k+5 < recursionLimit
 un:A.units+16*k+200 < cLine
def Room.mark{k:Nat}{A:Around}{v:Option Value}(r:Room k A):RoomH k (A.mark v):=⟨r.dp,r.un⟩
def RoomH.deeper{k:Nat}{A:Around}(r:RoomH (k+1) A)(env:Env):RoomH k (A.deeper env) :=
 ⟨by have:=r.dp;show A.depth+1+3*k+5 < _;lia,by have:=r.un;show A.units+3+16*k+200 < _;lia⟩
def _root_.L2.Inv.hh(I:Inv X pins σ H s):X.A.handled=none\/∃e C d,X.A.handled=some (.ref e)/\H e=some (.xo C d):=by
 cases z:X.calm with
 |true=>exact .inl (I.ok.hd z)|false=>exact I.hx z
structure FnOkH(P:Program)(w:World)(K:Frag)(mg:Str->Option Value)(base:Heap)(k:Nat)(f:Addr)(fd:FuncData)(ps:List Str)(sp:Sp):Prop where
 len:∀vs H Q E,sp vs H Q E->vs.length=ps.length
 run:∀(A:Around) (outer:List Env) (s:Shared) (H:Hp) (args:Args) (us:List Value) (vs:List V) (Q:VK) (E:XK),RoomH k A->Env0 P w K mg base A outer s H->(A.handled=none\/∃e C d,A.handled=some (.ref e)/\H e=some (.xo C d))->BindsTo s fd args (ps.zip us)->Vals vs us->sp vs H Q E ->
  codeAny (model P w) A (.call (.ref f) args) (CR CX0 outer P w H s Q E) s
section
variable{k:Nat}{f:Addr}{e:Expr}{es:List Expr}{t:TA}
end
end L2
namespace EV
open L2
variable{K:Frag}{e:Expr}{es:List Expr}{fs:FA}{EX:D->Mm->Prop}{Q:W->Mm->Prop}
end EV
namespace L2
variable{prog:Program}{E:Value->Shared->Prop}
end L2
namespace EV
open L2
variable{K:Frag}{EX:D->Mm->Prop}{Q:W->Mm->Prop}
end EV
set_option maxHeartbeats 4000000
namespace L2
variable{prog:Program}{E:Value->Shared->Prop}{tg:Expr}
end L2
namespace EV
open L2
variable{EX:D->Mm->Prop}
section
variable{K:Frag}{a b tg:Expr}{g:FE}
end
section
variable{g:FE}
end
end EV
end
namespace EV
open PySem
variable{EX:D->Mm->Prop}{Q:W->Mm->Prop}
def Okx.self{o:Oc α}{Q:α->Mm->Prop}(h:Okx EX o Q):Okx EX o λa M=>o=.ok a M/\Q a M:=by
 unfold Okx at h ⊢;cases o with
 |ok a M=>exact⟨rfl,h⟩|ex x M=>exact h|bad=>exact h
def Chk.app{s:Src}{J:Mm}(h:Chk s M):Chk s (M++J):=λt e=>by
 have:=h t e;cases t with
 |one t =>
  show(M++J)[t]?=_;rw[aAW (aAF.mp this).1];exact this
 |two t ys =>
  show(M++J)[t]?=_;rw[aAW (aAF.mp this).1];exact this
def tO{fi:FI}(h:Okx EX (fi L M) λs M1=>∃g:D->D,s.ds.length<=16777216/\Chk s M1/\(∀d∈s.ds,∀acc,Ok (f (some (.d d)::outL js L) (M1++[acc])) λw M'=>w=.d (g d)/\M'=M1++[acc])/\Q (.d (.lst (s.ds.map g))) M1):Okx EX (eComp (none::js) fi (gN 0) tYes f L M) Q:=by
 refine cF (λi acc L' M'=>∃s M1 g,fi L M=.ok s M1/\(s.ds.length<=16777216/\Chk s M1/\(∀d∈s.ds,∀acc,Ok (f (some (.d d)::outL js L) (M1++[acc])) λw M'=>w=.d (g d)/\M'=M1++[acc])/\Q (.d (.lst (s.ds.map g))) M1)/\acc=(s.ds.take i).map g/\M'=M1/\∃a,L'=a::outL js L) (h.self.mono ?_);rintro s M1 ⟨e,g,hz,hc,hf,q⟩;refine⟨⟨s,M1,g,e,⟨hz,hc,hf,q⟩,rfl,rfl,none,rfl⟩,?_,hz,?_,?_⟩
 ·rintro i acc L' M' hi ⟨s',M1',g',e',_,rfl,rfl,_⟩
  rw[e]at e';cases e';exact⟨rfl,hc.app,by simp;lia⟩
 ·rintro i d acc L' M' hd ⟨s',M1',g',e',⟨_,_,hf',q'⟩,rfl,rfl,a,rfl⟩
  rw[e]at e';cases e';refine aBq (aH ⟨λ_=>(hf' d (aAQ hd) _).mono ?_,λh=>by cases h⟩);rintro _ _ ⟨rfl,rfl⟩;refine⟨_,_,rfl,rfl,s,_,g',e,⟨hz,hc,hf',q'⟩,?_,rfl,_,rfl⟩;rw[aBX,hd];simp
 ·rintro acc L' M' ⟨s',M1',g',e',⟨_,_,_,q'⟩,rfl,rfl,_⟩
  rw[e]at e';cases e';rw[aBA];exact q'
end EV
section
open PySem PySem.Spec PyProof.Rows
namespace EV
open L2
variable{K:Frag}{EX:D->Mm->Prop}{Q:W->Mm->Prop}
end EV
namespace L2
variable{e st:Expr}{ts:TO}
end L2
namespace EV
open L2
variable{K:Frag}{e st:Expr}{fs:FO}{EX:D->Mm->Prop}{Q:W->Mm->Prop}
end EV
end
namespace EV
open PySem
end EV
section
open PySem PySem.Spec PyProof.Rows
namespace L2
variable{o i:Expr}{to ti:TE}
end L2
namespace EV
open L2
variable{K:Frag}{o i:Expr}{EX:D->Mm->Prop}{Q:Out->Mm->Prop}
end EV
namespace L2
variable{prog:Program}{E:Value->Shared->Prop}
section
variable{o:Expr}{lo hi:Option Expr}{to:TE}{tl th:TO}
end
end L2
namespace EV
open L2
section
variable{K:Frag}{o:Expr}{lo hi:Option Expr}{fl fh:FO}{EX:D->Mm->Prop}
end
end EV
namespace L2
variable{tg:Expr}
end L2
namespace EV
open L2
variable{EX:D->Mm->Prop}{K:Frag}{a b c tg:Expr}
end EV
end
namespace HT
open PySem PyProof.Rows
def RcLt(A:Around)(s:Shared)(v w:Value)(r:Bool):Prop:=∀(prog:Program) (wo:World) (E:Value->Shared->Prop) (Q:Value->Shared->Prop),Q (.bool r) s->wpAny (model prog wo) A (richCompare .Lt v w) Q E s
inductive LtOk(A:Around)(s:Shared):List Value->List Value->Bool->Prop where
 |nn:LtOk A s [] [] false
 |nc {w ws:_}:LtOk A s [] (w::ws) true
 |cn {v vs:_}:LtOk A s (v::vs) [] false
 |eq {v w vs ws r:_}:SeqAt.EqAt A s v w true->LtOk A s vs ws r->LtOk A s (v::vs) (w::ws) r
 |ne {v w vs ws r:_}:SeqAt.EqAt A s v w false->RcLt A s v w r->LtOk A s (v::vs) (w::ws) r
section
open PySem.SeqAt
open PySem.AutoSeq1 (wpAny_loadPart')
open PySem.MeetsSeq PySem.MeetsSeq2 PySem.MeetsSeq3
end
variable{prog:Program}{E:Value->Shared->Prop}
end HT
section
open PySem PySem.Spec PyProof.Rows
namespace EV
open L2
variable{K:Frag}
def ltE(x y:D):Option Bool:=match x,y with
 |.int a,.int b=>some (decide (a < b))|.bl a,.bl b=>some (decide (b2i a < b2i b))|.tup xs,.tup ys=>match intsOf xs,intsOf ys with
  |some ns,some ms=>some (HT.lexLt ns ms)|_,_=>none
 |_,_=>none
def ltT:List D->List D->Option Bool
 |[],[]=>some false|[],_::_=>some true|_::_,[]=>some false|x::xs,y::ys=>if eqD x y=true then ltT xs ys else ltE x y
def aNa(I:L2.Inv X pins σ H s)(hk:X.K=K)(hu:A.units < cLine){x y:D}{u:V}{r:Bool}(hx:Rp K μ H x v)(hy:Rp K μ H y u)(qx:RelV v v')(qy:RelV u u')(h:ltE x y=some r):HT.RcLt A s v' u' r:=by
 unfold ltE at h;split at h
 ·simp only[Rp]at hx hy
  subst hx hy;obtain⟨t,rfl⟩:=qx;obtain⟨t',rfl⟩:=qy;cases h;exact λprog w E Q q=>HT.rcLt_int A s _ _ _ _ prog w E Q q
 ·simp only[Rp]at hx hy
  subst hx hy;cases qx;cases qy;cases h;exact λprog w E Q q=>(lt_bool q:wpAny (model prog w) A (compareOp .Lt _ _) Q E s)
 ·rename_i xs ys
  split at h
  ·rename_i ns ms q1 q2
   cases h;have e1:=cQ q1;have e2:=cQ q2;subst e1 e2;simp only[Rp]at hx hy;obtain⟨a,vs,rfl,h1,r1⟩:=hx;obtain⟨b,us,rfl,h2,r2⟩:=hy;have e1:=fD r1;have e2:=fD r2;subst e1 e2;cases qx;cases qy;obtain⟨its,t1,p1,_⟩:=I.tuple (SqT.of h1);obtain⟨its2,t2,p2,_⟩:=I.tuple (SqT.of h2);exact λprog w E Q q=>(HT.lt_tupInts p1 p2 (by simpa using eL t1) (by simpa using eL t2) hu q:wpAny (model prog w) A (compareOp .Lt _ _) Q E s)
  ·cases h
 ·cases h
def aFb{pins:List (Addr×Obj)}{σ:St}{μ:List Addr}{H:Hp}{s:Shared}{A:Around}{r:Bool}(I:L2.Inv X pins σ H s)(hk:X.K=K)(hu:A.units+60 < cLine):∀{xs ys:List D} {vs us:List V} {vs' us':List Value},Rps K μ H xs vs->Rps K μ H ys us->Vals vs vs'->Vals us us'->deps xs<=50->deps ys<=50->ltT xs ys=some r->HT.LtOk A s vs' us' r
 |[],[],_,_,_,_,hx,hy,qx,qy,_,_,h=>by
  simp only[Rps]at hx hy;subst hx hy;cases qx;cases qy;cases h;exact .nn
 |[],_::_,_,_,_,_,hx,hy,qx,qy,_,_,h=>by
  simp only[Rps]at hx hy;obtain⟨_,_,rfl,_,_⟩:=hy;subst hx;cases qx;cases qy;cases h;exact .nc
 |_::_,[],_,_,_,_,hx,hy,qx,qy,_,_,h=>by
  simp only[Rps]at hx hy;obtain⟨_,_,rfl,_,_⟩:=hx;subst hy;cases qx;cases qy;cases h;exact .cn
 |x::xs,y::ys,_,_,_,_,hx,hy,qx,qy,mx,my,h=>by
  simp only[Rps]at hx hy;obtain⟨v,vr,rfl,e1,e2⟩:=hx;obtain⟨u,ur,rfl,f1,f2⟩:=hy;simp only[deps]at mx my;cases qx with
  |cons q1 q2 =>
   cases qy with
   |cons p1 p2 =>
    have he:=aGz I hk x A y v u _ _ (by lia) (by lia) (by lia) e1 f1 q1 p1;simp only[ltT]at h;split at h
    ·rename_i hq
     rw[hq]at he;exact .eq he (aFb I hk hu e2 f2 q2 p2 (by lia) (by lia) h)
    ·rename_i hq
     rw[Bool.not_eq_true]at hq;rw[hq]at he;exact .ne he (aNa I hk (by lia) e1 f1 q1 p1 h)
variable{EX:D->Mm->Prop}{Q:W->Mm->Prop}
end EV
set_option maxHeartbeats 4000000
end
namespace L2
open PySem PySem.W PyProof.Rows
structure Lin(lt:Nat->Nat->Bool)(n:Nat):Prop where
 tot:∀i j,i < n->j < n->i≠j->lt i j=!lt j i
 tr:∀i j k,i < n->j < n->k < n->lt i j=true->lt j k=true->lt i k=true
structure PPm(n:Nat)(p:Array Nat):Prop where
 sz:p.size=n
 pm:p.toList.Perm (List.range n)
section
variable{lt:Nat->Nat->Bool}{n:Nat}{p:Array Nat}
def PPm.lo(h:PPm n p)(hn:0 < n)(i:Nat):p.getD i 0 < n:=by
 by_cases hi:i < p.size
 ·have:p.getD i 0∈p.toList:=by simp[Array.getD,hi]
  exact aCP.mp (h.pm.mem_iff.mp this)
 ·simp[Array.getD,hi];exact hn
def PPm.ne(h:PPm n p)(hij:i < j)(hj:j < n):p.getD i 0≠p.getD j 0:=by
 have nd:p.toList.Nodup:=h.pm.nodup_iff.mpr List.nodup_range;have hz:=h.sz;have h1:i < p.size:=by lia
 have h2:j < p.size:=by lia
 have:=aBD.mp nd i j (by simpa using h1) (by simpa using h2) hij;simpa[Array.getD,h1,h2]using this
end
end L2
section
open PySem PySem.Spec PyProof.Rows
namespace L2
open PySem.W
section
variable{prog:Program}{E:Value->Shared->Prop}{lt:Nat->Nat->Bool}
def underway(h:Heap)(a:Addr)(vs:List Value):Heap:=((h.update a (Obj.mapSeq λ_=>#[])).push (seqObj "tuple" vs.toArray 0)).push (seqObj "list" #[] 0)
end
end L2
namespace EV
open L2 PySem.W
variable{prog:Program}
def aPm{vs ws:List Value}{r:Bool}(h:HT.LtOk A s vs ws r):∀{i:Nat} {Q:Bool->Shared->Prop},Q r s->KatLex prog w A false (decide (vs.length < ws.length)) Q (vs.zip ws) i s:=by
 induction h with
 |nn=>intro i Q q;exact q|nc=>intro i Q q;exact kat_nil (by simpa using q)|cn=>intro i Q q;exact kat_nil (by simpa using q)|eq he ht ih =>
  intro i Q q;have:=ih (i:=i+1) q;simp only[aBV,Nat.add_lt_add_iff_right];exact kat_cons (he prog w _ _ (kat_yes this))
 |ne he ht =>
  intro i Q q;exact kat_cons (he prog w _ _ (kat_no (kat_one _ _ (ht prog w _ _ (show W.BoolBack Q (.bool _) s from q)))))
def tl:D->List D
 |.tup xs=>xs|_=>[]
def tLt(xs:List D)(i j:Nat):Bool:=ltT (tl (xs.getD i .non)) (tl (xs.getD j .non))==some true
structure TS(xs:List D):Prop where
 l2:2<=xs.length
 l64:xs.length < 64
 it:∀x∈xs,∃ys zs,x=.tup (.tup ys::zs)/\deps (.tup ys::zs)<=50
 so:∀i j,i < xs.length->j < xs.length->ltT (tl (xs.getD i .non)) (tl (xs.getD j .non))≠none
 lin:Lin (tLt xs) xs.length
variable{K:Frag}
def aAj{pins:List (Addr×Obj)}{σ:St}{s:Shared}(I:L2.Inv X pins σ H s)(hk:X.K=K):∀{ds:List D} {vs:List V} {us:List Value},Rps K μ H ds vs->Vals vs us->(∀x∈ds,∃ys zs,x=D.tup (.tup ys::zs)/\deps (.tup ys::zs)<=50) ->
  ∃fs,KatTups s.heap us fs/\fs.length=us.length/\∀f∈fs,∃a o,f=Value.ref a/\s.heap.get? a=some o/\o.cls=.type "tuple"
 |[],_,_,h,q,_=>by simp only[Rps]at h;subst h;cases q;exact⟨[],trivial,rfl,by simp⟩
 |x::ds,_,_,h,q,t=>by
  simp only[Rps]at h;obtain⟨v,vr,rfl,e1,e2⟩:=h;cases q with
  |cons q1 q2 =>
   obtain⟨fs,k1,k2,k3⟩:=aAj I hk e2 q2 (λy hy=>t y (aBF _ hy));obtain⟨ys,zs,rfl,_⟩:=t x (aBG ..);simp only[Rp,Rps]at e1;obtain⟨a,ws,rfl,h1,v1,wr,rfl,⟨b,vs2,rfl,h2,_⟩,_⟩:=e1;cases q1;obtain⟨its,t1,⟨o,g,gc,n,gd⟩,_⟩:=I.tuple (SqT.of (K:=X.K) h1);obtain⟨its2,t2,⟨o2,g2,gc2,_⟩,_⟩:=I.tuple (SqT.of (K:=X.K) h2);cases t1 with
   |cons r1 r2 =>
    cases r1;refine⟨.ref b::fs,KatTups.cons g gc gd (by simp) k1,by simp[k2],?_⟩;intro f hf;rcases aAU.mp hf with rfl|hf
    ·exact⟨b,o2,rfl,g2,gc2⟩
    ·exact k3 f hf
def cC{l:List α}{d x:α}(h:l[i]?=some x):l.getD i d=x:=by simp[List.getD,h]
def Rps.pick{ds:List D}{vs:List V}(h:Rps K μ H ds vs):∀l:List Nat,(∀i∈l,i < ds.length)->Rps K μ H (l.map λi=>ds.getD i .non) (l.map λi=>vs.getD i V.non)
 |[],_=>.nil|i::l,hl=>by
  obtain⟨d,hd⟩:∃d,ds[i]?=some d:=⟨_,aAP (hl i (aBG ..))⟩
  obtain⟨v,hv,rv⟩:=h.get hd;have:=Rps.cons rv (h.pick l λj hj=>hl j (aBF _ hj));rw[aAK,aAK,cC hd,cC hv];exact this
variable{EX:D->Mm->Prop}{Q:W->Mm->Prop}{x:W}
end EV
namespace EV
open L2
variable{K:Frag}{o:Expr}{EX:D->Mm->Prop}{Q:W->Mm->Prop}
end EV
set_option maxHeartbeats 1000000
namespace L2
open AutoSeq1 (wpAny_loadPart')
variable{prog:Program}{E:Value->Shared->Prop}
end L2
namespace L2
variable{prog:Program}{E:Value->Shared->Prop}
end L2
set_option maxHeartbeats 4000000
namespace L2
end L2
namespace EV
open L2
section
variable{K:Frag}{a b:Expr}{g:FE}{EX:D->Mm->Prop}
end
variable{K:Frag}
def aPj{st:Stmt}{fa:Addr}{k:Nat}(hf:FunG K x qual st fa fd)(S:FnScope N ps (defScope st))
  (hb:∀(cdv:Value) (A:Around) (outer:List Env) (s:Shared) (H:Hp) (E:XK),Room k (A.deeper (envOfC qual (defScope st) s.heap.objs.size fa cdv))->Ess (cxOf CX0 P w K mg base N qual (defScope st) fa cdv A outer s H E).nox K Z0 (defBody st) F) :
  FnOk P w K mg base CX0 (k+1) fa fd ps (spF K Z0 ps.length (fnD ps.length N.length F)):=by
 obtain⟨oc,od,dV,kV,doc,pm,an,cdv,ct,osl,rfl,lk,hcd⟩:=hf.ex;refine aFz lk hcd S (λvs H Q E h=>h.1) λA outer s H vs Q E hr hsp=>⟨_,(hb cdv A outer s H E hr).h.nox,?_⟩
 obtain⟨hv,μ,M,ws,hr,rx,p⟩:=hsp;refine⟨μ,M,_,hr,jH rx,?_⟩;unfold fnD at p;rw[aAG (by rw[rx.length];exact hv)]at p;cases q:F (ws.map some++List.replicate (N.length - ws.length) none) M with
 |bad=>rw[q]at p;exact p
 |ex z M'=>rw[q]at p;exact p
 |ok o M' =>
  rw[q]at p;simp only[bI]at p;intro μ1 H1 e1 hr1;have hb:=hr1.back e1;rw[hr.len]at hb;cases o with
  |nx L'=>exact λσ' lr'=>p μ H1 e1.back hb _ (by simp[Rw,Rp])
  |bk L'=>exact p.elim|ct L'=>exact p.elim|rt w=>exact λv rv=>vS hr e1 hr1 rv p
end EV
namespace L2
variable{prog:Program}{E:Value->Shared->Prop}
end L2
namespace EV
open L2
variable{K:Frag}{e:Expr}{EX:D->Mm->Prop}
end EV
set_option maxHeartbeats 4000000
namespace L2
def nR3(a b c:Int):Nat:=(if a < b then(b - a - 1) / c+1 else 0).toNat
def r3(a b c:Int):List Int:=(List.range (nR3 a b c)).map λi=>a+(i:Nat)*c
variable{a b c:Expr}{ta:TA}
end L2
namespace EV
open L2
variable{EX:D->Mm->Prop}{K:Frag}{a b c:Expr}{Q:W->Mm->Prop}
end EV
namespace EV
open L2
variable{K:Frag}{e:Expr}{es:List Expr}{fs:FA}
end EV
set_option maxHeartbeats 4000000
namespace EV
open L2
variable{K:Frag}{e a b o:Expr}{es:List Expr}{fs:FA}
section
variable{Q:W->Mm->Prop}{g:FE}{x y:W}
end
variable{K:Frag}{tg:Expr}{K:Frag}{f:Str}
structure OCl(K:Frag)(c:Str)(C:Addr):Prop where
 nm:nsIn K mainGlobals c=some (some (.ref C))
 cl:Cls K C
 nd:c≠"dict"/\c≠"dictK"
def SameK.ins{C dx:Addr}{fs gs:List (Str×V)}:SameK (.ins C dx fs) (.ins C dx gs):=⟨λ_ h=>(nomatch h),λ_ _ _ h=>by cases h;exact⟨gs,rfl⟩,λ_ h=>(nomatch h),λ_ h=>(nomatch h),λ_ _ h=>(nomatch h)⟩
variable{K:Frag}{f:FE}
section
variable{Q:W->Mm->Prop}{g fv:FE}{F:Fn}{c ff m:Str}{i:Nat}{ds:List D}{x:D}
end
end EV
set_option maxHeartbeats 4000000
namespace L2
section
variable(P:Program)(w:World)
end
variable{a:Addr}{o:HO}{x e:Addr}{o':HO}
section
variable{fs fs' ex ex':List Addr}{h1 h2:Heap}
end
variable{σ:List (Option V)}
section
variable{a b:Expr}{tA tB':TT}{rest:List Expr}
end
variable{σ:St}{xs ys:List V}{E:Value->Shared->Prop}
section
variable{st:Stmt}{rest:List Stmt}{t u:TS}{e:Expr}
end
variable{tg:Expr}{a b c:Expr}{tc:TE}{prog:Program}{K:Frag}{f:Addr}{v:Value}
section
variable{a:Addr}{fs fs':List (Str×V)}
end
section
variable{a:Addr}{fs:List (Str×V)}{f:Str}{v:V}
end
variable{o e value:Expr}{f:Str}{c:Value}{b:Bool}
section
variable{es:List Expr}{t:TA}
end
section
variable{k:Nat}{f:Addr}{dvs:List V}{ds:List Value}{E:XK}{x m:Str}{es:List Expr}{t:TA}
end
section
variable{k:Nat}{f:Addr}{ks:List Str}{E:XK}{x m:Str}{kpos:Pos}{es:List Expr}{kws:List Keyword}{t tk:TA}{nm:Option Str}{g:List Value->List Value->List Value}{gV:List V->List V->List V}
end
section
variable{x:Str}{es:List Expr}{t:TA}{id T:String}
end
section
variable{κ:Type}[DecidableEq κ]
def valV(kvs:List (κ×V))(k:κ):Option V:=(kvs.find? λkv=>decide (kv.1=k)).map (·.2)
def putK(kvs:List (κ×V))(k:κ)(v:V):List (κ×V) :=
 if(kvs.any λkv=>decide (kv.1=k))=true then kvs.map (λkv=>if kv.1=k then(kv.1,v)else kv)else kvs++[(k,v)]
def dropK(kvs:List (κ×V))(k:κ):List (κ×V):=kvs.filter λkv=>decide (kv.1≠k)
def oF{p:κ×V}{r:List (κ×V)}{k:κ}(e:p.1=k):valV (p::r) k=some p.2:=by simp[valV,aFF,e]
def oV{p:κ×V}{r:List (κ×V)}{k:κ}(e:¬p.1=k):valV (p::r) k=valV r k:=by simp[valV,aFF,e]
def fE(k:κ):∀kvs:List (κ×V),(kvs.any λkv=>decide (kv.1=k))=(valV kvs k).isSome
 |[]=>rfl|p::r=>by
  rw[List.any_cons];by_cases e:p.1=k
  ·simp only[oF e,decide_eq_true e,Bool.true_or,aFW]
  ·rw[oV e,aCA e,Bool.false_or];exact fE k r
def dF(kvs:List (κ×V))(k:κ)(v:V):(putK kvs k v).length<=kvs.length+1:=by
 unfold putK;split
 ·rw[aAM];lia
 ·rw[aCC,aBV,aEQ];lia
def aHx{kvs:List (κ×V)}{k:κ}(v:V)(h:valV kvs k=none):putK kvs k v=kvs++[(k,v)]:=by
 unfold putK;rw[fE,h];exact aAH (by decide)
def RelO.isSome_eq{o:Option V}{u:Option Value}(r:RelO o u):o.isSome=u.isSome:=by
 cases o with
 |none=>cases u with
  |none=>rfl|some _=>exact(show False from r).elim
 |some _=>cases u with
  |none=>exact(show False from r).elim
  |some _=>rfl
def RelO.getD{o:Option V}{u:Option Value}{d:V}(r:RelO o u)(rd:RelV d d'):RelV (o.getD d) (u.getD d'):=by
 cases o with
 |none=>cases u with
  |none=>exact rd|some _=>exact(show False from r).elim
 |some _=>cases u with
  |none=>exact(show False from r).elim
  |some _=>exact r
def KV.val{kvs:List (κ×V)}{vs:List (κ×Value)}(r:KV kvs vs)(k:κ):RelO (valV kvs k) (valueAt vs k):=by
 unfold KV at r;induction r with
 |nil=>exact True.intro|@cons p q ps qs h t ih =>
  obtain⟨h1,h2⟩:=h;by_cases e:p.1=k
  ·have e':q.1=k:=h1.symm.trans e
   have b:valueAt (q::qs) k=some q.2:=by simp[valueAt,aFF,e']
   rw[oF e,b];exact h2
  ·have e':¬q.1=k:=λz=>e (h1.trans z)
   have b:valueAt (q::qs) k=valueAt qs k:=by simp[valueAt,aFF,e']
   rw[oV e,b];exact ih
def KV.any{kvs:List (κ×V)}{vs:List (κ×Value)}(r:KV kvs vs)(k:κ):(kvs.any λkv=>decide (kv.1=k))=vs.any λkv=>decide (kv.1=k):=by
 unfold KV at r;induction r with
 |nil=>rfl|cons h t ih=>rw[List.any_cons,List.any_cons,ih,h.1]
def KV.repl{kvs:List (κ×V)}{vs:List (κ×Value)}(r:KV kvs vs)(k:κ)(ry:RelV y u) :
  KV (kvs.map λkv=>if kv.1=k then(kv.1,y)else kv) (vs.map λkv=>if kv.1=k then(kv.1,u)else kv):=by
 unfold KV at r ⊢;induction r with
 |nil=>exact .nil|@cons p q ps qs h t ih =>
  rw[aAK,aAK];refine .cons ?_ ih;obtain⟨h1,h2⟩:=h;by_cases e:p.1=k
  ·rw[aAG e,aAG (h1.symm.trans e)];exact⟨h1,ry⟩
  ·rw[aAH e,aAH (λz=>e (h1.trans z))];exact⟨h1,h2⟩
def KV.put{kvs:List (κ×V)}{vs:List (κ×Value)}(r:KV kvs vs)(k:κ)(ry:RelV y u):KV (putK kvs k y) (stored vs k u):=by
 unfold putK stored;rw[r.any k];by_cases e:(vs.any λkv=>decide (kv.1=k))=true
 ·rw[aAG e,aAG e];exact r.repl k ry
 ·rw[aAH e,aAH e];exact Paired.snoc r ⟨rfl,ry⟩
def KV.drop{kvs:List (κ×V)}{vs:List (κ×Value)}(r:KV kvs vs)(k:κ):KV (dropK kvs k) (without vs k):=by
 unfold KV at r ⊢;unfold dropK without;induction r with
 |nil=>exact .nil|@cons p q ps qs h t ih =>
  obtain⟨h1,h2⟩:=h;rw[aFB,aFB];by_cases e:p.1=k
  ·have a:¬decide (p.1≠k)=true:=by simp[e]
   have b:¬decide (q.1≠k)=true:=by simp[h1.symm.trans e]
   rw[aAH a,aAH b];exact ih
  ·have e':¬q.1=k:=λz=>e (h1.trans z)
   have a:decide (p.1≠k)=true:=by simp[e]
   have b:decide (q.1≠k)=true:=by simp[e']
   rw[aAG a,aAG b];exact .cons ⟨h1,h2⟩ ih
def KV.length{kvs:List (κ×V)}{vs:List (κ×Value)}(r:KV kvs vs):kvs.length=vs.length:=Paired.length r
end
def aAd{k:Key}(r:RelV (kV k) u):(mixKind P w).is k u=true:=by
 cases k with
 |inl i=>obtain⟨t,e⟩:=(show ∃t,u=Value.int i t from r);subst e;exact vQ P w i t
 |inr x=>obtain⟨t,e⟩:=(show ∃t,u=Value.str x t from r);subst e;exact vN P w x t
def pT{P:Program}{w:World}:∀{ks:List Key} {us:List Value},Vals (ks.map kV) us->ItemsAre (mixKind P w) ks us
 |[],_,r=>by rw[List.map_nil]at r;cases r;exact .nil
 |k::ks,_,r=>by
  rw[aAK]at r;cases r with
  |cons h t=>exact .cons (aAd h) (pT t)
abbrev KT(H:Hp):List (List Key×V)->List (List Key×Addr×Value)->Prop:=Paired λp q=>p.1=q.1/\H q.2.1=some (.tup (p.1.map kV))/\RelV p.2 q.2.2
variable{xs:List (List Key×Addr×Value)}
def KT.val(r:KT H kvs xs)(k:List Key):RelO (valV kvs k) ((atKey xs k).map (·.2)):=by
 induction r with
 |nil=>exact True.intro|@cons p q ps qs h t ih =>
  obtain⟨h1,_,h2⟩:=h;by_cases e:p.1=k
  ·have e':q.1=k:=h1.symm.trans e
   have b:atKey (q::qs) k=some q.2:=by simp[atKey,aFF,e']
   rw[oF e,b];exact h2
  ·have e':¬q.1=k:=λz=>e (h1.trans z)
   have b:atKey (q::qs) k=atKey qs k:=by simp[atKey,aFF,e']
   rw[oV e,b];exact ih
def KT.repl(r:KT H kvs xs)(k:List Key)(ry:RelV y u) :
  KT H (kvs.map λkv=>if kv.1=k then(kv.1,y)else kv) (xs.map (putAt k u)):=by
 induction r with
 |nil=>exact .nil|@cons p q ps qs h t ih =>
  rw[aAK,aAK];refine .cons ?_ ih;obtain⟨h1,h2,h3⟩:=h;unfold putAt;by_cases e:p.1=k
  ·rw[aAG e,aAG (h1.symm.trans e)];exact⟨h1,h2,ry⟩
  ·rw[aAH e,aAH (λz=>e (h1.trans z))];exact⟨h1,h2,h3⟩
variable{b:Addr}
def KT.put(r:KT H kvs xs)(k:List Key)(hb:H b=some (.tup (k.map kV)))(ry:RelV y u) :
  KT H (putK kvs k y) (storedH xs k b u):=by
 have e:(kvs.any λkv=>decide (kv.1=k))=(atKey xs k).isSome:=by
  rw[fE,(r.val k).isSome_eq,Option.isSome_map]
 unfold putK storedH;rw[e];by_cases q:(atKey xs k).isSome=true
 ·rw[aAG q,aAG q];exact r.repl k ry
 ·rw[aAH q,aAH q];exact Paired.snoc r ⟨rfl,hb,ry⟩
def KT.keeps(r:KT H kvs xs)(ht:∀b ys,H b=some (.tup ys)->H' b=some (.tup ys)):KT H' kvs xs :=
 Paired.mapP r λ_ _ z=>⟨z.1,ht _ _ z.2.1,z.2.2⟩
variable{a:Addr}
def wB{u:HO}(ok:HOk P w H h)(e:Rd H a u):ObjOk P w H h a u:=e.ok ok
variable{kvs:List (Key×V)}
def tX(ok:HOk P w H h)(e:Rd H a (.dK kvs)):kvs.length<=sizeLine/\(a==sysModules)=false/\∃vs,KV kvs vs/\h.DictOf (mixKind P w) a vs :=
 show ObjOk P w H h a (.dK kvs)from wB ok e
def aQp(ok:HOk P w H h)(e:H a=some (.dK kvs)):kvs.length<=sizeLine/\(a==sysModules)=false/\∃vs,KV kvs vs/\h.DictOf (mixKind P w) a vs:=tX ok (.inl e)
def gW{ks:List Key}(ok:HOk P w H h)(e:H a=some (.tup (ks.map kV))):(tupleKind (mixKind P w)).is h ks a:=by
 obtain⟨_,its,r,o,h1,h2,n,h3⟩:=(show ObjOk P w H h a (.tup (ks.map kV))from ok a _ e)
 exact⟨o,its.toArray,n,h1,h2,congrArg (·.1) h3,by simpa using pT r⟩
variable{kvs:List (List Key×V)}
def tT(ok:HOk P w H h)(e:Rd H a (.dT kvs)):kvs.length<=sizeLine/\(a==sysModules)=false /\
  ∃xs,KT H kvs xs/\h.DictOfH (tupleKind (mixKind P w)) a xs:=by
 obtain⟨z,y,xs,r,o,es,ep,h1,h2,h3,h4,h5⟩:=(show ObjOk P w H h a (.dT kvs)from wB ok e)
 refine⟨z,y,xs,r,o,es,ep,h1,h2,h3,h4,λx hx=>?_,h5⟩;have all:∀{l:List (List Key×V)} {m:List (List Key×Addr×Value)},KT H l m->∀x∈m,(tupleKind (mixKind P w)).is h x.1 x.2.1:=by
  intro l m q;induction q with
  |nil=>intro x hx;exact nomatch hx|@cons p q ps qs hq t ih =>
   intro x hx;rcases aAU.mp hx with e|hx
   ·subst e
    exact gW ok (by rw[<- hq.1];exact hq.2.1)
   ·exact ih x hx
 exact all r x hx
def aLk(ok:HOk P w H h)(e:H a=some (.dT kvs)):kvs.length<=sizeLine/\(a==sysModules)=false /\
  ∃xs,KT H kvs xs/\h.DictOfH (tupleKind (mixKind P w)) a xs:=tT ok (.inl e)
def DGet(H:Hp)(a:Addr)(y:V)(r:Option V):Prop :=
 (∃kvs k,Rd H a (.dK kvs)/\y=kV k/\r=valV kvs k)\/∃kvs k b,Rd H a (.dT kvs)/\y=.ref b/\H b=some (.tup (k.map kV))/\r=valV kvs k
def DPut(H:Hp)(a:Addr)(y v:V)(H':Hp):Prop :=
 (∃kvs k,H a=some (.dK kvs)/\y=kV k/\kvs.length < sizeLine/\H'=upd H a (.dK (putK kvs k v))) \/
 ∃kvs k b,H a=some (.dT kvs)/\y=.ref b/\H b=some (.tup (k.map kV))/\kvs.length < sizeLine/\H'=upd H a (.dT (putK kvs k v))
def DGet.k{H:Hp}{a:Addr}{kvs:List (Key×V)}{k:Key}(e:H a=some (.dK kvs)):DGet H a (kV k) (valV kvs k):=.inl ⟨kvs,k,.inl e,rfl,rfl⟩
def DGet.t{k:List Key}(e:H a=some (.dT kvs))(eb:H b=some (.tup (k.map kV))):DGet H a (.ref b) (valV kvs k):=.inr ⟨kvs,k,b,.inl e,rfl,eb,rfl⟩
def DPut.k{H:Hp}{a:Addr}{kvs:List (Key×V)}{k:Key}{v:V}(e:H a=some (.dK kvs))(hl:kvs.length < sizeLine):DPut H a (kV k) v (upd H a (.dK (putK kvs k v))):=.inl ⟨kvs,k,e,rfl,hl,rfl⟩
variable{v:V}
def DPut.t{k:List Key}(e:H a=some (.dT kvs))(eb:H b=some (.tup (k.map kV)))(hl:kvs.length < sizeLine) :
  DPut H a (.ref b) v (upd H a (.dT (putK kvs k v))):=.inr ⟨kvs,k,b,e,rfl,eb,hl,rfl⟩
variable{r:Value}{o:Option V}
def Inv.big(I:Inv X pins σ H s):sysModules < s.heap.objs.size:=by
 have h:mainGlobals < s.heap.objs.size:=(I.mod.glob.keeps I.bk).lt;exact Nat.lt_trans (by decide) h
def aCf(hu:A.units+1 < cLine)(I:Inv X pins σ H s)(g:DGet H a y (some v))(ry:RelV y u)(h:∀w' s',Inv X pins σ H s'->RelV v w'->Q w' s') :
  wpAny (model X.prog X.w) A (getItem (.ref a) u) Q E s:=by
 rcases g with⟨kvs,k,e,ey,l⟩|⟨kvs,k,b,e,ey,eb,l⟩
 ·subst ey
  obtain⟨z,hd,vs,rel,dd⟩:=tX I.hok e;obtain⟨w',hw,rw'⟩:=RelO.some_of (v:=v) (o:=valueAt vs k) (by rw[l];exact rel.val k);exact wpAny_getItem_of (aAd ry) dd.mapOf hw (h w' _ (I.tok _) rw')
 ·subst ey
  cases(show u=Value.ref b from ry);obtain⟨z,hd,xs,rel,dd⟩:=tT I.hok e;obtain⟨w',hw,rw'⟩:=RelO.some_of (v:=v) (o:=(atKey xs k).map (·.2)) (by rw[l];exact rel.val k);obtain⟨p,hp,hp2⟩:=aAR.mp hw;refine wpAny_getItem_heap (aHJ hu) (gW I.hok eb) dd hp ?_;rw[hp2];exact h w' _ (I.tok _) rw'
def mE{ob:HO}(I:Inv X pins σ H s)(mu:Mut (H a))(hs:Heap.SameBut a s.heap h')(he:∃q,h'.get? a=some q)(new:ObjOk X.prog X.w (upd H a ob) h' a ob) :
  Inv X pins σ (upd H a ob) {s with heap:=h',toks:=t'} :=
 I.write (x:=a) (e:=a) mu (.inl rfl) (λb q hb z=>(hs.2 b hb).trans z) he new
variable{kvs:List (Key×V)}
def aMa{vs:List (Key×Value)}(z:kvs.length<=sizeLine)(hd:(a==sysModules)=false)(rel:KV kvs vs)(dd:h'.DictOf (mixKind P w) a vs) :
  ObjOk P w H' h' a (.dK kvs):=⟨z,hd,vs,rel,dd⟩
def aBw{Q:Unit->Shared->Prop}(hu:A.units+1 < cLine)(I:Inv X pins σ H s)(g:DPut H a y v H')(ry:RelV y u)(rv:RelV v r)(h:∀s',Inv X pins σ H' s'->Q () s') :
  wpAny (model X.prog X.w) A (setItem (.ref a) u r) Q E s:=by
 rcases g with⟨kvs,k,e,ey,l,eH⟩|⟨kvs,k,b,e,ey,eb,l,eH⟩
 ·subst ey eH
  obtain⟨z,hd,vs,rel,dd⟩:=aQp I.hok e;have hz:vs.length<=sizeLine:=by rw[<- rel.length];exact z
  have hl:(putK kvs k v).length<=sizeLine:=by have:=dF kvs k v;lia
  refine wpAny_setItem_pairs (hsz:=hz) (aAd ry) dd λh' dd' hs=>h _ ?_
  have he:∃q,h'.get? a=some q:=let⟨q,_,_,hq,_⟩:=dd';⟨q,hq⟩
  exact mE I (by rw[e];exact True.intro) hs he (aMa hl hd (rel.put k rv) dd')
 ·subst ey eH
  cases(show u=Value.ref b from ry);obtain⟨z,hd,xs,rel,dd⟩:=aLk I.hok e;have hz:xs.length<=sizeLine:=by rw[<- Paired.length rel];exact z
  have hl:(putK kvs k v).length<=sizeLine:=by have:=dF kvs k v;lia
  refine wpAny_setItem_heap (hsz:=hz) (aHJ hu) (gW I.hok eb) dd λh' dd' hs=>h _ ?_
  obtain⟨q,es,ep,hq,h2,h3,h4,_,h5⟩:=dd';refine mE I (by rw[e];exact True.intro) hs ⟨q,hq⟩ ⟨hl,hd,_,(rel.put k eb rv).keeps λc ys ec=>?_,q,es,ep,hq,h2,h3,h4,h5⟩;rw[aI (aGq ec e (λz=>nomatch z))];exact ec
section
variable{k:Key}
end
def NoSl(i:Expr):Prop:=∀ov iv,subscripted i false ov iv=operate [ov,iv] (getItem ov iv)
def aIn{slice:Expr}{T id:String}
  (hl:typeLookup (.type T) "__getitem__"=pure (some (.builtin id)))(hs:NoSl slice)
  (h:wpAny (model prog w) A (eval value env) (λo s₁=>wpAny (model prog w) A (eval slice env) (λi s₂=>s₂.TypeIs o T/\wpAny (model prog w) A (getItem o i) Q E s₂) E s₁) E s) :
  wpAny (model prog w) A (eval (.Subscript value slice pos) env) Q E s:=by
 refine Subscript_ (aCU h (λo s₁ h₁=>aCU h₁ (λi s₂ h₂=>?_) λ_ _ x=>x) λ_ _ x=>x);obtain⟨hT,h₂⟩:=h₂;unfold subscriptTail;refine aAA ?_;rw[getitemInPython_of_ne hT.not_modules];refine aAA (aFX hT hl ?_);have fin:wpAny (model prog w) A (subscripted slice false o i) (λr s₃=>wpAny (model prog w) A (letTemporaryGo value o r >>= λ_=>pure r) Q E s₃) E s₂:=by
  rw[hs o i];exact wpAny_operating (aCU h₂ (λr s₃ h₃=>aAA (wpAny_letTemporaryGo (aAC h₃))) λ_ _ x=>x)
 first
  |exact aAC (aAA fin)
  |exact aAA (aAC (aAA fin))
  |exact aAA fin
def vZ(I:Inv X pins σ H s)(g:DGet H a y o):s.TypeIs (.ref a) "dict":=by
 rcases g with⟨kvs,k,e,_,_⟩|⟨kvs,k,b,e,_,_,_⟩
 ·obtain⟨_,_,vs,_,dd⟩:=tX I.hok e
  exact dd.typeIs
 ·obtain⟨_,_,xs,_,dd⟩:=tT I.hok e
  exact dd.typeIs
def tDGet(td ty:TE):TE:=λσ H Q=>td σ H λx H1=>ty σ H1 λy H2=>∃a v,x=.ref a/\DGet H2 a y (some v)/\Q v H2
def sDPut(td ty tv:TE):TS:=λD σ H=>tv σ H λv H1=>td σ H1 λx H2=>ty σ H2 λy H3=>∃a H4,x=.ref a/\DPut H3 a y v H4/\D.nx σ H4
variable{o i:Expr}{td ty:TE}
def aKq(hu:X.A.units+1 < cLine)(ho:PE X o td)(hi:PE X i ty)(hs:NoSl i):PE X (.Subscript o i pos) (tDGet td ty):=by
 intro pins s σ H Q I h;refine aIn PySem.F.slot_dict_getitem.lookup hs (thn (ho pins s σ H _ I h) λu s1 ⟨x,H1,I1,rx,q1⟩=>thn (hi pins s1 σ H1 _ I1 q1) λiv s2 ⟨y,H2,I2,ry,a,v,ex,g,q2⟩=>?_);subst ex;obtain rfl:u=Value.ref a:=rx;exact⟨vZ I2 g,aCf hu I2 g ry λw' s3 I3 rw'=>⟨v,H2,I3,rw',q2⟩⟩
def aJb(hu:X.A.units+1 < cLine)(ho:PE X o td)(hi:PE X i ty)(hv:PE X value tv)(hs:swapsWith value (some (.Subscript o i pos')) pos.line X.env=pure false) :
  PS X (.Assign [.Subscript o i pos'] value pos) (sDPut td ty tv):=by
 intro pins s σ H D I h;refine wpAny_Assign_Subscript (thn (hv pins s σ H _ I h) λr s1 ⟨v,H1,I1,rv,q1⟩=>thn (ho pins s1 σ H1 _ I1 q1) λu s2 ⟨x,H2,I2,rx,q2⟩=>thn (hi pins s2 σ H2 _ I2 q2) λiv s3 ⟨y,H3,I3,ry,a,H4,ex,g,q3⟩=>?_) hs;subst ex;obtain rfl:u=Value.ref a:=rx;exact aBw hu I3 g ry rv λs4 I4=>⟨σ,H4,I4,q3⟩
structure M1(X:Cx)(o:Expr)(m:Str)(apos:Pos)(e:Expr)(cpos:Pos):Prop where
 base:attributeBase o m X.env (eval o X.env)=eval o X.env
 few:((backTo cpos (starEach [e] X.env)).all (λx=>!x.1)&&(backToKw cpos (keywordEach [] X.env)).all (λx=>x.1.isSome)
  && decide (([e]:List Expr).length+([]:List Keyword).length+(if([]:List Keyword).isEmpty then 0 else 1) < 30))=true
 line:(apos.endLine==cpos.line)=true
 trees:backTo cpos (starEach [e] X.env)=[(false,eval e X.env)]
structure M2(X:Cx)(o:Expr)(m:Str)(apos:Pos)(e f:Expr)(cpos:Pos):Prop where
 base:attributeBase o m X.env (eval o X.env)=eval o X.env
 few:((backTo cpos (starEach [e,f] X.env)).all (λx=>!x.1)&&(backToKw cpos (keywordEach [] X.env)).all (λx=>x.1.isSome)
  && decide (([e,f]:List Expr).length+([]:List Keyword).length+(if([]:List Keyword).isEmpty then 0 else 1) < 30))=true
 line:(apos.endLine==cpos.line)=true
 trees:backTo cpos (starEach [e,f] X.env)=[(false,eval e X.env),(false,eval f X.env)]
def IsD(H:Hp)(a:Addr):Prop:=(∃kvs,Rd H a (.dK kvs))\/∃kvs,Rd H a (.dT kvs)
def aHg(I:Inv X pins σ H s)(d:IsD H a) :
  s.TypeIs (.ref a) "dict"/\(∀b,Value.ref a=.ref b->∃ob,s.heap.get? b=some ob/\ob.dict=none)/\(a==sysModules)=false:=by
 rcases d with⟨kvs,e⟩|⟨kvs,e⟩
 ·obtain⟨_,hd,vs,_,dd⟩:=tX I.hok e
  refine⟨dd.typeIs,λb q=>?_,hd⟩;cases q;obtain⟨ob,_,_,h1,h2,_⟩:=dd;exact⟨ob,h1,h2.2.1⟩
 ·obtain⟨_,hd,xs,_,dd⟩:=tT I.hok e
  refine⟨dd.typeIs,λb q=>?_,hd⟩;cases q;obtain⟨ob,_,_,h1,h2,_⟩:=dd;exact⟨ob,h1,h2.2.1⟩
variable{d:V}{o:Option V}
def aMe(hu:A.units+1 < cLine)(I:Inv X pins σ H s)(g:DGet H a y o)(ry:RelV y u)(rd:RelV d r)(h:∀w' s',Inv X pins σ H s'->RelV (o.getD d) w'->Q w' s') :
  wpAny (model X.prog X.w) A (call (.builtin "dict.get") [.ref a,u,r]) Q E s:=by
 rcases g with⟨kvs,k,e,ey,l⟩|⟨kvs,k,b,e,ey,eb,l⟩
 ·subst ey
  obtain⟨z,hd,vs,rel,dd⟩:=tX I.hok e;refine call_meetsIn aII dd.typeIs PySem.F.entry_dict_get (PySem.F.args_dict_get_3 _ _ _) (meets_dict_get_default (mixKind X.prog X.w) a (aAd ry) hd r) ⟨_,dd.mapOf,h _ _ (I.tok _) ?_⟩;rw[l];exact(rel.val k).getD rd
 ·subst ey
  cases(show u=Value.ref b from ry);obtain⟨z,hd,xs,rel,dd⟩:=tT I.hok e;refine call_meetsIn aII dd.typeIs PySem.F.entry_dict_get (PySem.F.args_dict_get_3 _ _ _) (meetsH_dict_get_default (tupleKind (mixKind X.prog X.w)) a b hd r) ⟨aHJ hu,k,xs,gW I.hok eb,dd,h _ _ (I.tok _) ?_⟩;rw[l];exact(rel.val k).getD rd
def tDGet2(td ty tx:TE):TE:=λσ H Q=>td σ H λx H1=>∃a,x=.ref a/\IsD H1 a/\ty σ H1 λy H2=>tx σ H2 λz H3=>∃o,DGet H3 a y o/\Q (o.getD z) H3
variable{o f:Expr}{tx:TE}
def aGk(hu:X.A.units+1 < cLine)(ho:PE X o td)(he:PE X e ty)(hf:PE X f tx)(m:M2 X o "get" apos e f cpos):PE X (.Call (.Attribute o "get" apos) [e,f] [] cpos) (tDGet2 td ty tx):=by
 intro pins s σ H Q I h;refine wpAny_Call_method m.base m.few m.line PySem.F.plainAttrs_dict aII PySem.F.type_dict_get (thn (ho pins s σ H _ I h) λu s1 ⟨x,H1,I1,rx,a,ex,d,q1⟩=>?_);subst ex;obtain rfl:u=Value.ref a:=rx;obtain⟨t1,t2,_⟩:=aHg I1 d;refine⟨t1,t2,?_⟩;rw[m.trees];refine aGE rfl (Calls.evalArgs_plain (aHL (thn (he pins s1 σ H1 _ I1 q1) λiv s2 ⟨y,H2,I2,ry,q2⟩ =>
  aHL (thn (hf pins s2 σ H2 _ I2 q2) λfv s3 ⟨z,H3,I3,rz,ov,g,q3⟩=>aJY ?_))))
 exact aMe hu I3 g ry rz λw' s4 I4 rw'=>⟨_,H3,I4,rw',q3⟩
end L2
end
namespace Att
open PySem PySem.W PySem.Calls PyProof.Rows
variable{prog:Program}{E:Value->Shared->Prop}{K:Frag}
end Att
section
open PySem PySem.Spec PyProof.Rows
namespace L2
variable{K:Frag}
section
variable{κ:Type}[DecidableEq κ]
end
end L2
set_option maxHeartbeats 4000000
namespace EV
open L2
noncomputable def keyOf:D->Option Key
 |.int i=>some (.inl i)|.str x=>some (.inr x)|_=>none
def keysOf:List D->Option (List Key)
 |[]=>some []|d::r=>match keyOf d,keysOf r with
  |some k,some ks=>some (k::ks)|_,_=>none
def keyT:W->Option (List Key)
 |.d (.tup xs)=>keysOf xs|_=>none
def asK:D->Option (List Key×D)
 |.tup [.tup ks,x]=>(keysOf ks).map λk=>(k,x)
 |_=>none
def kget(k:List Key):List D->Option D
 |[]=>none|d::r=>match asK d with
  |some (g,x)=>if g=k then some x else kget k r
  |none=>kget k r
def kent(k:List Key)(x:D):D:=.tup [.tup (k.map kyD),x]
def kput(k:List Key)(y:D)(ds:List D):List D:=if(kget k ds).isSome then ds.map (λd=>match asK d with
  |some (g,x)=>if g=k then kent k y else d
  |none=>d)else ds++[kent k y]
def eB:∀k:List Key,keysOf (k.map kyD)=some k
 |[]=>rfl|.inl i::r=>by simp only[aAK,kyD,keysOf,keyOf,eB r]|.inr i::r=>by simp only[aAK,kyD,keysOf,keyOf,eB r]
def nK(k:List Key)(x:D):asK (.tup [.tup (k.map kyD),x])=some (k,x):=by simp only[asK,eB,aEO]
variable{K:Frag}{k:List Key}
def mK:∀{xs:List D} {vs:List V} {k:List Key},Rps K μ H xs vs->keysOf xs=some k->vs=k.map kV
 |[],vs,k,r,h=>by simp only[Rps]at r;simp only[keysOf,aAS]at h;subst r;subst h;rfl
 |d::xs,vs,k,r,h=>by
  simp only[Rps]at r;obtain⟨v,r',rfl,e2,e3⟩:=r;simp only[keysOf]at h;cases q1:keyOf d with
  |none=>rw[q1]at h;cases h
  |some k1 =>
   cases q2:keysOf xs with
   |none=>rw[q1,q2]at h;cases h
   |some ks =>
    rw[q1,q2]at h;cases h;rw[mK e3 q2];cases d <;> simp only[keyOf,reduceCtorEq,aAS]at q1
    ·subst q1;simp only[Rp]at e2;subst e2;rfl
    ·subst q1;simp only[Rp]at e2;subst e2;rfl
def lT:∀{ds:List D} {kvs:List (List Key×V)},Krs K μ H ds kvs->(∀x,kget k ds=some x->∃v,valV kvs k=some v/\Rp K μ H x v)/\(kget k ds=none->valV kvs k=none)
 |[],kvs,h=>by cases h;exact⟨λx q=>(nomatch q),λ_=>rfl⟩
 |_::ds,_,⟨g,x,v,r,e1,e2,e3,e4⟩=>by
  subst e1 e2;obtain⟨h1,h2⟩:=lT e4;simp only[kget,nK];unfold valV at h1 h2 ⊢;rw[aFF];by_cases q:g=k
  ·subst q
   simp only[aBM,aFO];exact⟨λy hy=>by cases hy;exact⟨v,rfl,e3⟩,λhy=>(nomatch hy)⟩
  ·simp only[aAH q,aCA q]
   exact⟨h1,h2⟩
def aHf(h:Krs K μ H ds kvs):(kget k ds).isSome=(valV kvs k).isSome:=by
 obtain⟨h1,h2⟩:=lT (k:=k) h;cases q:kget k ds with
 |none=>rw[h2 q];rfl|some x=>obtain⟨v,e,_⟩:=h1 x q;rw[e];rfl
def mC:∀{ds:List D} {kvs:List (List Key×V)},Krs K μ H ds kvs->ds.length=kvs.length
 |[],_,h=>by cases h;rfl
 |_::_,_,⟨g,x,v,r,e1,e2,e3,e4⟩=>by subst e2;simp[mC e4]
def aAw:∀{ds es:List D} {kvs ls:List (List Key×V)},Krs K μ H ds kvs->Krs K μ H es ls->Krs K μ H (ds++es) (kvs++ls)
 |[],_,_,_,h,t=>by cases h;exact t
 |_::_,_,_,_,⟨g,x,v,r,e1,e2,e3,e4⟩,t=>by subst e1 e2;exact⟨g,x,v,_,rfl,rfl,e3,aAw e4 t⟩
def sM{y:D}{u:V}(hy:Rp K μ H y u):∀{ds:List D} {kvs:List (List Key×V)},Krs K μ H ds kvs->Krs K μ H (ds.map (λd=>match asK d with
  |some (g,x)=>if g=k then kent k y else d
  |none=>d)) (kvs.map λkv=>if kv.1=k then(kv.1,u)else kv)
 |[],_,h=>by cases h;rfl
 |_::_,_,⟨g,x,v,r,e1,e2,e3,e4⟩=>by
  subst e1 e2;simp only[aAK,nK];by_cases q:g=k
  ·simp only[aAG q]
   exact⟨k,y,u,_,rfl,by rw[q],hy,sM hy e4⟩
  ·simp only[aAH q]
   exact⟨g,x,v,_,rfl,rfl,e3,sM hy e4⟩
def aAf{y:D}{u:V}(hy:Rp K μ H y u)(h:Krs K μ H ds kvs):Krs K μ H (kput k y ds) (putK kvs k u):=by
 have e:(kvs.any λkv=>decide (kv.1=k))=(kget k ds).isSome:=by rw[aHf h,fE]
 unfold kput putK;rw[e];by_cases q:(kget k ds).isSome=true
 ·rw[aAG q,aAG q];exact sM hy h
 ·rw[aAH q,aAH q];exact aAw h ⟨k,y,u,[],rfl,rfl,hy,rfl⟩
def ents:List D->List D
 |.bl true::es=>es|ds=>ds
def frzB:List D->Bool
 |.bl true::_=>true|_=>false
def aEc(h:Krs K μ H ds kvs):ents ds=ds/\frzB ds=false:=by
 cases ds with
 |nil=>exact⟨rfl,rfl⟩|cons d r=>obtain⟨g,x,v,q,rfl,_⟩:=h;exact⟨rfl,rfl⟩
def pZ:kget k (ents ds)=kget k ds:=by
 unfold ents;split
 ·rfl
 ·rfl
def eD(hnd:nsIn K mainGlobals "dict"=some none)(hr:HR K μ H M)(r:Rw K μ H (.ob "dict" i) v)(h:M[i]?=some ds):∃a kvs,μ[i]?=some a/\v=.ref a/\Rd H a (.dT kvs)/\Krs K μ H (ents ds) kvs/\(frzB ds=false->H a=some (.dT kvs)/\ents ds=ds):=by
 obtain⟨a,qa,rfl,io⟩:=r;rcases io with⟨C',dx,fs,h1,h2⟩|⟨_,kvs,h1⟩|⟨h1,_⟩
 ·rw[hnd]at h2;cases h2
 ·obtain⟨a',o,q1,q2,q3⟩:=hr.atO h
  rw[qa]at q1;cases q1;rcases h1 with h1|⟨ob,h1⟩
  ·rw[h1]at q2;cases q2
   have q3:Krs K μ H ds kvs:=q3;have e:=aEc q3;exact⟨a,kvs,qa,rfl,.inl h1,e.1.symm▸q3,λ_=>⟨h1,e.1⟩⟩
  ·rw[h1]at q2;cases q2
   obtain⟨es,rfl,q3⟩:=q3;exact⟨a,kvs,qa,rfl,.inr ⟨ob,h1⟩,q3,λz=>nomatch z⟩
 ·cases h1
def SameK.dT{xs ys:List (List Key×V)}:SameK (.dT xs) (.dT ys):=⟨λ_ h=>(nomatch h),λ_ _ _ h=>(nomatch h),λ_ _=>⟨ys,.inl rfl⟩,λ_ h=>(nomatch h),λ_ _ h=>(nomatch h)⟩
def rZ{w:W}(r:Rw K μ H w v)(h:keyT w=some k):∃b,v=.ref b/\H b=some (.tup (k.map kV)):=by
 cases w with
 |d x=>cases x with
  |tup xs =>
   simp only[Rw,Rp]at r;obtain⟨b,vs,rfl,h1,r1⟩:=r;rw[mK r1 h]at h1;exact⟨b,rfl,h1⟩
  |_=>cases h
 |_=>cases h
section
variable{K:Frag}{e a b o i:Expr}{fv:FE}
def pDGet(x y:W)(M:Mm):Oc W:=match x,keyT y with
 |.ob c j,some k=>if c="dict"then(match M[j]? with
  |some ds=>match kget k ds with
   |some z=>.ok (.d z) M|none=>.bad
  |none=>.bad)else .bad
 |_,_=>.bad
def mF(hnd:nsIn K mainGlobals "dict"=some none)(hu:X.A.units+101 < cLine)(ho:Ev X K Z o fo)(hi:Ev X K Z i fi)(hs:NoSl i:=by intro _ _;rfl):Ev X K Z (.Subscript o i pos) (e2 pDGet fo fi):=by
 refine⟨ho.k,cqE (aKq (by lia) ho.h hi.h hs) ?_⟩;rintro σ H Q ⟨μ,M,L,hr,lr,p⟩;refine⟨μ,M,L,hr,lr,p.bind.imp λμ1 H1 M1 x e1 hr1 _ p1 v rx=>?_⟩;refine⟨μ1,M1,L,hr1,lr.ext hr.lsts e1,p1.bind.imp λμ2 H2 M2 y e2 hr2 _ p2 u ry=>?_⟩;unfold pDGet at p2;cases x with
 |d _=>exact p2.elim|ref _=>exact p2.elim|nest _=>exact p2.elim|ob c j =>
  cases q1:keyT y with
  |none=>simp only[q1]at p2;exact p2.elim
  |some k =>
   simp only[q1]at p2;split at p2
   ·rename_i hc;subst hc
    cases q2:M2[j]? with
    |none=>rw[q2]at p2;exact p2.elim
    |some ds =>
     rw[q2]at p2;dsimp only at p2;cases q3:kget k ds with
     |none=>rw[q3]at p2;exact p2.elim
     |some z =>
      rw[q3]at p2;obtain⟨a0,kvs,qa,rfl,h1,r1,_⟩:=eD hnd hr2 (rx.ext hr1.lsts e2) q2;obtain⟨b0,rfl,h2⟩:=rZ ry q1;obtain⟨v0,e3,rv⟩:=(lT r1).1 z (pZ.trans q3);exact⟨a0,v0,rfl,.inr ⟨kvs,k,b0,h1,rfl,h2,e3.symm⟩,p2 μ2 H2 .refl hr2 _ rv⟩
   ·exact p2.elim
def sDPutE(fo fi fv:FE):FS:=λL M=>(fv L M).bind λv M1=>(fo L M1).bind λx M2=>(fi L M2).bind λy M3=>match x,keyT y,v with
 |.ob c j,some k,.d z=>if c="dict"then(match M3[j]? with
  |some ds=>if ds.length < 16777216/\frzB ds=false then .ok (.nx L) (M3.set j (kput k z ds))else .bad
  |none=>.bad)else .bad
 |_,_,_=>.bad
def zG(hnd:nsIn K mainGlobals "dict"=some none)(hu:X.A.units+101 < cLine)(ho:Ev X K Z o fo)(hi:Ev X K Z i fi)(hv:Ev X K Z e fv)(hs:swapsWith e (some (.Subscript o i pos')) pos.line X.env=pure false:=by rfl):Es X K Z (.Assign [.Subscript o i pos'] e pos) (sDPutE fo fi fv):=by
 refine⟨ho.k,cqS (aJb (by lia) ho.h hi.h hv.h hs) ?_⟩;rintro E σ H ⟨μ,M,L,hr,lr,p⟩;refine⟨μ,M,L,hr,lr,p.bind.imp λμ1 H1 M1 w e1 hr1 _ p1 v rv=>?_⟩;refine⟨μ1,M1,L,hr1,lr.ext hr.lsts e1,p1.bind.imp λμ2 H2 M2 x e2 hr2 _ p2 vx rx=>?_⟩;refine⟨μ2,M2,L,hr2,lr.ext hr.lsts (e1.trans e2),p2.bind.imp λμ3 H3 M3 y e3 hr3 _ p3 vy ry=>?_⟩;cases x with
 |d _=>exact p3.elim|ref _=>exact p3.elim|nest _=>exact p3.elim|ob c j =>
  cases q1:keyT y with
  |none=>simp only[q1]at p3;exact p3.elim
  |some k =>
   cases w with
   |ref _=>simp only[q1]at p3;exact p3.elim
   |nest _=>simp only[q1]at p3;exact p3.elim
   |ob _ _=>simp only[q1]at p3;exact p3.elim
   |d z =>
    simp only[q1]at p3;split at p3
    ·rename_i hc;subst hc
     cases q2:M3[j]? with
     |none=>rw[q2]at p3;exact p3.elim
     |some ds =>
      rw[q2]at p3;dsimp only at p3;split at p3
      ·rename_i hz
       obtain⟨hz,hf⟩:=hz;obtain⟨a0,kvs,qa,rfl,_,r1,h1⟩:=eD hnd hr3 (rx.ext hr2.lsts e3) q2;obtain⟨h1,e0⟩:=h1 hf;rw[e0]at r1;obtain⟨b0,rfl,h2⟩:=rZ ry q1;have rz:=Rw.ext hr2.lsts e3 (Rw.ext hr1.lsts e2 rv);have x:=fB (H:=H3) (o:=.dT (putK kvs k v)) qa h1 .dT;refine⟨a0,_,rfl,DPut.t h1 h2 (by rw[<- mC r1,aBE];exact hz),?_⟩;exact p3 μ3 _ x (hr3.setO qa h1 .dT (o:=.dT (putK kvs k v)) (aAf rz r1)) σ ((lr.ext hr.lsts (e1.trans (e2.trans e3))).ext hr3.lsts x)
      ·exact p3.elim
    ·exact p3.elim
end
def fnRO(c:Str)(m n:Nat)(F:FS):Fn:=λws M=>if ws.length=m then(F (ws.map some++List.replicate (n - ws.length) none) M).bind λo M'=>match o with
  |.rt (.ob c' i)=>if c'=c/\M.length<=i then(match M'[i]? with
   |some ds=>.ok (.ob c M.length) (M'.take M.length++[ds])|none=>.bad)else .bad
  |_=>.bad
 else .bad
variable{K:Frag}{c:Str}
def aIc{st:Stmt}{fa:Addr}{k:Nat}(hf:Fun K x qual st fa fd)(S:FnScope N ps (defScope st))
  (hb:∀(cdv:Value) (A:Around) (outer:List Env) (s:Shared) (H:Hp) (E:XK),Room k (A.deeper (envOfC qual (defScope st) s.heap.objs.size fa cdv))->Ess (cxOf CX0 P w K mg base N qual (defScope st) fa cdv A outer s H E).nox K Z0 (defBody st) F) :
  FnOk P w K mg base CX0 (k+1) fa fd ps (spF K Z0 ps.length (fnRO c ps.length N.length F)):=by
 refine hf.ok S (λvs H Q E h=>h.1) λcdv A outer s H vs Q E hr hsp=>⟨_,(hb cdv A outer s H E hr).h,?_⟩
 obtain⟨hv,μ,M,ws,hr,rx,p⟩:=hsp;refine⟨μ,M,_,hr,jH rx,?_⟩;unfold fnRO at p;rw[aAG (by rw[rx.length];exact hv)]at p;cases q:F (ws.map some++List.replicate (N.length - ws.length) none) M with
 |bad=>rw[q]at p;exact p
 |ex z M'=>rw[q]at p;exact p
 |ok o M' =>
  rw[q]at p;simp only[bI]at p;intro μ1 H1 e1 hr1;have hb:=hr1.back e1;rw[hr.len]at hb;cases o with
  |nx L'=>exact p.elim|bk L'=>exact p.elim|ct L'=>exact p.elim|rt w =>
   intro v rv;cases w with
   |d x=>exact p.elim|ref _=>exact p.elim|nest _=>exact p.elim|ob c' i =>
    simp only at p;split at p
    ·rename_i hi
     obtain⟨hc,hi⟩:=hi;subst hc;cases q2:M'[i]? with
     |none=>simp only[q2]at p;exact p.elim
     |some ds =>
      simp only[q2]at p;obtain⟨a,qa,rfl,il⟩:=rv;obtain⟨a',vs',qa',h1,r1⟩:=hr1.atO q2;rw[qa]at qa';cases qa';have z:=wF hr e1 hr1 hi q2 qa h1 r1;exact p (μ++[a]) H1 z.1 z.2 _ ⟨a,by rw[<- hr.len];simp,rfl,il⟩
    ·exact p.elim
variable{K:Frag}{o i:Expr}
section
variable{Q:W->Mm->Prop}{fv:FE}
def lZ{y:W}{z:D}(hk:keyT y=some k)(h:M[j]?=some ds)(e:kget k ds=some z)(q:Q (.d z) M):Okx EX (pDGet (.ob "dict" j) y M) Q:=by
 unfold pDGet;simp only[hk,aBM,h,e];exact aH q
def aJu(h:Okx EX (fv L M) λv M1=>Okx EX (fo L M1) λx M2=>Okx EX (fi L M2) λy M3=>∃j k z ds,x=.ob "dict" j/\keyT y=some k/\v=.d z/\M3[j]?=some ds/\(ds.length < 16777216/\frzB ds=false)/\QS (.nx L) (M3.set j (kput k z ds))):Okx EX (sDPutE fo fi fv L M) QS :=
 aG (h.mono λv M1 z=>aG (z.mono λx M2 z=>aG (z.mono λy M3 ⟨j,k,z,ds,e1,e2,e3,e4,e5,q⟩=>by subst e1 e3;simp only[e2,aBM,e4];rw[aAG e5];exact aH q)))
def aJi{m:Nat}{ws:List W}(hm:ws.length=m)(h:Okx EX (F (ws.map some++List.replicate (n - ws.length) none) M) λo M'=>∃i ds,o=.rt (.ob c i)/\M.length<=i/\M'[i]?=some ds/\Q (.ob c M.length) (M'.take M.length++[ds])):Okx EX (fnRO c m n F ws M) Q:=by
 unfold fnRO;rw[aAG hm];refine aG (h.mono λo M' ⟨i,ds,e,hi,e2,q⟩=>?_);subst e;simp only[true_and,aAG hi,e2];exact aH q
end
end EV
namespace L2
abbrev TJ:=Str->St->Hp->(Str->Hp->Prop)->Prop
def PJ(X:Cx)(es:List Expr)(t:TJ):Prop :=
 ∀(pins:List (Addr×Obj)) (s:Shared) (σ:St) (H:Hp) (acc:Str) (Q:Str->Hp->Prop),Inv X pins σ H s->t acc σ H Q ->
  wpAny (model X.prog X.w) X.A (joinParts acc (evalEach es X.env)) (EP X pins σ λv H'=>∃out,v=.str out/\Q out H') X.xe s
section
variable{e:Expr}{es:List Expr}{t:TJ}
end
end L2
namespace EV
open L2
section
variable{K:Frag}{e o:Expr}{es:List Expr}
abbrev FJ:=Str->Lc->Mm->Oc Str
def liftJ(K:Frag)(Z:Zt)(f:FJ):TJ:=λacc σ H Q=>∃μ M L,HR K μ H M/\LR K μ H L σ/\Pst K Z μ H (f acc L M) λμ' H' _ out=>Q out H'
structure Ej(X:Cx)(K:Frag)(Z:Zt)(es:List Expr)(f:FJ):Prop where
 k:X.K=K
 h:PJ X es (liftJ K Z f)
variable{g:FJ}
end
end EV
namespace L2
abbrev Tbl:=List (Str×Str)
variable{σ:St}{d:Addr}{tb:Tbl}{i:Expr}{ti:TE}
end L2
namespace EV
open L2
variable{K:Frag}{i:Expr}{d:Addr}{tb:Tbl}
end EV
namespace L2
variable{prog:Program}{E:Value->Shared->Prop}{e st:Expr}{ts:TO}
end L2
namespace EV
open L2
variable{K:Frag}{e st:Expr}{fs:FO}
abbrev T(l:List Nat):Str:=⟨l.toArray⟩
variable{K:Frag}
section
variable{Q:W->Mm->Prop}{QJ:Str->Mm->Prop}{g:FE}{fl fh:FO}{j:FJ}
end
end EV
namespace LS
open L2 EV
open PySem.NumText
noncomputable def isF(c:Nat):Bool:=decide (48<=c/\c<=57)
noncomputable def dig(n:Nat):List Nat:=(Nat.toDigits 10 n).map Char.toNat
def num?(most:Nat)(ds:List Nat):Option Nat:=if ds=[]\/most < ds.length\/¬ds.all isF\/(ds.head?=some 48/\1 < ds.length)then none else some (digitsVal ds)
noncomputable def sg:Wd->List Nat
 |.sum=>[32,43,32]|.less=>[32,45,32]|.times=>[32,42,32]
noncomputable def wd?(s:List Nat):Option Wd:=if s=[32,43,32]then some .sum else if s=[32,45,32]then some .less else if s=[32,42,32]then some .times else none
def rdG(s:List Nat):Option (E×List Nat):=match num? 1 (s.takeWhile isF)with
 |some n=>if n<=7 then some (.giv n,s.dropWhile isF)else none
 |none=>none
def rdN(s:List Nat):Option (E×List Nat):=match num? 6 (s.takeWhile isF)with
 |some n=>some (.num n,s.dropWhile isF)|none=>none
def rdP(r:List Nat->Option (E×List Nat))(s:List Nat):Option (E×List Nat):=match r s with
 |some (a,s1)=>match wd? (s1.take 3)with
  |some w=>match r (s1.drop 3)with
   |some (b,s2)=>if s2.take 1=[41]then some (.op w a b,s2.drop 1)else none
   |none=>none
  |none=>none
 |none=>none
def rd:Nat->List Nat->Option (E×List Nat)
 |k,s=>if s.take 1=[40]then(match k with
   |0=>none|k+1=>rdP (rd k) (s.drop 1))
  else if s.take 1=[120]then rdG (s.drop 1)else rdN s
def calm(s:List Nat):Prop:=∀c,s.head?=some c->isF c=false
end LS
end
namespace LS
open PySem L2 EV
end LS
section
open PySem PySem.Spec PyProof.Rows
namespace L2
variable{tg l:Expr}{tl:TE}
end L2
namespace EV
open L2
variable{K:Frag}{e tg:Expr}{K:Frag}
end EV
namespace LS
open L2 EV
open PySem.NumText
end LS
namespace L2
end L2
namespace EV
open L2
variable{K:Frag}
end EV
namespace LS
open L2 EV
def bal(s:List Nat):Int:=(s.count 40:Int) - (s.count 41:Int)
def Bd(k:Int)(s:List Nat):Prop:=∀n,bal (s.take n)<=k
def Bd.none{s:List Nat}(h:Bd 0 s):¬s.take 1=[40]:=λe=>by have:=h 1;rw[e]at this;exact absurd this (by decide)
end LS
namespace L2
def two(a:Nat)(xs:List α):List α:=(List.range ((xs.length+1 - a) / 2)).filterMap λk=>xs[a+2*k]?
section
variable{e lo st:Expr}{tl ts:TO}
end
end L2
namespace EV
open L2
section
variable{K:Frag}{e o lo st:Expr}{fl fs:FO}{Q:W->Mm->Prop}
end
end EV
set_option maxHeartbeats 1000000
namespace L2
open AutoSeq1 (wpAny_loadPart')
variable{prog:Program}{E:Value->Shared->Prop}
end L2
namespace EV
open L2
section
variable{K:Frag}{a b:Expr}{g:FE}{EX:D->Mm->Prop}
end
end EV
set_option maxHeartbeats 4000000
namespace LS
open L2 EV
open PySem.NumText
noncomputable def joinL(c:Nat):List (List Nat)->List Nat
 |[]=>[]|[w]=>w|w::r=>w++c::joinL c r
noncomputable def nb(c:Nat)(w:List Nat):Option Nat:=if w.head?=some c then num? 7 (w.drop 1)else none
noncomputable def hx(w:List Nat):Bool:=decide (w.head?=some 120)
noncomputable def wRest:List Nat:=[114,101,115,116]
noncomputable def wGivens:List Nat:=[103,105,118,101,110,115]
noncomputable def wShelves:List Nat:=[115,104,101,108,118,101,115]
def xw(g:Nat):List Nat:=120::dig g
def sw(s:Nat):List Nat:=115::dig s
def dw:Dd->List (List Nat)
 |.add s c gs ts=>sw s::[43]::dig c.toNat::(gs.map xw++ts.map sw)|.scale s u=>[sw s,[42],dig u.toNat]
def hw(n g s:Nat):List (List Nat):=[wRest,dig n,wGivens,dig g,wShelves,dig s]
def row(d:Dd):List Nat:=joinL 32 (dw d)
def headR(n g s:Nat):List Nat:=joinL 32 (hw n g s)
def prog(n g s:Nat)(ds:List Dd):List Nat:=joinL 10 (headR n g s::ds.map row)
end LS
namespace L2
end L2
namespace EV
open L2
variable{K:Frag}{o e:Expr}{Q:W->Mm->Prop}
end EV
namespace L2
end L2
namespace EV
open L2
variable{K:Frag}{o e:Expr}{Q:W->Mm->Prop}
end EV
namespace L2
def aDj:typeLookup (.type "list") "keys"=pure none:=am_miss_of_fast (by decide +kernel)
variable{prog:Program}{E:Value->Shared->Prop}{a:Addr}{o:Obj}
theorem oD{k:Nat}{u:Tok}
  (hx:s.heap.get? a=some o)(hc:o.cls=.type "list")(hdat:o.data=.seq xs k)(hd:o.dict=none)(hA:A.handled=none)
  (h:∀h' tk e,Heap.NewExcOf s.heap h' e "AttributeError"->E (.ref e) {s with heap:=h',toks:=tk}) :
  wpAny (model prog w) A (getAttrBy (.ref a) (.str "keys" u) false) Q E s:=by
 obtain⟨c,dct,dat,sl⟩:=o;simp only at hc hdat hd;subst hc hdat hd;obtain⟨hp,g,d,tk,os⟩:=s;have hT:∀tk',(⟨hp,g,d,tk',os⟩:Shared).TypeIs (.ref a) "list":=λ_=>⟨_,hx,rfl⟩
 have f1:=aHI;have f3:=aHK.lookup;have f4:=aHK.bind (.ref a);have f5:=am_list_getattr_none;unfold getAttrBy;repeat(any_goals (first|assumption|exact hT _|((with_reducible show wpAny _ _ (call (Value.builtin "list.__getattribute__") _ _) _ _ _);refine aEP aHK (hT _) am_entry_list_getattribute (F.args_list_getattribute_2 _ _) (meets_getattribute_miss_list a xs k sl "keys" _ aDj (by decide +kernel)) ⟨hx,hA,λh' tk' e hx'=>?_⟩)|wp_step))
 obtain⟨t',u',he⟩:=hx'.there;show wpAny _ _ (getattributeRaised _ _ _ _ _ _ _) _ _ _;unfold getattributeRaised;repeat(any_goals (first|assumption|wp_step))
 exact h _ _ _ hx'.of
def sR{k:Nat}{Q:Option Value->Shared->Prop}
  (hx:s.heap.get? a=some o)(hc:o.cls=.type "list")(hdat:o.data=.seq xs k)(hd:o.dict=none)(hA:A.handled=none)
  (h:∀h' tk,(∀b ob,s.heap.get? b=some ob->h'.get? b=some ob)->Q none {s with heap:=h',toks:=tk}) :
  wpAny (model prog w) A (getAttr? (.ref a) "keys") Q E s:=by
 obtain⟨hp,g,d,tk,os⟩:=s;unfold getAttr? getAttrBy?;refine aAA (wpAny_mkText ?_);refine aAA (aDL ?_);refine oD hx hc hdat hd hA λh' tk' e ne=>?_
 obtain⟨k1,k2,oe,vs,he,hce,_⟩:=ne;dsimp only;refine aAA (aDV (T:="AttributeError") ⟨oe,he,hce⟩ aHI ?_);rw[aAG rfl];exact aAC (h h' tk' k1)
def tU:entryFor table "dict.update.loop"=some Builtin.«dict.update.loop»:=entryFor_of_fast (by kernel_rfl)
def fT:plainId "dict.update.loop"=true:=by decide +kernel
section
variable{κ:Type}[DecidableEq κ]{knd:KeyKind prog w κ}
inductive PairsAt(knd:KeyKind prog w κ)(h:Heap):List Value->List (κ×Value)->Prop
 |nil:PairsAt knd h [] []
 |cons {b:Addr} {key v:Value} {k:κ} {xs:List Value} {kvs:List (κ×Value)} (hb:h.IsTuple b #[key,v]) (hk:knd.is k key=true) (r:PairsAt knd h xs kvs):PairsAt knd h (.ref b::xs) ((k,v)::kvs)
end
end L2
namespace EV
open L2
variable{EX:D->Mm->Prop}{K:Frag}{k:Key}{K:Frag}{e a o i:Expr}
def aCj:bootBuiltins "dict"=some (.type "dict"):=by first|rfl|kernel_rfl
variable{Q:W->Mm->Prop}
end EV
namespace EV
open L2
variable{K:Frag}{es:List Expr}{fs:FA}{Q:W->Mm->Prop}
end EV
end
namespace TS
open PySem PyProof.Rows
def gallop':Bool->Keyed->Array Keyed->Nat->Nat->Nat->StateT SortSt Sem (Option Nat):=sortPriv% PySem.Builtin.gallop
def mergeLo':Array Keyed->Array Keyed->StateT SortSt Sem (Array Keyed):=sortPriv% PySem.Builtin.mergeLo
def mergeHi':Array Keyed->Array Keyed->StateT SortSt Sem (Array Keyed):=sortPriv% PySem.Builtin.mergeHi
structure Ask(M:Model)(A:Around)(E:Value->Shared->Prop)(s:Shared)(κ:SortKind)(ky:Keyed->Int)(S:Keyed->Prop):Prop where
 lt:∀(st:SortSt) (x y:Keyed) (Q:Option Bool->SortSt->Prop),kindOf st=κ->S x->S y->Q (some (decide (ky x < ky y))) st->wpS M A E s (lt' x y) Q st
variable{M:Model}{E:Value->Shared->Prop}{st:SortSt}
theorem aT{Q:Keyed->SortSt->Prop}(h:i < arr.size)(q:Q arr[i] st):wpS M A E s (elem' arr i) Q st:=by
 rw[elem'_eq,getElem?_pos arr i h];exact aAN q
def bey(left:Bool)(key:Keyed)(arr:Array Keyed)(i:Nat):StateT SortSt Sem (Option Bool):=do
 let x <- elem' arr i
 if left then lt' x key else return(<- lt' key x).map (!·)
theorem aCv(left:Bool)(key:Keyed)(arr:Array Keyed)(base n hint:Nat):gallop' left key arr base n hint=(do
 let mut lastofs:=0
 let mut ofs:=1
 let mut lo:=0
 let mut hi:=0
 let some right <- bey left key arr (base+hint)|return none
 if right then
  let maxofs:=n - hint
  for _ in[0:n] do
   if ofs>=maxofs then break
   let some more <- bey left key arr (base+(hint+ofs))|return none
   if !more then break
   lastofs:=ofs
   ofs:=2*ofs+1
  lo:=hint+lastofs+1
  hi:=hint+min ofs maxofs
 else
  let maxofs:=hint+1
  for _ in[0:n] do
   if ofs>=maxofs then break
   let some found <- bey left key arr (base+(hint - ofs))|return none
   if found then break
   lastofs:=ofs
   ofs:=2*ofs+1
  lo:=hint+1 - min ofs maxofs
  hi:=hint - lastofs
 for _ in[0:n] do
  if lo>=hi then break
  let m:=lo+(hi - lo) / 2
  let some more <- bey left key arr (base+m)|return none
  if more then lo:=m+1 else hi:=m
 return some hi):=rfl
def by'(ky:Keyed->Int)(left:Bool)(key x:Keyed):Bool:=if left then decide (ky x < ky key)else !decide (ky key < ky x)
variable{left:Bool}{key:Keyed}
theorem aIf(W:Ask M A E s κ ky S){Q:Option Bool->SortSt->Prop}(hk:kindOf st=κ)(sk:S key)(h:i < arr.size)(sx:S arr[i])(q:Q (some (by' ky left key arr[i])) st) :
  wpS M A E s (bey left key arr i) Q st:=by
 unfold bey;refine aAJ (aT h ?_);cases left with
 |true=>exact W.lt st _ _ _ hk sx sk (by simpa[by']using q)|false=>exact aAJ (W.lt st _ _ _ hk sk sx (aAN (by simpa[by']using q)))
theorem cD(W:Ask M A E s κ ky S){arr:Array Keyed}{base hint:Nat}{Q:Option Nat->SortSt->Prop}(hk:kindOf st=κ)(sk:S key)(hh:hint < n)(hn:base+n<=arr.size)
  (sx:∀i (h:i < arr.size),base<=i->i < base+n->S arr[i])
  (so:∀i j (hi:i < arr.size) (hj:j < arr.size),base<=i->i<=j->j < base+n->ky arr[i]<=ky arr[j])
  (q:∀k,k<=n->(∀i (h:i < arr.size),base<=i->i < base+k->by' ky left key arr[i]=true)->(∀i (h:i < arr.size),base+k<=i->i < base+n->by' ky left key arr[i]=false)->Q (some k) st) :
  wpS M A E s (gallop' left key arr base n hint) Q st:=by
 obtain⟨P,hP⟩:∃P:Nat->Bool,∀i (h:base+i < arr.size),P i=by' ky left key arr[base+i]:=⟨λi=>if h:base+i < arr.size then by' ky left key arr[base+i]else false,λi h=>by simp[h]⟩
 have mono:∀i j,i<=j->j < n->P j=true->P i=true:=by
  intro i j hij hj h;have a1:=so (base+i) (base+j) (by lia) (by lia) (by lia) (by lia) (by lia);rw[hP _ (by lia)]at h ⊢;cases left <;> simp[by']at h ⊢ <;> lia
 have ask:∀i,i < n->∀Q:Option Bool->SortSt->Prop,Q (some (P i)) st->wpS M A E s (bey left key arr (base+i)) Q st:=λi hi Q q =>
  aIf W hk sk (by lia) (sx _ _ (by lia) (by lia)) (by rw[<- hP];exact q)
 have fin:∀k,k<=n->(∀i,i < k->P i=true)->(∀i,k<=i->i < n->P i=false)->Q (some k) st:=λk hk h1 h2=>by
  refine q k hk (λi h b1 b2=>?_) λi h b1 b2=>?_
  ·have:=h1 (i - base) (by lia)
   rw[hP _ (by lia)]at this;simpa[show base+(i - base)=i by lia]using this
  ·have:=h2 (i - base) (by lia) (by lia)
   rw[hP _ (by lia)]at this;simpa[show base+(i - base)=i by lia]using this
 clear q sx so hP;have last:∀lo hi,lo<=hi->hi<=n->(∀i,i < lo->P i=true)->(∀i,hi<=i->i < n->P i=false) ->
   wpS M A E s (do
    let mut lo:=lo
    let mut hi:=hi
    for _ in[0:n] do
     if lo>=hi then break
     let m:=lo+(hi - lo) / 2
     let some more <- bey left key arr (base+m)|return none
     if more then lo:=m+1 else hi:=m
    return some hi) Q st:=by
  intro lo hi h1 h2 h3 h4;refine aAJ (aDW (aCT (I:=λx c st'=>st'=st/\∃lo hi,c=(none,lo,hi)/\lo<=hi/\hi<=n/\hi - lo<=n - x/\(∀i,i < lo->P i=true)/\(∀i,hi<=i->i < n->P i=false))
   (Q:=λc st'=>st'=st/\∃k,c=(none,k,k)/\k<=n/\(∀i,i < k->P i=true)/\(∀i,k<=i->i < n->P i=false)) ?step ?fin ⟨rfl,lo,hi,rfl,h1,h2,by lia,h3,h4⟩) ?post)
  case fin =>
   rintro c st' ⟨rfl,lo,hi,rfl,a1,a2,a3,a4,a5⟩;have:lo=hi:=by lia
   subst this;exact⟨rfl,lo,rfl,a2,a4,a5⟩
  case post =>
   rintro c st' ⟨rfl,k,rfl,a2,a4,a5⟩;exact aAN (fin k a2 a4 a5)
  case step =>
   rintro x c st' _ hx ⟨rfl,lo,hi,rfl,a1,a2,a3,a4,a5⟩;dsimp only;by_cases hge:lo>=hi
   ·rw[aAG hge]
    have:lo=hi:=by lia
    subst this;exact aAN ⟨rfl,lo,rfl,a2,a4,a5⟩
   ·rw[aAH hge]
    refine aAJ (ask _ (by lia) _ ?_);dsimp only;cases hp:P (lo+(hi - lo) / 2)with
    |true =>
     simp only[aBM];exact aAN ⟨rfl,_,_,rfl,by lia,a2,by lia,λi hi'=>mono i _ (by lia) (by lia) hp,a5⟩
    |false =>
     simp only[aAT,aBW];refine aAN ⟨rfl,_,_,rfl,by lia,by lia,by lia,a4,λi h1 h2=>?_⟩;cases e:P i with
     |false=>rfl|true=>rw[mono _ i h1 h2 e]at hp;cases hp
 rw[aCv];refine aAJ (ask hint hh _ ?_);dsimp only;cases hp:P hint with
 |true =>
  simp only[aBM];refine aAJ (aDW (aCT (I:=λx c st'=>st'=st/\∃l o,c=(none,l,o)/\l < o/\x+1<=o/\hint+l < n/\P (hint+l)=true)
   (Q:=λc st'=>st'=st/\∃l o,c=(none,l,o)/\l < o/\hint+l < n/\P (hint+l)=true/\(o>=n - hint\/P (hint+o)=false)) ?step ?fin ⟨rfl,0,1,rfl,by lia,by lia,by lia,hp⟩) ?post)
  case fin =>
   rintro c st' ⟨rfl,l,o,rfl,a1,a2,a3,a4⟩;exact⟨rfl,l,o,rfl,a1,a3,a4,.inl (by lia)⟩
  case step =>
   rintro x c st' _ hx ⟨rfl,l,o,rfl,a1,a2,a3,a4⟩;dsimp only;by_cases hge:o>=n - hint
   ·rw[aAG hge]
    exact aAN ⟨rfl,l,o,rfl,a1,a3,a4,.inl hge⟩
   ·rw[aAH hge]
    refine aAJ (ask _ (by lia) _ ?_);dsimp only;cases hp:P (hint+o)with
    |true =>
     simp only[aIG,aAT,aBW];exact aAN ⟨rfl,_,_,rfl,by lia,by lia,by lia,hp⟩
    |false =>
     simp only[Bool.not_false,aBM];exact aAN ⟨rfl,l,o,rfl,a1,a3,a4,.inr hp⟩
  case post =>
   rintro c st' ⟨rfl,l,o,rfl,a1,a3,a4,a5⟩;dsimp only;refine last _ _ (by lia) (by lia) (λi hi=>mono i _ (by lia) a3 a4) λi h1 h2=>?_
   cases e:P i with
   |false=>rfl|true =>
    rcases a5 with a5|a5
    ·lia
    ·by_cases hz:o>=n - hint
     ·lia
     ·rw[mono (hint+o) i (by lia) h2 e]at a5;cases a5
 |false =>
  simp only[aAT,aBW];refine aAJ (aDW (aCT (I:=λx c st'=>st'=st/\∃l o,c=(none,l,o)/\l < o/\x+1<=o/\l<=hint/\P (hint - l)=false)
   (Q:=λc st'=>st'=st/\∃l o,c=(none,l,o)/\l < o/\l<=hint/\P (hint - l)=false/\(o>=hint+1\/P (hint - o)=true)) ?step ?fin ⟨rfl,0,1,rfl,by lia,by lia,by lia,hp⟩) ?post)
  case fin =>
   rintro c st' ⟨rfl,l,o,rfl,a1,a2,a3,a4⟩;exact⟨rfl,l,o,rfl,a1,a3,a4,.inl (by lia)⟩
  case step =>
   rintro x c st' _ hx ⟨rfl,l,o,rfl,a1,a2,a3,a4⟩;dsimp only;by_cases hge:o>=hint+1
   ·rw[aAG hge]
    exact aAN ⟨rfl,l,o,rfl,a1,a3,a4,.inl hge⟩
   ·rw[aAH hge]
    refine aAJ (ask _ (by lia) _ ?_);dsimp only;cases hp:P (hint - o)with
    |true =>
     simp only[aBM];exact aAN ⟨rfl,l,o,rfl,a1,a3,a4,.inr hp⟩
    |false =>
     simp only[aAT,aBW];exact aAN ⟨rfl,_,_,rfl,by lia,by lia,by lia,hp⟩
  case post =>
   rintro c st' ⟨rfl,l,o,rfl,a1,a3,a4,a5⟩;dsimp only;refine last _ _ (by lia) (by lia) (λi hi=>?_) λi h1 h2=>?_
   ·rcases a5 with a5|a5
    ·lia
    ·by_cases hz:o>=hint+1
     ·lia
     ·exact mono i (hint - o) (by lia) (by lia) a5
   ·cases e:P i with
    |false=>rfl|true=>rw[mono (hint - l) i (by lia) h2 e]at a4;cases a4
structure MI(ky:Keyed->Int)(full out ra rb:List Keyed):Prop where
 pm:(out++ra++rb).Perm full
 so:out.Pairwise λx y=>ky x<=ky y
 sa:ra.Pairwise λx y=>ky x<=ky y
 sb:rb.Pairwise λx y=>ky x<=ky y
 ba:∀x∈out,∀y∈ra,ky x<=ky y
 bb:∀x∈out,∀y∈rb,ky x<=ky y
variable{full out ra rb:List Keyed}
theorem MI.swap(m:MI ky full out ra rb):MI ky full out rb ra :=
 ⟨(by rw[aDE];exact(List.Perm.append_left out List.perm_append_comm).trans (by rw[<- aDE];exact m.pm)),m.so,m.sb,m.sa,m.bb,m.ba⟩
theorem MI.a{u:List Keyed}(m:MI ky full out (u++ra) rb)(h:∀x∈u,∀y∈rb,ky x<=ky y):MI ky full (out++u) ra rb:=by
 obtain⟨s1,s2,s3⟩:=aIO.mp m.sa;refine⟨by simpa[aDE]using m.pm,aIO.mpr ⟨m.so,s1,λx hx y hy=>m.ba x hx y (by simp[hy])⟩,s2,m.sb,λx hx y hy=>?_,λx hx y hy=>?_⟩
 ·rcases aCH.mp hx with hx|hx
  ·exact m.ba x hx y (by simp[hy])
  ·exact s3 x hx y hy
 ·rcases aCH.mp hx with hx|hx
  ·exact m.bb x hx y hy
  ·exact h x hx y hy
theorem MI.b{u:List Keyed}(m:MI ky full out ra (u++rb))(h:∀x∈u,∀y∈ra,ky x<=ky y):MI ky full (out++u) ra rb:=(m.swap.a h).swap
def Done(ky:Keyed->Int)(full res:List Keyed):Prop:=res.Perm full/\res.Pairwise λx y=>ky x<=ky y
theorem MI.done(m:MI ky full out ra rb)(h:∀x∈ra,∀y∈rb,ky x<=ky y):Done ky full (out++ra++rb):=by
 have m1:=MI.a (ra:=[]) (u:=ra) (by simpa using m) h;have m2:=MI.b (rb:=[]) (u:=rb) (by simpa using m1) (by simp);exact⟨by simpa using m2.pm,m2.so⟩
theorem MI.doneb(m:MI ky full out ra rb)(h:∀x∈rb,∀y∈ra,ky x<=ky y):Done ky full (out++rb++ra):=m.swap.done h
theorem MI.len(m:MI ky full out ra rb):out.length+ra.length+rb.length=full.length:=by have:=m.pm.length_eq;simp at this;lia
theorem MI.mem(m:MI ky full out ra rb):(∀x∈ra,x∈full)/\∀x∈rb,x∈full :=
 ⟨λx hx=>m.pm.mem_iff.mp (by simp[hx]),λx hx=>m.pm.mem_iff.mp (by simp[hx])⟩
theorem Done.rev(h:Done (λx => - ky x) full out):Done ky full out.reverse :=
 ⟨(aGF out).trans h.1,aGN.mpr (h.2.imp λz=>by simp only at z;lia)⟩
section
abbrev setGal(st:SortSt)(g:Nat):SortSt:=SortSt.mk' (kindOf st) (arrOf st) (pendingOf st) g (failedOf st)
structure Same(st st':SortSt):Prop where
 k:kindOf st'=kindOf st
 a:arrOf st'=arrOf st
 p:pendingOf st'=pendingOf st
 f:failedOf st'=failedOf st
theorem Same.refl(st:SortSt):Same st st:=⟨rfl,rfl,rfl,rfl⟩
theorem Same.gal{st':SortSt}(h:Same st st')(g:Nat):Same st (setGal st' g):=⟨h.k,h.a,h.p,h.f⟩
theorem wP(a b:Array Keyed):mergeLo' a b=(do
 rule "list.sort.merge-lo"
 let total:=a.size+b.size
 let done (out:Array Keyed) (ia ib:Nat):=out++a.extract ia a.size++b.extract ib b.size
 let lastOfA (out:Array Keyed) (ia ib:Nat):=out++b.extract ib b.size++a.extract ia a.size
 let mut out:Array Keyed:=#[<- elem' b 0]
 let mut ia:=0
 let mut ib:=1
 if ib==b.size then return done out ia ib
 if ia+1==a.size then return lastOfA out ia ib
 let mut minGallop:=gallopOf (<- get)
 for _ in[0:total] do
  let mut acount:=0
  let mut bcount:=0
  for _ in[0:total] do
   let some bWins <- lt' (<- elem' b ib) (<- elem' a ia)|return done out ia ib
   if bWins then
    out:=out.push (<- elem' b ib);ib:=ib+1;bcount:=bcount+1;acount:=0
    if ib==b.size then return done out ia ib
    if bcount>=minGallop then break
   else
    out:=out.push (<- elem' a ia);ia:=ia+1;acount:=acount+1;bcount:=0
    if ia+1==a.size then return lastOfA out ia ib
    if acount>=minGallop then break
  rule "list.sort.gallop"
  minGallop:=minGallop+1
  for _ in[0:total] do
   if minGallop > 1 then minGallop:=minGallop - 1
   modify (λst=>setGal st minGallop)
   let some k <- gallop' false (<- elem' b ib) a ia (a.size - ia) 0|return done out ia ib
   acount:=k
   if k > 0 then
    out:=out++a.extract ia (ia+k);ia:=ia+k
    if ia+1==a.size then return lastOfA out ia ib
    if ia==a.size then return done out ia ib
   out:=out.push (<- elem' b ib);ib:=ib+1
   if ib==b.size then return done out ia ib
   let some k <- gallop' true (<- elem' a ia) b ib (b.size - ib) 0|return done out ia ib
   bcount:=k
   if k > 0 then
    out:=out++b.extract ib (ib+k);ib:=ib+k
    if ib==b.size then return done out ia ib
   out:=out.push (<- elem' a ia);ia:=ia+1
   if ia+1==a.size then return lastOfA out ia ib
   if acount < 7&&bcount < 7 then break
  minGallop:=minGallop+1
  modify (λst=>setGal st minGallop)
 unsupported "internal:list.sort.merge-bound"):=rfl
theorem sQ{a:Array Keyed}(h:i < a.size):a.toList.drop i=[a[i]]++a.toList.drop (i+1):=by
 rw[aCI (l:=a.toList) (i:=i) (by simpa using h),aES];rfl
theorem vD{a:Array Keyed}{k:Nat}:a.toList.drop i=(a.extract i (i+k)).toList++a.toList.drop (i+k):=by
 rw[aDY,aDQ,aHT,Nat.add_comm i k,Nat.add_comm k i,<- aJI,aGO]
theorem sG{a:Array Keyed}:(a.extract i a.size).toList=a.toList.drop i:=by
 simp only[aDY,aDQ];exact aCJ (by simp)
variable{x:Keyed}
theorem gD{a:Array Keyed}{k:Nat}(hk:i+k<=a.size)(h:x∈(a.extract i (i+k)).toList):∃j,∃hj:j < a.size,i<=j/\j < i+k/\x=a[j]:=by
 obtain⟨j,hj,e⟩:=aCK.mp h;simp at hj;refine⟨i+j,by lia,by lia,by lia,?_⟩;rw[<- e];simp
theorem cS{a:Array Keyed}(h:x∈a.toList.drop i):∃j,∃hj:j < a.size,i<=j/\x=a[j]:=by
 obtain⟨j,hj,e⟩:=aCK.mp h;simp at hj;refine⟨i+j,by lia,by lia,?_⟩;rw[<- e];simp
structure Two(ky:Keyed->Int)(S:Keyed->Prop)(a b:Array Keyed):Prop where
 a0:0 < a.size
 b0:0 < b.size
 sa:a.toList.Pairwise λx y=>ky x<=ky y
 sb:b.toList.Pairwise λx y=>ky x<=ky y
 first:ky b[0]<=ky a[0]
 last:∀y∈b.toList,ky y<=ky a[a.size - 1]
 ina:∀x∈a.toList,S x
 inb:∀x∈b.toList,S x
theorem bJ{a:Array Keyed}(h:a.toList.Pairwise λx y=>ky x<=ky y)(hi:i < a.size)(hj:j < a.size)(hij:i<=j):ky a[i]<=ky a[j]:=by
 rcases Nat.lt_or_ge i j with h1|h1
 ·have:=aBD.mp h i j (by simpa using hi) (by simpa using hj) h1
  rw[aES,aES]at this;exact this
 ·have:i=j:=by lia
  subst this;exact aEM _
variable{a b:Array Keyed}
theorem Two.start(T:Two ky S a b):MI ky (a.toList++b.toList) [b[0]'T.b0] a.toList (b.toList.drop 1):=by
 have e:=sQ T.b0;rw[aHN]at e;have m:MI ky (a.toList++b.toList) [] a.toList ([b[0]'T.b0]++b.toList.drop 1):=⟨by rw[<- e];simp,.nil,T.sa,by rw[<- e];exact T.sb,by simp,by simp⟩
 refine m.b λx hx y hy=>?_
 have:x=b[0]'T.b0:=by simpa using hx
 subst this;obtain⟨j,hj,rfl⟩:=aCK.mp hy;have:=bJ T.sa T.a0 (by simpa using hj) (aCE j);have:=T.first
 simp at *;lia
end
end TS
namespace TS
open PySem PyProof.Rows
abbrev RS7:=Option (Array Keyed)×Array Keyed×Nat×Nat×Nat×Nat×Nat
abbrev RS6:=Option (Array Keyed)×Array Keyed×Nat×Nat×Nat×Nat
def lo3(a b out:Array Keyed)(ia ib mg k k1:Nat):StateT SortSt Sem (ForInStep RS7):=do
 let x <- elem' a ia
 if(ia+1+1==a.size)=true then pure (.done (some (out.push x++b.extract ib b.size++a.extract (ia+1) a.size),out.push x,ia+1,ib,mg,k,k1))
 else if(decide (k < 7)&&decide (k1 < 7))=true then pure (.done (none,out.push x,ia+1,ib,mg,k,k1))else pure (.yield (none,out.push x,ia+1,ib,mg,k,k1))
def lo2(a b out:Array Keyed)(ia ib mg k bc:Nat):StateT SortSt Sem (ForInStep RS7):=do
 let x <- elem' b ib
 if(ib+1==b.size)=true then pure (.done (some (out.push x++a.extract ia a.size++b.extract (ib+1) b.size),out.push x,ia,ib+1,mg,k,bc))
 else do
  let y <- elem' a ia
  let r <- gallop' true y b (ib+1) (b.size - (ib+1)) 0
  match r with
  |some k1 =>
   if k1 > 0 then
    if(ib+1+k1==b.size)=true then pure (.done (some (out.push x++b.extract (ib+1) (ib+1+k1)++a.extract ia a.size++b.extract (ib+1+k1) b.size),out.push x++b.extract (ib+1) (ib+1+k1),ia,ib+1+k1,mg,k,k1))
    else lo3 a b (out.push x++b.extract (ib+1) (ib+1+k1)) ia (ib+1+k1) mg k k1
   else lo3 a b (out.push x) ia (ib+1) mg k k1
  |_=>pure (.done (some (out.push x++a.extract ia a.size++b.extract (ib+1) b.size),out.push x,ia,ib+1,mg,k,bc))
def lo1(a b out:Array Keyed)(ia ib mg ac bc:Nat):StateT SortSt Sem (ForInStep RS7):=do
 modify λst=>setGal st mg
 let x <- elem' b ib
 let r <- gallop' false x a ia (a.size - ia) 0
 match r with
 |some k =>
  if k > 0 then
   if(ia+k+1==a.size)=true then pure (.done (some (out++a.extract ia (ia+k)++b.extract ib b.size++a.extract (ia+k) a.size),out++a.extract ia (ia+k),ia+k,ib,mg,k,bc))
   else if(ia+k==a.size)=true then pure (.done (some (out++a.extract ia (ia+k)++a.extract (ia+k) a.size++b.extract ib b.size),out++a.extract ia (ia+k),ia+k,ib,mg,k,bc))
   else lo2 a b (out++a.extract ia (ia+k)) (ia+k) ib mg k bc
  else lo2 a b out ia ib mg k bc
 |_=>pure (.done (some (out++a.extract ia a.size++b.extract ib b.size),out,ia,ib,mg,ac,bc))
def lo4(a b:Array Keyed)(c:RS7):StateT SortSt Sem (ForInStep RS7) :=
 if c.2.2.2.2.1 > 1 then lo1 a b c.2.1 c.2.2.1 c.2.2.2.1 (c.2.2.2.2.1 - 1) c.2.2.2.2.2.1 c.2.2.2.2.2.2
 else lo1 a b c.2.1 c.2.2.1 c.2.2.2.1 c.2.2.2.2.1 c.2.2.2.2.2.1 c.2.2.2.2.2.2
section
variable{M:Model}{E:Value->Shared->Prop}{a b:Array Keyed}
structure LI(ky:Keyed->Int)(a b out:Array Keyed)(ia ib:Nat):Prop where
 ha:ia+1 < a.size
 hb:ib < b.size
 m:MI ky (a.toList++b.toList) out.toList (a.toList.drop ia) (b.toList.drop ib)
def Rq(ky:Keyed->Int)(a b:Array Keyed)(st0:SortSt)(p:Nat):ForInStep RS7->SortSt->Prop
 |.done c,st=>Same st0 st/\((∃res,c.1=some res/\Done ky (a.toList++b.toList) res.toList)\/(c.1=none/\LI ky a b c.2.1 c.2.2.1 c.2.2.2.1/\p < c.2.2.1+c.2.2.2.1))|.yield c,st=>Same st0 st/\c.1=none/\LI ky a b c.2.1 c.2.2.1 c.2.2.2.1/\p < c.2.2.1+c.2.2.2.1
variable{out:Array Keyed}
theorem LI.sz(h:LI ky a b out ia ib):out.size=ia+ib:=by
 have:=h.m.len;have:=h.ha;have:=h.hb;simp at *;lia
theorem aAq(hb:ib=b.size)(m:MI ky (a.toList++b.toList) out.toList (a.toList.drop ia) (b.toList.drop ib)) :
  Done ky (a.toList++b.toList) (out++a.extract ia a.size++b.extract ib b.size).toList:=by
 have:=m.done (by subst hb;simp[show b.toList.drop b.size=[]from aIC (by simp)]);simp only[aDB,sG];exact this
theorem aAi(T:Two ky S a b)(ha:ia+1=a.size)(m:MI ky (a.toList++b.toList) out.toList (a.toList.drop ia) (b.toList.drop ib)) :
  Done ky (a.toList++b.toList) (out++b.extract ib b.size++a.extract ia a.size).toList:=by
 have:=m.doneb (λx hx y hy=>by
  obtain⟨j,hj,h1,rfl⟩:=cS hy;have e:j=a.size - 1:=by lia
  subst e;exact T.last x (aIR hx))
 simp only[aDB,sG];exact this
theorem MI.a1{ib:Nat}(h:ia < a.size)(m:MI ky (a.toList++b.toList) out.toList (a.toList.drop ia) (b.toList.drop ib))(hle:∀y∈b.toList.drop ib,ky a[ia]<=ky y) :
  MI ky (a.toList++b.toList) (out.push a[ia]).toList (a.toList.drop (ia+1)) (b.toList.drop ib):=by
 rw[sQ h]at m;simpa using m.a (by simpa using hle)
theorem MI.b1{ia:Nat}(h:ib < b.size)(m:MI ky (a.toList++b.toList) out.toList (a.toList.drop ia) (b.toList.drop ib))(hle:∀y∈a.toList.drop ia,ky b[ib]<=ky y) :
  MI ky (a.toList++b.toList) (out.push b[ib]).toList (a.toList.drop ia) (b.toList.drop (ib+1)):=by
 rw[sQ h]at m;simpa using m.b (by simpa using hle)
theorem MI.ak{ia ib k:Nat}(m:MI ky (a.toList++b.toList) out.toList (a.toList.drop ia) (b.toList.drop ib))(h:∀x∈(a.extract ia (ia+k)).toList,∀y∈b.toList.drop ib,ky x<=ky y) :
  MI ky (a.toList++b.toList) (out++a.extract ia (ia+k)).toList (a.toList.drop (ia+k)) (b.toList.drop ib):=by
 rw[vD (k:=k)]at m;rw[aDB];exact m.a h
theorem MI.bk{ia ib k:Nat}(m:MI ky (a.toList++b.toList) out.toList (a.toList.drop ia) (b.toList.drop ib))(h:∀x∈(b.extract ib (ib+k)).toList,∀y∈a.toList.drop ia,ky x<=ky y) :
  MI ky (a.toList++b.toList) (out++b.extract ib (ib+k)).toList (a.toList.drop ia) (b.toList.drop (ib+k)):=by
 rw[vD (a:=b) (k:=k)]at m;rw[aDB];exact m.b h
variable{mg p:Nat}{st:SortSt}
theorem zP(T:Two ky S a b){ib k k1:Nat}(hs:Same st0 st)(ha:ia+1 < a.size)(hb:ib < b.size)(m:MI ky (a.toList++b.toList) out.toList (a.toList.drop ia) (b.toList.drop ib))
  (hle:∀y∈b.toList.drop ib,ky a[ia]<=ky y)(hp:p<=ia+ib):wpS M A E s (lo3 a b out ia ib mg k k1) (Rq ky a b st0 p) st:=by
 unfold lo3;refine aAJ (aT (by lia) ?_);have m1:=m.a1 (by lia) hle;split
 ·rename_i h
  exact aAN ⟨hs,.inl ⟨_,rfl,aAi T (by simpa using h) m1⟩⟩
 ·rename_i h
  have hi:ia+1+1 < a.size:=by simp at h;lia
  split
  ·exact aAN ⟨hs,.inr ⟨rfl,⟨hi,hb,m1⟩,by dsimp only;lia⟩⟩
  ·exact aAN ⟨hs,rfl,⟨hi,hb,m1⟩,by dsimp only;lia⟩
theorem zL(W:Ask M A E s κ ky S)(T:Two ky S a b){ia k bc:Nat}(hk:kindOf st0=κ)(hs:Same st0 st)(ha:ia+1 < a.size)(hb:ib < b.size)
  (m:MI ky (a.toList++b.toList) out.toList (a.toList.drop ia) (b.toList.drop ib))
  (hle:∀y∈a.toList.drop ia,ky b[ib]<=ky y)(hp:p<=ia+ib):wpS M A E s (lo2 a b out ia ib mg k bc) (Rq ky a b st0 p) st:=by
 unfold lo2;refine aAJ (aT hb ?_);have m1:=m.b1 hb hle;split
 ·rename_i h
  exact aAN ⟨hs,.inl ⟨_,rfl,aAq (by simpa using h) m1⟩⟩
 ·rename_i h
  have hi:ib+1 < b.size:=by simp at h;lia
  refine aAJ (aT (by lia) ?_);refine aAJ (cD W (hs.k.trans hk) (T.ina _ (by simp)) (by lia) (by lia) (λi h _ _=>T.inb _ (by simp)) (λi j hi hj _ hij _=>bJ T.sb hi hj hij) λk1 hk1 g1 g2=>?_);have less:∀x∈(b.extract (ib+1) (ib+1+k1)).toList,∀y∈a.toList.drop ia,ky x<=ky y:=by
   intro x hx y hy;obtain⟨j,hj,h1,h2,rfl⟩:=gD (by lia) hx;obtain⟨i,hi,h3,rfl⟩:=cS hy;have:=g1 j hj h1 h2;have:=bJ T.sa (i:=ia) (j:=i) (by lia) hi h3;simp[by']at *;lia
  have more:∀y∈b.toList.drop (ib+1+k1),ky a[ia]<=ky y:=by
   intro y hy;obtain⟨j,hj,h1,rfl⟩:=cS hy;have:=g2 j hj (by lia) (by lia);simp[by']at this;lia
  have m2:=m1.bk less;dsimp only;split
  ·split
   ·rename_i h1
    exact aAN ⟨hs,.inl ⟨_,rfl,aAq (by simpa using h1) m2⟩⟩
   ·rename_i h0 h1
    exact zP T hs ha (by simp at h1;lia) m2 more (by lia)
  ·rename_i h0
   have:k1=0:=by lia
   subst this;exact zP T hs ha hi m1 more (by lia)
theorem aAn(W:Ask M A E s κ ky S)(T:Two ky S a b){ac bc:Nat}(hk:kindOf st0=κ)(hs:Same st0 st)(L:LI ky a b out ia ib)(hp:p<=ia+ib):wpS M A E s (lo1 a b out ia ib mg ac bc) (Rq ky a b st0 p) st:=by
 obtain⟨ha,hb,m⟩:=L;unfold lo1;refine aAJ (aFL ?_);refine aAJ (aT hb ?_);have hs:=hs.gal mg;refine aAJ (cD W (hs.k.trans hk) (T.inb _ (by simp)) (by lia) (by lia) (λi h _ _=>T.ina _ (by simp)) (λi j hi hj _ hij _=>bJ T.sa hi hj hij) λk1 hk1 g1 g2=>?_);have less:∀x∈(a.extract ia (ia+k1)).toList,∀y∈b.toList.drop ib,ky x<=ky y:=by
  intro x hx y hy;obtain⟨j,hj,h1,h2,rfl⟩:=gD (by lia) hx;obtain⟨i,hi,h3,rfl⟩:=cS hy;have:=g1 j hj h1 h2;have:=bJ T.sb (i:=ib) (j:=i) (by lia) hi h3;simp[by']at *;lia
 have more:∀y∈a.toList.drop (ia+k1),ky b[ib]<=ky y:=by
  intro y hy;obtain⟨j,hj,h1,rfl⟩:=cS hy;have:=g2 j hj (by lia) (by lia);simp[by']at this;lia
 have m2:=m.ak less;dsimp only;split
 ·split
  ·rename_i h1
   exact aAN ⟨hs,.inl ⟨_,rfl,aAi T (by simpa using h1) m2⟩⟩
  ·split
   ·rename_i h1
    have h1:ia+k1=a.size:=by simpa using h1
    refine aAN ⟨hs,.inl ⟨_,rfl,?_⟩⟩;have:=m2.done (by simp[h1,show a.toList.drop a.size=[]from aIC (by simp)]);simp only[aDB,sG]at this ⊢;exact this
   ·rename_i h1 h2
    exact zL W T hk hs (by simp at h1 h2;lia) hb m2 more (by lia)
 ·rename_i h0
  have:k1=0:=by lia
  subst this;exact zL W T hk hs ha hb m more (by lia)
theorem aKb(W:Ask M A E s κ ky S)(T:Two ky S a b){c:RS7}(hk:kindOf st0=κ)(hs:Same st0 st)(L:LI ky a b c.2.1 c.2.2.1 c.2.2.2.1)(hp:p<=c.2.2.1+c.2.2.2.1):wpS M A E s (lo4 a b c) (Rq ky a b st0 p) st:=by
 unfold lo4;split
 ·exact aAn W T hk hs L hp
 ·exact aAn W T hk hs L hp
def lo5(a b:Array Keyed)(mg:Nat)(c:RS6):StateT SortSt Sem (ForInStep RS6):=do
 let y <- elem' b c.2.2.2.1
 let x <- elem' a c.2.2.1
 let r <- lt' y x
 match r with
 |some bWins =>
  if bWins=true then do
   let y <- elem' b c.2.2.2.1
   if(c.2.2.2.1+1==b.size)=true then pure (.done (some (c.2.1.push y++a.extract c.2.2.1 a.size++b.extract (c.2.2.2.1+1) b.size),c.2.1.push y,c.2.2.1,c.2.2.2.1+1,0,c.2.2.2.2.2+1))
   else if c.2.2.2.2.2+1>=mg then pure (.done (none,c.2.1.push y,c.2.2.1,c.2.2.2.1+1,0,c.2.2.2.2.2+1))
   else pure (.yield (none,c.2.1.push y,c.2.2.1,c.2.2.2.1+1,0,c.2.2.2.2.2+1))
  else do
   let x <- elem' a c.2.2.1
   if(c.2.2.1+1+1==a.size)=true then pure (.done (some (c.2.1.push x++b.extract c.2.2.2.1 b.size++a.extract (c.2.2.1+1) a.size),c.2.1.push x,c.2.2.1+1,c.2.2.2.1,c.2.2.2.2.1+1,0))
   else if c.2.2.2.2.1+1>=mg then pure (.done (none,c.2.1.push x,c.2.2.1+1,c.2.2.2.1,c.2.2.2.2.1+1,0))
   else pure (.yield (none,c.2.1.push x,c.2.2.1+1,c.2.2.2.1,c.2.2.2.2.1+1,0))
 |_=>pure (.done (some (c.2.1++a.extract c.2.2.1 a.size++b.extract c.2.2.2.1 b.size),c.2.1,c.2.2.1,c.2.2.2.1,c.2.2.2.2.1,c.2.2.2.2.2))
def Rq6(ky:Keyed->Int)(a b:Array Keyed)(st0:SortSt)(p:Nat):ForInStep RS6->SortSt->Prop
 |.done c,st=>Same st0 st/\((∃res,c.1=some res/\Done ky (a.toList++b.toList) res.toList)\/(c.1=none/\LI ky a b c.2.1 c.2.2.1 c.2.2.2.1/\p < c.2.2.1+c.2.2.2.1))|.yield c,st=>Same st0 st/\c.1=none/\LI ky a b c.2.1 c.2.2.1 c.2.2.2.1/\p < c.2.2.1+c.2.2.2.1
theorem aKt(W:Ask M A E s κ ky S)(T:Two ky S a b){c:RS6}(hk:kindOf st0=κ)(hs:Same st0 st)(L:LI ky a b c.2.1 c.2.2.1 c.2.2.2.1)(hp:p<=c.2.2.1+c.2.2.2.1):wpS M A E s (lo5 a b mg c) (Rq6 ky a b st0 p) st:=by
 obtain⟨r,out,ia,ib,ac,bc⟩:=c;obtain⟨ha,hb,m⟩:=L;unfold lo5;dsimp only at *;refine aAJ (aT hb (aAJ (aT (by lia) (aAJ (W.lt _ _ _ _ (hs.k.trans hk) (T.inb _ (by simp)) (T.ina _ (by simp)) ?_)))));by_cases hl:ky b[ib] < ky (a[ia]'(by lia))
 ·simp only[hl,aFO,aBM]
  refine aAJ (aT hb ?_);have m1:=m.b1 hb λy hy=>by
   obtain⟨j,hj,h1,rfl⟩:=cS hy;have:=bJ T.sa (i:=ia) (j:=j) (by lia) hj h1;lia
  split
  ·rename_i h
   exact aAN ⟨hs,.inl ⟨_,rfl,aAq (by simpa using h) m1⟩⟩
  ·rename_i h
   have hi:ib+1 < b.size:=by simp at h;lia
   split
   ·exact aAN ⟨hs,.inr ⟨rfl,⟨ha,hi,m1⟩,by dsimp only;lia⟩⟩
   ·exact aAN ⟨hs,rfl,⟨ha,hi,m1⟩,by dsimp only;lia⟩
 ·simp only[hl,aFR,aAT,aBW]
  refine aAJ (aT (by lia) ?_);have m1:=m.a1 (by lia) λy hy=>by
   obtain⟨j,hj,h1,rfl⟩:=cS hy;have:=bJ T.sb (i:=ib) (j:=j) (by lia) hj h1;lia
  split
  ·rename_i h
   exact aAN ⟨hs,.inl ⟨_,rfl,aAi T (by simpa using h) m1⟩⟩
  ·rename_i h
   have hi:ia+1+1 < a.size:=by simp at h;lia
   split
   ·exact aAN ⟨hs,.inr ⟨rfl,⟨hi,hb,m1⟩,by dsimp only;lia⟩⟩
   ·exact aAN ⟨hs,rfl,⟨hi,hb,m1⟩,by dsimp only;lia⟩
theorem uP(W:Ask M A E s κ ky S)(T:Two ky S a b){Q:Array Keyed->SortSt->Prop}(hk:kindOf st=κ)
  (q:∀res st',Same st st'->Done ky (a.toList++b.toList) res.toList->Q res st'):wpS M A E s (mergeLo' a b) Q st:=by
 have A0:=T.a0;have B0:=T.b0;rw[wP];refine aAJ (aJK (aCM ⟨rfl,?_⟩));refine aAJ (aT T.b0 ?_);dsimp only;have m0:MI ky (a.toList++b.toList) (#[b[0]]).toList (a.toList.drop 0) (b.toList.drop 1):=by simpa using T.start
 by_cases hb:1=b.size
 ·rw[aAG (by simpa using hb)]
  exact aAN (q _ _ (.refl _) (aAq hb m0))
 rw[aAH (by simpa using hb)];by_cases ha:0+1=a.size
 ·rw[aAG (by simpa using ha)]
  exact aAN (q _ _ (.refl _) (aAi T ha m0))
 rw[aAH (by simpa using ha)];refine aAJ (aHP ?_);have dec:∀{out:Array Keyed} {ia ib:Nat},LI ky a b out ia ib->ia+ib+2<=a.size+b.size:=λL=>by have:=L.ha;have:=L.hb;lia
 refine aAJ (aDW (aCT (I:=λx c st'=>Same st st'/\c.1=none/\LI ky a b c.2.1 c.2.2.1 c.2.2.2.1/\x<=c.2.2.1+c.2.2.2.1)
  (Q:=λc st'=>Same st st'/\∃res,c.1=some res/\Done ky (a.toList++b.toList) res.toList) ?step ?fin ⟨.refl _,rfl,⟨by dsimp only;lia,by dsimp only;lia,m0⟩,aCE _⟩) ?post)
 case fin =>
  rintro c st' ⟨h1,h2,h3,h4⟩;have:=dec h3;lia
 case post =>
  rintro c st' ⟨h1,res,h2,h3⟩;rw[h2];exact aAN (q _ _ h1 h3)
 case step =>
  rintro x c st1 _ hx ⟨h1,h2,h3,h4⟩;refine aAJ (aDW (aCT (I:=λy c st'=>Same st st'/\c.1=none/\LI ky a b c.2.1 c.2.2.1 c.2.2.2.1/\x+y<=c.2.2.1+c.2.2.2.1)
   (Q:=λc st'=>Same st st'/\((∃res,c.1=some res/\Done ky (a.toList++b.toList) res.toList)\/(c.1=none/\LI ky a b c.2.1 c.2.2.1 c.2.2.2.1/\x < c.2.2.1+c.2.2.2.1))) ?step ?fin ⟨h1,rfl,h3,h4⟩) ?post)
  case fin =>
   rintro c st' ⟨h1,h2,h3,h4⟩;have:=dec h3;lia
  case step =>
   rintro y c st' _ hy ⟨h1,h2,h3,h4⟩;refine aDW (aKt (mg:=_) W T hk h1 h3 h4) ?_;rintro(c|c) st2 h
   ·rcases h with⟨g1,g2|⟨g2,g3,g4⟩⟩
    ·exact⟨g1,.inl g2⟩
    ·exact⟨g1,.inr ⟨g2,g3,by lia⟩⟩
   ·exact⟨h.1,h.2.1,h.2.2.1,by have:=h.2.2.2;lia⟩
  case post =>
   rintro c st' ⟨g1,⟨res,g2,g3⟩|⟨g2,g3,g4⟩⟩
   ·rw[g2]
    exact aAN ⟨g1,res,rfl,g3⟩
   rw[g2];refine aAJ (aJK (aCM ⟨rfl,?_⟩));refine aAJ (aDW (aCT (I:=λy c st'=>Same st st'/\c.1=none/\LI ky a b c.2.1 c.2.2.1 c.2.2.2.1/\x+1+y<=c.2.2.1+c.2.2.2.1)
    (Q:=λc st'=>Same st st'/\((∃res,c.1=some res/\Done ky (a.toList++b.toList) res.toList)\/(c.1=none/\LI ky a b c.2.1 c.2.2.1 c.2.2.2.1/\x < c.2.2.1+c.2.2.2.1))) ?step ?fin ⟨g1,rfl,g3,by dsimp only;lia⟩) ?post)
   case fin =>
    rintro c st' ⟨h1,h2,h3,h4⟩;have:=dec h3;lia
   case step =>
    rintro y c st' _ hy ⟨h1,h2,h3,h4⟩;refine aDW (aKb W T hk h1 h3 h4) ?_;rintro(c|c) st2 h
    ·rcases h with⟨g1,g2|⟨g2,g3,g4⟩⟩
     ·exact⟨g1,.inl g2⟩
     ·exact⟨g1,.inr ⟨g2,g3,by lia⟩⟩
    ·exact⟨h.1,h.2.1,h.2.2.1,by have:=h.2.2.2;lia⟩
   case post =>
    rintro c st' ⟨g1,⟨res,g2,g3⟩|⟨g2,g3,g4⟩⟩
    ·rw[g2]
     exact aAN ⟨g1,res,rfl,g3⟩
    rw[g2];refine aAJ (aFL (aAN ⟨g1.gal _,rfl,g3,?_⟩));exact g4
end
theorem wM(a b:Array Keyed):mergeHi' a b=(do
 rule "list.sort.merge-hi"
 let total:=a.size+b.size
 let done (out:Array Keyed) (na nb:Nat):=a.extract 0 na++b.extract 0 nb++out.reverse
 let firstOfB (out:Array Keyed) (na nb:Nat):=b.extract 0 nb++a.extract 0 na++out.reverse
 let mut na:=a.size - 1
 let mut nb:=b.size
 let mut out:Array Keyed:=#[<- elem' a na]
 if na==0 then return done out na nb
 if nb==1 then return firstOfB out na nb
 let mut minGallop:=gallopOf (<- get)
 for _ in[0:total] do
  let mut acount:=0
  let mut bcount:=0
  for _ in[0:total] do
   let some aWins <- lt' (<- elem' b (nb - 1)) (<- elem' a (na - 1))|return done out na nb
   if aWins then
    na:=na - 1;out:=out.push (<- elem' a na);acount:=acount+1;bcount:=0
    if na==0 then return done out na nb
    if acount>=minGallop then break
   else
    nb:=nb - 1;out:=out.push (<- elem' b nb);bcount:=bcount+1;acount:=0
    if nb==1 then return firstOfB out na nb
    if bcount>=minGallop then break
  rule "list.sort.gallop"
  minGallop:=minGallop+1
  for _ in[0:total] do
   if minGallop > 1 then minGallop:=minGallop - 1
   modify (λst=>setGal st minGallop)
   let some at_ <- gallop' false (<- elem' b (nb - 1)) a 0 na (na - 1)|return done out na nb
   let k:=na - at_
   acount:=k
   if k > 0 then
    out:=out++(a.extract at_ na).reverse;na:=at_
    if na==0 then return done out na nb
   nb:=nb - 1;out:=out.push (<- elem' b nb)
   if nb==1 then return firstOfB out na nb
   let some at_ <- gallop' true (<- elem' a (na - 1)) b 0 nb (nb - 1)|return done out na nb
   let k:=nb - at_
   bcount:=k
   if k > 0 then
    out:=out++(b.extract at_ nb).reverse;nb:=at_
    if nb==1 then return firstOfB out na nb
    if nb==0 then return done out na nb
   na:=na - 1;out:=out.push (<- elem' a na)
   if na==0 then return done out na nb
   if acount < 7&&bcount < 7 then break
  minGallop:=minGallop+1
  modify (λst=>setGal st minGallop)
 unsupported "internal:list.sort.merge-bound"):=rfl
abbrev RH7:=Option (Array Keyed)×Nat×Nat×Array Keyed×Nat×Nat×Nat
abbrev RH6:=Option (Array Keyed)×Nat×Nat×Array Keyed×Nat×Nat
abbrev DN(a b out:Array Keyed)(na nb:Nat):Array Keyed:=a.extract 0 na++b.extract 0 nb++out.reverse
abbrev FB(a b out:Array Keyed)(na nb:Nat):Array Keyed:=b.extract 0 nb++a.extract 0 na++out.reverse
def hi3(a b out:Array Keyed)(na nb mg k k1:Nat):StateT SortSt Sem (ForInStep RH7):=do
 let x <- elem' a (na - 1)
 if(na - 1==0)=true then pure (.done (some (DN a b (out.push x) (na - 1) nb),na - 1,nb,out.push x,mg,k,k1))
 else if(decide (k < 7)&&decide (k1 < 7))=true then pure (.done (none,na - 1,nb,out.push x,mg,k,k1))else pure (.yield (none,na - 1,nb,out.push x,mg,k,k1))
def hi2(a b out:Array Keyed)(na nb mg k bc:Nat):StateT SortSt Sem (ForInStep RH7):=do
 let x <- elem' b (nb - 1)
 if(nb - 1==1)=true then pure (.done (some (FB a b (out.push x) na (nb - 1)),na,nb - 1,out.push x,mg,k,bc))
 else do
  let y <- elem' a (na - 1)
  let r <- gallop' true y b 0 (nb - 1) (nb - 1 - 1)
  match r with
  |some t =>
   if nb - 1 - t > 0 then
    if(t==1)=true then pure (.done (some (FB a b (out.push x++(b.extract t (nb - 1)).reverse) na t),na,t,out.push x++(b.extract t (nb - 1)).reverse,mg,k,nb - 1 - t))
    else if(t==0)=true then pure (.done (some (DN a b (out.push x++(b.extract t (nb - 1)).reverse) na t),na,t,out.push x++(b.extract t (nb - 1)).reverse,mg,k,nb - 1 - t))
    else hi3 a b (out.push x++(b.extract t (nb - 1)).reverse) na t mg k (nb - 1 - t)
   else hi3 a b (out.push x) na (nb - 1) mg k (nb - 1 - t)
  |_=>pure (.done (some (DN a b (out.push x) na (nb - 1)),na,nb - 1,out.push x,mg,k,bc))
def hi1(a b out:Array Keyed)(na nb mg ac bc:Nat):StateT SortSt Sem (ForInStep RH7):=do
 modify λst=>setGal st mg
 let x <- elem' b (nb - 1)
 let r <- gallop' false x a 0 na (na - 1)
 match r with
 |some t =>
  if na - t > 0 then
   if(t==0)=true then pure (.done (some (DN a b (out++(a.extract t na).reverse) t nb),t,nb,out++(a.extract t na).reverse,mg,na - t,bc))
   else hi2 a b (out++(a.extract t na).reverse) t nb mg (na - t) bc
  else hi2 a b out na nb mg (na - t) bc
 |_=>pure (.done (some (DN a b out na nb),na,nb,out,mg,ac,bc))
def hi4(a b:Array Keyed)(c:RH7):StateT SortSt Sem (ForInStep RH7) :=
 if c.2.2.2.2.1 > 1 then hi1 a b c.2.2.2.1 c.2.1 c.2.2.1 (c.2.2.2.2.1 - 1) c.2.2.2.2.2.1 c.2.2.2.2.2.2
 else hi1 a b c.2.2.2.1 c.2.1 c.2.2.1 c.2.2.2.2.1 c.2.2.2.2.2.1 c.2.2.2.2.2.2
def hi5(a b:Array Keyed)(mg:Nat)(c:RH6):StateT SortSt Sem (ForInStep RH6):=do
 let y <- elem' b (c.2.2.1 - 1)
 let x <- elem' a (c.2.1 - 1)
 let r <- lt' y x
 match r with
 |some aWins =>
  if aWins=true then do
   let x <- elem' a (c.2.1 - 1)
   if(c.2.1 - 1==0)=true then pure (.done (some (DN a b (c.2.2.2.1.push x) (c.2.1 - 1) c.2.2.1),c.2.1 - 1,c.2.2.1,c.2.2.2.1.push x,c.2.2.2.2.1+1,0))
   else if c.2.2.2.2.1+1>=mg then pure (.done (none,c.2.1 - 1,c.2.2.1,c.2.2.2.1.push x,c.2.2.2.2.1+1,0))
   else pure (.yield (none,c.2.1 - 1,c.2.2.1,c.2.2.2.1.push x,c.2.2.2.2.1+1,0))
  else do
   let y <- elem' b (c.2.2.1 - 1)
   if(c.2.2.1 - 1==1)=true then pure (.done (some (FB a b (c.2.2.2.1.push y) c.2.1 (c.2.2.1 - 1)),c.2.1,c.2.2.1 - 1,c.2.2.2.1.push y,0,c.2.2.2.2.2+1))
   else if c.2.2.2.2.2+1>=mg then pure (.done (none,c.2.1,c.2.2.1 - 1,c.2.2.2.1.push y,0,c.2.2.2.2.2+1))
   else pure (.yield (none,c.2.1,c.2.2.1 - 1,c.2.2.2.1.push y,0,c.2.2.2.2.2+1))
 |_=>pure (.done (some (DN a b c.2.2.2.1 c.2.1 c.2.2.1),c.2.1,c.2.2.1,c.2.2.2.1,c.2.2.2.2.1,c.2.2.2.2.2))
section
variable{M:Model}{E:Value->Shared->Prop}{a b:Array Keyed}
abbrev MH(ky:Keyed->Int)(a b out:Array Keyed)(na nb:Nat):Prop:=MI (λx => - ky x) (a.toList++b.toList) out.toList (a.toList.take na).reverse (b.toList.take nb).reverse
structure LH(ky:Keyed->Int)(a b out:Array Keyed)(na nb:Nat):Prop where
 ha:0 < na
 hal:na<=a.size
 hb:1 < nb
 hbl:nb<=b.size
 m:MH ky a b out na nb
def Rh(ky:Keyed->Int)(a b:Array Keyed)(st0:SortSt)(p:Nat):ForInStep RH7->SortSt->Prop
 |.done c,st=>Same st0 st/\((∃res,c.1=some res/\Done ky (a.toList++b.toList) res.toList)\/(c.1=none/\LH ky a b c.2.2.2.1 c.2.1 c.2.2.1/\c.2.1+c.2.2.1 < p))|.yield c,st=>Same st0 st/\c.1=none/\LH ky a b c.2.2.2.1 c.2.1 c.2.2.1/\c.2.1+c.2.2.1 < p
def Rh6(ky:Keyed->Int)(a b:Array Keyed)(st0:SortSt)(p:Nat):ForInStep RH6->SortSt->Prop
 |.done c,st=>Same st0 st/\((∃res,c.1=some res/\Done ky (a.toList++b.toList) res.toList)\/(c.1=none/\LH ky a b c.2.2.2.1 c.2.1 c.2.2.1/\c.2.1+c.2.2.1 < p))|.yield c,st=>Same st0 st/\c.1=none/\LH ky a b c.2.2.2.1 c.2.1 c.2.2.1/\c.2.1+c.2.2.1 < p
theorem aAb{a:Array Keyed}(h0:0 < n)(h:n<=a.size):(a.toList.take n).reverse=[a[n - 1]]++(a.toList.take (n - 1)).reverse:=by
 obtain⟨k,rfl⟩:∃k,n=k+1:=⟨n - 1,by lia⟩
 rw[List.take_succ_eq_append_getElem (by simp;lia),aHA,aES];rfl
theorem wG{a:Array Keyed}{t:Nat}(ht:t<=n):(a.toList.take n).reverse=(a.extract t n).reverse.toList++(a.toList.take t).reverse:=by
 rw[aFM,<- aHA];congr 1;simp only[aDY,aDQ];obtain⟨k,rfl⟩:∃k,n=t+k:=⟨n - t,by lia⟩
 rw[aHT,List.take_add]
theorem vV{a:Array Keyed}:(a.extract 0 n).toList=a.toList.take n:=by simp[aDY]
variable{x:Keyed}
theorem uM{a:Array Keyed}{t:Nat}(hn:n<=a.size)(h:x∈(a.extract t n).reverse.toList):∃j,∃hj:j < a.size,t<=j/\j < n/\x=a[j]:=by
 rw[aFM,List.mem_reverse]at h;obtain⟨j,hj,e⟩:=aCK.mp h;simp at hj;refine⟨t+j,by lia,by lia,by lia,?_⟩;rw[<- e];simp
theorem bS{a:Array Keyed}(h:x∈(a.toList.take n).reverse):∃j,∃hj:j < a.size,j < n/\x=a[j]:=by
 rw[List.mem_reverse]at h;obtain⟨j,hj,e⟩:=aCK.mp h;simp at hj;refine⟨j,by lia,by lia,?_⟩;rw[<- e];simp
variable{out:Array Keyed}{nb:Nat}
theorem nO(h:na=0\/nb=0)(m:MH ky a b out na nb):Done ky (a.toList++b.toList) (DN a b out na nb).toList:=by
 have:=(m.doneb (by rcases h with rfl|rfl <;> simp)).rev;simp only[aHA,aIQ]at this;simpa only[aDB,vV,aFM,aDE]using this
theorem rR(T:Two ky S a b)(h:nb=1)(m:MH ky a b out na nb):Done ky (a.toList++b.toList) (FB a b out na nb).toList:=by
 have:=(m.done (by
  intro x hx y hy;obtain⟨j,hj,h1,rfl⟩:=bS hx;obtain⟨i,hi,h2,rfl⟩:=bS hy;have e:i=0:=by lia
  subst e;have:=bJ T.sa T.a0 hj (aCE j);have:=T.first
  lia)).rev
 simp only[aHA,aIQ]at this;simpa only[aDB,vV,aFM,aDE]using this
theorem MH.a1{nb:Nat}(h0:0 < na)(h:na<=a.size)(m:MH ky a b out na nb)(hle:∀y∈(b.toList.take nb).reverse,ky y<=ky a[na - 1]):MH ky a b (out.push a[na - 1]) (na - 1) nb:=by
 unfold MH at m ⊢;rw[aAb h0 h]at m;have:=m.a (by intro x hx y hy;rw[aBP.mp hx];have:=hle y hy;first|lia|(dsimp only;lia));simpa using this
theorem MH.b1{na:Nat}(h0:0 < nb)(h:nb<=b.size)(m:MH ky a b out na nb)(hle:∀y∈(a.toList.take na).reverse,ky y<=ky b[nb - 1]):MH ky a b (out.push b[nb - 1]) na (nb - 1):=by
 unfold MH at m ⊢;rw[aAb h0 h]at m;have:=m.b (by intro x hx y hy;rw[aBP.mp hx];have:=hle y hy;first|lia|(dsimp only;lia));simpa using this
theorem MH.ak{na nb t:Nat}(ht:t<=na)(m:MH ky a b out na nb)(hle:∀x∈(a.extract t na).reverse.toList,∀y∈(b.toList.take nb).reverse,ky y<=ky x):MH ky a b (out++(a.extract t na).reverse) t nb:=by
 unfold MH at m ⊢;rw[wG ht]at m;rw[aDB];exact m.a λx hx y hy=>by have:=hle x hx y hy;first|lia|(dsimp only;lia)
theorem MH.bk{na nb t:Nat}(ht:t<=nb)(m:MH ky a b out na nb)(hle:∀x∈(b.extract t nb).reverse.toList,∀y∈(a.toList.take na).reverse,ky y<=ky x):MH ky a b (out++(b.extract t nb).reverse) na t:=by
 unfold MH at m ⊢;rw[wG (a:=b) ht]at m;rw[aDB];exact m.b λx hx y hy=>by have:=hle x hx y hy;first|lia|(dsimp only;lia)
variable{mg p:Nat}{st:SortSt}
theorem zM{nb k k1:Nat}(hs:Same st0 st)(ha:0 < na)(hal:na<=a.size)(hb:1 < nb)(hbl:nb<=b.size)(m:MH ky a b out na nb)
  (hle:∀y∈(b.toList.take nb).reverse,ky y<=ky a[na - 1])(hp:na+nb<=p):wpS M A E s (hi3 a b out na nb mg k k1) (Rh ky a b st0 p) st:=by
 unfold hi3;refine aAJ (aT (by lia) ?_);have m1:=m.a1 ha hal hle;split
 ·rename_i h
  exact aAN ⟨hs,.inl ⟨_,rfl,nO (.inl (by simpa using h)) m1⟩⟩
 ·rename_i h
  have hi:0 < na - 1:=by simp at h;lia
  split
  ·exact aAN ⟨hs,.inr ⟨rfl,⟨hi,by first|lia|(dsimp only;lia),hb,hbl,m1⟩,by first|lia|(dsimp only;lia)⟩⟩
  ·exact aAN ⟨hs,rfl,⟨hi,by first|lia|(dsimp only;lia),hb,hbl,m1⟩,by first|lia|(dsimp only;lia)⟩
theorem aAt(W:Ask M A E s κ ky S)(T:Two ky S a b){na k bc:Nat}(hk:kindOf st0=κ)(hs:Same st0 st)(ha:0 < na)(hal:na<=a.size)(hb:1 < nb)(hbl:nb<=b.size)(m:MH ky a b out na nb)
  (hle:∀y∈(a.toList.take na).reverse,ky y<=ky b[nb - 1])(hp:na+nb<=p):wpS M A E s (hi2 a b out na nb mg k bc) (Rh ky a b st0 p) st:=by
 unfold hi2;refine aAJ (aT (by lia) ?_);have m1:=m.b1 (by lia) hbl hle;split
 ·rename_i h
  exact aAN ⟨hs,.inl ⟨_,rfl,rR T (by simpa using h) m1⟩⟩
 ·rename_i h
  have hi:1 < nb - 1:=by simp at h;lia
  refine aAJ (aT (by lia) ?_);refine aAJ (cD W (hs.k.trans hk) (T.ina _ (by simp)) (by lia) (by lia) (λi h _ _=>T.inb _ (by simp)) (λi j hi hj _ hij _=>bJ T.sb hi hj hij) λt ht g1 g2=>?_);have more:∀x∈(b.extract t (nb - 1)).reverse.toList,∀y∈(a.toList.take na).reverse,ky y<=ky x:=by
   intro x hx y hy;obtain⟨j,hj,h1,h2,rfl⟩:=uM (by lia) hx;obtain⟨i,hi,h3,rfl⟩:=bS hy;have:=g2 j hj (by lia) (by lia);have:=bJ T.sa (i:=i) (j:=na - 1) (by lia) (by lia) (by lia);simp[by']at *;lia
  have less:∀y∈(b.toList.take t).reverse,ky y<=ky a[na - 1]:=by
   intro y hy;obtain⟨j,hj,h1,rfl⟩:=bS hy;have:=g1 j hj (by lia) (by lia);simp[by']at this;lia
  have m2:=m1.bk ht more;dsimp only;split
  ·split
   ·rename_i h1
    exact aAN ⟨hs,.inl ⟨_,rfl,rR T (by simpa using h1) m2⟩⟩
   ·split
    ·rename_i h1
     exact aAN ⟨hs,.inl ⟨_,rfl,nO (.inr (by simpa using h1)) m2⟩⟩
    ·rename_i h1 h2
     exact zM hs ha hal (by simp at h1 h2;lia) (by lia) m2 less (by lia)
  ·have:t=nb - 1:=by lia
   subst this;exact zM hs ha hal hi (by lia) m1 less (by lia)
theorem aBe(W:Ask M A E s κ ky S)(T:Two ky S a b){ac bc:Nat}(hk:kindOf st0=κ)(hs:Same st0 st)(L:LH ky a b out na nb)(hp:na+nb<=p):wpS M A E s (hi1 a b out na nb mg ac bc) (Rh ky a b st0 p) st:=by
 obtain⟨ha,hal,hb,hbl,m⟩:=L;unfold hi1;refine aAJ (aFL ?_);refine aAJ (aT (by lia) ?_);have hs:=hs.gal mg;refine aAJ (cD W (hs.k.trans hk) (T.inb _ (by simp)) (by lia) (by lia) (λi h _ _=>T.ina _ (by simp)) (λi j hi hj _ hij _=>bJ T.sa hi hj hij) λt ht g1 g2=>?_);have more:∀x∈(a.extract t na).reverse.toList,∀y∈(b.toList.take nb).reverse,ky y<=ky x:=by
  intro x hx y hy;obtain⟨j,hj,h1,h2,rfl⟩:=uM (by lia) hx;obtain⟨i,hi,h3,rfl⟩:=bS hy;have:=g2 j hj (by lia) (by lia);have:=bJ T.sb (i:=i) (j:=nb - 1) (by lia) (by lia) (by lia);simp[by']at *;lia
 have less:∀y∈(a.toList.take t).reverse,ky y<=ky b[nb - 1]:=by
  intro y hy;obtain⟨j,hj,h1,rfl⟩:=bS hy;have:=g1 j hj (by lia) (by lia);simp[by']at this;lia
 have m2:=m.ak ht more;dsimp only;split
 ·split
  ·rename_i h1
   exact aAN ⟨hs,.inl ⟨_,rfl,nO (.inl (by simpa using h1)) m2⟩⟩
  ·rename_i h1
   exact aAt W T hk hs (by simp at h1;lia) (by lia) hb hbl m2 less (by lia)
 ·have:t=na:=by lia
  subst this;exact aAt W T hk hs ha hal hb hbl m less (by lia)
theorem aJr(W:Ask M A E s κ ky S)(T:Two ky S a b){c:RH7}(hk:kindOf st0=κ)(hs:Same st0 st)(L:LH ky a b c.2.2.2.1 c.2.1 c.2.2.1)(hp:c.2.1+c.2.2.1<=p):wpS M A E s (hi4 a b c) (Rh ky a b st0 p) st:=by
 unfold hi4;split
 ·exact aBe W T hk hs L hp
 ·exact aBe W T hk hs L hp
theorem aJo(W:Ask M A E s κ ky S)(T:Two ky S a b){c:RH6}(hk:kindOf st0=κ)(hs:Same st0 st)(L:LH ky a b c.2.2.2.1 c.2.1 c.2.2.1)(hp:c.2.1+c.2.2.1<=p):wpS M A E s (hi5 a b mg c) (Rh6 ky a b st0 p) st:=by
 obtain⟨r,na,nb,out,ac,bc⟩:=c;obtain⟨ha,hal,hb,hbl,m⟩:=L;unfold hi5;dsimp only at *;refine aAJ (aT (by lia) (aAJ (aT (by lia) (aAJ (W.lt _ _ _ _ (hs.k.trans hk) (T.inb _ (by simp)) (T.ina _ (by simp)) ?_)))));by_cases hl:ky (b[nb - 1]'(by lia)) < ky (a[na - 1]'(by lia))
 ·simp only[hl,aFO,aBM]
  refine aAJ (aT (by lia) ?_);have m1:=m.a1 ha hal λy hy=>by
   obtain⟨j,hj,h1,rfl⟩:=bS hy;have:=bJ T.sb (i:=j) (j:=nb - 1) hj (by lia) (by lia);lia
  split
  ·rename_i h
   exact aAN ⟨hs,.inl ⟨_,rfl,nO (.inl (by simpa using h)) m1⟩⟩
  ·rename_i h
   have hi:0 < na - 1:=by simp at h;lia
   split
   ·exact aAN ⟨hs,.inr ⟨rfl,⟨hi,by first|lia|(dsimp only;lia),hb,hbl,m1⟩,by first|lia|(dsimp only;lia)⟩⟩
   ·exact aAN ⟨hs,rfl,⟨hi,by first|lia|(dsimp only;lia),hb,hbl,m1⟩,by first|lia|(dsimp only;lia)⟩
 ·simp only[hl,aFR,aAT,aBW]
  refine aAJ (aT (by lia) ?_);have m1:=m.b1 (by lia) hbl λy hy=>by
   obtain⟨j,hj,h1,rfl⟩:=bS hy;have:=bJ T.sa (i:=j) (j:=na - 1) hj (by lia) (by lia);lia
  split
  ·rename_i h
   exact aAN ⟨hs,.inl ⟨_,rfl,rR T (by simpa using h) m1⟩⟩
  ·rename_i h
   have hi:1 < nb - 1:=by simp at h;lia
   split
   ·exact aAN ⟨hs,.inr ⟨rfl,⟨ha,hal,hi,by first|lia|(dsimp only;lia),m1⟩,by first|lia|(dsimp only;lia)⟩⟩
   ·exact aAN ⟨hs,rfl,⟨ha,hal,hi,by first|lia|(dsimp only;lia),m1⟩,by first|lia|(dsimp only;lia)⟩
theorem Two.startH(T:Two ky S a b):MH ky a b #[a[a.size - 1]'(Nat.sub_lt T.a0 Nat.one_pos)] (a.size - 1) b.size:=by
 have h0:=T.a0;have m:MH ky a b #[] a.size b.size:=by
  unfold MH;rw[aCJ (by simp),aCJ (by simp)];refine⟨(List.Perm.append (aGF _) (aGF _)),.nil,?_,?_,by simp,by simp⟩
  ·exact aGN.mpr (T.sa.imp λz=>by first|lia|(dsimp only;lia))
  ·exact aGN.mpr (T.sb.imp λz=>by first|lia|(dsimp only;lia))
 have:=m.a1 h0 (aAD _) λy hy=>T.last y (aCZ (List.mem_reverse.mp hy))
 simpa using this
theorem uW(W:Ask M A E s κ ky S)(T:Two ky S a b){Q:Array Keyed->SortSt->Prop}(hk:kindOf st=κ)
  (q:∀res st',Same st st'->Done ky (a.toList++b.toList) res.toList->Q res st'):wpS M A E s (mergeHi' a b) Q st:=by
 have A0:=T.a0;have B0:=T.b0;rw[wM];refine aAJ (aJK (aCM ⟨rfl,?_⟩));refine aAJ (aT (by lia) ?_);dsimp only;have m0:=T.startH;by_cases ha:a.size - 1=0
 ·rw[aAG (by simpa using ha)]
  exact aAN (q _ _ (.refl _) (nO (.inl ha) m0))
 rw[aAH (by simpa using ha)];by_cases hb:b.size=1
 ·rw[aAG (by simpa using hb)]
  exact aAN (q _ _ (.refl _) (rR T hb m0))
 rw[aAH (by simpa using hb)];refine aAJ (aHP ?_);have dec:∀{out:Array Keyed} {na nb:Nat},LH ky a b out na nb->2<=na+nb:=λL=>by have:=L.ha;have:=L.hb;lia
 refine aAJ (aDW (aCT (I:=λx c st'=>Same st st'/\c.1=none/\LH ky a b c.2.2.2.1 c.2.1 c.2.2.1/\c.2.1+c.2.2.1+x<=a.size+b.size)
  (Q:=λc st'=>Same st st'/\∃res,c.1=some res/\Done ky (a.toList++b.toList) res.toList) ?step ?fin ⟨.refl _,rfl,⟨by first|lia|(dsimp only;lia),by first|lia|(dsimp only;lia),by first|lia|(dsimp only;lia),by first|lia|(dsimp only;lia),m0⟩,by first|lia|(dsimp only;lia)⟩) ?post)
 case fin =>
  rintro c st' ⟨h1,h2,h3,h4⟩;have:=dec h3;lia
 case post =>
  rintro c st' ⟨h1,res,h2,h3⟩;rw[h2];exact aAN (q _ _ h1 h3)
 case step =>
  rintro x c st1 _ hx ⟨h1,h2,h3,h4⟩;refine aAJ (aDW (aCT (I:=λy c st'=>Same st st'/\c.1=none/\LH ky a b c.2.2.2.1 c.2.1 c.2.2.1/\c.2.1+c.2.2.1+(x+y)<=a.size+b.size)
   (Q:=λc st'=>Same st st'/\((∃res,c.1=some res/\Done ky (a.toList++b.toList) res.toList)\/(c.1=none/\LH ky a b c.2.2.2.1 c.2.1 c.2.2.1/\c.2.1+c.2.2.1+x < a.size+b.size))) ?step ?fin ⟨h1,rfl,h3,h4⟩) ?post)
  case fin =>
   rintro c st' ⟨h1,h2,h3,h4⟩;have:=dec h3;lia
  case step =>
   rintro y c st' _ hy ⟨h1,h2,h3,h4⟩;refine aDW (aJo (mg:=_) W T hk h1 h3 (aAD _)) ?_;rintro(c|c) st2 h
   ·rcases h with⟨g1,g2|⟨g2,g3,g4⟩⟩
    ·exact⟨g1,.inl g2⟩
    ·exact⟨g1,.inr ⟨g2,g3,by lia⟩⟩
   ·exact⟨h.1,h.2.1,h.2.2.1,by have:=h.2.2.2;lia⟩
  case post =>
   rintro c st' ⟨g1,⟨res,g2,g3⟩|⟨g2,g3,g4⟩⟩
   ·rw[g2]
    exact aAN ⟨g1,res,rfl,g3⟩
   rw[g2];refine aAJ (aJK (aCM ⟨rfl,?_⟩));refine aAJ (aDW (aCT (I:=λy c st'=>Same st st'/\c.1=none/\LH ky a b c.2.2.2.1 c.2.1 c.2.2.1/\c.2.1+c.2.2.1+(x+1+y)<=a.size+b.size)
    (Q:=λc st'=>Same st st'/\((∃res,c.1=some res/\Done ky (a.toList++b.toList) res.toList)\/(c.1=none/\LH ky a b c.2.2.2.1 c.2.1 c.2.2.1/\c.2.1+c.2.2.1+x < a.size+b.size))) ?step ?fin ⟨g1,rfl,g3,by first|lia|(dsimp only;lia)⟩) ?post)
   case fin =>
    rintro c st' ⟨h1,h2,h3,h4⟩;have:=dec h3;lia
   case step =>
    rintro y c st' _ hy ⟨h1,h2,h3,h4⟩;refine aDW (aJr W T hk h1 h3 (aAD _)) ?_;rintro(c|c) st2 h
    ·rcases h with⟨g1,g2|⟨g2,g3,g4⟩⟩
     ·exact⟨g1,.inl g2⟩
     ·exact⟨g1,.inr ⟨g2,g3,by lia⟩⟩
    ·exact⟨h.1,h.2.1,h.2.2.1,by have:=h.2.2.2;lia⟩
   case post =>
    rintro c st' ⟨g1,⟨res,g2,g3⟩|⟨g2,g3,g4⟩⟩
    ·rw[g2]
     exact aAN ⟨g1,res,rfl,g3⟩
    rw[g2];refine aAJ (aFL (aAN ⟨g1.gal _,rfl,g3,?_⟩));dsimp only;lia
end
section
variable{M:Model}{E:Value->Shared->Prop}{a b:Array Keyed}
def K'(ky:Keyed->Int)(xs:Array Keyed)(i:Nat):Int:=match xs[i]? with|some p=>ky p|none=>0
variable{xs:Array Keyed}
theorem dD(h:i < xs.size):K' ky xs i=ky xs[i]:=by unfold K';rw[getElem?_pos xs i h]
theorem bT{ys:Array Keyed}(h:xs[i]?=ys[j]?):K' ky xs i=K' ky ys j:=by unfold K';rw[h]
def SG(ky:Keyed->Int)(xs:Array Keyed)(l h:Nat):Prop:=∀i j,l<=i->i<=j->j < h->K' ky xs i<=K' ky xs j
theorem SG.get{xs:Array Keyed}{l h i j:Nat}(g:SG ky xs l h)(hi:i < xs.size)(hj:j < xs.size)(h1:l<=i)(h2:i<=j)(h3:j < h):ky xs[i]<=ky xs[j]:=by
 have:=g i j h1 h2 h3;rwa[dD hi,dD hj]at this
variable{l h:Nat}
theorem SG.list(g:SG ky xs l h)(hz:h<=xs.size):(xs.extract l h).toList.Pairwise λx y=>ky x<=ky y:=by
 refine aBD.mpr λi j hi hj hij=>?_
 simp at hi hj;have:=g.get (i:=l+i) (j:=l+j) (by lia) (by lia) (by lia) (by lia) (by lia);simpa using this
theorem SG.of_list(hz:h<=xs.size)(g:(xs.extract l h).toList.Pairwise λx y=>ky x<=ky y):SG ky xs l h:=by
 intro i j h1 h2 h3;rw[dD (by lia),dD (by lia)];rcases Nat.lt_or_ge i j with h4|h4
 ·have:=aBD.mp g (i - l) (j - l) (by simp;lia) (by simp;lia) (by lia)
  simpa[show l+(i - l)=i by lia,show l+(j - l)=j by lia]using this
 ·have:i=j:=by lia
  subst this;exact aEM _
theorem SG.congr{ys:Array Keyed}(g:SG ky xs l h)(e:∀k,l<=k->k < h->ys[k]?=xs[k]?):SG ky ys l h:=λi j h1 h2 h3=>by
 rw[bT (e i h1 (by lia)),bT (e j (by lia) h3)];exact g i j h1 h2 h3
def wb(xs:Array Keyed)(t n:Nat)(l:List Keyed):Array Keyed:=(l.zipIdx n).foldl (λa (p,j)=>a.setIfInBounds (t+j) p) xs
variable{t:Nat}{l:List Keyed}
theorem aBa{p:Keyed}:wb xs t n (p::l)=wb (xs.setIfInBounds (t+n) p) t (n+1) l:=rfl
theorem aAs:∀(l:List Keyed) (xs:Array Keyed) (t n:Nat),(wb xs t n l).size=xs.size
 |[],xs,t,n=>rfl|p::l,xs,t,n=>by rw[aBa,aAs l];simp
theorem xV:∀(l:List Keyed) (xs:Array Keyed) (t n:Nat),t+n+l.length<=xs.size->∀k,(wb xs t n l)[k]?=if t+n<=k/\k < t+n+l.length then l[k - (t+n)]? else xs[k]?
 |[],xs,t,n,h,k=>by
  show xs[k]?=_;rw[aAH (by simp only[aEQ];lia)]
 |p::l,xs,t,n,h,k=>by
  simp only[aBV]at h;rw[aBa,xV l _ t (n+1) (by simp;lia) k];by_cases h1:k=t+n
  ·subst h1
   rw[aAH (by lia),aAG (by simp),aGL,aAG rfl,aAG (by lia),aGM];rfl
  ·by_cases h2:t+(n+1)<=k/\k < t+(n+1)+l.length
   ·rw[aAG h2,aAG (by simp;lia)]
    obtain⟨j,hj⟩:∃j,k - (t+n)=j+1:=⟨k - (t+n) - 1,by lia⟩
    rw[hj,List.getElem?_cons_succ];congr 1;lia
   ·rw[aAH h2,aAH (by simp;lia)]
    rw[aGL];rw[aAH (by lia)]
theorem aKa(h:t+l.length<=xs.size):(wb xs t 0 l).toList=xs.toList.take t++l++xs.toList.drop (t+l.length):=by
 refine aJW λk=>?_
 rw[aGP,xV l xs t 0 (by lia)];by_cases h1:k < t
 ·rw[aAH (by lia),aDE,aAW (by simp;lia),aHG h1,aGP]
 ·by_cases h2:k < t+l.length
  ·rw[aAG (by lia),aDE,aBU (by simp;lia),aAW (by simp;lia)]
   congr 1;simp;lia
  ·rw[aAH (by lia),aBU (by simp;lia),List.getElem?_drop,aGP]
   congr 1;simp;lia
theorem cut3{l:Nat}(h1:l<=h):xs.toList=xs.toList.take l++(xs.extract l h).toList++xs.toList.drop h:=by
 simp only[aDY,aDQ];obtain⟨k,rfl⟩:∃k,h=l+k:=⟨h - l,by lia⟩
 rw[aHT,<- List.take_add,aGO]
theorem yC(i:Nat):mergeAt' i=(do
 let s <- get
 let(some (sa,na,power),some (sb,nb,_)):=((pendingOf s)[i]?,(pendingOf s)[i+1]?)|unsupported "internal:list.sort.pending"
 set (setPending s (((pendingOf s).setIfInBounds i (sa,na+nb,power)).eraseIdxIfInBounds (i+1)))
 let some k <- gallop' false (<- elem' (arrOf s) sb) (arrOf s) sa na 0|return false
 let(sa,na):=(sa+k,na - k)
 if na==0 then return true
 let some nb <- gallop' true (<- elem' (arrOf s) (sa+na - 1)) (arrOf s) sb nb (nb - 1)|return false
 if nb==0 then return true
 let x:=(arrOf s).extract sa sb
 let y:=(arrOf s).extract sb (sb+nb)
 let merged <- if na<=nb then mergeLo' x y else mergeHi' x y
 modify λs=>setArr s (merged.toList.zipIdx.foldl (λa (p,j)=>a.setIfInBounds (sa+j) p) (arrOf s))
 return(failedOf (<- get)).isNone):=rfl
theorem aKh{u v:List (Nat×Nat×Nat)}{x y z:Nat×Nat×Nat}(h:i=u.length) :
  (((u++x::y::v).toArray.setIfInBounds i z).eraseIdxIfInBounds (i+1))=(u++z::v).toArray:=by
 subst h;apply Array.ext';rw[Array.eraseIdxIfInBounds,dif_pos (by simp),Array.toList_eraseIdx,Array.toList_setIfInBounds];simp[List.eraseIdx_append_of_length_le]
theorem aJj{st st':SortSt}{Q:PUnit->SortSt->Prop}(h:Q ⟨⟩ st'):wpS M A E s (set st':StateT SortSt Sem PUnit) Q st:=by
 unfold wpS;rw[StateT.run_set];exact aAC ⟨rfl,h⟩
theorem tS(W:Ask M A E s κ ky S){st:SortSt}{Q:Bool->SortSt->Prop}{u v:List (Nat×Nat×Nat)}{sa pw sb nb pq:Nat}(hi:i=u.length)(hk:kindOf st=κ)(hf:failedOf st=none)(hS:∀x∈(arrOf st).toList,S x)
  (hp:pendingOf st=(u++(sa,na,pw)::(sb,nb,pq)::v).toArray)(h1:sb=sa+na)(h2:0 < na)(h3:0 < nb)(h4:sb+nb<=(arrOf st).size)(g1:SG ky (arrOf st) sa sb)(g2:SG ky (arrOf st) sb (sb+nb))
  (q:∀st',kindOf st'=κ->failedOf st'=none->(arrOf st').Perm (arrOf st)->pendingOf st'=(u++(sa,na+nb,pw)::v).toArray->SG ky (arrOf st') sa (sb+nb)->(∀k,k < sa\/sb+nb<=k->(arrOf st')[k]?=(arrOf st)[k]?)->Q true st') :
  wpS M A E s (mergeAt' i) Q st:=by
 rw[yC];refine aAJ (aHP ?_);have e1:(pendingOf st)[i]?=some (sa,na,pw):=by rw[hp,hi];simp
 have e2:(pendingOf st)[i+1]?=some (sb,nb,pq):=by rw[hp,hi];simp
 rw[e1,e2];dsimp only;rw[hp,aKh hi];generalize hst:setPending st (u++(sa,na+nb,pw)::v).toArray=st1;have hk1:kindOf st1=κ:=by rw[<- hst];exact hk
 have hf1:failedOf st1=none:=by rw[<- hst];exact hf
 have hp1:pendingOf st1=(u++(sa,na+nb,pw)::v).toArray:=by rw[<- hst]
 have ha1:arrOf st1=arrOf st:=by rw[<- hst]
 refine aAJ (aJj ?_);have inS:∀i (h:i < (arrOf st).size),S (arrOf st)[i]:=λi h=>hS _ (by simp)
 subst h1;clear hst;generalize arrOf st=xs at *;refine aAJ (aT (by lia) ?_);refine aAJ (cD W hk1 (inS _ _) h2 (by lia) (λi h _ _=>inS i h) (λi j hi hj b1 b2 b3=>g1.get hi hj b1 b2 b3) λk hk f1 f2=>?_);dsimp only;by_cases z1:na - k=0
 ·rw[aAG (by simpa using z1)]
  refine aAN (q st1 hk1 hf1 (by rw[ha1]) hp1 ?_ λk _=>by rw[ha1]);rw[ha1];intro i j b1 b2 b3;by_cases c1:j < sa+na
  ·exact g1 i j b1 b2 c1
  ·by_cases c2:i < sa+na
   ·have a1:=g2 (sa+na) j (by lia) (by lia) b3
    have a2:=f1 i (by lia) b1 (by lia);rw[dD (show sa+na < xs.size by lia)]at a1;rw[dD (show i < xs.size by lia)];simp[by']at a2;lia
   ·exact g2 i j (by lia) b2 b3
 rw[aAH (by simpa using z1)];have hkl:k < na:=by lia
 have e3:sa+k+(na - k) - 1=sa+na - 1:=by lia
 rw[e3];refine aAJ (aT (by lia) ?_);refine aAJ (cD W hk1 (inS _ _) (by lia) (by lia) (λi h _ _=>inS i h) (λi j hi hj b1 b2 b3=>g2.get hi hj b1 b2 b3) λt ht f3 f4=>?_);dsimp only;by_cases z2:t=0
 ·rw[aAG (by simpa using z2)]
  refine aAN (q st1 hk1 hf1 (by rw[ha1]) hp1 ?_ λk _=>by rw[ha1]);rw[ha1];intro i j b1 b2 b3;by_cases c1:j < sa+na
  ·exact g1 i j b1 b2 c1
  ·by_cases c2:i < sa+na
   ·have a1:=g1 i (sa+na - 1) (by lia) (by lia) (by lia)
    have a2:=f4 j (by lia) (by lia) (by lia);rw[dD (show sa+na - 1 < xs.size by lia)]at a1;rw[dD (show j < xs.size by lia)];simp[by']at a2;lia
   ·exact g2 i j (by lia) b2 b3
 rw[aAH (by simpa using z2)];have T:Two ky S (xs.extract (sa+k) (sa+na)) (xs.extract (sa+na) (sa+na+t)):=by
  refine⟨by simp;lia,by simp;lia,SG.list (λi j b1 b2 b3=>g1 i j (by lia) b2 b3) (by lia),SG.list (λi j b1 b2 b3=>g2 i j (by lia) b2 (by lia)) (by lia),?_,?_,?_,?_⟩
  ·have:=f2 (sa+k) (by lia) (by lia) (by lia)
   simp[by']at this ⊢;lia
  ·intro y hy
   obtain⟨j,hj,b1,b2,rfl⟩:=gD (by lia) hy;have:=f3 j hj b1 b2;have e:sa+k+(min (sa+na) xs.size - (sa+k) - 1)=sa+na - 1:=by lia
   simp[by',e]at this ⊢;lia
  ·intro x hx
   have hx:x∈(xs.extract (sa+k) (sa+k+(na - k))).toList:=by rwa[show sa+k+(na - k)=sa+na by lia]
   obtain⟨j,hj,b1,b2,rfl⟩:=gD (by lia) hx;exact inS _ _
  ·intro x hx
   obtain⟨j,hj,b1,b2,rfl⟩:=gD (by lia) hx;exact inS _ _
 have fin:∀(res:Array Keyed) (st':SortSt),Same st1 st'->Done ky ((xs.extract (sa+k) (sa+na)).toList++(xs.extract (sa+na) (sa+na+t)).toList) res.toList ->
   wpS M A E s (do
    modify λs=>setArr s (res.toList.zipIdx.foldl (λa (p,j)=>a.setIfInBounds (sa+k+j) p) (arrOf s))
    let s <- get
    pure (failedOf s).isNone) Q st':=by
  intro res st' sm D;have hlen:res.toList.length=na - k+t:=by have:=D.1.length_eq;simp at this ⊢;lia
  have hxy:(xs.extract (sa+k) (sa+na)).toList++(xs.extract (sa+na) (sa+na+t)).toList=(xs.extract (sa+k) (sa+na+t)).toList:=by
   simp only[aDY,aDQ];rw[show sa+na+t - (sa+k)=(na - k)+t by lia,List.take_add,aJI,show sa+na - (sa+k)=na - k by lia,show sa+k+(na - k)=sa+na by lia,show sa+na+t - (sa+na)=t by lia]
  refine aAJ (aFL (aAJ (aHP ?_)));have ea:arrOf st'=xs:=sm.a.trans ha1;show wpS M A E s (pure (failedOf st').isNone) Q (setArr st' (wb (arrOf st') (sa+k) 0 res.toList));rw[sm.f,hf1,ea];have hw:=aKa (l:=res.toList) (xs:=xs) (t:=sa+k) (by lia);have gw:=xV res.toList xs (sa+k) 0 (by lia);refine aAN (q _ (sm.k.trans hk1) (sm.f.trans hf1) ?_ (sm.p.trans hp1) ?_ ?_)
  ·refine aCX.mpr ?_
   show(wb xs (sa+k) 0 res.toList).toList.Perm xs.toList;have P:=List.Perm.append (List.Perm.append (List.Perm.refl (xs.toList.take (sa+k))) D.1) (List.Perm.refl (xs.toList.drop (sa+na+t)));rw[hxy,<- cut3 (by lia)]at P;rw[hw,hlen,show sa+k+(na - k+t)=sa+na+t by lia];exact P
  ·show SG ky (wb xs (sa+k) 0 res.toList) sa (sa+na+nb)
   have mid:∀m,sa+k<=m->m < sa+na+t->∃p,(wb xs (sa+k) 0 res.toList)[m]?=some p/\∃j,∃hj:j < xs.size,sa+k<=j/\j < sa+na+t/\p=xs[j]:=by
    intro m b1 b2;have hm:m - (sa+k) < res.toList.length:=by lia
    refine⟨res.toList[m - (sa+k)],?_,?_⟩
    ·rw[gw,aAG (by lia),show sa+k+0=sa+k from rfl,aAP hm]
    ·have hmem:=D.1.mem_iff.mp (aCQ hm)
     rw[hxy]at hmem;have hmem:res.toList[m - (sa+k)]∈(xs.extract (sa+k) (sa+k+(na - k+t))).toList:=by rwa[show sa+k+(na - k+t)=sa+na+t by lia]
     obtain⟨j,hj,c1,c2,e⟩:=gD (by lia) hmem;exact⟨j,hj,c1,by lia,e⟩
   have low:∀i,sa<=i->i < sa+k->∀j,sa+k<=j->j < sa+na+nb->K' ky xs i<=K' ky xs j:=by
    intro i b1 b2 j b3 b4;by_cases c:j < sa+na
    ·exact g1 i j b1 (by lia) c
    ·have a1:=g2 (sa+na) j (by lia) (by lia) b4
     have a2:=f1 i (by lia) b1 b2;rw[dD (show sa+na < xs.size by lia)]at a1;rw[dD (show i < xs.size by lia)];simp[by']at a2;lia
   have high:∀j,sa+na+t<=j->j < sa+na+nb->∀i,sa<=i->i < sa+na+t->K' ky xs i<=K' ky xs j:=by
    intro j b1 b2 i b3 b4;by_cases c:i < sa+na
    ·have a1:=g1 i (sa+na - 1) (by lia) (by lia) (by lia)
     have a2:=f4 j (by lia) (by lia) (by lia);rw[dD (show sa+na - 1 < xs.size by lia)]at a1;rw[dD (show j < xs.size by lia)];simp[by']at a2;lia
    ·exact g2 i j (by lia) (by lia) b2
   have out:∀m,m < sa+k\/sa+na+t<=m->K' ky (wb xs (sa+k) 0 res.toList) m=K' ky xs m:=λm h=>bT (by rw[gw,aAH (by lia)])
   have midK:∀m,sa+k<=m->m < sa+na+t->∃j,sa+k<=j/\j < sa+na+t/\K' ky (wb xs (sa+k) 0 res.toList) m=K' ky xs j:=by
    intro m b1 b2;obtain⟨p,e1,j,hj,c1,c2,rfl⟩:=mid m b1 b2;exact⟨j,c1,c2,bT (by rw[e1,getElem?_pos xs j hj])⟩
   intro i j b1 b2 b3;by_cases c1:j < sa+k
   ·rw[out i (.inl (by lia)),out j (.inl c1)]
    exact g1 i j b1 b2 (by lia)
   ·by_cases c2:sa+na+t<=j
    ·rw[out j (.inr c2)]
     by_cases c3:sa+na+t<=i
     ·rw[out i (.inr c3)]
      exact g2 i j (by lia) b2 b3
     ·by_cases c4:i < sa+k
      ·rw[out i (.inl c4)]
       exact high j c2 b3 i b1 (by lia)
      ·obtain⟨i',d1,d2,e⟩:=midK i (by lia) (by lia)
       rw[e];exact high j c2 b3 i' (by lia) d2
    ·by_cases c4:i < sa+k
     ·rw[out i (.inl c4)]
      obtain⟨j',d1,d2,e⟩:=midK j (by lia) (by lia);rw[e];exact low i b1 c4 j' d1 (by lia)
     ·refine SG.of_list (l:=sa+k) (h:=sa+na+t) (by rw[aAs];lia) ?_ i j (by lia) b2 (by lia)
      have:((wb xs (sa+k) 0 res.toList).extract (sa+k) (sa+na+t)).toList=res.toList:=by
       simp only[aDY,aDQ,hw];rw[aDE,List.drop_append_of_le_length (by simp;lia),aIC (by simp;lia),aFG,List.take_append_of_le_length (by lia),aCJ (by lia)]
      rw[this];exact D.2
  ·intro m h
   show(wb xs (sa+k) 0 res.toList)[m]?=xs[m]?;rw[gw,aAH (by lia)]
 by_cases z3:na - k<=t
 ·rw[aAG z3]
  exact aAJ (uP W T hk1 λres st' sm D=>fin res st' sm D)
 ·rw[aAH z3]
  exact aAJ (uW W T hk1 λres st' sm D=>fin res st' sm D)
end
structure RS(κ:SortKind)(lo hi:Nat)(st0 st:SortSt):Prop where
 k:kindOf st=κ
 f:failedOf st=none
 pm:(arrOf st).Perm (arrOf st0)
 pd:pendingOf st=pendingOf st0
 out:∀k,k < lo\/hi<=k->(arrOf st)[k]?=(arrOf st0)[k]?
variable{M:Model}{E:Value->Shared->Prop}{st:SortSt}{lo hi nrem:Nat}
theorem RS.sz(R:RS κ lo hi st0 st):(arrOf st).size=(arrOf st0).size:=R.pm.size_eq
theorem RS.refl(hk:kindOf st=κ)(hf:failedOf st=none):RS κ lo hi st st:=⟨hk,hf,Array.Perm.refl _,rfl,λ_ _=>rfl⟩
theorem iT(W:Ask M A E s κ ky S)(hS:∀x∈(arrOf st0).toList,S x)(R:RS κ lo hi st0 st){Q:Option Bool->SortSt->Prop}(h1:i < (arrOf st0).size)(h2:j < (arrOf st0).size)(q:Q (some (decide (K' ky (arrOf st) i < K' ky (arrOf st) j))) st) :
  wpS M A E s (ltAt' i j) Q st:=by
 have l1:i < (arrOf st).size:=by rw[R.sz];exact h1
 have l2:j < (arrOf st).size:=by rw[R.sz];exact h2
 have inS:∀i (h:i < (arrOf st).size),S (arrOf st)[i]:=λi h=>hS _ ((aCX.mp R.pm).mem_iff.mp (by simp))
 rw[ltAt'_eq];refine aAJ (aHP (aAJ (aT l1 (aAJ (aT l2 (W.lt _ _ _ _ R.k (inS _ _) (inS _ _) ?_))))));rwa[dD l1,dD l2]at q
variable{xs:Array Keyed}
theorem kW(hj:j<=xs.size)(k:Nat):K' ky (mirror xs i j ((j - i) / 2)) k=if i<=k/\k < j then K' ky xs (i+j - 1 - k)else K' ky xs k:=by
 have e:=getElem?_mirror_all (i:=i) hj k;by_cases h1:i<=k/\k < j
 ·rw[aAG h1]at e ⊢;exact bT e
 ·rw[aAH h1]at e ⊢;exact bT e
theorem RS.mir(R:RS κ lo hi st0 st)(h1:lo<=i)(h2:j<=hi)(h3:hi<=(arrOf st0).size):RS κ lo hi st0 (setArr st (mirror (arrOf st) i j ((j - i) / 2))) :=
 ⟨R.k,R.f,(mirror_perm _ _ _ _).trans R.pm,R.pd,λk hk=>by
  show(mirror (arrOf st) i j ((j - i) / 2))[k]?=_;rw[getElem?_mirror_all (by rw[R.sz];lia),aAH (by lia)];exact R.out k hk⟩
theorem RS.bub(R:RS κ lo hi st0 st){src d:Nat}(h1:lo<=src - d)(h2:src < hi)(h3:hi<=(arrOf st0).size)(h4:d<=src):RS κ lo hi st0 (setArr st (bubble (arrOf st) src d)) :=
 ⟨R.k,R.f,(bubble_perm _ _ _).trans R.pm,R.pd,λk hk=>by
  show(bubble (arrOf st) src d)[k]?=_;rw[getElem?_bubble (by rw[R.sz];lia) d h4,aAH (by lia),aAH (by lia)];exact R.out k hk⟩
def NI(ky:Keyed->Int)(xs:Array Keyed)(l h:Nat):Prop:=∀i j,l<=i->i<=j->j < h->K' ky xs j<=K' ky xs i
def ascF(lo a nrem:Nat):StateT SortSt Sem (Option (Option Nat)×Nat) :=
 forIn [a:nrem] ((none,a):Option (Option Nat)×Nat) λ_ c=>do
  let r <- ltAt' (lo+c.2) (lo+c.2 - 1)
  match r with
  |some b=>if b=true then pure (.done (none,c.2))else pure (.yield (none,c.2+1))
  |_=>pure (.done (some none,c.2))
def tailF(lo n nrem:Nat):StateT SortSt Sem (Option Nat):=do
 reverseSlice' lo (lo+n)
 let c <- ascF lo n nrem
 match c.1 with
 |some r=>pure r|none=>pure (some c.2)
def dscF(lo n nrem:Nat):StateT SortSt Sem (Option (Option Nat)×Nat×Nat) :=
 forIn [n:nrem] ((none,n,0):Option (Option Nat)×Nat×Nat) λ_ c=>do
  let r <- ltAt' (lo+c.2.1) (lo+c.2.1 - 1)
  match r with
  |some b =>
   if b=true then
    if c.2.2 > 0 then do
     reverseSlice' (lo+c.2.1 - (c.2.2+1)) (lo+c.2.1)
     pure (.yield (none,c.2.1+1,0))
    else pure (.yield (none,c.2.1+1,0))
   else do
    let r <- ltAt' (lo+c.2.1 - 1) (lo+c.2.1)
    match r with
    |some b=>if b=true then pure (.done (none,c.2.1,c.2.2))else pure (.yield (none,c.2.1+1,c.2.2+1))
    |_=>pure (.done (some none,c.2.1,c.2.2))
  |_=>pure (.done (some none,c.2.1,c.2.2))
def partF(lo n nrem:Nat):StateT SortSt Sem (Option Nat):=do
 liftM (rule "list.sort.descending-run")
 let c <- dscF lo (n+1) nrem
 match c.1 with
 |some r=>pure r|none =>
  if c.2.2 > 0 then do
   reverseSlice' (lo+c.2.1 - (c.2.2+1)) (lo+c.2.1)
   tailF lo c.2.1 nrem
  else tailF lo c.2.1 nrem
theorem mD{Q:Unit->SortSt->Prop}(h:Q () (setArr st (mirror (arrOf st) i j ((j - i) / 2)))):wpS M A E s (reverseSlice' i j) Q st:=by
 rw[reverseSlice'_eq];exact aFL h
theorem tW(W:Ask M A E s κ ky S)(hS:∀x∈(arrOf st0).toList,S x){a:Nat}{Q:Option (Option Nat)×Nat->SortSt->Prop}(R:RS κ lo (lo+nrem) st0 st)(hn:lo+nrem<=(arrOf st0).size)(ha:1<=a)(han:a<=nrem)(g:SG ky (arrOf st) lo (lo+a))
  (q:∀n,a<=n->n<=nrem->SG ky (arrOf st) lo (lo+n)->(n=nrem\/K' ky (arrOf st) (lo+n) < K' ky (arrOf st) (lo+n - 1))->Q (none,n) st):wpS M A E s (ascF lo a nrem) Q st:=by
 unfold ascF;refine aCT (I:=λx c st'=>st'=st/\c=(none,x)/\SG ky (arrOf st) lo (lo+x)) ?step ?fin ⟨rfl,rfl,g⟩
 case fin =>
  rintro c st' ⟨rfl,rfl,g⟩;rw[show max a nrem=nrem by lia]at g ⊢;exact q nrem han (aAD _) g (.inl rfl)
 case step =>
  rintro x c st' hax hxn ⟨rfl,rfl,g⟩;dsimp only;refine aAJ (iT W hS R (by lia) (by lia) ?_);by_cases hl:K' ky (arrOf st') (lo+x) < K' ky (arrOf st') (lo+x - 1)
  ·simp only[hl,aFO,aBM]
   exact aAN (q x hax (by lia) g (.inr hl))
  ·simp only[hl,aFR,aAT,aBW]
   refine aAN ⟨rfl,rfl,λi j h1 h2 h3=>?_⟩;by_cases c1:j < lo+x
   ·exact g i j h1 h2 c1
   ·by_cases c2:i=j
    ·subst c2;exact aEM _
    ·have e:j=lo+x:=by lia
     subst e;have:=g i (lo+x - 1) h1 (by lia) (by lia);lia
theorem qG(W:Ask M A E s κ ky S)(hS:∀x∈(arrOf st0).toList,S x){Q:Option Nat->SortSt->Prop}(R:RS κ lo (lo+nrem) st0 st)(hn:lo+nrem<=(arrOf st0).size)(h1:1<=n)(hnn:n<=nrem)(g:NI ky (arrOf st) lo (lo+n))
  (q:∀m st',RS κ lo (lo+nrem) st0 st'->1<=m->m<=nrem->SG ky (arrOf st') lo (lo+m)->Q (some m) st'):wpS M A E s (tailF lo n nrem) Q st:=by
 unfold tailF;refine aAJ (mD ?_);have R1:=R.mir (i:=lo) (j:=lo+n) (aAD _) (by lia) hn;refine aAJ (tW W hS R1 hn h1 hnn (λi j a1 a2 a3=>?_) λm b1 b2 b3 _=>aAN (q m _ R1 (by lia) b2 b3));show K' ky (mirror (arrOf st) lo (lo+n) _) i<=K' ky (mirror (arrOf st) lo (lo+n) _) j;rw[kW (by rw[R.sz];lia),kW (by rw[R.sz];lia),aAG (by lia),aAG (by lia)];exact g _ _ (by lia) (by lia) (by lia)
theorem fU(hj:j<=xs.size)(he:∀k,i<=k->k < j->K' ky xs k=K' ky xs (j - 1))(k:Nat):K' ky (mirror xs i j ((j - i) / 2)) k=K' ky xs k:=by
 rw[kW hj];split
 ·rw[he _ (by lia) (by lia),he k (by lia) (by lia)]
 ·rfl
theorem aGx(W:Ask M A E s κ ky S)(hS:∀x∈(arrOf st0).toList,S x){Q:Option (Option Nat)×Nat×Nat->SortSt->Prop}(R:RS κ lo (lo+nrem) st0 st)(hn:lo+nrem<=(arrOf st0).size)(h1:1<=n)(hnn:n<=nrem)(g:NI ky (arrOf st) lo (lo+n))
  (q:∀m e st',RS κ lo (lo+nrem) st0 st'->n<=m->m<=nrem->NI ky (arrOf st') lo (lo+m)->e+1<=m->(∀i,lo+m - (e+1)<=i->i < lo+m->K' ky (arrOf st') i=K' ky (arrOf st') (lo+m - 1))->Q (none,m,e) st') :
  wpS M A E s (dscF lo n nrem) Q st:=by
 unfold dscF;refine aCT (I:=λx c st'=>∃e,c=(none,x,e)/\RS κ lo (lo+nrem) st0 st'/\NI ky (arrOf st') lo (lo+x)/\e+1<=x/\(∀i,lo+x - (e+1)<=i->i < lo+x->K' ky (arrOf st') i=K' ky (arrOf st') (lo+x - 1)))
  ?step ?fin ⟨0,rfl,R,g,h1,λi a1 a2=>by congr 1;lia⟩
 case fin =>
  rintro c st' ⟨e,rfl,R',g',he,eq⟩;rw[show max n nrem=nrem by lia]at g' he eq ⊢;exact q nrem e st' R' hnn (aAD _) g' he eq
 case step =>
  rintro x c st' hax hxn ⟨e,rfl,R',g',he,eq⟩;dsimp only;have hz:lo+x<=(arrOf st').size:=by rw[R'.sz];lia
  refine aAJ (iT W hS R' (by lia) (by lia) ?_);by_cases hl:K' ky (arrOf st') (lo+x) < K' ky (arrOf st') (lo+x - 1)
  ·simp only[hl,aFO,aBM]
   have on:∀xs:Array Keyed,(∀k,K' ky xs k=K' ky (arrOf st') k)->NI ky xs lo (lo+(x+1)):=by
    intro xs hk i j a1 a2 a3;rw[hk,hk];by_cases c1:j < lo+x
    ·exact g' i j a1 a2 c1
    ·by_cases c2:i=j
     ·subst c2;exact aEM _
     ·have e:j=lo+x:=by lia
      subst e;have:=g' i (lo+x - 1) a1 (by lia) (by lia);lia
   by_cases h0:e > 0
   ·rw[aAG h0]
    exact aAJ (mD (aAN ⟨0,rfl,R'.mir (by lia) (by lia) hn,on _ (fU hz eq),by lia,λi a1 a2=>by congr 1;lia⟩))
   ·rw[aAH h0]
    exact aAN ⟨0,rfl,R',on _ (λ_=>rfl),by lia,λi a1 a2=>by congr 1;lia⟩
  ·simp only[hl,aFR,aAT,aBW]
   refine aAJ (iT W hS R' (by lia) (by lia) ?_);by_cases hg:K' ky (arrOf st') (lo+x - 1) < K' ky (arrOf st') (lo+x)
   ·simp only[hg,aFO,aBM]
    exact aAN (q x e st' R' hax (by lia) g' he eq)
   ·simp only[hg,aFR,aAT,aBW]
    have ex:K' ky (arrOf st') (lo+x)=K' ky (arrOf st') (lo+x - 1):=by lia
    refine aAN ⟨e+1,rfl,R',λi j a1 a2 a3=>?_,by lia,λi a1 a2=>?_⟩
    ·by_cases c1:j < lo+x
     ·exact g' i j a1 a2 c1
     ·by_cases c2:i=j
      ·subst c2;exact aEM _
      ·have e:j=lo+x:=by lia
       subst e;rw[ex];exact g' i (lo+x - 1) a1 (by lia) (by lia)
    ·rw[show lo+(x+1) - 1=lo+x by lia]
     by_cases c:i=lo+x
     ·subst c;rfl
     ·rw[ex];exact eq i (by lia) (by lia)
variable{Q:Option Nat->SortSt->Prop}
theorem qP(W:Ask M A E s κ ky S)(hS:∀x∈(arrOf st0).toList,S x)(R:RS κ lo (lo+nrem) st0 st)(hn:lo+nrem<=(arrOf st0).size)(hnn:n+1<=nrem)(g:NI ky (arrOf st) lo (lo+(n+1)))
  (q:∀m st',RS κ lo (lo+nrem) st0 st'->1<=m->m<=nrem->SG ky (arrOf st') lo (lo+m)->Q (some m) st'):wpS M A E s (partF lo n nrem) Q st:=by
 unfold partF;refine aAJ (aJK (aCM ⟨rfl,?_⟩));refine aAJ (aGx W hS R hn (by lia) hnn g λm e st' R' m1 m2 g' he eq=>?_);dsimp only;by_cases h0:e > 0
 ·rw[aAG h0]
  refine aAJ (mD (qG W hS (R'.mir (by lia) (by lia) hn) hn (by lia) m2 ?_ q));intro i j a1 a2 a3;show K' ky (mirror (arrOf st') _ _ _) j<=K' ky (mirror (arrOf st') _ _ _) i;have hz:lo+m<=(arrOf st').size:=by rw[R'.sz];lia
  rw[fU hz eq,fU hz eq];exact g' i j a1 a2 a3
 ·rw[aAH h0]
  exact qG W hS R' hn (by lia) m2 g' q
theorem aCl(lo nrem:Nat):countRun' lo nrem=(do
  let c <- ascF lo 1 nrem
  match c.1 with
  |some r=>pure r|none =>
   if(c.2==nrem)=true then pure (some c.2)
   else if c.2 > 1 then do
    let x <- ltAt' lo (lo+c.2 - 1)
    match x with
    |some b=>if b=true then pure (some c.2)else do
      reverseSlice' lo (lo+c.2)
      partF lo c.2 nrem
    |_=>pure none
   else partF lo c.2 nrem):=by
 rw[countRun'_eq];refine aDC λc=>?_
 obtain⟨r,n⟩:=c;cases r with
 |some r=>rfl|none =>
  have tl:∀m,tailF lo m nrem=tailF lo m nrem:=λ_=>rfl
  dsimp only;split
  ·rfl
  ·split
   ·refine aDC λx=>?_
    cases x with
    |none=>rfl|some b =>
     dsimp only;split
     ·rfl
     ·refine aDC λ_=>aDC λ_=>aDC λc=>?_
      obtain⟨r,m,e⟩:=c;cases r with
      |some r=>rfl|none =>
       dsimp only;split
       ·refine aDC λ_=>aDC λ_=>aDC λc=>?_
        obtain⟨r,m⟩:=c;cases r <;> rfl
       ·refine aDC λ_=>aDC λc=>?_
        obtain⟨r,m⟩:=c;cases r <;> rfl
   ·refine aDC λ_=>aDC λc=>?_
    obtain⟨r,m,e⟩:=c;cases r with
    |some r=>rfl|none =>
     dsimp only;split
     ·refine aDC λ_=>aDC λ_=>aDC λc=>?_
      obtain⟨r,m⟩:=c;cases r <;> rfl
     ·refine aDC λ_=>aDC λc=>?_
      obtain⟨r,m⟩:=c;cases r <;> rfl
theorem aCx(W:Ask M A E s κ ky S)(hS:∀x∈(arrOf st0).toList,S x)(R:RS κ lo (lo+nrem) st0 st)(hn:lo+nrem<=(arrOf st0).size)(h1:1<=nrem)
  (q:∀m st',RS κ lo (lo+nrem) st0 st'->1<=m->m<=nrem->SG ky (arrOf st') lo (lo+m)->Q (some m) st'):wpS M A E s (countRun' lo nrem) Q st:=by
 rw[aCl]
 refine aAJ (tW W hS R hn (aAD 1) h1 (λi j a1 a2 a3=>by have:i=j:=by lia
                                                        subst this;exact aEM _) λn n1 n2 gn or'=>?_)
 dsimp only;by_cases c0:n=nrem
 ·rw[aAG (by simpa using c0)]
  exact aAN (q n st R n1 n2 gn)
 ·rw[aAH (by simpa using c0)]
  have hl:=or'.resolve_left c0;by_cases c1:n > 1
  ·rw[aAG c1]
   refine aAJ (iT W hS R (by lia) (by lia) ?_);by_cases hr:K' ky (arrOf st) lo < K' ky (arrOf st) (lo+n - 1)
   ·simp only[hr,aFO,aBM]
    exact aAN (q n st R n1 n2 gn)
   ·simp only[hr,aFR,aAT,aBW]
    have hz:lo+n<=(arrOf st).size:=by rw[R.sz];lia
    have all:∀k,lo<=k->k < lo+n->K' ky (arrOf st) k=K' ky (arrOf st) (lo+n - 1):=by
     intro k a1 a2;have b1:=gn lo k (aAD _) a1 a2;have b2:=gn k (lo+n - 1) a1 (by lia) (by lia);lia
    refine aAJ (mD (qP (n:=n) W hS (R.mir (i:=lo) (j:=lo+n) (aAD _) (by lia) hn) hn (by lia) ?_ q));intro i j a1 a2 a3;show K' ky (mirror (arrOf st) _ _ _) j<=K' ky (mirror (arrOf st) _ _ _) i;rw[fU hz all,fU hz all];by_cases c2:j < lo+n
    ·rw[all i a1 (by lia),all j (by lia) c2];exact aEM _
    ·by_cases c3:i=j
     ·subst c3;exact aEM _
     ·have e:j=lo+n:=by lia
      subst e;rw[all i a1 (by lia)];lia
  ·rw[aAH c1]
   have e:n=1:=by lia
   subst e;refine qP (n:=1) W hS R hn (by lia) ?_ q;intro i j a1 a2 a3;by_cases c3:i=j
   ·subst c3;exact aEM _
   ·have e1:i=lo:=by lia
    have e2:j=lo+1:=by lia
    subst e1;subst e2;simpa using Int.le_of_lt hl
variable{Q:Bool->SortSt->Prop}
theorem aHw(W:Ask M A E s κ ky S)(hS:∀x∈(arrOf st0).toList,S x){ok:Nat}(R:RS κ lo (lo+n) st0 st)(hn:lo+n<=(arrOf st0).size)(hok:ok<=n)(g:SG ky (arrOf st) lo (lo+ok))
  (q:∀st',RS κ lo (lo+n) st0 st'->SG ky (arrOf st') lo (lo+n)->Q true st'):wpS M A E s (binarySort' lo n ok) Q st:=by
 rw[binarySort'_eq];refine aAJ (aDW (aCT (I:=λk c st'=>c=(none,())/\RS κ lo (lo+n) st0 st'/\SG ky (arrOf st') lo (lo+min k n))
  (Q:=λc st'=>c=(none,())/\RS κ lo (lo+n) st0 st'/\SG ky (arrOf st') lo (lo+n)) ?step ?fin ?init) ?post)
 case post =>
  rintro c st' ⟨rfl,R',g'⟩;exact aAN (q st' R' g')
 case init =>
  refine⟨rfl,R,λi j a1 a2 a3=>?_⟩;by_cases h1:ok=0
  ·have:i=j:=by lia
   subst this;exact aEM _
  ·exact g i j a1 a2 (by lia)
 case fin =>
  rintro c st' ⟨hc,R',g'⟩;refine⟨hc,R',?_⟩;rwa[show min (max (max ok 1) n) n=n by lia]at g'
 case step =>
  rintro k c st' hak hkn ⟨rfl,R',g'⟩;rw[show min k n=k by lia]at g';refine aAJ (aDW (aCT (I:=λx c st2=>st2=st'/\∃l r,c=(none,l,r)/\l<=r/\r<=k/\r - l<=k - x /\
    (∀i,i < l->K' ky (arrOf st') (lo+i)<=K' ky (arrOf st') (lo+k))/\(∀i,r<=i->i < k->K' ky (arrOf st') (lo+k) < K' ky (arrOf st') (lo+i)))
   (Q:=λc st2=>st2=st'/\∃l r,c=(none,l,r)/\l<=k /\
    (∀i,i < l->K' ky (arrOf st') (lo+i)<=K' ky (arrOf st') (lo+k))/\(∀i,l<=i->i < k->K' ky (arrOf st') (lo+k) < K' ky (arrOf st') (lo+i))) ?istep ?ifin ?iinit) ?ipost)
  case iinit=>exact⟨rfl,0,k,rfl,by lia,by lia,by lia,λi hi=>by lia,λi h1 h2=>by lia⟩
  case ifin =>
   rintro c st2 ⟨rfl,l,r,rfl,a1,a2,a3,a4,a5⟩;have:l=r:=by lia
   subst this;exact⟨rfl,l,l,rfl,a2,a4,a5⟩
  case istep =>
   rintro x c st2 _ hxk ⟨rfl,l,r,rfl,a1,a2,a3,a4,a5⟩;dsimp only;by_cases hge:l>=r
   ·rw[aAG hge]
    have:l=r:=by lia
    subst this;exact aAN ⟨rfl,l,l,rfl,a2,a4,a5⟩
   ·rw[aAH hge]
    refine aAJ (iT W hS R' (by lia) (by lia) ?_);by_cases hl:K' ky (arrOf st2) (lo+k) < K' ky (arrOf st2) (lo+(l+r) / 2)
    ·simp only[hl,aFO,aBM]
     refine aAN ⟨rfl,l,(l+r) / 2,rfl,by lia,by lia,by lia,a4,λi h1 h2=>?_⟩;have:=g' (lo+(l+r) / 2) (lo+i) (by lia) (by lia) (by lia);lia
    ·simp only[hl,aFR,aAT,aBW]
     refine aAN ⟨rfl,(l+r) / 2+1,r,rfl,by lia,by lia,by lia,λi h1=>?_,a5⟩;have:=g' (lo+i) (lo+(l+r) / 2) (by lia) (by lia) (by lia);lia
  case ipost =>
   rintro c st2 ⟨rfl,l,r,rfl,a2,a4,a5⟩;show wpS _ _ _ _ (do moveDown' (lo+k) (lo+l);pure (ForInStep.yield (none,()))) _ _;rw[moveDown'_eq];have hz:lo+k < (arrOf st2).size:=by rw[R'.sz];lia
   refine aAJ (aFL (aAN ⟨rfl,R'.bub (by lia) (by lia) hn (by lia),?_⟩));rw[show min (k+1) n=k+1 by lia];have kb:∀m,K' ky (bubble (arrOf st2) (lo+k) (lo+k - (lo+l))) m=if m=lo+l then K' ky (arrOf st2) (lo+k)else if lo+l < m/\m<=lo+k then K' ky (arrOf st2) (m - 1)else K' ky (arrOf st2) m:=by
    intro m;have e:=getElem?_bubble hz (lo+k - (lo+l)) (by lia) m;rw[show lo+k - (lo+k - (lo+l))=lo+l by lia]at e;by_cases h1:m=lo+l
    ·rw[aAG h1]at e ⊢;exact bT e
    ·rw[aAH h1]at e ⊢
     by_cases h2:lo+l < m/\m<=lo+k
     ·rw[aAG h2]at e ⊢;exact bT e
     ·rw[aAH h2]at e ⊢;exact bT e
   intro i j b1 b2 b3;show K' ky (bubble (arrOf st2) (lo+k) (lo+k - (lo+l))) i<=K' ky (bubble (arrOf st2) (lo+k) (lo+k - (lo+l))) j;have low:∀i,lo<=i->i < lo+l->K' ky (arrOf st2) i<=K' ky (arrOf st2) (lo+k):=λi c1 c2=>by
    have:=a4 (i - lo) (by lia);rwa[show lo+(i - lo)=i by lia]at this
   have hih:∀i,lo+l<=i->i < lo+k->K' ky (arrOf st2) (lo+k) < K' ky (arrOf st2) i:=λi c1 c2=>by
    have:=a5 (i - lo) (by lia) (by lia);rwa[show lo+(i - lo)=i by lia]at this
   rw[kb,kb]
   repeat' split
   all_goals first
    |(exfalso;lia)
    |exact aEM _
    |exact low _ (by lia) (by lia)
    |exact Int.le_of_lt (hih _ (by lia) (by lia))
    |exact g' _ _ (by lia) (by lia) (by lia)
variable{a₀:Array Keyed}
def Segs(ky:Keyed->Int)(xs:Array Keyed):List (Nat×Nat×Nat)->Nat->Nat->Prop
 |[],l,h=>l=h|(t,n,_)::r,l,h=>t=l/\0 < n/\SG ky xs l (l+n)/\Segs ky xs r (l+n) h
theorem Segs.app{xs:Array Keyed}:∀{u v:List (Nat×Nat×Nat)} {l h:Nat},Segs ky xs (u++v) l h ↔ ∃m,Segs ky xs u l m/\Segs ky xs v m h
 |[],v,l,h=>⟨λz=>⟨l,rfl,z⟩,λ⟨m,e,z⟩=>by cases e;exact z⟩
 |(t,n,q)::u,v,l,h=>by
  show t=l/\0 < n/\SG ky xs l (l+n)/\Segs ky xs (u++v) (l+n) h ↔ _;rw[Segs.app (u:=u)];exact⟨λ⟨a1,a2,a3,m,a4,a5⟩=>⟨m,⟨a1,a2,a3,a4⟩,a5⟩,λ⟨m,⟨a1,a2,a3,a4⟩,a5⟩=>⟨a1,a2,a3,m,a4,a5⟩⟩
theorem Segs.le{xs:Array Keyed}:∀{u:List (Nat×Nat×Nat)} {l h:Nat},Segs ky xs u l h->l+u.length<=h
 |[],l,h,e=>by cases e;simp
 |(t,n,q)::u,l,h,⟨a1,a2,a3,a4⟩=>by have:=Segs.le a4;simp only[aBV];lia
theorem Segs.congr{xs ys:Array Keyed}:∀{u:List (Nat×Nat×Nat)} {l h:Nat},Segs ky xs u l h->(∀k,l<=k->k < h->ys[k]?=xs[k]?)->Segs ky ys u l h
 |[],l,h,e,_=>e|(t,n,q)::u,l,h,⟨a1,a2,a3,a4⟩,e=>by
  have:=Segs.le a4;exact⟨a1,a2,a3.congr λk b1 b2=>e k b1 (by lia),Segs.congr a4 λk b1 b2=>e k (by lia) b2⟩
structure SI(ky:Keyed->Int)(κ:SortKind)(a₀:Array Keyed)(st:SortSt)(p:List (Nat×Nat×Nat))(h:Nat):Prop where
 k:kindOf st=κ
 f:failedOf st=none
 pm:(arrOf st).Perm a₀
 pd:pendingOf st=p.toArray
 sg:Segs ky (arrOf st) p 0 h
theorem uB(W:Ask M A E s κ ky S)(hS:∀x∈a₀.toList,S x){p:List (Nat×Nat×Nat)}{h:Nat}(I:SI ky κ a₀ st p h)(hh:h<=a₀.size)(hi:i+1 < p.length)
  (q:∀st' p',SI ky κ a₀ st' p' h->p'.length+1=p.length->(∀k,h<=k->(arrOf st')[k]?=(arrOf st)[k]?)->Q true st'):wpS M A E s (mergeAt' i) Q st:=by
 obtain⟨u,x,y,v,rfl,hu⟩:∃u x y v,p=u++x::y::v/\i=u.length :=
  ⟨p.take i,p[i],p[i+1],p.drop (i+2),by
   rw[<- aCI (by lia),<- aCI (by lia),aGO],by simp;lia⟩
 obtain⟨sa,na,pw⟩:=x;obtain⟨sb,nb,pq⟩:=y;obtain⟨m,s1,a1,a2,a3,b1,b2,b3,s2⟩:=Segs.app.mp I.sg;subst a1;subst b1;have l2:=Segs.le s2;have l1:=Segs.le s1;have sz:(arrOf st).size=a₀.size:=I.pm.size_eq;refine tS W hu I.k I.f (λx hx=>hS x ((aCX.mp I.pm).mem_iff.mp hx)) I.pd rfl a2 b2 (by lia) a3 b3 λst' c1 c2 c3 c4 c5 c6=>?_
 refine q st' _ ⟨c1,c2,c3.trans I.pm,c4,Segs.app.mpr ⟨sa,Segs.congr s1 λk _ hk=>c6 k (.inl hk),rfl,by lia,by rw[<- Nat.add_assoc];exact c5,?_⟩⟩ (by simp;lia) λk hk=>c6 k (.inr (by lia))
 rw[<- Nat.add_assoc];exact Segs.congr s2 λk hk _=>c6 k (.inr hk)
theorem wA{α:Type}(f:α->α):∀(u:List α) (x:α),(u++[x]).modify u.length f=u++[f x]
 |[],x=>rfl|y::u,x=>by simpa using wA f u x
theorem aEm(W:Ask M A E s κ ky S)(hS:∀x∈a₀.toList,S x){Q:Unit->SortSt->Prop}(hk:kindOf st=κ)(hf:failedOf st=none)(hp:pendingOf st=#[])(hpm:(arrOf st).Perm a₀)(h2:2<=a₀.size)
  (q:∀st',(arrOf st').Perm a₀->failedOf st'=none->SG ky (arrOf st') 0 a₀.size->Q () st'):wpS M A E s sortRuns' Q st:=by
 rw[sortRuns'_eq];refine aAJ (aHP ?_);dsimp only;rw[hpm.size_eq];generalize minRun' a₀.size a₀.size 0=mr;refine aAJ (aDW (aCT
  (I:=λx c st'=>∃lo p,c=(none,lo)/\lo<=a₀.size/\(x<=lo\/lo=a₀.size)/\SI ky κ a₀ st' p lo)
  (Q:=λc st'=>∃p,c=(none,a₀.size)/\SI ky κ a₀ st' p a₀.size) ?step ?fin ⟨0,[],rfl,aCE _,.inl (aAD _),hk,hf,hpm,hp,rfl⟩) ?post)
 case fin =>
  rintro c st' ⟨lo,p,rfl,h1,h2,I⟩;have:lo=a₀.size:=by lia
  subst this;exact⟨p,rfl,I⟩
 case step =>
  rintro x c st1 _ hx ⟨lo,p,rfl,h1,h2,I⟩;dsimp only;by_cases hge:lo>=a₀.size
  ·rw[aAG hge]
   have:lo=a₀.size:=by lia
   subst this;exact aAN ⟨p,rfl,I⟩
  rw[aAH hge];have sz:(arrOf st1).size=a₀.size:=I.pm.size_eq;have hS1:∀x∈(arrOf st1).toList,S x:=λx hx=>hS x ((aCX.mp I.pm).mem_iff.mp hx)
  have rest:∀(st2:SortSt) (n:Nat),RS κ lo (lo+(a₀.size - lo)) st1 st2->1<=n->lo+n<=a₀.size->SG ky (arrOf st2) lo (lo+n) ->
    SI ky κ a₀ st2 p lo/\SG ky (arrOf st2) lo (lo+n):=λst2 n R n1 n2 g =>
   ⟨⟨R.k,R.f,R.pm.trans I.pm,R.pd.trans I.pd,Segs.congr I.sg λk _ hk=>R.out k (.inl hk)⟩,g⟩
  have push:∀(st3:SortSt) (n:Nat) (p3:List (Nat×Nat×Nat)),1<=n->lo+n<=a₀.size->SI ky κ a₀ st3 p3 lo->SG ky (arrOf st3) lo (lo+n) ->
    ∃lo' p',((none,lo+n):Option Unit×Nat)=(none,lo')/\lo'<=a₀.size/\(x+1<=lo'\/lo'=a₀.size)/\SI ky κ a₀ (setPending st3 ((pendingOf st3).push (lo,n,0))) p' lo':=by
   intro st3 n p3 n1 n2 I3 g;refine⟨lo+n,p3++[(lo,n,0)],rfl,n2,by lia,I3.k,I3.f,I3.pm,?_,Segs.app.mpr ⟨lo,I3.sg,rfl,n1,g,rfl⟩⟩;show(pendingOf st3).push _=_;rw[I3.pd];simp
  refine aAJ (aCx W hS1 (RS.refl I.k I.f) (by lia) (by lia) λm st2 R2 m1 m2 g2=>?_);dsimp only;by_cases hlt:m < mr
  case' pos =>
   rw[aAG hlt];refine aAJ (aJK (aCM ⟨rfl,?_⟩));obtain⟨I1,g1⟩:=rest st2 m R2 m1 (by lia) g2;have hS2:∀x∈(arrOf st2).toList,S x:=λx hx=>hS x ((aCX.mp I1.pm).mem_iff.mp hx)
   have sz2:(arrOf st2).size=a₀.size:=I1.pm.size_eq;refine aAJ (aHw W hS2 (RS.refl I1.k I1.f) (by lia) (by lia) g1 λst3 R3 g=>?_);have I2:SI ky κ a₀ st3 p lo:=⟨R3.k,R3.f,R3.pm.trans I1.pm,R3.pd.trans I1.pd,Segs.congr I1.sg λk _ hk=>R3.out k (.inl hk)⟩
   simp only[aIG,aAT,aBW];generalize hn:min (a₀.size - lo) mr=n at *;have n1:1<=n:=by lia
   have n2:lo+n<=a₀.size:=by lia
   clear R3 hS2 sz2 I1 g1 R2 g2 rest I hlt hn
  case' neg =>
   rw[aAH hlt];obtain⟨I2,g⟩:=rest st2 m R2 m1 (by lia) g2;have n1:1<=m:=m1;have n2:lo+m<=a₀.size:=by lia
   clear R2 g2 rest I hlt;generalize m=n at *;generalize st2=st3 at *
  all_goals
   refine aAJ (aHP ?_);cases hb:(pendingOf st3).back? with
   |none =>
    dsimp only;refine aAJ (aFL (aAN ?_));exact push st3 n p n1 n2 I2 g
   |some b =>
    obtain⟨s1,l1,w1⟩:=b;dsimp only;refine aAJ (aDW (aCT (I:=λx c st'=>∃p,p≠[]/\c=(none,())/\SI ky κ a₀ st' p lo/\SG ky (arrOf st') lo (lo+n))
     (Q:=λc st'=>∃p,p≠[]/\c=(none,())/\SI ky κ a₀ st' p lo/\SG ky (arrOf st') lo (lo+n)) ?step2 ?fin2 ?init2) ?post2)
    case init2=>exact⟨p,by rintro rfl;rw[I2.pd]at hb;simp at hb,rfl,I2,g⟩
    case fin2=>exact λc st' h=>h
    case step2 =>
     rintro y c st' _ hy ⟨p',pn,rfl,I',g'⟩;refine aAJ (aHP ?_);have e:(pendingOf st').size=p'.length:=by rw[I'.pd];simp
     by_cases h1:(pendingOf st').size > 1
     ·rw[aAG h1]
      have h2:(pendingOf st').size - 2 < (pendingOf st').size:=by lia
      rw[getElem?_pos (pendingOf st') _ h2];obtain⟨z1,z2,z3⟩:=(pendingOf st')[(pendingOf st').size - 2]
      dsimp only;split
      ·exact aAN ⟨p',pn,rfl,I',g'⟩
      ·refine aAJ (uB W hS I' (by lia) (by lia) λst4 p4 I4 h4 o4=>?_)
       simp only[aIG,aAT,aBW];exact aAN ⟨p4,by rintro rfl;simp at h4;lia,rfl,I4,g'.congr λk hk _=>o4 k hk⟩
     ·rw[aAH h1]
      exact aAN ⟨p',pn,rfl,I',g'⟩
    case post2 =>
     rintro c st' ⟨p',pn,rfl,I',g'⟩;refine aAJ (aFL ?_);refine aAJ (aFL (aAN ?_));obtain⟨u,⟨t,l,w⟩,rfl⟩:∃u x,p'=u++[x]:=⟨p'.dropLast,p'.getLast pn,(List.dropLast_concat_getLast pn).symm⟩
     refine push _ n (u++[(t,l,power' a₀.size (2*s1+l1) (2*s1+l1+l1+n) a₀.size)]) n1 n2 ⟨I'.k,I'.f,I'.pm,?_,?_⟩ g'
     ·show Array.modify (pendingOf st') ((pendingOf st').size - 1) (λx=>(x.1,x.2.1,power' a₀.size (2*s1+l1) (2*s1+l1+l1+n) a₀.size))=_
      rw[I'.pd];apply Array.ext';rw[Array.toList_modify];simpa using wA _ u _
     ·exact Segs.app.mpr ((Segs.app.mp I'.sg).imp λm h=>⟨h.1,h.2.1,h.2.2.1,h.2.2.2.1,h.2.2.2.2⟩)
 case post =>
  rintro c st1 ⟨p,rfl,I⟩;dsimp only;have e0:=Segs.le I.sg;refine aAJ (aDW (aCT (I:=λx c st2=>∃p,c=(none,())/\SI ky κ a₀ st2 p a₀.size/\p.length+x<=a₀.size+1)
   (Q:=λc st2=>∃p,c=(none,())/\SI ky κ a₀ st2 p a₀.size/\p.length<=1) ?step ?fin ⟨p,rfl,I,by lia⟩) ?post)
  case fin =>
   rintro c st2 ⟨p,rfl,I,h⟩;exact⟨p,rfl,I,by lia⟩
  case post =>
   rintro c st2 ⟨p,rfl,I,h⟩;refine aAN (q st2 I.pm I.f ?_)
   match p,h,I.sg with
   |[],_,e=>exact absurd (show 0=a₀.size from e) (by lia)
   |[(t,n,w)],_,⟨a1,a2,a3,a4⟩ =>
    have a4:0+n=a₀.size:=a4;rwa[a4]at a3
   |_::_::_,h,_=>simp at h
  case step =>
   rintro x c st2 _ hx ⟨p,rfl,I,h⟩;refine aAJ (aHP ?_);have e:(pendingOf st2).size=p.length:=by rw[I.pd];simp
   by_cases hle:(pendingOf st2).size<=1
   ·rw[aAG hle]
    exact aAN ⟨p,rfl,I,by lia⟩
   ·rw[aAH hle]
    refine aAJ (uB W hS I (aAD _) (by(repeat' split) <;> lia) λst3 p3 I3 h3 _=>?_);simp only[aIG,aAT,aBW];exact aAN ⟨p3,rfl,I3,by lia⟩
end TS
section
open PySem PySem.Spec PyProof.Rows
namespace L2
open TS
variable{prog:Program}{E:Value->Shared->Prop}
end L2
namespace EV
open L2
variable{K:Frag}{EX:D->Mm->Prop}{Q:W->Mm->Prop}
structure Dsc where
 py:Str
 st:Stmt
 ps:List Str
 N:List Str
 df:Option Int:=none
structure Sc(D:Dsc):Prop where
 s:FnScope D.N D.ps (defScope D.st)
 b:∀(kV doc pm:Value) (an:Option Addr) (cdv ct:Value) (us:List Value),us.length=D.ps.length->bindArgs (fnOf D.py D.py (defArgs D.st) (defBody D.st) (defScope D.st) .none kV doc pm an cdv ct) ⟨us,[]⟩=pure (D.ps.zip us)
 n:D.df=none
def scm{D:Dsc}(b:∀(kV doc pm:Value) (an:Option Addr) (cdv ct:Value) (us:List Value),us.length=D.ps.length->bindArgs (fnOf D.py D.py (defArgs D.st) (defBody D.st) (defScope D.st) .none kV doc pm an cdv ct) ⟨us,[]⟩=pure (D.ps.zip us))
  (h1:(defScope D.st).kind=.function:=by rfl)(h2:(defScope D.st).isCoroutine=false:=by rfl)(h3:(defScope D.st).isGenerator=false:=by rfl)(h4:D.N.Nodup:=by decide +kernel)(h5:D.N.take D.ps.length=D.ps:=by rfl)
  (h6:∀x∈D.ps,(defScope D.st).names.lookup x=some .local\/(defScope D.st).names.lookup x=some .cell:=by decide +kernel)(h7:∀y∈(defScope D.st).names,y.2≠.free:=by decide +kernel)(h8:D.df=none:=by rfl):Sc D:=⟨⟨h1,h2,h3,h4,h5,h6,h7⟩,b,h8⟩
structure ScD(D:Dsc)(i:Int):Prop where
 s:FnScope D.N D.ps (defScope D.st)
 b:∀(tk:Tok) (T:Addr) (kV doc pm:Value) (an:Option Addr) (cdv ct:Value) (us:List Value),us.length=D.ps.length->∃k,bindArgs (fnOf D.py D.py (defArgs D.st) (defBody D.st) (defScope D.st) (.ref T) kV doc pm an cdv ct) ⟨us,[]⟩=seqItems? (.ref T) >>= k/\k (some #[.int i tk])=pure (D.ps.zip us)
 c:∀(tk:Tok) (T:Addr) (kV doc pm:Value) (an:Option Addr) (cdv ct:Value) (us:List Value),us.length=D.ps.length - 1->∃k,bindArgs (fnOf D.py D.py (defArgs D.st) (defBody D.st) (defScope D.st) (.ref T) kV doc pm an cdv ct) ⟨us,[]⟩=seqItems? (.ref T) >>= k/\k (some #[.int i tk])=pure (D.ps.zip (us++[.int i tk]))
 n:D.df=some i
def Dk(K:Frag)(py:Str)(st:Stmt):Prop:=∃(f:Addr) (oc:Value) (od an:Option Addr) (osl:Array (Option Value)) (kV doc pm cdv ct:Value),nsIn K mainGlobals py=some (some (.ref f)) /\
 K.lookup f=some ⟨oc,od,.func (fnOf py py (defArgs st) (defBody st) (defScope st) .none kV doc pm an cdv ct),osl⟩/\codeIn K cdv py=true/\keepIn K (.ref f)=true
def Dk.mk{py:Str}{st:Stmt}{f:Addr}{kV:Value}(a:nsIn K mainGlobals py=some (some (.ref f)))
  (l:K.lookup f=some ⟨oc,od,.func (fnOf py py (defArgs st) (defBody st) (defScope st) .none kV doc pm an cdv ct),osl⟩)(c:codeIn K cdv py=true)(k:keepIn K (.ref f)=true):Dk K py st:=⟨_,_,_,_,_,_,_,_,_,_,a,l,c,k⟩
def Dd(K:Frag)(py:Str)(st:Stmt)(i:Int):Prop:=∃(f T:Addr) (oc:Value) (od an:Option Addr) (osl:Array (Option Value)) (kV doc pm cdv ct c:Value) (tk:Tok) (dd:Option Addr) (n:Nat) (sl:Array (Option Value)),nsIn K mainGlobals py=some (some (.ref f)) /\
 K.lookup f=some ⟨oc,od,.func (fnOf py py (defArgs st) (defBody st) (defScope st) (.ref T) kV doc pm an cdv ct),osl⟩/\codeIn K cdv py=true/\keepIn K (.ref f)=true/\K.lookup T=some ⟨c,dd,.seq #[.int i tk] n,sl⟩
structure Hk(K:Frag)(mg:Str->Option Value):Prop where
 ex:∃h:Heap,K.In h/\h.Ns mainGlobals mg
def Hk.no(T:Hk K mg)(h:nsIn K mainGlobals x=some none):mg x=none:=by
 obtain⟨h0,X,G⟩:=T.ex;exact PySem.W.mg_none_of X G h
section
variable{K:Frag}{D:Dsc}{F:Fn}{j k:Nat}
def Dy(K:Frag)(mg:Str->Option Value)(D:Dsc):Prop:=∃a d,mg D.py=some (.ref a)/\keepIn K (.ref a)=true/\Binds K d D.ps []/\(∀i,D.df=some i->∃tk,Binds K d D.ps [.int i tk])/\(∃oc od osl,K.lookup a=some ⟨oc,od,.func d,osl⟩) /\
 FunG K D.py D.py D.st a d/\(D.df=none->Fun K D.py D.py D.st a d)
def dk(h:Dk K D.py D.st)(T:Hk K mg)(S:Sc D):Dy K mg D:=by
 obtain⟨f,oc,od,an,osl,kV,doc,pm,cdv,ct,a,l,c,k⟩:=h;obtain⟨h0,X,G⟩:=T.ex;have m:=aPp l c k;exact⟨f,_,PySem.W.mg_of X G a,k,m.binds S.b,λi z=>(by rw[S.n]at z;cases z),⟨_,_,_,l⟩,m.g,λ_=>m⟩
def dd{i:Int}(h:Dd K D.py D.st i)(T:Hk K mg)(S:ScD D i):Dy K mg D:=by
 obtain⟨f,t,oc,od,an,osl,kV,doc,pm,cdv,ct,c,tk,dd,n,sl,a,l,c',k,ht⟩:=h;obtain⟨h0,X,G⟩:=T.ex;have m:=aJs l c' ht;refine⟨f,_,PySem.W.mg_of X G a,k,m.binds (S.b tk),λj z=>?_,⟨_,_,_,l⟩,m.g,λz=>(by rw[S.n]at z;cases z)⟩;rw[S.n]at z;cases z;exact⟨tk,m.binds1 λT kV doc pm an cdv ct us hl=>S.c tk T kV doc pm an cdv ct us (by simp at hl;lia)⟩
structure Qx(K:Frag)(mg:Str->Option Value)(D:Dsc)(F:Fn)(G:Addr->FuncData->Prop):Prop where
 ex:∃a d,mg D.py=some (.ref a)/\keepIn K (.ref a)=true/\Binds K d D.ps []/\(∀i,D.df=some i->∃tk,Binds K d D.ps [.int i tk])/\(∃oc od osl,K.lookup a=some ⟨oc,od,.func d,osl⟩)/\G a d
 len:∀ws M,ws.length≠D.ps.length->F ws M=.bad
abbrev Q0(P:Program)(w:World)(K:Frag)(mg:Str->Option Value)(base:Heap)(l:Nat)(D:Dsc)(F:Fn):Prop:=Qx K mg D F λa d=>FnOk P w K mg base CX0 l a d D.ps (spF K Z0 D.ps.length F)
abbrev Q1(P:Program)(w:World)(K:Frag)(mg:Str->Option Value)(base:Heap)(l:Nat)(D:Dsc)(F:Fn):Prop:=Qx K mg D F λa d=>FnOk P w K mg base (CX1 P w) l a d D.ps (spX K D.ps.length F)
abbrev B0(P:Program)(w:World)(K:Frag)(mg:Str->Option Value)(base:Heap)(k:Nat)(D:Dsc)(b:FS):Prop:=∀{fa:Addr} {cdv:Value} {A:Around} {outer:List Env} {s:Shared} {H:Hp} {E:XK},Room k (A.deeper (envOfC D.py (defScope D.st) s.heap.objs.size fa cdv)) ->
 Ess (cxOf CX0 P w K mg base D.N D.py (defScope D.st) fa cdv A outer s H E).nox K Z0 (defBody D.st) b
abbrev B1(P:Program)(w:World)(K:Frag)(mg:Str->Option Value)(base:Heap)(k:Nat)(D:Dsc)(b:FS):Prop:=∀{fa:Addr} {cdv:Value} {A:Around} {outer:List Env} {s:Shared} {H:Hp} {E:XK},Room k (A.deeper (envOfC D.py (defScope D.st) s.heap.objs.size fa cdv))->Xz (cxOf (CX1 P w) P w K mg base D.N D.py (defScope D.st) fa cdv A outer s H E) (wishR E) ->
 Ess (cxOf (CX1 P w) P w K mg base D.N D.py (defScope D.st) fa cdv A outer s H E) K (ZR K (wishR E)) (defBody D.st) b
abbrev Bq{α:Type}(TX:Frag->(Str->Option Value)->α->Prop)(k:Nat)(D:Dsc):Type:={b:FS // ∀{P:Program} {w:World} {K:Frag} {mg:Str->Option Value} {base:Heap} {a:α},TX K mg a->B0 P w K mg base k D b}
variable{b:FS}
def q0(h:Dy K mg D)(S:FnScope D.N D.ps (defScope D.st))(hb:B0 P w K mg base k D b):Q0 P w K mg base (k+1) D (fnD D.ps.length D.N.length b):=by
 obtain⟨a,d,h1,h2,h3,h4,h5,h6,h7⟩:=h;exact⟨⟨a,d,h1,h2,h3,h4,h5,aPj h6 S λcdv A outer s H E hr=>hb hr⟩,λws M h=>aAH h⟩
def q0R(h:Dy K mg D)(S:FnScope D.N D.ps (defScope D.st))(hn:D.df=none)(hb:B0 P w K mg base k D b):Q0 P w K mg base (k+1) D (fnR D.ps.length D.N.length b):=by
 obtain⟨a,d,h1,h2,h3,h4,h5,h6,h7⟩:=h;exact⟨⟨a,d,h1,h2,h3,h4,h5,aQa (h7 hn) S λcdv A outer s H E hr=>hb hr⟩,λws M h=>aAH h⟩
def q0O{c:Str}(h:Dy K mg D)(S:FnScope D.N D.ps (defScope D.st))(hn:D.df=none)(hb:B0 P w K mg base k D b):Q0 P w K mg base (k+1) D (fnRO c D.ps.length D.N.length b):=by
 obtain⟨a,d,h1,h2,h3,h4,h5,h6,h7⟩:=h;exact⟨⟨a,d,h1,h2,h3,h4,h5,aIc (h7 hn) S λcdv A outer s H E hr=>hb hr⟩,λws M h=>aAH h⟩
def q1(h:Dy K mg D)(S:FnScope D.N D.ps (defScope D.st))(hb:B1 P w K mg base k D b):Q1 P w K mg base (k+1) D (fnX D.ps.length D.N.length b):=by
 obtain⟨a,d,h1,h2,h3,h4,h5,h6,h7⟩:=h;exact⟨⟨a,d,h1,h2,h3,h4,h5,aNu h6 S λcdv A outer s H E hr hz=>hb hr hz⟩,λws M h=>aJp h⟩
def aKm{fa:Addr}{l:Nat}(h:Dk K D.py D.st)(S:Sc D)(hfa:mg D.py=some (.ref fa))(hps:D.ps=[x])(T:Hk K mg)(H:∀base:Heap,Qx K mg D F λa d=>FnOk P w K mg base CX l a d D.ps sp) :
  ∃fd:FuncData,(∀(s:Shared) (v:Value),BindsTo s fd ⟨[v],[]⟩ [(x,v)])/\∀base:Heap,K.In base->base.Ns mainGlobals mg->FnOk P w K mg base CX l fa fd [x] sp:=by
 obtain⟨f,oc,od,an,osl,kV,doc,pm,cdv,ct,a,lk,c,k⟩:=h;obtain⟨h0,X,G⟩:=T.ex;have e:=hfa.symm.trans (PySem.W.mg_of X G a);cases e;refine⟨fnOf D.py D.py (defArgs D.st) (defBody D.st) (defScope D.st) .none kV doc pm an cdv ct,λs v=>.of_eq ?_,λbase _ _=>?_⟩
 ·have:=S.b kV doc pm an cdv ct [v] (by rw[hps];rfl)
  rw[hps]at this;exact this
 ·obtain⟨a',d',h1,h2,h3,h4,⟨oc',od',osl',h5⟩,h6⟩:=(H base).ex
  have e:=hfa.symm.trans h1;cases e;rw[lk]at h5;cases h5;rw[<- hps];exact h6
end
section
variable{K:Frag}{R:Addr->Hp->Prop}{D:Dsc}{F:Fn}{j k:Nat}{e:Expr}{es:List Expr}{fs:FA}{i:Int}
def qc(G:Q0 X.prog X.w K X.mg X.base j D F)(hr:Room k X.A)(ha:Ea X K Z0 (e::es) fs)(hj:j<=k:=by lia)(hx:D.py=x:=by rfl)(hg:Gl X x:=by rfl)(hdb:(x==("__debug__":Str))=false:=by decide)
  (he:starEach (e::es) X.env=(false,eval e X.env)::starEach es X.env:=by rfl)(hpl:(backTo pos (starEach es X.env)).any (·.1)=false:=by rfl):Ev X K Z0 (.Call (.Name x p) (e::es) [] pos) (eA F fs):=by
 have eK:=ha.k;subst eK;obtain⟨⟨a,d,h1,h2,h3,_,_,h4⟩,hl⟩:=G;subst hx;exact aJk (h4.mono hj) hr h1 h2 h3 ha rfl hg hdb he hpl hl
end
end EV
namespace L2
end L2
namespace EV
open L2
variable{K:Frag}{o a b:Expr}{Q:W->Mm->Prop}
end EV
namespace L2
end L2
namespace EV
open L2
variable{K:Frag}
end EV
namespace L2
section
variable{prog:Program}{E:Value->Shared->Prop}{it d:Addr}{i ep:Nat}{od:Obj}{es:Array DictEntry}{ok ov:Value}{Q:Option Value->Shared->Prop}
theorem yZ(hit:IsItemIter s.heap it d i es.size ep ok ov)(ho:s.heap.get? d=some od)(hd:od.data=.dict es ep)(hi:i < es.size)
  (h:∀h',IsItemIterOut h' it d (i+1) es.size ep es[i].key es[i].val s.heap.objs.size->h'.get? s.heap.objs.size=some {cls:=.type "tuple",data:=.seq #[es[i].key,es[i].val]} ->
   h'.objs.size=s.heap.objs.size+1->(∀b o,b≠it->s.heap.get? b=some o->h'.get? b=some o)->Q (some (.ref s.heap.objs.size)) {s with heap:=h'}):wpAny (model prog w) A (pyNext (.ref it)) Q E s:=by
 have T:∀{t:Shared} {j k v x},t.heap.get? it=some {cls:=.type "dict_itemiterator",dict:=none,data:=.fields #[x,.bool false,.ref d,.int j 0,.int es.size 0,.int ep 0,k,v],slots:=#[]}->t.TypeIs (.ref it) "dict_itemiterator":=λe=>⟨_,e,rfl⟩
 have lt:=aAE hit;unfold pyNext;refine aAA (aDL (aBL (T hit) aDS (aBH aDS (T hit) F.entry_dict_itemiterator_next ?_ (aIL _))));refine aAA (aAC (aAA (aAA (aAA (aET (T hit) (aAC ?_))))));refine aAA (aJF hit rfl ?_);rw[show Builtin.Dict_items.ownsTuple "dict_itemiterator"=true from by decide];show wpAny _ _ (if(Value.ref d==Value.none)=true then _ else _) _ _ _;rw[aAH (show ¬((Value.ref d==Value.none)=true)from aAY)];refine aAA (aAC (aAA (aDN ho hd ?_)));rw[aAH (by simp)];refine aAA (aAC (aAA (aGC ho hd ?_)));rw[aAH (by simp)];refine aAC ?_;simp only[aAH (show ¬((i:Int) < 0) by lia),aDD,aEL hi];refine aAA (aAA (aET (T hit) (aAC ?_)));refine aAA (aID (T hit) ?_);show wpAny _ _ (setField (.ref it) 3 (rawInt ((i:Int)+1)) >>= _) _ _ _;refine aAA (aCD hit (by simp) λh1 e1 b1=>?_);have e1:IsItemIter h1 it d (i+1) es.size ep ok ov:=by
  unfold IsItemIter;simpa[rawInt]using e1
 refine aAA (aBC (aAA (aID (T e1) (aAA (aID (T e1) ?_)))));show wpAny _ _ (Builtin.Dict_items.pairFromOwner (.ref it) 6 es[i].key es[i].val) _ _ _;unfold Builtin.Dict_items.pairFromOwner;refine aAA (aHO ?_);have z1:h1.objs.size=s.heap.objs.size:=b1.1;have e2:IsItemIter (h1.push {cls:=.type "tuple",data:=.seq #[es[i].key,es[i].val]}) it d (i+1) es.size ep ok ov:=aAB _ e1;have p2:(h1.push {cls:=.type "tuple",data:=.seq #[es[i].key,es[i].val]}).get? s.heap.objs.size=some {cls:=.type "tuple",data:=.seq #[es[i].key,es[i].val]}:=by rw[<- z1];exact aAI _ rfl
 have z2:(h1.push {cls:=.type "tuple",data:=.seq #[es[i].key,es[i].val]}).objs.size=s.heap.objs.size+1:=by rw[aDG,z1]
 have k2:∀b o,b≠it->s.heap.get? b=some o->(h1.push {cls:=.type "tuple",data:=.seq #[es[i].key,es[i].val]}).get? b=some o:=λb o n e=>aAB _ (b1.extBut b o n e)
 generalize h1.push {cls:=.type "tuple",data:=.seq #[es[i].key,es[i].val]}=h2 at e2 p2 z2 k2 ⊢;show wpAny _ _ (Builtin.Dict_items.ownedTupleIsFree (.ref it) >>= _) _ _ _;rw[z1];unfold Builtin.Dict_items.ownedTupleIsFree;refine aAA (aAA (aBB e2 rfl rfl (aAC ?_)));simp only[aBM];refine aAA (aBB e2 rfl (x:=ok) rfl (aAA (aBB e2 rfl (x:=ov) rfl ?_)));refine aAA (aCD e2 (by simp) λh3 e3 b3=>?_);refine aAA (aCD e3 (by simp) λh4 e4 b4=>?_);refine aAA (aCD e4 (by simp) λh5 e5 b5=>?_);refine aAA (aCD e5 (by simp) λh6 e6 b6=>?_);have n:s.heap.objs.size≠it:=aBJ lt;have k6:∀b o,b≠it->h2.get? b=some o->h6.get? b=some o:=λb o n e=>b6.extBut b o n (b5.extBut b o n (b4.extBut b o n (b3.extBut b o n e)))
 exact aAA (aFN (aAC (aAC ⟨_,rfl,aAC (h h6 e6 (k6 _ _ n p2) (b6.1.trans (b5.1.trans (b4.1.trans (b3.1.trans z2)))) λb o q e=>k6 b o q (k2 b o q e))⟩)))
theorem aCs(c:Calm A s.heap)(hit:IsItemIter s.heap it d i es.size ep ok ov)(ho:s.heap.get? d=some od)(hd:od.data=.dict es ep)(hi:es.size<=i)
  (q:∀h',Heap.ExtBut it s.heap h'->Q none {s with heap:=h'}):wpAny (model prog w) A (pyNext (.ref it)) Q E s:=by
 have T:s.TypeIs (.ref it) "dict_itemiterator":=⟨_,hit,rfl⟩
 unfold pyNext;refine aAA (aDL (aBL T aDS (aBH aDS T F.entry_dict_itemiterator_next ?_ (aIL _))));refine aAA (aAC (aAA (aAA (aAA (aET T (aAC ?_))))));refine aAA (aJF hit rfl ?_);rw[show Builtin.Dict_items.ownsTuple "dict_itemiterator"=true from by decide];show wpAny _ _ (if(Value.ref d==Value.none)=true then _ else _) _ _ _;rw[aAH (show ¬((Value.ref d==Value.none)=true)from aAY)];refine aAA (aAC (aAA (aDN ho hd ?_)));rw[aAH (by simp)];refine aAA (aAC (aAA (aGC ho hd ?_)));rw[aAH (by simp)];refine aAC ?_;simp only[aAH (show ¬((i:Int) < 0) by lia),aDD,Array.getElem?_eq_none hi];refine aAA (aAA (aET T (aAC ?_)));show wpAny _ _ (setField (.ref it) 2 .none >>= _) _ _ s;refine aAA (aDF hit rfl (by simp) ?_);refine cY (c.mono λe cc d vs sl q2 q3 _=>?_) λh' a k ⟨oa,ea,ca⟩=>?_
 ·have ne:e≠it:=by
   rintro rfl;rw[hit]at q2;cases q2;simp at q3
  rw[aCG _ _ _ _ ne];exact q2
 ·refine aAA (aDV (T:="StopIteration") (b:=true) ⟨oa,ea,ca⟩ aGI (aAC (q _ λb ob hb z=>k b ob ?_)))
  rw[aCG _ _ _ _ hb];exact z
end
def Paired.at{α β:Type}{F:α->β->Prop}:∀{l:List α} {m:List β} {i:Nat} {x:α},Paired F l m->l[i]?=some x->∃y,m[i]?=some y/\F x y
 |_,_,_,_,.nil,e=>by simp at e
 |_,_,0,x,.cons r t,e=>⟨_,rfl,by cases e;exact r⟩
 |_,_,i+1,x,.cons r t,e=>by
  obtain⟨y,h1,h2⟩:=Paired.at (i:=i) (x:=x) t (by simpa using e);exact⟨y,by simpa using h1,h2⟩
def Itk(a:Addr)(o:Obj)(kvs:List (List Key×V)):It :=
 ⟨λi H=>H a=some (.frz o (.dT kvs))/\i < kvs.length,λi H x H'=>∃T b k v,H T=none/\x=.ref T/\kvs[i]?=some (k,v)/\H b=some (.tup (k.map kV))/\H'=upd H T (.tup [.ref b,v]),λi H=>H a=some (.frz o (.dT kvs))/\kvs.length<=i⟩
def nS:entryFor table "dict_itemiterator.__iter__"=some Builtin.«dict_keyiterator.__iter__»:=entryFor_alias (id':="dict_keyiterator.__iter__") (by kernel_rfl) rfl (by decide +kernel) (by kernel_rfl)
variable{elts:List Expr}{a it:Addr}
theorem xW{x1}{ep:Addr}{o:Obj}{es:Array DictEntry}(hd:o.data=.dict es ep)(hl:es.size=kvs.length) :
  Turn P w K (.Tuple elts x1 pos) (Itk a o kvs) [it] it (λi h=>∃ok ov,IsItemIter h it a i es.size ep ok ov) True where
 mem:=by simp
 obj:=λi h st b hb=>by
  have e:b=it:=by simpa using hb
  subst e;obtain⟨_,_,e⟩:=st;exact⟨_,e,λv z=>by cases z⟩
 keep:=λi h h' ⟨ok,ov,e⟩ k=>⟨ok,ov,k it (by simp) _ e⟩
 item:=by
  intro X hP hw hK hc i pins s σ H E I hf st hg;subst hP hw hK;obtain⟨hq,hx⟩:=hg;obtain⟨ok,ov,hit⟩:=st;obtain⟨ho,z,y,xs,r,o',es',ep',h1,h2,h3,h4,h5⟩:=(show ObjOk X.prog X.w H s.heap a (.frz o (.dT kvs))from I.hok a _ hq)
  rw[ho]at h1;cases h1;rw[hd]at h3;cases h3;obtain⟨⟨k,b,u⟩,e1,e2,e3,e4⟩:=Paired.at r (aAP hx);have lt:i < es.size:=by lia
  have ee:es[i]=entryOfKey (tupleKind (mixKind X.prog X.w)) (k,b,u):=by
   have:=entry_at h4 i;rw[aEL lt,e1]at this;simpa using this
  have ek:es[i].key=.ref b:=by rw[ee];rfl
  have ev:es[i].val=u:=by rw[ee];rfl
  refine yZ hit ho hd lt λh' f' p' z' k'=>⟨_,rfl,?_⟩
  refine wpAny_letOwnedTupleGo_items (s:={s with heap:=h'}) f' λh2 g2 sb=>?_
  have sb:Heap.SameBut it h' h2:=sb;have n':s.heap.objs.size<=s.heap.objs.size:=aAD _;have nt:s.heap.objs.size≠it:=aBJ (aAE hit);have p2:=sb.extBut _ _ nt p';rw[ek,ev]at p2;refine⟨.ref s.heap.objs.size,upd H s.heap.objs.size (.tup [.ref b,kvs[i].2]),I.turnLay (t':=s.toks) hf (λc q hc e=>?_) n' (show ObjOk X.prog X.w _ h2 s.heap.objs.size (.tup [.ref b,kvs[i].2])from⟨by show 2<=sizeLine;decide,[.ref b,u],.cons rfl (.cons e4 .nil),_,p2,rfl,_,rfl⟩),rfl,⟨_,b,kvs[i].1,kvs[i].2,I.hok.fresh n',rfl,aAP hx,e3,rfl⟩,⟨_,_,g2⟩,λc hc=>?_⟩
  ·have hc:c≠it:=by simpa using hc
   exact sb.extBut c q hc (k' c q hc e)
  ·have e:c=it:=by simpa using hc
   rw[aI (e▸λz=>nt z.symm)];exact(hf c hc).1
 done:=by
  intro X hP hw hK hc i pins s σ H E I hf st hg;subst hP hw hK;obtain⟨hq,hx⟩:=hg;obtain⟨ok,ov,hit⟩:=st;obtain⟨f0,f1,f2,f3,f4,f5⟩:=hf it (by simp);have ho:=(show ObjOk X.prog X.w H s.heap a (.frz o (.dT kvs))from I.hok a _ hq).1;exact aCs I.cm hit ho hd (by lia) λh' eb=>⟨rfl,I.turned (t':=s.toks) (λb o hb e=>eb b o hb e) f0 f1 f3 f4 f5⟩
 self:=λA i s Q E st h=>by
  obtain⟨ok,ov,e⟩:=st;have T:s.TypeIs (.ref it) "dict_itemiterator":=⟨_,e,rfl⟩
  refine aHV T F.slot_dict_itemiterator_iter (aBH F.slot_dict_itemiterator_iter T nS ?_ (F.args_dict_itemiterator_iter_1 _));show wpAny _ _ (ret (.ref it)) _ _ s;exact aAC ⟨_,rfl,"dict_itemiterator",_,T,aDS.lookup,h⟩
variable{prog:Program}{d:Addr}
def uI(hd:(d==sysModules)=false):MeetsIn prog w (Builtin.«dict.items» ⟨[.ref d],[]⟩) (λ_ R s=>s.TypeIs (.ref d) "dict" /\
  R (.ok (.ret (.ref s.heap.objs.size))) {s with heap:=s.heap.push {cls:=.type "dict_items",data:=.fields #[.ref d]}}) :=
 .of_wp λA R s ⟨t,h⟩=>by
  unfold Builtin.«dict.items» Builtin.Dict.noArgs;refine aAA (aAA (aFD t ?_));show wpAny _ _ (pure d) _ _ s;refine aAC ?_;show wpAny _ _ (Builtin.Dict.showsAll d >>= _) _ _ s;unfold Builtin.Dict.showsAll;rw[aAH (by rw[hd];exact aAY)];refine aAA (aAC ?_);exact aAA (aBR (aAC ⟨_,rfl,h⟩))
def Frz(H:Hp)(a:Addr)(o:Obj)(kvs:List (List Key×V))(H':Hp):Prop:=(H a=some (.frz o (.dT kvs))/\H'=H)\/(H a=some (.dT kvs)/\H'=upd H a (.frz o (.dT kvs)))
def aGf{x1}{td:TE}(ho:PE X o td)
  (hbase:attributeBase o "items" X.env (eval o X.env)=eval o X.env:=by rfl)(hline:(apos.endLine==cpos.line)=true:=by rfl) :
  PI X (.Tuple elts x1 tpos) (.Call (.Attribute o "items" apos) [] [] cpos) (λσ H R=>td σ H λx H1=>∃a kvs,x=.ref a/\Rd H1 a (.dT kvs)/\∀ob H2,Frz H1 a ob kvs H2->R (Itk a ob kvs) H2) q:=by
 intro pins s σ H R I h;refine wpAny_Call_method0_late hbase hline (thn (ho pins s σ H _ I h) λv s1 ⟨x,H1,I1,r1,a,kvs,ex,rd,q1⟩=>?_);subst ex;obtain rfl:v=Value.ref a:=r1;obtain⟨t1,t2,hd⟩:=aHg I1 (.inr ⟨kvs,rd⟩);refine⟨"dict","dict.items",PySem.F.plainAttrs_dict,PySem.F.slot_dict_items,PySem.F.type_dict_items,t1,t2,aGE rfl (PySem.evalArgs_none ?_)⟩;refine call_meetsIn PySem.F.slot_dict_items t1 PySem.F.entry_dict_items (PySem.F.args_dict_items_1 _) (uI hd) ⟨t1,?_⟩;obtain⟨hz,hd,xs,r,ob,es,ep,h1,h2,h3,h4,h5⟩:=(show ObjOk X.prog X.w H1 s1.heap a (.dT kvs)from wB I1.hok rd)
 have hl:es.size=kvs.length:=by rw[Paired.length r,<- aEG,h4,aAM]
 have lt:=aAE h1;have h1':(s1.heap.push {cls:=.type "dict_items",data:=.fields #[.ref a]}).get? a=some ob:=aAB _ h1;have hv:(s1.heap.push {cls:=.type "dict_items",data:=.fields #[.ref a]}).get? s1.heap.objs.size=some {cls:=.type "dict_items",data:=.fields #[.ref a]}:=aAI _ rfl;refine aHV (s:={s1 with heap:=_}) ⟨_,hv,rfl⟩ PySem.F.slot_dict_items_iter (aBH PySem.F.slot_dict_items_iter ⟨_,hv,rfl⟩ PySem.F.entry_dict_items_iter ?_ (PySem.F.args_dict_items_iter_1 _));unfold Builtin.«dict_items.__iter__»;refine aAA (aAC (aAA ?_));unfold Builtin.Dict_items.dictOf;refine aAA (aBB hv rfl (x:=.ref a) rfl (aAC (aAA ?_)));unfold Builtin.Dict_items.newIterator;refine aAA (aDN h1' h3 (aAA (aGC h1' h3 ?_)));rw[show Builtin.Dict_items.ownsTuple "dict_itemiterator"=true from by decide];simp only[aBM];refine aBR (aAC ⟨_,rfl,"dict_itemiterator",_,⟨_,aAI _ rfl,rfl⟩,PySem.F.slot_dict_itemiterator_next.lookup,?_⟩)
  (by simp only[sizeOk,Builtin.Dict_items.ownedTupleFields,aAL,aCC,aBV,aEQ,aBE];lia)
 have fz:∃H2,Frz H1 a ob kvs H2/\Inv X pins σ H2 s1/\H2 a=some (.frz ob (.dT kvs)):=by
  rcases rd with e|⟨o',e⟩
  ·refine⟨_,.inr ⟨e,rfl⟩,?_,aS⟩
   refine mE (t':=s1.toks) I1 (by rw[e];trivial) ⟨rfl,λ_ _=>rfl⟩ ⟨_,h1⟩ ⟨h1,hz,hd,xs,Paired.mapP r λp q z=>⟨z.1,?_,z.2.2⟩,ob,es,ep,h1,h2,h3,h4,h5⟩;rw[aI (aGq z.2.1 e (λz=>nomatch z))];exact z.2.1
  ·have:=(show ObjOk X.prog X.w H1 s1.heap a (.frz o' (.dT kvs))from I1.hok a _ e).1
   rw[h1]at this;cases this;exact⟨H1,.inl ⟨e,rfl⟩,I1,e⟩
 obtain⟨H2,f2,I2,e2⟩:=fz;refine⟨_,_,_,Itk a ob kvs,H2,rfl,I2.kept (t':=s1.toks) λb o e=>aAB _ (aAB _ e),(xW h3 hl).weak,⟨.none,.none,?_⟩,λb hb=>?_,q1 ob H2 f2⟩
 ·exact(aAI _ rfl).trans (by simp[rawInt,Builtin.Dict_items.ownedTupleFields])
 ·obtain rfl:b=_:=by simpa using hb
  refine I2.fpOk ?_ (I2.hok.fresh ?_) <;> simp[aDG]
def wO:typeLookup (.type "tuple") "keys"=pure none:=am_miss_of_fast (by decide +kernel)
variable{E:Value->Shared->Prop}{o:Obj}
theorem lR{k:Nat}{u:Tok}
  (hx:s.heap.get? a=some o)(hc:o.cls=.type "tuple")(hdat:o.data=.seq xs k)(hd:o.dict=none)(hA:A.handled=none)
  (h:∀h' tk e,Heap.NewExcOf s.heap h' e "AttributeError"->E (.ref e) {s with heap:=h',toks:=tk}) :
  wpAny (model prog w) A (getAttrBy (.ref a) (.str "keys" u) false) Q E s:=by
 obtain⟨c,dct,dat,sl⟩:=o;simp only at hc hdat hd;subst hc hdat hd;obtain⟨hp,g,d,tk,os⟩:=s;have hT:∀tk',(⟨hp,g,d,tk',os⟩:Shared).TypeIs (.ref a) "tuple":=λ_=>⟨_,hx,rfl⟩
 have f1:=aHI;have f3:=aHC.lookup;have f4:=aHC.bind (.ref a);have f5:=am_tuple_getattr_none;unfold getAttrBy;repeat(any_goals (first|assumption|exact hT _|((with_reducible show wpAny _ _ (call (Value.builtin "tuple.__getattribute__") _ _) _ _ _);refine aEP aHC (hT _) am_entry_tuple_getattribute (F.args_tuple_getattribute_2 _ _) (meets_getattribute_miss_tuple a xs k sl "keys" _ wO (by decide +kernel)) ⟨hx,hA,λh' tk' e hx'=>?_⟩)|wp_step))
 obtain⟨t',u',he⟩:=hx'.there;show wpAny _ _ (getattributeRaised _ _ _ _ _ _ _) _ _ _;unfold getattributeRaised;repeat(any_goals (first|assumption|wp_step))
 exact h _ _ _ hx'.of
def pC{k:Nat}{Q:Option Value->Shared->Prop}
  (hx:s.heap.get? a=some o)(hc:o.cls=.type "tuple")(hdat:o.data=.seq xs k)(hd:o.dict=none)(hA:A.handled=none)
  (h:∀h' tk,(∀b ob,s.heap.get? b=some ob->h'.get? b=some ob)->Q none {s with heap:=h',toks:=tk}) :
  wpAny (model prog w) A (getAttr? (.ref a) "keys") Q E s:=by
 obtain⟨hp,g,d,tk,os⟩:=s;unfold getAttr? getAttrBy?;refine aAA (wpAny_mkText ?_);refine aAA (aDL ?_);refine lR hx hc hdat hd hA λh' tk' e ne=>?_
 obtain⟨k1,k2,oe,vs,he,hce,_⟩:=ne;dsimp only;refine aAA (aDV (T:="AttributeError") ⟨oe,he,hce⟩ aHI ?_);rw[aAG rfl];exact aAC (h h' tk' k1)
inductive PairsT(prog:Program)(w:World)(h:Heap):List Value->List (List Key×Addr×Value)->Prop
 |nil:PairsT prog w h [] []
 |cons {b a:Addr} {v:Value} {k:List Key} {xs:List Value} {kvs:List (List Key×Addr×Value)} (hb:h.IsTuple b #[.ref a,v]) (hk:(tupleKind (mixKind prog w)).is h k a) (r:PairsT prog w h xs kvs):PairsT prog w h (.ref b::xs) ((k,a,v)::kvs)
def mergedH(kvs more:List (List Key×Addr×Value)):List (List Key×Addr×Value):=more.foldl (λacc x=>storedH acc x.1 x.2.1 x.2.2) kvs
def aJy{k:List Key}(K:∀b o,h.get? b=some o->h'.get? b=some o)(i:(tupleKind (mixKind prog w)).is h k a):(tupleKind (mixKind prog w)).is h' k a:=by
 obtain⟨o,its,n,h1,h2⟩:=i;exact⟨o,its,n,K _ _ h1,h2⟩
def xQ(kvs:List (List Key×Addr×Value))(k:List Key)(a:Addr)(v:Value):(storedH kvs k a v).length<=kvs.length+1:=by
 unfold storedH;split <;> simp
structure Wk1(prog:Program)(w:World)(A:Around)(h₀:Heap)(it:Addr)(its:List Value)(at_:Heap->Nat->Prop):Prop where
 item:∀{i:Nat} {s:Shared} {x:Value} {E:Value->Shared->Prop} {Q:Option Value->Shared->Prop},(∀b o,h₀.get? b=some o->s.heap.get? b=some o)->at_ s.heap i->its[i]?=some x->(∀h',at_ h' (i+1)->Heap.SameBut it s.heap h'->Q (some x) {s with heap:=h'})->wpAny (model prog w) A (pyNext (.ref it)) Q E s
 done:∀{i:Nat} {s:Shared} {E:Value->Shared->Prop} {Q:Option Value->Shared->Prop},(∀b o,h₀.get? b=some o->s.heap.get? b=some o)->at_ s.heap i->its.length<=i->(∀h',Heap.ExtBut it s.heap h'->Q none {s with heap:=h'})->wpAny (model prog w) A (pyNext (.ref it)) Q E s
 keep:∀{i:Nat} {h h':Heap},at_ h i->(∀o,h.get? it=some o->h'.get? it=some o)->at_ h' i
def kZ(hu:A.units+1 < cLine)(h₀:Heap)(W:Wk1 prog w A.in1 h₀ it its at_)(hi:h₀.get? it=none)(hd:h₀.get? d=none)(hid:it≠d) :
  ∀(rest:List Value) (more:List (List Key×Addr×Value)) (i:Nat) (s:Shared) (kvs:List (List Key×Addr×Value)),its.drop i=rest->PairsT prog w h₀ rest more->(∀b o,h₀.get? b=some o->s.heap.get? b=some o)->at_ s.heap i ->
  s.heap.DictOfH (tupleKind (mixKind prog w)) d kvs->(∀x∈kvs,∃o,h₀.get? x.2.1=some o)->kvs.length+more.length<=sizeLine ->
  (∀h' tk,(∀b o,h₀.get? b=some o->h'.get? b=some o)->h'.DictOfH (tupleKind (mixKind prog w)) d (mergedH kvs more)->R (.ok (.ret .none)) {s with heap:=h',toks:=tk}) ->
  codeAny (model prog w) A (.builtin "dict.update.loop" ⟨[.ref d,.ref it,rawInt i,.none],[]⟩) R s:=by
 intro rest;induction rest with
 |nil =>
  intro more i s kvs hr hp hk hit hD hA hz q;cases hp;refine aEE tU ?_;rw[aER fT _];show wpAny _ A.in1 (pyNext (.ref it) >>= _) _ _ s;refine aAA (W.done hk hit (List.drop_eq_nil_iff.mp hr) λh' hx=>?_);have hK:∀b o,h₀.get? b=some o->h'.get? b=some o:=λb o e=>hx b o (λz=>by rw[z,hi]at e;cases e) (hk b o e)
  show wpAny _ _ (Builtin.Dict.addKeywords d [] >>= λ_=>ret Value.none) _ _ _;refine aAA (aAC (aAC (q h' s.toks hK ?_)));obtain⟨o,es,ep,h1,h2,h3,h4,h5,h6⟩:=hD;refine⟨o,es,ep,hx d o (Ne.symm hid) h1,h2,h3,h4,λx hx'=>?_,h6⟩;obtain⟨oo,its',n,g1,g2⟩:=h5 x hx';obtain⟨ob,e⟩:=hA x hx';have:=hk _ _ e;rw[g1]at this;cases this;exact⟨_,its',n,hK _ _ e,g2⟩
 |cons x rest ih =>
  intro more i s kvs hr hp hk hit hD hA hz q;cases hp with
  |@cons b a v k _ kvs' hb hkey hp =>
  refine aEE tU ?_;rw[aER fT _];show wpAny _ A.in1 (pyNext (.ref it) >>= _) _ _ s;have hn:its[i]?=some (.ref b):=by have:=congrArg (·[0]?) hr;simpa using this
  refine aAA (W.item hk hit hn λh' hx hs=>?_);have hK:∀b o,h₀.get? b=some o->h'.get? b=some o:=λb o e=>(hs.2 b (λz=>by rw[z,hi]at e;cases e)).trans (hk b o e)
  have hD':h'.DictOfH (tupleKind (mixKind prog w)) d kvs:=by
   obtain⟨o,es,ep,h1,h2,h3,h4,h5,h6⟩:=hD;refine⟨o,es,ep,(hs.2 d (Ne.symm hid)).trans h1,h2,h3,h4,λx hx'=>?_,h6⟩;obtain⟨oo,its',n,g1,g2⟩:=h5 x hx';obtain⟨ob,e⟩:=hA x hx';have:=hk _ _ e;rw[g1]at this;cases this;exact⟨_,its',n,hK _ _ e,g2⟩
  obtain⟨o,ho,hc,n,hdat⟩:=hb;have ho':=hK _ _ ho;dsimp only;refine aAA (aBC (aAA (aJG ?_)));unfold Builtin.Dict.pairItems;refine aAA (aFQ (T:="tuple") ⟨o,ho',hc⟩ ?_);rw[aAG (by decide)];refine aAA (aCS ho' hdat (aAC ?_));show wpAny _ _ (holding [.ref a,v] (dictSet d (.ref a) v)) _ _ _;refine aBC (wpAny_dictSet_heap (aHJ hu) (aJy hK hkey) hD' (λh2 hD2 hs2=>?_) (by simp at hz;lia));refine aAC ⟨aEU fT _,?_⟩;have hK2:∀b o,h₀.get? b=some o->h2.get? b=some o:=λb o e=>(hs2.2 b (λz=>by rw[z,hd]at e;cases e)).trans (hK b o e)
  refine ih kvs' (i+1) _ (storedH kvs k a v) ?_ hp hK2 (W.keep hx λo e=>(hs2.2 it hid).trans e) hD2 ?_ ?_ λh3 tk3 k3 d3=>?_
  ·rw[<- aJI,hr];rfl
  ·intro x hx'
   unfold storedH at hx';split at hx'
   ·obtain⟨y,hy,rfl⟩:=aAX.mp hx'
    obtain⟨oy,ey⟩:=hA y hy;unfold putAt;split
    ·exact⟨oy,ey⟩
    ·exact⟨oy,ey⟩
   ·rcases aCH.mp hx' with hx'|hx'
    ·exact hA x hx'
    ·rw[aBP]at hx';subst hx'
     obtain⟨oo,_,_,g1,_⟩:=hkey;exact⟨oo,g1⟩
  ·have:=xQ kvs k a v
   simp only[aBV]at hz;lia
  ·exact q h3 tk3 k3 d3
def PairsTH(H:Hp):List V->List (List Key×V)->Prop
 |[],kvs=>kvs=[]|v::vs,kvs=>∃b a k x r,v=.ref b/\H b=some (.tup [.ref a,x])/\H a=some (.tup (k.map kV))/\kvs=(k,x)::r/\PairsTH H vs r
def mergeT(kvs more:List (List Key×V)):List (List Key×V):=more.foldl (λacc kv=>putK acc kv.1 kv.2) kvs
def KT.merge{more:List (List Key×V)}{rs:List (List Key×Addr×Value)}{xs:List (List Key×Addr×Value)}(t:KT H more rs):KT H kvs xs->KT H (mergeT kvs more) (mergedH xs rs):=by
 induction t generalizing kvs xs with
 |nil=>exact id|cons r t ih =>
  obtain⟨h1,h2,h3⟩:=r;exact λh=>ih (kvs:=putK kvs _ _) (xs:=storedH xs _ _ _) (by rw[<- h1];exact h.put _ h2 h3)
def dR:∀(more kvs:List (List Key×V)),(mergeT kvs more).length<=kvs.length+more.length
 |[],kvs=>by simp[mergeT]|kv::r,kvs=>by
  have h1:=dF kvs kv.1 kv.2;have h2:=dR r (putK kvs kv.1 kv.2);simp only[mergeT,aHB,aBV]at h2 ⊢;lia
def qZ(I:Inv X pins σ H s)(h:Vals vs its):PairsTH H vs kvs->∃rs,PairsT X.prog X.w s.heap its rs/\KT H kvs rs:=by
 induction h generalizing kvs with
 |nil=>intro h;cases h;exact⟨[],.nil,.nil⟩
 |cons r rs ih =>
  rintro⟨b,a,k,x,m,e1,e2,e3,e4,e5⟩;subst e1 e4;cases r;obtain⟨qs,p1,p2⟩:=ih e5;obtain⟨_,its2,v2,t2⟩:=(show ObjOk X.prog X.w H s.heap b (.tup [.ref a,x])from I.hok b _ e2)
  obtain⟨_,_,rfl,a1,b1⟩:=v2.two;cases a1;exact⟨_::qs,.cons t2.t (gW I.hok e3) p1,.cons ⟨rfl,e3,b1⟩ p2⟩
def aIe(c:A.handled=none)(h₀:Heap)(hl:h₀.IsList l its.toArray):Wk1 prog w A h₀ it its (λh i=>h.IsListIter it l i)where
 item:=λhk hit hx q=>aIB hit (let⟨o,ho,r⟩:=hl;⟨o,hk _ _ ho,r⟩) (by simpa using hx) q
 done:=λhk hit hx q=>wpAny_pyNext_list_end c hit (let⟨o,ho,r⟩:=hl;⟨o,hk _ _ ho,r⟩) (by simpa using hx) q
 keep:=λ⟨o,e,r⟩ k=>⟨o,k o e,r⟩
theorem xA(hc:X.calm=true)(hu:X.A.units+101 < cLine):CallR X (.type "dict") (λxs H Q=>∃p vs kvs,xs=[.ref p]/\H p=some (.lst vs)/\PairsTH H vs kvs/\kvs.length<=16777216/\∀q,H q=none->Q (.ref q) (upd H q (.dT (mergeT [] kvs)))):=by
 intro pins s σ H xs us Q I r h;obtain⟨p,vs,kvs,rfl,hp,hk,hz,q⟩:=h;obtain⟨u,rfl,rx⟩:=vals1 r;cases rx;obtain⟨_,its,c,hv,ho⟩:=(show ObjOk X.prog X.w H s.heap p (.lst vs)from I.hok p _ hp)
 obtain⟨rs,hP,hKV⟩:=qZ I hv hk;refine aJJ (Q₁:=λobj s₁=>obj=.ref s.heap.objs.size/\s₁={s with heap:=s.heap.push {cls:=.type "dict",data:=.dict #[]}}) F.kt_called_dict (aIN _) aJX (kt_code_dict_new _ ⟨rfl,rfl⟩) ?_;rintro obj s₁ ⟨rfl,rfl⟩;have hnew:(s.heap.push {cls:=.type "dict",data:=.dict #[]}).DictOfH (tupleKind (mixKind X.prog X.w)) s.heap.objs.size []:=Heap.DictOfH.new s.heap;refine⟨hnew.typeIs,aJP _ _,?_⟩;unfold Builtin.«dict.__init__»;refine aAA ?_;unfold Builtin.Dict.selfAndRest;refine aAA (aFD hnew.typeIs ?_);show wpAny _ _ (pure (s.heap.objs.size,[Value.ref p])) _ _ _;refine aAC ?_;show wpAny _ _ (Builtin.Dict.updateFrom "dict.__init__" s.heap.objs.size (.ref p) [] .none) _ _ _;have ho':=aAB (h:=s.heap) {cls:=.type "dict",data:=.dict #[]} ho;unfold Builtin.Dict.updateFrom;refine aAA (aFQ (T:="list") ⟨_,ho',rfl⟩ ?_);rw[aAG (by decide)];refine aAA (sR ho' rfl rfl rfl (I.ok.hd hc) λh' tk hK=>?_);rw[aAG (show(none:Option Value).isNone=true from rfl)];refine aAA (aCM ?_);have ho2:=hK _ _ ho';have hd2:h'.get? s.heap.objs.size=some {cls:=.type "dict",data:=.dict #[]}:=hK _ _ (aAI _ rfl);refine aAA (aHU (items:=its.toArray) ⟨_,ho2,rfl,_,rfl⟩ (aAC ⟨aEU fT _,?_⟩));have kk:∀b o,s.heap.get? b=some o->h'.get? b=some o:=λb o e=>hK b o (aAB _ e)
 have hit:h'.get? h'.objs.size=none:=aEA (aAD _);have hlen:rs.length<=16777216:=by rw[<- Paired.length hKV];exact hz
 have hI:(h'.push {cls:=.type "list_iterator",data:=.fields #[.ref p,.int 0 0]}).IsListIter h'.objs.size p 0:=⟨_,aAI _ rfl,rfl,rfl⟩
 refine kZ (A:=X.A.in1) (prog:=X.prog) (w:=X.w) (show X.A.units+1+1 < cLine by lia) s.heap (it:=h'.objs.size) (d:=s.heap.objs.size) (its:=its) (at_:=λh i=>h.IsListIter h'.objs.size p i) (aIe (A:=X.A.in1.in1) (show X.A.in1.in1.handled=none from I.ok.hd hc) s.heap (l:=p) ⟨_,ho,rfl,_,rfl⟩) ?_ (aEA (aAD _)) ?_ its rs 0 _ [] rfl hP ?_ hI ?_ (λ_ z=>nomatch z) ?_ ?_
 ·cases e:s.heap.get? h'.objs.size with
  |none=>rfl|some o=>rw[kk _ _ e]at hit;cases hit
 ·intro e;rw[e,hd2]at hit;cases hit
 ·exact λb o e=>aAB _ (kk b o e)
 ·obtain⟨o,es,ep,e1,e2,e3,e4,e5,e6⟩:=hnew
  exact⟨o,es,ep,aAB _ (hK _ _ e1),e2,e3,e4,(λ_ z=>nomatch z),e6⟩
 ·rw[aBE];simp;lia
 ·intro h3 tk3 k3 d3
  obtain⟨o,es,ep,e1,e2,e3,e4,e5,e6⟩:=d3;refine⟨rfl,.ref s.heap.objs.size,_,I.laid (t':=tk3) (o:=.dT (mergeT [] kvs)) k3 (aAD _) ⟨?_,?_,_,(hKV.merge .nil).keeps λb ys eb=>?_,o,es,ep,e1,e2,e3,e4,e6⟩,rfl,q _ (I.hok.fresh (aAD _))⟩
  ·have:=dR kvs []
   rw[aBE];simp at this;lia
  ·exact aIT (aBJ I.big)
  ·rw[aI (aQ eb (I.hok.fresh (aAD _)))];exact eb
def aDs(c:A.handled=none)(h₀:Heap)(hl:h₀.IsTuple l its.toArray):Wk1 prog w A h₀ it its (λh i=>h.IsTupleIter it l i)where
 item:=λhk hit hx q=>aHQ hit (let⟨o,ho,r⟩:=hl;⟨o,hk _ _ ho,r⟩) (by simpa using hx) q
 done:=λhk hit hx q=>wpAny_pyNext_tuple_end c hit (let⟨o,ho,r⟩:=hl;⟨o,hk _ _ ho,r⟩) (by simpa using hx) q
 keep:=λ⟨o,e,r⟩ k=>⟨o,k o e,r⟩
theorem yP(hc:X.calm=true)(hu:X.A.units+101 < cLine):CallR X (.type "dict") (λxs H Q=>∃p vs kvs,xs=[.ref p]/\H p=some (.tup vs)/\PairsTH H vs kvs/\kvs.length<=16777216/\∀q,H q=none->Q (.ref q) (upd H q (.dT (mergeT [] kvs)))):=by
 intro pins s σ H xs us Q I r h;obtain⟨p,vs,kvs,rfl,hp,hk,hz,q⟩:=h;obtain⟨u,rfl,rx⟩:=vals1 r;cases rx;obtain⟨_,its,hv,o0,ho,c1,c,c2⟩:=(show ObjOk X.prog X.w H s.heap p (.tup vs)from I.hok p _ hp)
 obtain⟨cl,di,da,sl⟩:=o0;dsimp only at c1 c2;subst c1;cases c2;obtain⟨rs,hP,hKV⟩:=qZ I hv hk;refine aJJ (Q₁:=λobj s₁=>obj=.ref s.heap.objs.size/\s₁={s with heap:=s.heap.push {cls:=.type "dict",data:=.dict #[]}}) F.kt_called_dict (aIN _) aJX (kt_code_dict_new _ ⟨rfl,rfl⟩) ?_;rintro obj s₁ ⟨rfl,rfl⟩;have hnew:(s.heap.push {cls:=.type "dict",data:=.dict #[]}).DictOfH (tupleKind (mixKind X.prog X.w)) s.heap.objs.size []:=Heap.DictOfH.new s.heap;refine⟨hnew.typeIs,aJP _ _,?_⟩;unfold Builtin.«dict.__init__»;refine aAA ?_;unfold Builtin.Dict.selfAndRest;refine aAA (aFD hnew.typeIs ?_);show wpAny _ _ (pure (s.heap.objs.size,[Value.ref p])) _ _ _;refine aAC ?_;show wpAny _ _ (Builtin.Dict.updateFrom "dict.__init__" s.heap.objs.size (.ref p) [] .none) _ _ _;have ho':=aAB (h:=s.heap) {cls:=.type "dict",data:=.dict #[]} ho;unfold Builtin.Dict.updateFrom;refine aAA (aFQ (T:="tuple") ⟨_,ho',rfl⟩ ?_);rw[aAG (by decide)];refine aAA (pC ho' rfl rfl rfl (I.ok.hd hc) λh' tk hK=>?_);rw[aAG (show(none:Option Value).isNone=true from rfl)];refine aAA (aCM ?_);have ho2:=hK _ _ ho';have hd2:h'.get? s.heap.objs.size=some {cls:=.type "dict",data:=.dict #[]}:=hK _ _ (aAI _ rfl);refine aAA (aGB (items:=its.toArray) ⟨_,ho2,rfl,_,rfl⟩ (aAC ⟨aEU fT _,?_⟩));have kk:∀b o,s.heap.get? b=some o->h'.get? b=some o:=λb o e=>hK b o (aAB _ e)
 have hit:h'.get? h'.objs.size=none:=aEA (aAD _);have hlen:rs.length<=16777216:=by rw[<- Paired.length hKV];exact hz
 have hI:(h'.push {cls:=.type "tuple_iterator",data:=.fields #[.ref p,.int 0 0]}).IsTupleIter h'.objs.size p 0:=⟨_,aAI _ rfl,rfl,rfl⟩
 refine kZ (A:=X.A.in1) (prog:=X.prog) (w:=X.w) (show X.A.units+1+1 < cLine by lia) s.heap (it:=h'.objs.size) (d:=s.heap.objs.size) (its:=its) (at_:=λh i=>h.IsTupleIter h'.objs.size p i) (aDs (A:=X.A.in1.in1) (show X.A.in1.in1.handled=none from I.ok.hd hc) s.heap (l:=p) ⟨_,ho,rfl,_,rfl⟩) ?_ (aEA (aAD _)) ?_ its rs 0 _ [] rfl hP ?_ hI ?_ (λ_ z=>nomatch z) ?_ ?_
 ·cases e:s.heap.get? h'.objs.size with
  |none=>rfl|some o=>rw[kk _ _ e]at hit;cases hit
 ·intro e;rw[e,hd2]at hit;cases hit
 ·exact λb o e=>aAB _ (kk b o e)
 ·obtain⟨o,es,ep,e1,e2,e3,e4,e5,e6⟩:=hnew
  exact⟨o,es,ep,aAB _ (hK _ _ e1),e2,e3,e4,(λ_ z=>nomatch z),e6⟩
 ·rw[aBE];simp;lia
 ·intro h3 tk3 k3 d3
  obtain⟨o,es,ep,e1,e2,e3,e4,e5,e6⟩:=d3;refine⟨rfl,.ref s.heap.objs.size,_,I.laid (t':=tk3) (o:=.dT (mergeT [] kvs)) k3 (aAD _) ⟨?_,?_,_,(hKV.merge .nil).keeps λb ys eb=>?_,o,es,ep,e1,e2,e3,e4,e6⟩,rfl,q _ (I.hok.fresh (aAD _))⟩
  ·have:=dR kvs []
   rw[aBE];simp at this;lia
  ·exact aIT (aBJ I.big)
  ·rw[aI (aQ eb (I.hok.fresh (aAD _)))];exact eb
def rX{id:String}{es:Array DictEntry}{Q:Array DictEntry->Shared->Prop}(ho:s.heap.get? d=some o)(hd:o.data=.dict es ep)
  (hk:∀e∈es.toList,∃a,e.key=.ref a/\s.TypeIs (.ref a) "tuple")(hn:∀e∈es.toList,(es.filter (·.hash==e.hash)).size<=1)(h:Q es s):wpAny (model prog w) A (Builtin.Dict.entriesForEmpty id d) Q E s:=by
 unfold Builtin.Dict.entriesForEmpty;refine aAA (aDN ho hd (aAA ?_));rw[<- Array.forIn_toList];refine wpAny_forIn_list _ (λrest _ s'=>s'=s/\∀x∈rest,x∈es.toList) _ ?_ ?_ _ _ ⟨rfl,λ_ z=>z⟩
 ·rintro x rest b s' ⟨rfl,hs⟩
  have hx:=hs x (by simp);have fin:wpAny (model prog w) A (pure (ForInStep.yield PUnit.unit):Sem (ForInStep PUnit)) (λr s''=>match r with|.yield b'=>s''=s'/\∀x∈rest,x∈es.toList|.done b'=>wpAny (model prog w) A (pure es) Q E s'') E s':=aAC ⟨rfl,λy hy=>hs y (by simp[hy])⟩;refine aAA ?_;have q:∀{P:Bool->Shared->Prop},P false s'->wpAny (model prog w) A (Builtin.Dict.quietEq x.key) P E s':=λhp=>by
   obtain⟨a,e,t⟩:=hk x hx;rw[e];unfold Builtin.Dict.quietEq;exact aAA (aFX t PySem.F.slot_tuple_eq.lookup (aAC hp))
  refine q ?_;rw[aAG (by rfl),aAH (by have:=hn x hx;lia)];exact fin
 ·rintro b s' ⟨rfl,_⟩
  exact aAC h
def tZ{nm:String}{o:Addr}{od oo:Obj}{es:Array DictEntry}{epd:Nat}{Q:Unit->Shared->Prop}(hdo:d≠o)(hoS:(o==sysModules)=false)
  (hod:s.heap.get? d=some od)(hdd:od.data=.dict #[] epd)(hoo:s.heap.get? o=some oo)(hd:oo.data=.dict es ep)
  (hk:∀e∈es.toList,∃a,e.key=.ref a/\s.TypeIs (.ref a) "tuple")(hn:∀e∈es.toList,(es.filter (·.hash==e.hash)).size<=1)(hne:0 < es.size)(hz:es.size<=sizeLine+1)
  (h:Q () {s with heap:=s.heap.update d (Obj.mapDictKeys λ_=>es)}):wpAny (model prog w) A (Builtin.Dict.mergeDict nm d o) Q E s:=by
 unfold Builtin.Dict.mergeDict;rw[aAH (by simpa using hdo)];unfold Builtin.Dict.showsAll;rw[aAH (by rw[hoS];exact aAY)];refine aAA (aAC (aAA (aDN hoo hd ?_)));dsimp only;rw[aAG ?_]
 ·refine aAA (aDN hod hdd ?_)
  rw[aAG (by rfl)];refine aAA (rX hoo hd hk hn ?_);rw[aAG (by simp;intro z;subst z;simp at hne)];exact aAA (wpAny_updateDictKeysTo hod hdd (aAC h) hz)
 ·have:(es.all λe=>(keyPart e.key).isSome)=false:=by
   rw[Bool.eq_false_iff];intro z;rw[Array.all_eq_true]at z;have z0:=z 0 hne;obtain⟨a,e,_⟩:=hk es[0] (by simp);rw[e]at z0;exact nomatch z0
  simp[this]
def zT{l:List (List Key×V)}{m:List (List Key×Addr×Value)}(h:KT H l m):m.map (·.1)=l.map (·.1):=by
 induction h with
 |nil=>rfl|cons r _ ih=>simp only[aAK,ih,r.1]
def hI(ns:List Int):Int:=reduceHash (Builtin.Tuple.tupleHashOf (ns.map hashInt))
def aQr(ns:List Int):(tupleKind (mixKind prog w)).hash (ns.map .inl)=hI ns:=by
 show reduceHash (Builtin.Tuple.tupleHashOf ((ns.map Sum.inl).map (keyH w)))=_;rw[aBK];rfl
theorem xL:CallR X (.type "dict") (λxs H Q=>∃a kvs,∃ns:List (List Int),xs=[.ref a]/\Rd H a (.dT kvs)/\kvs.map (·.1)=ns.map (·.map Sum.inl)/\(ns.map hI).Nodup/\ns≠[]/\∀q,H q=none->Q (.ref q) (upd H q (.dT kvs))):=by
 intro pins s σ H xs us Q I r h;obtain⟨a,kvs,ns,rfl,rd,hns,hnd,hne,q⟩:=h;obtain⟨u,rfl,rx⟩:=vals1 r;cases rx;obtain⟨hz,hm,xs,kt,o,es,ep,h1,h2,h3,h4,h5⟩:=(show ObjOk X.prog X.w H s.heap a (.dT kvs)from wB I.hok rd)
 refine aJJ (Q₁:=λobj s₁=>obj=.ref s.heap.objs.size/\s₁={s with heap:=s.heap.push {cls:=.type "dict",data:=.dict #[]}}) F.kt_called_dict (aIN _) aJX (kt_code_dict_new _ ⟨rfl,rfl⟩) ?_;rintro obj s₁ ⟨rfl,rfl⟩;have hnew:(s.heap.push {cls:=.type "dict",data:=.dict #[]}).DictOfH (tupleKind (mixKind X.prog X.w)) s.heap.objs.size []:=Heap.DictOfH.new s.heap;have g1:(s.heap.push {cls:=.type "dict",data:=.dict #[]}).get? a=some o:=aAB _ h1;have gd:(s.heap.push {cls:=.type "dict",data:=.dict #[]}).get? s.heap.objs.size=some {cls:=.type "dict",data:=.dict #[]}:=aAI _ rfl;have ta:Shared.TypeIs {s with heap:=s.heap.push {cls:=.type "dict",data:=.dict #[]}} (.ref a) "dict":=⟨o,g1,h2.1⟩
 have lt:=aAE h1;refine⟨hnew.typeIs,aJP _ _,?_⟩;unfold Builtin.«dict.__init__»;refine aAA ?_;unfold Builtin.Dict.selfAndRest;refine aAA (aFD hnew.typeIs ?_);show wpAny _ _ (pure (s.heap.objs.size,[Value.ref a])) _ _ _;refine aAC ?_;show wpAny _ _ (Builtin.Dict.updateFrom "dict.__init__" s.heap.objs.size (.ref a) [] .none) _ _ _;unfold Builtin.Dict.updateFrom;refine aAA (aFQ ta ?_);rw[aAH (by decide)];refine aAA ?_;unfold Builtin.Dict.merge;refine aAA ?_;unfold Builtin.Dict.readDirectly;refine aAA (aDV ta isSubtype_dict_dict ?_);simp only[aIG,aAT,aBW];refine aAA (aFX ta F.slot_dict_iter.lookup (aAC ?_));simp only[beq_self_eq_true,aBM];refine aAA (aAC ?_);have hlen:es.size=kvs.length:=by rw[Paired.length kt,<- aEG,h4,aAM]
 have hxs:xs.map (·.1)=ns.map (·.map Sum.inl):=by
  rw[<- hns];exact zT kt
 have hh:es.toList.map (·.hash)=ns.map hI:=by
  rw[h4,aBK];have:((λe:DictEntry=>e.hash) ∘ entryOfKey (tupleKind (mixKind X.prog X.w)))=λx=>(tupleKind (mixKind X.prog X.w)).hash x.1:=rfl
  rw[this,show(λx:List Key×Addr×Value=>(tupleKind (mixKind X.prog X.w)).hash x.1)=(tupleKind (mixKind X.prog X.w)).hash ∘ (·.1)from rfl,<- aBK,hxs,aBK];exact aBY λn _=>aQr n
 refine tZ (aBJ lt) hm gd rfl g1 h3 (λe he=>?_) (λe he=>?_) ?_ ?_ ?_
 ·rw[h4]at he
  obtain⟨⟨k,b,v⟩,hx,rfl⟩:=aAX.mp he;refine⟨b,rfl,?_⟩;have all:∀{l:List (List Key×V)} {m:List (List Key×Addr×Value)},KT H l m->∀x∈m,s.TypeIs (.ref x.2.1) "tuple":=by
   intro l m q;induction q with
   |nil=>intro x hx;exact nomatch hx|@cons p q ps qs hq t ih =>
    intro x hx;rcases aAU.mp hx with e|hx
    ·subst e
     exact(gW (ks:=p.1) I.hok hq.2.1).typeIs
    ·exact ih x hx
  obtain⟨ob,e1,e2⟩:=all kt _ hx;exact⟨ob,aAB _ e1,e2⟩
 ·have z:(es.filter (·.hash==e.hash)).toList=es.toList.filter (·.hash==e.hash):=by simp
  rw[<- aEG,z];have c:∀(l:List DictEntry),(l.map (·.hash)).Nodup->∀v,(l.filter (·.hash==v)).length<=1:=by
   intro l;induction l with
   |nil=>intro _ _;simp|cons d l ih =>
    intro hn v;rw[aAK,aED]at hn;rw[aFB];split
    ·rename_i hv
     have:l.filter (·.hash==v)=[]:=by
      rw[List.filter_eq_nil_iff];intro x hx hxv;refine hn.1 (aAX.mpr ⟨x,hx,?_⟩);rw[eq_of_beq hxv,eq_of_beq hv]
     rw[this];simp
    ·exact ih hn.2 v
  exact c _ (hh▸hnd) _
 ·rw[hlen,<- aAM (f:=(·.1)),hns,aAM]
  exact aJB.mpr hne
 ·rw[hlen];lia
 ·show wpAny _ _ (Builtin.Dict.addKeywords s.heap.objs.size [] >>= _) _ _ _
  refine aAA (aAC (aAC ⟨rfl,.ref s.heap.objs.size,_,I.laid (t':=s.toks) (o:=.dT kvs) (λb o' e=>?_) (aAD _) ⟨hz,aIT (aBJ I.big),xs,Paired.mapP kt λp q z=>⟨z.1,?_,z.2.2⟩,_,es,_,aCF _ gd rfl,⟨rfl,rfl,rfl⟩,rfl,h4,h5⟩,rfl,q _ (I.hok.fresh (aAD _))⟩))
  ·rw[aCG _ _ _ _ (aAO (aAE e))]
   exact aAB _ e
  ·rw[aI (aQ z.2.1 (I.hok.fresh (aAD _)))];exact z.2.1
end L2
namespace EV
open L2
variable{K:Frag}
def SameK.frzT{xs:List (List Key×V)}{ob:Obj}{ys:List (List Key×V)}:SameK (.dT xs) (.frz ob (.dT ys)):=⟨λ_ h=>(nomatch h),λ_ _ _ h=>(nomatch h),λ_ _=>⟨ys,.inr ⟨ob,rfl⟩⟩,λ_ h=>(nomatch h),λ_ _ h=>(nomatch h)⟩
def xZ:∀k:List Key,Rps K μ H (k.map kyD) (k.map kV)
 |[]=>rfl|.inl i::r=>⟨_,_,rfl,rfl,xZ r⟩|.inr i::r=>⟨_,_,rfl,rfl,xZ r⟩
def aEk:∀{ds:List D} {kvs:List (List Key×V)} {i:Nat} {d:D},Krs K μ H ds kvs->ds[i]?=some d->∃k x v,d=.tup [.tup (k.map kyD),x]/\kvs[i]?=some (k,v)/\Rp K μ H x v
 |_::_,_,0,_,⟨g,x,v,r,e1,e2,e3,e4⟩,h=>by subst e2;cases h;exact⟨g,x,v,e1,rfl,e3⟩
 |_::_,_,i+1,d,⟨g,x,v,r,e1,e2,e3,e4⟩,h=>by
  obtain⟨k,y,u,h1,h2,h3⟩:=aEk (i:=i) e4 (by simpa using h);exact⟨k,y,u,h1,by subst e2;simpa using h2,h3⟩
def aEw{a:Addr}(hnd:nsIn K mainGlobals "dict"=some none)(h:IsO K "dict" H a):∃kvs,Rd H a (.dT kvs):=by
 rcases h with⟨C',dx,fs,h1,h2⟩|⟨_,h⟩|⟨h1,_⟩
 ·rw[hnd]at h2;cases h2
 ·exact h
 ·cases h1
variable{K:Frag}{e a b o i:Expr}{fx:FE}
def iItems(f:FE):FI:=λL M=>(f L M).bind λx M1=>match x with
 |.ob c j=>if c="dict"then(match M1[j]? with
  |some ds=>.ok ⟨ents ds,none⟩ (M1.set j (.bl true::ents ds))|none=>.bad)else .bad
 |_=>.bad
def aHy{elts:List Expr}{x1}(hnd:nsIn K mainGlobals "dict"=some none)(ho:Ev X K Z o f)
  (hbase:attributeBase o "items" X.env (eval o X.env)=eval o X.env:=by rfl)(hline:(apos.endLine==cpos.line)=true:=by rfl) :
  Ei X K Z (.Tuple elts x1 tpos) (.Call (.Attribute o "items" apos) [] [] cpos) (iItems f) q:=by
 refine⟨ho.k,cqI (aGf ho.h hbase hline) ?_⟩;rintro σ H R ⟨μ,M,L,hr,lr,p⟩;refine⟨μ,M,L,hr,lr,p.bind.imp λμ1 H1 M1 w e1 hr1 _ p1 v rx=>?_⟩;cases w with
 |d _=>exact p1.elim|ref _=>exact p1.elim|nest _=>exact p1.elim|ob c j =>
  dsimp only at p1;split at p1
  ·rename_i hc;subst hc
   cases q2:M1[j]? with
   |none=>rw[q2]at p1;exact p1.elim
   |some ds =>
    rw[q2]at p1;obtain⟨a0,kvs,qa,rfl,rd,r1,_⟩:=eD hnd hr1 rx q2;refine⟨a0,kvs,rfl,rd,λob H2 fz=>?_⟩;have z:∃o',H1 a0=some o'/\SameK o' (.frz ob (.dT kvs))/\H2=upd H1 a0 (.frz ob (.dT kvs)):=by
     rcases fz with⟨h,rfl⟩|⟨h,rfl⟩
     ·exact⟨_,h,.refl,by funext b;by_cases q:b=a0;· subst q;rw[aS,h]
                         ·rw[aI q]⟩
     ·exact⟨_,h,.frzT,rfl⟩
    obtain⟨o',ho',sk,rfl⟩:=z;have x:=fB (H:=H1) (o:=.frz ob (.dT kvs)) qa ho' sk;refine p1 μ1 _ x (hr1.setO qa ho' sk (o:=.frz ob (.dT kvs)) ⟨ents ds,rfl,r1⟩) _ ?_;refine⟨λμ H=>H a0=some (.frz ob (.dT kvs))/\Krs K μ H (ents ds) kvs,⟨aS,Krs.ext hr1.lsts x r1⟩,λμ1 H1 μ2 H2 l z e=>⟨?_,Krs.ext l e z.2⟩,λμ3 H3 M3 i hr3 hS hc=>⟨λd hd=>?_,λhl=>⟨hS.1,?_⟩⟩⟩
    ·obtain⟨o',h1,k⟩:=e.kin a0 _ z.1
     rw[k.f _ _ rfl]at h1;exact h1
    ·obtain⟨k,x,v,rfl,h1,rv⟩:=aEk hS.2 hd
     refine⟨⟨hS.1,(aAF.mp h1).1⟩,λx' H4 hy4=>?_⟩;obtain⟨T,b,k',v',hT,rfl,hk,hb,rfl⟩:=hy4;rw[h1]at hk;cases hk;exact mS hr3 hT (show Rp K μ3 H3 (.tup (k.map kyD)) (.ref b)from by simp only[Rp];exact⟨b,_,rfl,hb,xZ k⟩) rv
    ·rw[<- mC hS.2];exact hl
  ·exact p1.elim
def eDGet2(fo fi fx:FE):FE:=λL M=>(fo L M).bind λx M1=>match x with
 |.ob c j=>if c="dict"then(fi L M1).bind λy M2=>(fx L M2).bind λz M3=>(match keyT y,z,M3[j]? with
  |some k,.d z,some ds=>.ok (.d ((kget k ds).getD z)) M3|_,_,_=>.bad)else .bad
 |_=>.bad
def aHt(hnd:nsIn K mainGlobals "dict"=some none)(hu:X.A.units+101 < cLine)(ho:Ev X K Z o fo)(hi:Ev X K Z i fi)(hx:Ev X K Z e fx)(m:M2 X o "get" apos i e cpos:=by exact⟨rfl,rfl,rfl,rfl⟩) :
  Ev X K Z (.Call (.Attribute o "get" apos) [i,e] [] cpos) (eDGet2 fo fi fx):=by
 refine⟨ho.k,cqE (aGk (by lia) ho.h hi.h hx.h m) ?_⟩;rintro σ H Q ⟨μ,M,L,hr,lr,p⟩;refine⟨μ,M,L,hr,lr,p.bind.imp λμ1 H1 M1 w e1 hr1 _ p1 v rx=>?_⟩;cases w with
 |d _=>exact p1.elim|ref _=>exact p1.elim|nest _=>exact p1.elim|ob c j =>
  dsimp only at p1;split at p1
  ·rename_i hc;subst hc
   obtain⟨a0,qa,rfl,io⟩:=id rx;refine⟨a0,rfl,.inr (aEw hnd io),μ1,M1,L,hr1,lr.ext hr.lsts e1,p1.bind.imp λμ2 H2 M2 y e2 hr2 _ p2 u ry=>?_⟩;refine⟨μ2,M2,L,hr2,lr.ext hr.lsts (e1.trans e2),p2.bind.imp λμ3 H3 M3 z e3 hr3 _ p3 t rz=>?_⟩;cases q1:keyT y with
   |none=>simp only[q1]at p3;exact p3.elim
   |some k =>
    cases z with
    |ref _=>simp only[q1]at p3;exact p3.elim
    |nest _=>simp only[q1]at p3;exact p3.elim
    |ob _ _=>simp only[q1]at p3;exact p3.elim
    |d z =>
     cases q2:M3[j]? with
     |none=>simp only[q1,q2]at p3;exact p3.elim
     |some ds =>
      simp only[q1,q2]at p3;obtain⟨a1,kvs,qa1,ea,h1,r1,_⟩:=eD hnd hr3 (rx.ext hr1.lsts (e2.trans e3)) q2;cases ea;obtain⟨b0,rfl,h2⟩:=rZ (ry.ext hr2.lsts e3) q1;refine⟨valV kvs k,.inr ⟨kvs,k,b0,h1,rfl,h2,rfl⟩,p3 μ3 H3 .refl hr3 _ ?_⟩;obtain⟨g1,g2⟩:=lT (k:=k) r1;rw[pZ]at g1 g2;cases q3:kget k ds with
      |none=>rw[g2 q3];exact rz|some x=>obtain⟨v,h3,rv⟩:=g1 x q3;rw[h3];exact rv
  ·exact p1.elim
variable{Q:W->Mm->Prop}
abbrev poIt(QI:Src->Mm->Prop):W->Mm->Prop:=λw M=>∃j ds,w=.ob "dict" j/\M[j]?=some ds/\QI ⟨ents ds,none⟩ (M.set j (.bl true::ents ds))
def aDe(h:Okx EX (f L M) (poIt QI)):Okx EX (iItems f L M) QI :=
 aG (h.mono λw M1 ⟨j,ds,e1,e2,q⟩=>by subst e1;simp only[aBM,e2];exact aH q)
abbrev poG3(Q:W->Mm->Prop)(j:Nat)(y:W):W->Mm->Prop:=λz M=>∃k x ds,keyT y=some k/\z=.d x/\M[j]?=some ds/\Q (.d ((kget k ds).getD x)) M
abbrev poG2(EX:Exn->Mm->Prop)(L:Lc)(Q:W->Mm->Prop)(fx:FE)(j:Nat):W->Mm->Prop:=λy M=>Okx EX (fx L M) (poG3 Q j y)
abbrev poG1(EX:Exn->Mm->Prop)(L:Lc)(Q:W->Mm->Prop)(fi fx:FE):W->Mm->Prop:=λw M=>∃j,w=.ob "dict" j/\Okx EX (fi L M) (poG2 EX L Q fx j)
def aHv(h:Okx EX (fo L M) (poG1 EX L Q fi fx)):Okx EX (eDGet2 fo fi fx L M) Q :=
 aG (h.mono λw M1 ⟨j,e1,q⟩=>by subst e1;simp only[aBM];exact aG (q.mono λy M2 q=>aG (q.mono λz M3 ⟨k,x,ds,h1,h2,h3,q⟩=>by subst h2;simp only[h1,h3];exact aH q)))
def asKs:List D->Option (List (List Key×D))
 |[]=>some []|d::r=>match asK d,asKs r with
  |some k,some ks=>some (k::ks)|_,_=>none
def eP:∀{more kvs:List (List Key×V)},((kvs++more).map (·.1)).Nodup->mergeT kvs more=kvs++more
 |[],kvs,_=>by simp[mergeT]|(k,v)::r,kvs,h=>by
  have hn:valV kvs k=none:=by
   rw[<- Option.not_isSome_iff_eq_none,<- fE];intro hq;obtain⟨kv,h1,h2⟩:=List.any_eq_true.mp hq;rw[aDR,aAK]at h;have h2:kv.1=k:=by simpa using h2
   exact(aGG.mp h).2.2 kv.1 (aDO h1) k (by simp) h2
  show mergeT (putK kvs k v) r=_;rw[aHx v hn,eP (by simpa using h)];simp
def qM:∀{xs:List D} {k:List Key},keysOf xs=some k->xs=k.map kyD
 |[],k,h=>by simp only[keysOf,aAS]at h;subst h;rfl
 |d::xs,k,h=>by
  simp only[keysOf]at h;cases q1:keyOf d with
  |none=>rw[q1]at h;cases h
  |some k1 =>
   cases q2:keysOf xs with
   |none=>rw[q1,q2]at h;cases h
   |some ks =>
    rw[q1,q2]at h;cases h;rw[aAK,<- qM q2];cases d <;> simp only[keyOf,reduceCtorEq,aAS]at q1 <;> (subst q1;rfl)
def kG{K:Frag}{μ:List Addr}{H:Hp}:∀{ds:List D} {vs:List V} {kds:List (List Key×D)},Rps K μ H ds vs->asKs ds=some kds->∃kvs,PairsTH H vs kvs/\Krs K μ H ds kvs/\kvs.map (·.1)=kds.map (·.1)
 |[],vs,kds,r,h=>by simp only[Rps]at r;simp only[asKs,aAS]at h;subst r h;exact⟨[],rfl,rfl,rfl⟩
 |d::ds,vs,kds,r,h=>by
  simp only[Rps]at r;obtain⟨v,r',rfl,e2,e3⟩:=r;simp only[asKs]at h;cases q1:asK d with
  |none=>rw[q1]at h;cases h
  |some kx =>
   cases q2:asKs ds with
   |none=>rw[q1,q2]at h;cases h
   |some ks =>
    rw[q1,q2]at h;cases h;obtain⟨kvs,p1,p2,p3⟩:=kG e3 q2;unfold asK at q1;split at q1
    ·rename_i xs x
     obtain⟨g,q0,rfl⟩:=aAR.mp q1;simp only[Rp,Rps]at e2;obtain⟨b,us,rfl,hb,u1,r1,rfl,⟨a,ws,rfl,ha,a1⟩,u2,r2,rfl,a2,rfl⟩:=e2;have e:=mK a1 q0;subst e;exact⟨(g,u2)::kvs,⟨b,a,g,u2,kvs,rfl,hb,ha,rfl,p1⟩,⟨g,x,u2,kvs,by rw[qM q0],rfl,a2,p2⟩,by simp[p3]⟩
    ·cases q1
def intTs:List D->Option (List (List Int))
 |[]=>some []|.tup [.tup ks,_]::r=>match intsOf ks,intTs r with
  |some k,some n=>some (k::n)|_,_=>none
 |_=>none
def aAr:∀{k:List Key} {ns:List Int},k.map kyD=ns.map D.int->k=ns.map .inl
 |[],[],_=>rfl|[],_::_,h=>nomatch h|_::_,[],h=>nomatch h|.inl i::k,n::ns,h=>by
  simp only[aAK,kyD,aFY,D.int.injEq]at h;rw[aAK,h.1,aAr h.2]
 |.inr i::k,n::ns,h=>by simp[kyD]at h
def oQ{K:Frag}{μ:List Addr}{H:Hp}:∀{ds:List D} {kvs:List (List Key×V)} {ns:List (List Int)},Krs K μ H ds kvs->intTs ds=some ns->kvs.map (·.1)=ns.map (·.map Sum.inl)
 |[],_,_,h,e=>by cases h;cases e;rfl
 |_::ds,_,ns,⟨g,x,v,r,e1,e2,e3,e4⟩,e=>by
  subst e1 e2;simp only[intTs]at e;cases q1:intsOf (g.map kyD)with
  |none=>rw[q1]at e;cases e
  |some k =>
   cases q2:intTs ds with
   |none=>rw[q1,q2]at e;cases e
   |some n =>
    rw[q1,q2]at e;cases e;rw[aAK,aAK,oQ e4 q2,aAr (cQ q1)]
def cDict(w:W)(M:Mm):Oc W:=match w with
 |.d (.lst ds)=>match asKs ds with
  |some kds=>if(kds.map (·.1)).Nodup/\kds.length<=16777216 then .ok (.ob "dict" M.length) (M++[ds])else .bad
  |none=>.bad
 |.d (.tup ds)=>match asKs ds with
  |some kds=>if(kds.map (·.1)).Nodup/\kds.length<=16777216 then .ok (.ob "dict" M.length) (M++[ds])else .bad
  |none=>.bad
 |.ob c j=>if c="dict"then(match M[j]? with
  |some ds=>match intTs (ents ds)with
   |some ns=>if(ns.map hI).Nodup/\ns≠[]then .ok (.ob "dict" M.length) (M++[ents ds])else .bad
   |none=>.bad
  |none=>.bad)else .bad
 |_=>.bad
abbrev eDict(f:FE):FE:=e1 cDict f
def CallR.or{v:Value}{t:List V->Hp->VK->Prop}(h:CallR X v r)(g:CallR X v t):CallR X v (λxs H Q=>r xs H Q\/t xs H Q):=λpins s σ H xs us Q I rx z=>z.elim (h pins s σ H xs us Q I rx) (g pins s σ H xs us Q I rx)
def tE(hnd:nsIn K mainGlobals "dict"=some none)(hc:X.calm=true)(hu:X.A.units+101 < cLine)(hm:X.mg "dict"=none)(ha:Ev X K Z a f)(hg:Gl X "dict":=by rfl)(hs:starEach [a] X.env=[(false,eval a X.env)]:=by rfl):Ev X K Z (.Call (.Name "dict" p) [a] [] pos) (eDict f):=by
 refine⟨ha.k,cqE (qL (CallR.or (CallR.or (xA hc hu) (yP hc hu)) xL) hg hm aCj (bF ha.h cJ hs) (by decide) (by decide) hs rfl) ?_⟩;rintro σ H Q ⟨μ,M,L,hr,lr,p⟩;refine⟨μ,M,L,hr,lr,p.bind.imp λμ1 H1 M1 w e1 hr1 _ p1 v rw'=>?_⟩;unfold cDict at p1;split at p1
 ·rename_i ds _
  split at p1
  ·rename_i kds hk
   split at p1
   ·rename_i hz
    simp only[Rw,Rp]at rw';obtain⟨b,vs,rfl,hb,hm',rs⟩:=rw';obtain⟨kvs,h1,h2,h3⟩:=kG rs hk;refine .inl (.inl ⟨b,vs,kvs,rfl,hb,h1,?_,λq hq=>?_⟩)
    ·have:=congrArg List.length h3
     simp at this;lia
    ·rw[eP (kvs:=[]) (by rw[aFG,h3];exact hz.1),aFG]
     exact p1 _ _ (dY (o:=.dT kvs) hr1 hq) (hr1.newO (o:=.dT kvs) (ds:=ds) hq h2) (.ref q) ⟨q,by rw[<- hr1.len];simp,rfl,.inr (.inl ⟨rfl,kvs,.inl aS⟩)⟩
   ·exact p1.elim
  ·exact p1.elim
 ·rename_i ds _
  split at p1
  ·rename_i kds hk
   split at p1
   ·rename_i hz
    simp only[Rw,Rp]at rw';obtain⟨b,vs,rfl,hb,rs⟩:=rw';obtain⟨kvs,h1,h2,h3⟩:=kG rs hk;refine .inl (.inr ⟨b,vs,kvs,rfl,hb,h1,?_,λq hq=>?_⟩)
    ·have:=congrArg List.length h3
     simp at this;lia
    ·rw[eP (kvs:=[]) (by rw[aFG,h3];exact hz.1),aFG]
     exact p1 _ _ (dY (o:=.dT kvs) hr1 hq) (hr1.newO (o:=.dT kvs) (ds:=ds) hq h2) (.ref q) ⟨q,by rw[<- hr1.len];simp,rfl,.inr (.inl ⟨rfl,kvs,.inl aS⟩)⟩
   ·exact p1.elim
  ·exact p1.elim
 ·rename_i c j _
  split at p1
  ·rename_i hc';subst hc'
   cases q2:M1[j]? with
   |none=>simp only[q2]at p1;exact p1.elim
   |some ds =>
    simp only[q2]at p1;cases q3:intTs (ents ds)with
    |none=>simp only[q3]at p1;exact p1.elim
    |some ns =>
     simp only[q3]at p1;split at p1
     ·rename_i hz
      obtain⟨a0,kvs,qa,rfl,rd,r1,_⟩:=eD hnd hr1 rw' q2;refine .inr ⟨a0,kvs,ns,rfl,rd,oQ r1 q3,hz.1,hz.2,λq hq=>?_⟩;exact p1 _ _ (dY (o:=.dT kvs) hr1 hq) (hr1.newO (o:=.dT kvs) (ds:=ents ds) hq r1) (.ref q) ⟨q,by rw[<- hr1.len];simp,rfl,.inr (.inl ⟨rfl,kvs,.inl aS⟩)⟩
     ·exact p1.elim
  ·exact p1.elim
 ·exact p1.elim
def aFw{Q:W->Mm->Prop}{kds:List (List Key×D)}(h:asKs ds=some kds)(hn:(kds.map (·.1)).Nodup)(hl:kds.length<=16777216)(q:Q (.ob "dict" M.length) (M++[ds])):Okx EX (cDict (.d (.lst ds)) M) Q:=by
 unfold cDict;simp only[h];rw[aAG ⟨hn,hl⟩];exact aH q
def aHr{Q:W->Mm->Prop}{kds:List (List Key×D)}(h:asKs ds=some kds)(hn:(kds.map (·.1)).Nodup)(hl:kds.length<=16777216)(q:Q (.ob "dict" M.length) (M++[ds])):Okx EX (cDict (.d (.tup ds)) M) Q:=by
 unfold cDict;simp only[h];rw[aAG ⟨hn,hl⟩];exact aH q
def aEp{Q:W->Mm->Prop}{ns:List (List Int)}(h:M[j]?=some ds)(e:intTs (ents ds)=some ns)(hn:(ns.map hI).Nodup)(h0:ns≠[])(q:Q (.ob "dict" M.length) (M++[ents ds])):Okx EX (cDict (.ob "dict" j) M) Q:=by
 unfold cDict;simp only[aBM,h,e];rw[aAG ⟨hn,h0⟩];exact aH q
end EV
namespace L2
open PySem.W TS
def rk(lt:Nat->Nat->Bool)(n i:Nat):Nat:=((List.range n).filter λj=>lt j i).length
def rJ{α:Type}{p q:α->Bool}:∀{l:List α},(∀x∈l,p x=true->q x=true)->(l.filter p).length<=(l.filter q).length
 |[],_=>by simp|x::l,h=>by
  have ih:=rJ (p:=p) (q:=q) (l:=l) λy hy=>h y (by simp[hy])
  have h0:=h x (by simp);cases e:p x <;> cases e':q x <;> simp_all[aFB] <;> lia
def rH{α:Type}{p q:α->Bool}:∀{l:List α},(∀x∈l,p x=true->q x=true)->(∃x∈l,q x=true/\p x=false)->(l.filter p).length < (l.filter q).length
 |[],_,⟨_,h,_⟩=>nomatch h|x::l,h,⟨y,hy,h1,h2⟩=>by
  have le:=rJ (p:=p) (q:=q) (l:=l) λy hy=>h y (by simp[hy])
  have h0:=h x (by simp);rcases aAU.mp hy with rfl|hy
  ·rw[aFB,aFB,aAG h1,aAH (by simp[h2])]
   simp only[aBV];lia
  ·have ih:=rH (p:=p) (q:=q) (l:=l) (λy hy=>h y (by simp[hy])) ⟨y,hy,h1,h2⟩
   cases e:p x <;> cases e':q x <;> simp_all[aFB] <;> lia
section
variable{lt:Nat->Nat->Bool}{n:Nat}
def zC(L:Lin lt n)(irr:∀i,i < n->lt i i=false){i:Nat}(hi:i < n)(hj:j < n)(h:lt i j=true):rk lt n i < rk lt n j :=
 rH (λk hk h1=>L.tr k i j (aCP.mp hk) hi hj h1 h) ⟨i,aCP.mpr hi,h,irr i hi⟩
def aNj(L:Lin lt n)(irr:∀i,i < n->lt i i=false){i:Nat}(hi:i < n)(hj:j < n):decide ((rk lt n i:Int) < rk lt n j)=lt i j:=by
 cases e:lt i j with
 |true=>have:=zC L irr hi hj e;simp;lia
 |false =>
  by_cases q:i=j
  ·subst q;simp
  ·have e2:lt j i=true:=by have:=L.tot i j hi hj q;rw[e]at this;simpa using this.symm
   have:=zC L irr hj hi e2;simp;lia
end
open Classical in
def ixV(vs:List Value)(x:Value):Nat:=if h:∃i:Nat,vs[i]?=some x then Classical.choose h else 0
variable{vs:List Value}
def nI{x:Value}(h:x∈vs):vs[ixV vs x]?=some x:=by
 obtain⟨i,hi⟩:=aFE.mp h;have h':∃i:Nat,vs[i]?=some x:=⟨i,hi⟩
 unfold ixV;rw[dif_pos h'];exact Classical.choose_spec h'
section
variable{prog:Program}{E:Value->Shared->Prop}{lt:Nat->Nat->Bool}
def aKc(L:Lin lt vs.length)(irr:∀i,i < vs.length->lt i i=false)
  (hc:∀(i j:Nat) (C:Bool->Shared->Prop),i < vs.length->j < vs.length->C (lt i j) s->kas_ask prog w A κ vs i j C s) :
  Ask (model prog w) A E s κ (λp=>(rk lt vs.length (ixV vs p.1):Int)) λp=>p.1∈vs:=by
 refine⟨λst x y Q hk hx hy q=>?_⟩;have ex:=nI hx;have ey:=nI hy;have lx:=(aAF.mp ex).1;have ly:=(aAF.mp ey).1;rw[lt'_eq];refine aAJ (aHP ?_);rw[hk];rw[aNj L irr lx ly]at q;refine aAJ (aJK (aDL ?_));have z:=λC h=>hc (ixV vs x.1) (ixV vs y.1) C lx ly h
 unfold kas_ask at z;rw[EV.cC ex,EV.cC ey]at z;refine aCU (z _ ?_) (λ_ _ h=>h) (λ_ _ h=>h.elim);exact⟨rfl,aAN q⟩
def InOrd(lt:Nat->Nat->Bool)(vs:List Value)(out:List Value):Prop:=∃p:List Nat,out=p.map (λi=>vs.getD i Value.none)/\p.Perm (List.range vs.length)/\p.Pairwise λi j=>lt i j=true
def aEd(nd:vs.Nodup)(L:Lin lt vs.length){xs:Array Keyed}(hp:xs.Perm (pairsOf vs))(hs:SG (λp=>(rk lt vs.length (ixV vs p.1):Int)) xs 0 (pairsOf vs).size)(irr:∀i,i < vs.length->lt i i=false):InOrd lt vs (xs.map (·.2)).toList:=by
 have pl:xs.toList.Perm (vs.zip vs):=by have:=aCX.mp hp;rwa[pairsOf_toList]at this
 have same:∀x∈xs.toList,x.1=x.2/\x.1∈vs:=λx hx=>by
  have:=pl.mem_iff.mp hx;obtain⟨i,hi⟩:=aFE.mp this;rw[aDP]at hi;have e:=hi.1.symm.trans hi.2;exact⟨by simpa using e,aAQ hi.1⟩
 have p1:(xs.toList.map (·.1)).Perm vs:=by
  have:=pl.map (·.1);rwa[List.map_fst_zip (by simp)]at this
 have nd1:(xs.toList.map (·.1)).Nodup:=p1.nodup_iff.mpr nd;have e2:(xs.map (·.2)).toList=xs.toList.map (·.1):=by
  rw[Array.toList_map];exact aBY λx hx=>(same x hx).1.symm
 have ix:∀v∈vs,vs.getD (ixV vs v) Value.none=v/\ixV vs v < vs.length:=λv hv=>⟨EV.cC (nI hv),(aAF.mp (nI hv)).1⟩
 refine⟨(xs.toList.map (·.1)).map (ixV vs),?_,?_,?_⟩
 ·rw[e2,aBK]
  conv=>lhs;rw[<- List.map_id (xs.toList.map (·.1))]
  exact aBY λv hv=>((ix v (p1.mem_iff.mp hv)).1).symm
 ·refine(p1.map (ixV vs)).trans ?_
  have:vs.map (ixV vs)=List.range vs.length:=by
   refine aGR (by simp) λi h1 h2=>?_
   rw[List.getElem_map,List.getElem_range];have hi:i < vs.length:=by simpa using h1
   have h3:=nI (aCQ hi);exact((aHZ hi nd).mp (by rw[aAP hi,h3])).symm
  rw[this]
 ·refine aBD.mpr λi j hi hj hij=>?_
  simp only[aAM,aEG]at hi hj;have hsz:(pairsOf vs).size=xs.size:=hp.size_eq.symm;simp only[List.getElem_map,aES];have g:=hs.get hi hj (aCE _) (aIX hij) (by lia);have mi:=same _ (aIZ.mpr (Array.getElem_mem hi));have mj:=same _ (aIZ.mpr (Array.getElem_mem hj));have li:=(ix _ mi.2).2;have lj:=(ix _ mj.2).2;have ne:ixV vs xs[i].1≠ixV vs xs[j].1:=λe=>by
   have e':xs[i].1=xs[j].1:=by rw[<- (ix _ mi.2).1,e,(ix _ mj.2).1]
   have:=aBD.mp nd1 i j (by simpa using hi) (by simpa using hj) hij;simp only[List.getElem_map,aES]at this;exact this e'
  cases e:lt (ixV vs xs[i].1) (ixV vs xs[j].1)with
  |true=>rfl|false =>
   have e2:lt (ixV vs xs[j].1) (ixV vs xs[i].1)=true:=by have:=L.tot _ _ li lj ne;rw[e]at this;simpa using this.symm
   have:=zC L irr lj li e2;lia
def fl(rev:Bool)(l:List α):List α:=if rev=true then l.reverse else l
def kwr(rev:Bool):List (Str×Value):=if rev=true then[(Str.ofString "reverse",.bool true)]else[]
def jP{rev:Bool}{a:Addr}{P:PySem.Fin->Shared->Prop}(ho:s.heap.get? a=some (seqObj "list" vs.toArray n))(few:vs.length<=sizeLine)(nd:vs.Nodup)(L:Lin lt vs.length)(irr:∀i,i < vs.length->lt i i=false)
  (hk:2<=vs.length->∀Q:SortKind->Shared->Prop,Q κ {s with heap:=underway s.heap a vs}->wpAny (model prog w) A (keyKind' vs.toArray) Q (λ_ _=>False) {s with heap:=underway s.heap a vs})
  (hc:∀(i j:Nat) (C:Bool->Shared->Prop),i < vs.length->j < vs.length->C (lt i j) {s with heap:=underway s.heap a vs}->kas_ask prog w A κ vs i j C {s with heap:=underway s.heap a vs})
  (h:∀out:Array Value,InOrd lt vs (fl rev out.toList)->P (.done (.ret .none)) {s with heap:=sortedHeap s.heap a vs out}) :
  wpAny (model prog w) A (Builtin.«list.sort» ⟨[.ref a],kwr rev⟩) P E s:=by
 have la:a < s.heap.objs.size:=aAE ho;obtain⟨c,hc1⟩:∃c,(s.heap.update a (Obj.mapSeq λ_=>(#[]:Array Value))).get? a=some (seqObj "list" #[] c):=⟨_,get?_update_seq ho λ_=>#[]⟩
 have hu:(underway s.heap a vs).get? a=some (seqObj "list" #[] c):=aAB _ (aAB _ hc1);have fw:vs.toArray.size<=sizeLine:=by rw[aAL];lia
 have start:(if rev=true then(vs.toArray.zip vs.toArray).reverse else vs.toArray.zip vs.toArray).Perm (pairsOf vs):=by
  cases rev
  ·exact .refl _
  ·exact aCX.mpr (by simp only[aBM];rw[aFM];exact aGF _)
 have turn:∀xs:Array Value,fl rev (if rev=true then xs.reverse else xs).toList=xs.toList:=λxs=>by
  unfold fl;cases rev <;> simp
 have go:wpAny (model prog w) A (do
   let kind <- if vs.toArray.size < 2 then pure general' else keyKind' vs.toArray
   let((),s) <- (if vs.toArray.size < 2 then pure ()else sortRuns').run (SortSt.mk' kind (if rev then(vs.toArray.zip vs.toArray).reverse else vs.toArray.zip vs.toArray) #[] 7 none)
   let sorted:=(arrOf s).map (·.2)
   let touched:=(<- seqEpoch a) != c
   Builtin.List.listUpdate (.ref a) λ_=>if rev then sorted.reverse else sorted
   if let some e:=failedOf s then rule "list.sort.comparison-raised";throw e
   if touched then rule "list.sort.modified";raiseError "ValueError" "list modified during sort"
   ret .none) P E {s with heap:=underway s.heap a vs}:=by
  dsimp only;by_cases h2:vs.length < 2
  ·have sm:vs.toArray.size < 2:=by rw[aAL];exact h2
   rw[aAG sm,aAG sm];refine aAA (aAC ?_);rw[StateT.run_pure];refine aAA (aAC ?_);dsimp only;have e:(arrOf (SortSt.mk' general' (if rev=true then(vs.toArray.zip vs.toArray).reverse else vs.toArray.zip vs.toArray) #[] 7 none)).map (·.2)=if rev=true then vs.toArray.reverse else vs.toArray:=by
    show(if rev=true then(vs.toArray.zip vs.toArray).reverse else vs.toArray.zip vs.toArray).map (·.2)=_;apply Array.toList_inj.mp;cases rev <;> simp[List.map_snd_zip]
   rw[e];have e2:(if rev=true then(if rev=true then vs.toArray.reverse else vs.toArray).reverse else if rev=true then vs.toArray.reverse else vs.toArray)=vs.toArray:=by cases rev <;> simp
   rw[e2];refine aAA (seqEpoch_at hu rfl (aAA (aJS hu rfl ?_ (aCE _) (aJZ fw))));simp only[bne_self_eq_false,aAT,aBW];refine aAC (h vs.toArray ⟨fl rev (List.range vs.length),?_,by unfold fl;cases rev;exact .refl _;exact aGF _,?_⟩)
   ·unfold fl
    have er:(List.range vs.length).map (λi=>vs.getD i .none)=vs:=aGR (by simp) λi h1 h2=>by
     have:i < vs.length:=by simpa using h1
     simp[this]
    cases rev
    ·exact er.symm
    ·show vs.reverse=(List.range vs.length).reverse.map _
     rw[List.map_reverse,er]
   ·refine aBD.mpr λi j hi hj hij=>?_
    unfold fl at hi hj;exfalso;cases rev <;> simp at hi hj <;> lia
  have big:¬vs.toArray.size < 2:=by rw[aAL];lia
  rw[aAH big,aAH big];refine aAA (aCU (hk (by lia) (λκ' s'=>κ'=κ/\s'={s with heap:=underway s.heap a vs}) ⟨rfl,rfl⟩) ?_ λ_ _ x=>x.elim);rintro κ' s' ⟨e0,rfl⟩;subst e0;refine aAA (aCU (aEm (a₀:=pairsOf vs) (st:=SortSt.mk' κ' (if rev=true then(vs.toArray.zip vs.toArray).reverse else vs.toArray.zip vs.toArray) #[] 7 none) (Q:=λ_ st'=>(arrOf st').Perm (pairsOf vs)/\failedOf st'=none/\SG (λp=>(rk lt vs.length (ixV vs p.1):Int)) (arrOf st') 0 (pairsOf vs).size)
   (aKc L irr hc) (λx hx=>?_) rfl rfl rfl start (by rw[pairsOf_size];lia) λst' a1 a2 a3=>⟨a1,a2,a3⟩) ?_ λ_ _ e=>e)
  ·rw[pairsOf_toList]at hx
   obtain⟨i,hi⟩:=aFE.mp hx;rw[aDP]at hi;exact aAQ hi.1
  rintro⟨⟨⟩,st'⟩ s' ⟨rfl,hp,hf,hs⟩;dsimp only;have hz:((arrOf st').map (·.2)).size<=sizeLine:=by rw[Array.size_map,hp.size_eq,pairsOf_size];lia
  refine aAA (seqEpoch_at hu rfl (aAA (aJS hu rfl ?_ (aCE _) (by cases rev;exact aJZ hz;exact(show(Array.reverse _).size<=_ by rw[Array.size_reverse];exact aJZ hz)))));rw[hf];simp only[bne_self_eq_false,aAT,aBW];exact aAC (h _ (by rw[turn];exact aEd nd L hp hs irr))
 cases rev
 ·show wpAny (model prog w) A (Builtin.«list.sort» ⟨[.ref a],[]⟩) P E s
  rw[list_sort_plain];exact aAA (listItems_at ho rfl (aAA (aJS ho rfl (aAA (seqEpoch_at hc1 rfl (aAA (aHO (aAA (aGU (aBC go) (aCE _))) fw)))) fw (aCE _))))
 ·show wpAny (model prog w) A (Builtin.«list.sort» ⟨[.ref a],[(Str.ofString "reverse",.bool true)]⟩) P E s
  rw[list_sort_rev];exact aAA (listItems_at ho rfl (aAA (aJS ho rfl (aAA (seqEpoch_at hc1 rfl (aAA (aHO (aAA (aGU (aBC (aAA (aCM go))) (aCE _))) fw)))) fw (aCE _))))
def xY{Q:Value->Shared->Prop}(hl:s.heap.IsList l vs.toArray)(few:vs.length<=sizeLine)(nd:vs.Nodup)(L:Lin lt vs.length)(irr:∀i,i < vs.length->lt i i=false)
  (hk:2<=vs.length->∀h',(∀b o,s.heap.get? b=some o->h'.get? b=some o)->∀Q:SortKind->Shared->Prop,Q κ {s with heap:=h'}->wpAny (model prog w) A.in1.in1 (keyKind' vs.toArray) Q (λ_ _=>False) {s with heap:=h'})
  (hc:∀h',(∀b o,s.heap.get? b=some o->h'.get? b=some o)->∀(i j:Nat) (C:Bool->Shared->Prop),i < vs.length->j < vs.length->C (lt i j) {s with heap:=h'}->kas_ask prog w A.in1.in1 κ vs i j C {s with heap:=h'})
  (h:∀out:Array Value,InOrd lt vs out.toList->Q (.ref (s.heap.objs.size+1)) {s with heap:=sortedAll s.heap vs out}) :
  wpAny (model prog w) A (call (.builtin "sorted") [.ref l]) Q E s:=by
 refine Calls.call_function_entry (id:="sorted") kind_sorted plain_sorted entry_sorted (args_sorted1 (.ref l)) ?_;unfold Builtin.«sorted»;refine aAA (m:=checkCount "sorted" 1 1 _) (aAC (aAA (collect_list hl (aAA (aGU ?_ few)) few)));generalize eg:(s.heap.push (seqObj "list" #[] 0)).update s.heap.objs.size (Obj.mapSeq (·++vs.toArray))=G;have gz:G.objs.size=s.heap.objs.size+1:=by rw[<- eg,Heap.size_update,size_push']
 have go:(G.push (seqObj "list" vs.toArray 0)).get? G.objs.size=some (seqObj "list" vs.toArray 0):=aAI _ rfl;have old:∀b o,s.heap.get? b=some o->(underway (G.push (seqObj "list" vs.toArray 0)) G.objs.size vs).get? b=some o:=λb o e=>by
  have hb:=aAE e;have e1:G.get? b=some o:=by rw[<- eg,aCG _ _ _ _ (aAO hb)];exact aAB _ e
  have e2:((G.push (seqObj "list" vs.toArray 0)).update G.objs.size (Obj.mapSeq λ_=>(#[]:Array Value))).get? b=some o:=by rw[aCG _ _ _ _ (aAO (by rw[gz];exact aEC hb))];exact aAB _ e1
  exact aAB _ (aAB _ e2)
 show wpAny _ _ _ _ _ {s with heap:=G.push (seqObj "list" vs.toArray 0)};refine aAA (aBC (aBH slot_list_sort ⟨_,go,rfl⟩ entry_list_sort (jP (rev:=false) (s:={s with heap:=G.push (seqObj "list" vs.toArray 0)}) go few nd L irr (λz=>hk z _ old) (hc _ old) λout ho=>⟨_,rfl,?_⟩) (args_list_sort _)));refine aAC ⟨.ref _,rfl,?_⟩;have z:=h out ho;unfold sortedAll at z;rw[eg]at z;rw[gz];exact z
end
end L2
namespace EV
open L2 PySem.W
variable{K:Frag}
mutual
def aHl:∀(d d':D) (v:V),Rp K μ H d v->Rp K μ H d' v->noL d=true->noL d'=true->d=d'
 |.non,d',v,h,h',_,n'=>by
  simp only[Rp]at h;subst h;cases d' <;> simp_all[Rp,noL]
 |.bl b,d',v,h,h',_,n'=>by
  simp only[Rp]at h;subst h;cases d' <;> simp_all[Rp,noL]
 |.int b,d',v,h,h',_,n'=>by
  simp only[Rp]at h;subst h;cases d' <;> simp_all[Rp,noL]
 |.str b,d',v,h,h',_,n'=>by
  simp only[Rp]at h;subst h;cases d' <;> simp_all[Rp,noL]
 |.tup xs,d',v,h,h',n,n'=>by
  simp only[Rp]at h;obtain⟨a,vs,rfl,e,r⟩:=h;cases d' with
  |tup ys =>
   simp only[Rp]at h';obtain⟨b,us,e1,e2,r'⟩:=h';cases e1;rw[e]at e2;cases e2;simp only[noL]at n n';rw[aAy xs ys vs r r' n n']
  |_=>simp_all[Rp,noL]
 |.lst xs,d',v,h,h',n,n'=>by simp[noL]at n
 |.fz xs,d',v,h,h',n,n'=>by simp[noL]at n
 |.exn _ _ _,d',v,h,h',n,n'=>by simp[noL]at n
 |.adr _,d',v,h,h',n,n'=>by simp[noL]at n
def aAy:∀(ds ds':List D) (vs:List V),Rps K μ H ds vs->Rps K μ H ds' vs->noLs ds=true->noLs ds'=true->ds=ds'
 |[],ds',vs,h,h',_,_=>by
  simp only[Rps]at h;subst h;cases ds' with
  |nil=>rfl|cons d r=>simp only[Rps]at h';obtain⟨_,_,e,_⟩:=h';cases e
 |d::ds,ds',vs,h,h',n,n'=>by
  simp only[Rps]at h;obtain⟨v,r,rfl,e2,e3⟩:=h;cases ds' with
  |nil=>simp only[Rps]at h';cases h'
  |cons d' r' =>
   simp only[Rps]at h';obtain⟨v',q,e,f2,f3⟩:=h';cases e;simp only[noLs,aFP]at n n';rw[aHl d d' v e2 f2 n.1 n'.1,aAy ds r' r e3 f3 n.2 n'.2]
end
structure TSB(xs:List D):Prop where
 few:xs.length<=1000000
 it:∀x∈xs,∃ys zs,x=.tup (.tup ys::zs)/\deps (.tup ys::zs)<=50
 nl:∀x∈xs,noL x=true
 so:∀i j,i < xs.length->j < xs.length->ltT (tl (xs.getD i .non)) (tl (xs.getD j .non))≠none
 lin:Lin (tLt xs) xs.length
 irr:∀i,i < xs.length->tLt xs i i=false
def srtN(lt:Nat->Nat->Bool)(n:Nat):List Nat:=(List.range n).mergeSort λi j=>decide (rk lt n i<=rk lt n j)
def gG{lt:Nat->Nat->Bool}(L:Lin lt n)(irr:∀i,i < n->lt i i=false):(srtN lt n).Perm (List.range n)/\(srtN lt n).Pairwise λi j=>lt i j=true:=by
 have p:=List.mergeSort_perm (List.range n) λi j=>decide (rk lt n i<=rk lt n j)
 refine⟨p,?_⟩;have s:=List.pairwise_mergeSort (le:=λi j=>decide (rk lt n i<=rk lt n j)) (λa b c h1 h2=>by simp at h1 h2 ⊢;lia) (λa b=>by simp;lia) (List.range n);have nd:(srtN lt n).Nodup:=p.nodup_iff.mpr List.nodup_range;refine aBD.mpr λi j hi hj hij=>?_
 have h1:=aBD.mp s i j hi hj hij;have h2:=aBD.mp nd i j hi hj hij;have mi:(srtN lt n)[i] < n:=aCP.mp (p.mem_iff.mp (aCQ hi));have mj:(srtN lt n)[j] < n:=aCP.mp (p.mem_iff.mp (aCQ hj));cases e:lt (srtN lt n)[i] (srtN lt n)[j]with
 |true=>rfl|false =>
  have e2:lt (srtN lt n)[j] (srtN lt n)[i]=true:=by have:=L.tot _ _ mi mj h2;rw[e]at this;simpa using this.symm
  have:=zC L irr mj mi e2;have h1:rk lt n (srtN lt n)[i]<=rk lt n (srtN lt n)[j]:=aFK h1;lia
def qY{lt:Nat->Nat->Bool}(L:Lin lt n)(irr:∀i,i < n->lt i i=false){p:List Nat}(hp:p.Perm (List.range n))(hs:p.Pairwise λi j=>lt i j=true):p=srtN lt n:=by
 obtain⟨a,b⟩:=gG L irr;refine List.Perm.eq_of_pairwise (le:=λi j=>lt i j=true) (λx y hx hy h1 h2=>?_) hs b (hp.trans a.symm);have lx:=aCP.mp (hp.mem_iff.mp hx);have ly:=aCP.mp (a.mem_iff.mp hy);by_cases e:x=y
 ·exact e
 ·have:=L.tot x y lx ly e
  rw[h1,h2]at this;cases this
def srtB(xs:List D):List D:=(srtN (tLt xs) xs.length).map λi=>xs.getD i .non
def aDb{xs:List D}(T:TSB xs):(srtB xs).Perm xs:=by
 have h:=((gG T.lin T.irr).1).map λi=>xs.getD i D.non
 have e:(List.range xs.length).map (λi=>xs.getD i D.non)=xs:=by
  refine aGR (by simp) λi h1 h2=>?_
  simp[h2]
 rw[e]at h;exact h
def aKl{xs:List D}(T:TSB xs):(srtB xs).Pairwise λa b=>ltT (tl a) (tl b)=some true:=by
 have h:=(gG T.lin T.irr).2;unfold srtB;rw[aCB];exact h.imp λ{i j} z=>by unfold tLt at z;simpa using z
variable{K:Frag}
def yI(hu:X.A.units+101 < cLine):CallR X (.builtin "sorted") (λxs H Q=>∃p vs μ ds,xs=[.ref p]/\SqL X.K H p vs/\Rps X.K μ H ds vs/\TSB ds/\∀l,H l=none->Q (.ref l) (upd H l (.lst ((srtN (tLt ds) ds.length).map λi=>vs.getD i V.non)))):=by
 intro pins s σ H xs us Q I r h;obtain⟨p,vs,μ,ds,rfl,hq,hr,T,q⟩:=h;obtain⟨u,rfl,rx⟩:=vals1 r;cases rx;obtain⟨its,r',pl,hz⟩:=I.list hq;have l1:ds.length=vs.length:=hr.length;have l2:vs.length=its.length:=r'.length;have few:=T.few;have hlen:its.length=ds.length:=by lia
 have item:∀i,i < its.length->∃x zs us,ds.getD i .non=.tup zs/\its.getD i Value.none=.ref x/\Rps X.K μ H zs us/\SqT X.K H x us/\deps zs<=50/\Rp X.K μ H (ds.getD i .non) (.ref x)/\noL (ds.getD i .non)=true:=by
  intro i hi;obtain⟨d,hd⟩:∃d,ds[i]?=some d:=⟨_,aAP (by lia)⟩
  obtain⟨v,hv,rv⟩:=hr.get hd;obtain⟨u,hu',ru⟩:=r'.get hv;obtain⟨ys,zs,rfl,hdep⟩:=T.it d (aAQ hd);have nl:=T.nl _ (aAQ hd);have rv0:=rv;simp only[Rp]at rv;obtain⟨a,ws,rfl,h1,h2⟩:=rv;cases ru;exact⟨a,_,ws,cC hd,cC hu',h2,SqT.of h1,hdep,(cC hd).symm▸rv0,(cC hd).symm▸nl⟩
 have nd:its.Nodup:=by
  refine aBD.mpr λi j hi hj hij e=>?_
  obtain⟨x,zs,_,e1,e2,_,_,_,e3,e4⟩:=item i hi;obtain⟨y,zs',_,f1,f2,_,_,_,f3,f4⟩:=item j hj;have g1:its.getD i Value.none=its[i]:=cC (aAP hi);have g2:its.getD j Value.none=its[j]:=cC (aAP hj);rw[e2]at g1;rw[f2]at g2;rw[<- g1,<- g2]at e;cases e;have ee:=aHl _ _ _ e3 f3 e4 f4;have h1:=T.lin.tot i j (by lia) (by lia) (by lia);have h2:=T.irr i (by lia);have a1:tLt ds i j=tLt ds i i:=by unfold tLt;rw[<- ee]
  have a2:tLt ds j i=tLt ds i i:=by unfold tLt;rw[<- ee]
  rw[a1,a2,h2]at h1;cases h1
 refine xY (lt:=tLt ds) (κ:=tuples' false) pl.isList (by rw[aBE];lia) nd (by rw[hlen];exact T.lin) (by rw[hlen];exact T.irr) ?_ ?_ ?_
 ·intro h2 h' old Q' q'
  have I':=I.kept (t':=s.toks) old;obtain⟨fs,k1,k2,k3⟩:=aAj I' rfl hr r' T.it;refine kat_kind (T:=.type "tuple") k1 (by lia) (λv hv=>?_) (by decide) q';obtain⟨a,o,rfl,g,gc⟩:=k3 v hv;have this:Looks (model X.prog X.w) h' (typeOf (.ref a)) o.cls:=(Looks.ld g).andThen .now;rw[gc]at this;exact this
 ·intro h' old i j C hi hj c
  have I':=I.kept (t':=s.toks) old;obtain⟨x,zs,us,e1,e2,e3,e4,e5,_⟩:=item i hi;obtain⟨y,zs',us',f1,f2,f3,f4,f5,_⟩:=item j hj;obtain⟨n1,t1,⟨o1,g1,_,m1,d1⟩,_⟩:=I'.tuple e4;obtain⟨n2,t2,⟨o2,g2,_,m2,d2⟩,_⟩:=I'.tuple f4;unfold kas_ask;rw[e2,f2];have hs:=T.so i j (by lia) (by lia);rw[e1,f1]at hs;simp only[tl]at hs;cases hl:ltT zs zs' with
  |none=>exact(hs hl).elim|some b =>
   have hb:tLt ds i j=b:=by
    unfold tLt;rw[e1,f1];simp only[tl,hl];cases b <;> rfl
   rw[hb]at c;refine kat_lt g1 d1 g2 d2 ?_;have lk:=aFb (A:=X.A.in1.in1) I' rfl (by show X.A.units+1+1+60 < cLine;lia) e3 f3 t1 t2 e5 f5 hl;have:=aPm (prog:=X.prog) (w:=X.w) lk (i:=0) c;simpa using this
 ·intro out ⟨pp,ho,hp,hs⟩
  rw[hlen]at hp;have e:=qY T.lin T.irr hp hs;subst e;obtain⟨c,hc⟩:=sortedAll_at s.heap its out;have vv:Vals ((srtN (tLt ds) ds.length).map λi=>vs.getD i V.non) ((srtN (tLt ds) ds.length).map λi=>its.getD i Value.none):=by
   have key:∀l:List Nat,(∀i∈l,i < ds.length)->Vals (l.map λi=>vs.getD i V.non) (l.map λi=>its.getD i Value.none):=by
    intro l;induction l with
    |nil=>intro _;exact .nil|cons i l ih =>
     intro hl;have hi:=hl i (aBG ..);obtain⟨v,hv⟩:∃v,vs[i]?=some v:=⟨_,aAP (by lia)⟩
     obtain⟨u,hu',ru⟩:=r'.get hv;refine .cons ?_ (ih λj hj=>hl j (aBF _ hj));show RelV (vs.getD i V.non) (its.getD i Value.none);rw[cC hv,cC hu'];exact ru
   exact key _ λi hi=>aCP.mp (hp.mem_iff.mp hi)
  rw[<- ho]at vv;refine⟨.ref (s.heap.objs.size+1),_,I.laid (t':=s.toks) (λb o e=>sortedAll_old e) (aGX _) (show ObjOk X.prog X.w _ _ _ (.lst ((srtN (tLt ds) ds.length).map λi=>vs.getD i V.non))from⟨?_,_,c,vv,by simpa using hc⟩),rfl,q _ (I.hok.fresh (aGX _))⟩;rw[aBE,aAM,hp.length_eq,aHW];lia
open Classical in
def cSortB(ws:List W)(M:Mm):Oc W:=match ws with
 |[w]=>match lr M w with
  |some xs=>if TSB xs then okD (.lst (srtB xs)) M else .bad
  |none=>.bad
 |_=>.bad
def aFi{ds:List D}(T:TSB ds):∀i∈srtN (tLt ds) ds.length,i < ds.length:=λi hi=>aCP.mp ((gG T.lin T.irr).1.mem_iff.mp hi)
def callSortB(hc:X.calm=true)(hu:X.A.units+101 < cLine):ClG X K Z (.builtin "sorted") cSortB:=λhk=>by
 refine⟨_,hk▸yI hu,?_⟩;intro μ H M ws vs Q hr rx p
 match ws,rx,p with
 |[],_,p=>exact p.elim|[w],⟨v,r,e1,e2,e3⟩,p =>
  cases e3;subst e1;simp only[cSortB]at p;cases q:lr M w with
  |none=>rw[q]at p;exact p.elim
  |some xs =>
   rw[q]at p;simp only at p;split at p
   ·rename_i T
    obtain⟨a,us,rfl,h1,r1⟩:=aAa hr e2 q;exact⟨a,us,μ,xs,rfl,h1,r1,T,eF hr (r1.pick _ (aFi T)) p⟩
   ·exact p.elim
 |_::_::_,_,p=>exact p.elim
variable{EX:D->Mm->Prop}{Q:W->Mm->Prop}{x:W}
def aDu{xs:List D}(h:lr M x=some xs)(T:TSB xs)(q:Q (.d (.lst (srtB xs))) M):Okx EX (cSortB [x] M) Q:=by
 unfold cSortB;simp only[h];rw[aAG T];exact aH q
end EV
namespace L2
open PySem.W
variable{prog:Program}{E:Value->Shared->Prop}{it d:Addr}{i ep:Nat}{od:Obj}{es:Array DictEntry}{Q:Option Value->Shared->Prop}
theorem aCn(hit:s.heap.IsKeyIter it d i es.size ep)(ho:s.heap.get? d=some od)(hd:od.data=.dict es ep)(hi:i < es.size)
  (h:∀h',h'.IsKeyIter it d (i+1) es.size ep->Heap.SameBut it s.heap h'->Q (some es[i].key) {s with heap:=h'}):wpAny (model prog w) A (pyNext (.ref it)) Q E s:=by
 obtain⟨o,g,gc,gd⟩:=id hit;unfold pyNext;refine aAA (aDL (aBL hit.typeIs aDZ (aBH aDZ hit.typeIs F.entry_dict_keyiterator_next ?_ (F.args_dict_keyiterator_next_1 _))));refine aAA (aAC (aAA (aAA (aAA (aEV hit.typeIs (aAC ?_))))));refine aAA (aJF g gd ?_);rw[show Builtin.Dict_items.ownsTuple "dict_keyiterator"=false from by decide];show wpAny _ _ (if(Value.ref d==Value.none)=true then _ else _) _ _ _;rw[aAH (show ¬((Value.ref d==Value.none)=true)from aAY)];refine aAA (aAC (aAA (aDN ho hd ?_)));rw[aAH (by simp)];refine aAA (aAC (aAA (aGC ho hd ?_)));rw[aAH (by simp)];refine aAC ?_;simp only[aAH (show ¬((i:Int) < 0) by lia),aDD,aEL hi];refine aAA (aAA (aEV hit.typeIs (aAC ?_)));refine aAA (wpAny_isOneOf_keyiter hit.typeIs ?_);show wpAny _ _ (setField (.ref it) 1 (rawInt ((i:Int)+1)) >>= _) _ _ s;refine aAA (aDF g gd (by simp) ?_);have hit':(s.heap.update it (Obj.mapFields (·.setIfInBounds 1 (rawInt ((i:Int)+1))))).IsKeyIter it d (i+1) es.size ep :=
  ⟨_,aCF _ g (Obj.isFreed_of_fields (aHE gd _)),(Obj.cls_mapFields ..).trans gc,by rw[aHE gd];simp[rawInt]⟩
 refine aAA (aBC (aAA (wpAny_isOneOf_keyiter (s:={s with heap:=s.heap.update it (Obj.mapFields (·.setIfInBounds 1 (rawInt ((i:Int)+1))))}) hit'.typeIs ?_)));show wpAny _ _ (pure es[i].key) _ _ _;exact aAC (aAC ⟨_,rfl,aAC (h _ hit' (aJC ..))⟩)
theorem aFl(c:A.handled=none)(hit:s.heap.IsKeyIter it d i es.size ep)(ho:s.heap.get? d=some od)(hd:od.data=.dict es ep)(hi:es.size<=i)
  (q:∀h',Heap.ExtBut it s.heap h'->Q none {s with heap:=h'}):wpAny (model prog w) A (pyNext (.ref it)) Q E s:=by
 obtain⟨o,g,gc,gd⟩:=id hit;unfold pyNext;refine aAA (aDL (aBL hit.typeIs aDZ (aBH aDZ hit.typeIs F.entry_dict_keyiterator_next ?_ (F.args_dict_keyiterator_next_1 _))));refine aAA (aAC (aAA (aAA (aAA (aEV hit.typeIs (aAC ?_))))));refine aAA (aJF g gd ?_);rw[show Builtin.Dict_items.ownsTuple "dict_keyiterator"=false from by decide];show wpAny _ _ (if(Value.ref d==Value.none)=true then _ else _) _ _ _;rw[aAH (show ¬((Value.ref d==Value.none)=true)from aAY)];refine aAA (aAC (aAA (aDN ho hd ?_)));rw[aAH (by simp)];refine aAA (aAC (aAA (aGC ho hd ?_)));rw[aAH (by simp)];refine aAC ?_;simp only[aAH (show ¬((i:Int) < 0) by lia),aDD,Array.getElem?_eq_none hi];refine aAA (aAA (aEV hit.typeIs (aAC ?_)));show wpAny _ _ (setField (.ref it) 0 .none >>= _) _ _ s;refine aAA (aDF g gd (by simp) ?_);refine cY (.inl c) λh' a k ⟨oa,ea,ca⟩=>?_
 refine aAA (aDV (T:="StopIteration") (b:=true) ⟨oa,ea,ca⟩ aGI (aAC (q _ λb ob hb z=>k b ob ?_)));rw[aCG _ _ _ _ hb];exact z
theorem aCa{Q:Value->Shared->Prop}(hm:(d==sysModules)=false)(ho:s.heap.get? d=some od)(hc:od.cls=.type "dict")(hd:od.data=.dict es ep)
  (h:Q (.ref s.heap.objs.size) {s with heap:=s.heap.push {cls:=.type "dict_keyiterator",data:=.fields #[.ref d,.int 0 0,.int es.size 0,.int ep 0]}}):wpAny (model prog w) A (pyIter (.ref d)) Q E s:=by
 have T:s.TypeIs (.ref d) "dict":=⟨_,ho,hc⟩
 refine aHV T F.slot_dict_iter (aBH F.slot_dict_iter T F.entry_dict_iter ?_ (F.args_dict_iter_1 _));unfold Builtin.«dict.__iter__»;refine aAA ?_;unfold Builtin.Dict.dictSlotNone;refine aAA (aFD T ?_);show wpAny _ _ (pure (Value.ref d)) _ _ s;refine aAC ?_;show wpAny _ _ (Builtin.Dict.showsAll d >>= _) _ _ s;unfold Builtin.Dict.showsAll;rw[aAH (by rw[hm];exact aAY)];refine aAA (aAC (aAA (aDN ho hd (aAA (aGC ho hd ?_)))));refine aAA (aBR (aAC ⟨_,rfl,"dict_keyiterator",_,⟨_,aAI _ rfl,rfl⟩,aDZ.lookup,?_⟩));simpa[rawInt]using h
def xM(c:A.handled=none)(I:Addr)(hne:d≠I)(hd:od.data=.dict es ep) :
  Walks prog w A I [I,d] [I] es.size (λi v=>∃h:i < es.size,v=es[i].key) (λi h=>h.IsKeyIter I d i es.size ep/\h.get? d=some od)where
 sub:=λb hb=>by simp at hb;simp[hb]
 frame:=λ_ _ _ st hk=>⟨st.1.at λo e=>hk I (by simp) o e,hk d (by simp) _ st.2⟩
 item:=λi s Q E hi st hQ=>aCn st.1 st.2 hd hi λh' hit' hs'=>hQ _ h' s.toks ⟨hi,rfl⟩ ⟨hit',hs'.extBut d _ hne st.2⟩ λb o hb e=>hs'.extBut b o (λh=>hb (by simp[h])) e
 done:=λs Q E st hQ=>aFl c st.1 st.2 hd (aAD _) λh' he'=>hQ h' s.toks λb o hb e=>he' b o (λh=>hb (by simp[h])) e
 self:=λ_ _ _ _ st hQ=>wpAny_pyIter_keyiter st.1 hQ
def uS(hm:(d==sysModules)=false)(hc:od.cls=.type "dict")(hd:od.data=.dict es ep):KdlSrc prog w "dict" d d es.size (λi v=>∃h:i < es.size,v=es[i].key) (λh=>h.get? d=some od)where
 type:=λ_ e=>⟨_,e,hc⟩
 there:=λ_ e=>⟨aAE e,aAE e⟩
 keep:=λ_ _ e hk=>hk d (.inl rfl) _ e
 notList:=by decide
 notTuple:=by decide
 hint:=λ_ _ _ _ e hq=>kdl_hint_dict ⟨_,e,hc⟩ hq
 iter:=λ_ _ hh e=>⟨_,_,(λ_ _ hq=>aCa hm e hc hd hq),xM hh _ (aAO (aAE e)) hd,⟨⟨_,aAI _ rfl,rfl,rfl⟩,aAB _ e⟩⟩
end L2
namespace L2
open PySem.W TS
section
variable{prog:Program}{E:Value->Shared->Prop}{lt:Nat->Nat->Bool}
def wC{fin:Bool}{Q:Bool->Shared->Prop}:∀(ps:List ((Int×Tok)×(Int×Tok))) (i:Nat),(∀r:Bool,r=(match ps.find? (λp=>p.1.1 != p.2.1)with|some p=>decide (p.1.1 < p.2.1)|none=>fin)->Q r s) ->
  KatLex prog w A true fin Q (ps.map λp=>(Value.int p.1.1 p.1.2,Value.int p.2.1 p.2.2)) i s
 |[],i,q=>q _ rfl|((n,t),(m,u))::ps,i,q=>by
  refine kat_cons (wpAny_eqBool_int ?_);by_cases e:n=m
  ·subst e
   rw[beq_self_eq_true];refine kat_yes (wC ps (i+1) λr hr=>q r ?_);rw[List.find?_cons_of_neg (by simp)];exact hr
  ·rw[beq_eq_false_iff_ne.mpr e]
   refine kat_no ?_;have q':Q (decide (n < m)) s:=q _ (by rw[List.find?_cons_of_pos (by simpa using e)]);cases hb:(true&&i==0)with
   |true=>exact oneLt_int q'|false=>exact kat_one _ _ (HT.rcLt_int A s n t m u prog w _ _ q')
end
section
variable{prog:Program}{E:Value->Shared->Prop}{lt:Nat->Nat->Bool}{d:Addr}{ep:Nat}{od:Obj}{es:Array DictEntry}
def mG{T:String}{r:Addr}{P:Nat->Value->Prop}{OK:Heap->Prop}{R:List Value->Shared->Prop}(S:KdlSrc prog w T r d n P OK)(hh:A.handled=none)(hok:OK s.heap)(few:n<=sizeLine)
  (q:∀(h':Heap) (tk:Nat) (acc:Array Value),(∀b o,s.heap.get? b=some o->h'.get? b=some o)->s.heap.objs.size<=h'.objs.size->ItemsOf P acc n->R acc.toList {s with heap:=h',toks:=tk}):wpAny (model prog w) A (collect (.ref r)) R E s:=by
 obtain⟨l1,l2⟩:=S.there _ hok;have g:(s.heap.push (seqObj "list" #[] 0)).get? s.heap.objs.size=some (seqObj "list" #[] 0):=aAI _ rfl;have run:=kdl_extend (A:=A) (s:={s with heap:=s.heap.push (seqObj "list" #[] 0)}) (R:=λz s'=>∃h' tk acc c,z=.ok (.ret (.ref s.heap.objs.size))/\s'={s with heap:=h',toks:=tk}/\(∀b o,s.heap.get? b=some o->h'.get? b=some o)/\h'.get? s.heap.objs.size=some (seqObj "list" acc c)/\ItemsOf P acc n)
  S hh (S.keep _ _ hok λb _ o e=>aAB _ e) s.heap.objs.size (aBJ l1) (aBJ l2) (.ref s.heap.objs.size) 0 g (λh' tk acc c k e i=>⟨h',tk,acc,c,rfl,rfl,λb o z=>k b o (aAO (aAE z)) (aAB _ z),e,i⟩) few
 have out:∀{z:Result} {s':Shared},(∃h' tk acc c,z=.ok (.ret (.ref s.heap.objs.size))/\s'={s with heap:=h',toks:=tk}/\(∀b o,s.heap.get? b=some o->h'.get? b=some o)/\h'.get? s.heap.objs.size=some (seqObj "list" acc c)/\ItemsOf P acc n) ->
   z=.ok (.ret (.ref s.heap.objs.size))/\wpAny (model prog w) A (load s.heap.objs.size >>= λo=>match o.data with|.seq xs _=>pure xs.toList|_=>unsupported "internal:collect") R E s':=by
  rintro z s' ⟨h',tk,acc,c,rfl,rfl,k,e,i⟩;exact⟨rfl,aAA (wpAny_load (s:={s with heap:=h',toks:=tk}) e (aAC (q h' tk acc k (aIX (aAE e)) i)))⟩
 unfold collect;refine aAA (wpAny_runValue (aEE (id:="proto.collect") entry_proto_collect' ?_));show wpAny _ _ (do again (.builtin "list.__iadd__" ⟨[<- newList [],.ref r],[]⟩)) _ _ s;refine aAA (aGU (aAC ⟨Code.quiet_builtin _ (by decide +kernel),aEE (id:="list.__iadd__") entry_list_iadd' ?_⟩));show wpAny _ _ (Builtin.List.listExtendWith (.ref s.heap.objs.size) (.ref r) (.ref s.heap.objs.size)) _ _ {s with heap:=s.heap.push (seqObj "list" #[] 0)};refine aCU run (λfin s' x=>?_) λe s' x=>?_
 ·cases fin with
  |done f =>
   obtain⟨e,z⟩:=out x;cases e;exact z
  |again c =>
   refine⟨x.1,codeAny_mono x.2 λz s2 y=>?_⟩;obtain⟨e,y'⟩:=out y;subst e;exact y'
 ·obtain⟨e,_⟩:=out x
  cases e
def vL{Q:Value->Shared->Prop}{vs:List Value}(rev:Bool)(hm:(d==sysModules)=false)(hc:od.cls=.type "dict")(hd:od.data=.dict es ep)(ho:s.heap.get? d=some od)(hh:A.handled=none)
  (hvs:vs=es.toList.map (·.key))(few:es.size<=sizeLine)(nd:vs.Nodup)(L:Lin lt vs.length)(irr:∀i,i < vs.length->lt i i=false)
  (hk:2<=vs.length->∀h' tk,(∀b o,s.heap.get? b=some o->h'.get? b=some o)->∀Q:SortKind->Shared->Prop,Q κ {s with heap:=h',toks:=tk}->wpAny (model prog w) A.in1.in1 (keyKind' vs.toArray) Q (λ_ _=>False) {s with heap:=h',toks:=tk})
  (hq:∀h' tk,(∀b o,s.heap.get? b=some o->h'.get? b=some o)->∀(i j:Nat) (C:Bool->Shared->Prop),i < vs.length->j < vs.length->C (lt i j) {s with heap:=h',toks:=tk}->kas_ask prog w A.in1.in1 κ vs i j C {s with heap:=h',toks:=tk})
  (h:∀h' tk b (out:Array Value) c,(∀b o,s.heap.get? b=some o->h'.get? b=some o)->s.heap.objs.size<=b->h'.get? b=some (seqObj "list" out c)->InOrd lt vs (if rev=true then out.toList.reverse else out.toList)->Q (.ref b) {s with heap:=h',toks:=tk}) :
  wpAny (model prog w) A (call (.builtin "sorted") [.ref d] (if rev=true then[(Str.ofString "reverse",.bool true)]else[])) Q E s:=by
 have hlen:vs.length=es.size:=by rw[hvs];simp
 have few':vs.length<=sizeLine:=by lia
 have got:∀{acc:Array Value},ItemsOf (λi v=>∃h:i < es.size,v=es[i].key) acc es.size->acc.toList=vs:=λ{acc} ha=>by
  rw[hvs];refine aGR (by simp[ha.1]) λi h1 h2=>?_
  have hi:i < acc.size:=by simpa using h1
  obtain⟨h3,e⟩:=ha.2 i acc[i] (aEL hi);simpa using e
 have fin:∀(h':Heap) (tk:Nat),(∀b o,s.heap.get? b=some o->h'.get? b=some o)->s.heap.objs.size<=h'.objs.size ->
   (∀b o,s.heap.get? b=some o->(underway (h'.push (seqObj "list" vs.toArray 0)) h'.objs.size vs).get? b=some o)/\∀out:Array Value,InOrd lt vs (if rev=true then out.toList.reverse else out.toList)->Q (.ref h'.objs.size) {s with heap:=sortedHeap (h'.push (seqObj "list" vs.toArray 0)) h'.objs.size vs out,toks:=tk}:=λh' tk k sz=>by
  have go:(h'.push (seqObj "list" vs.toArray 0)).get? h'.objs.size=some (seqObj "list" vs.toArray 0):=aAI _ rfl;refine⟨λb o e=>?_,λout hi=>?_⟩
  ·have hb:=aAE (k _ _ e)
   refine aAB _ (aAB _ ?_);rw[aCG _ _ _ _ (aAO hb)];exact aAB _ (k _ _ e)
  ·obtain⟨c,hc⟩:=sortedHeap_at (vs:=vs) (out:=out) (n:=0) go
   refine h _ tk _ out c (λb o e=>?_) sz hc hi;have hb:=aAE (k _ _ e);rw[sortedHeap_old (aAO hb) (by rw[size_push'];exact aEC hb)];exact aAB _ (k _ _ e)
 cases rev with
 |false =>
  refine Calls.call_function_entry (id:="sorted") kind_sorted plain_sorted entry_sorted (args_sorted1 (.ref d)) ?_;unfold Builtin.«sorted»;refine aAA (m:=checkCount "sorted" 1 1 _) (aAC (aAA (mG (A:=A.in1) (uS hm hc hd) hh ho few λh' tk acc k sz hacc=>?_)));rw[got hacc];obtain⟨old,q⟩:=fin h' tk k sz;refine aAA (aGU ?_ few');have go:(h'.push (seqObj "list" vs.toArray 0)).get? h'.objs.size=some (seqObj "list" vs.toArray 0):=aAI _ rfl;show wpAny _ _ _ _ _ {s with heap:=h'.push (seqObj "list" vs.toArray 0),toks:=tk};refine aAA (aBC (aBH slot_list_sort ⟨_,go,rfl⟩ entry_list_sort (jP (rev:=false) (s:={s with heap:=h'.push (seqObj "list" vs.toArray 0),toks:=tk}) go few' nd L irr (λz=>hk z _ tk old) (hq _ tk old) λout hi=>⟨_,rfl,?_⟩) (args_list_sort _)));exact aAC ⟨.ref _,rfl,q out hi⟩
 |true =>
  refine call_function_entry_kw kind_sorted plain_sorted entry_sorted (args_sorted_rev _ _) ?_;unfold Builtin.«sorted»;refine aAA (m:=checkCount "sorted" 1 1 _) (aAC (aAA (mG (A:=A.in1) (uS hm hc hd) hh ho few λh' tk acc k sz hacc=>?_)));rw[got hacc];obtain⟨old,q⟩:=fin h' tk k sz;refine aAA (aGU ?_ few');have go:(h'.push (seqObj "list" vs.toArray 0)).get? h'.objs.size=some (seqObj "list" vs.toArray 0):=aAI _ rfl;show wpAny _ _ _ _ _ {s with heap:=h'.push (seqObj "list" vs.toArray 0),toks:=tk};refine aAA (aBC (wpAny_call_entry_kw slot_list_sort ⟨_,go,rfl⟩ entry_list_sort (jP (rev:=true) (s:={s with heap:=h'.push (seqObj "list" vs.toArray 0),toks:=tk}) go few' nd L irr (λz=>hk z _ tk old) (hq _ tk old) λout hi=>⟨_,rfl,?_⟩) (args_list_sort_rev _ _)));exact aAC ⟨.ref _,rfl,q out hi⟩
end
def lexI:List Int->List Int->Bool
 |[],[]=>false|[],_::_=>true|_::_,[]=>false|a::x,b::y=>if a=b then lexI x y else decide (a < b)
def bW:∀x,lexI x x=false
 |[]=>rfl|a::x=>by simp[lexI,bW x]
def nW:∀x y,x≠y->lexI x y=!lexI y x
 |[],[],h=>(h rfl).elim|[],_::_,_=>rfl|_::_,[],_=>rfl|a::x,b::y,h=>by
  simp only[lexI];by_cases e:a=b
  ·subst e
   rw[aAG rfl,aAG rfl];exact nW x y λz=>h (by rw[z])
  ·rw[aAH e,aAH (Ne.symm e)]
   by_cases q:a < b
   ·have:¬b < a:=by lia
    simp[q,this]
   ·have:b < a:=by lia
    simp[q,this]
def gF:∀x y z,lexI x y=true->lexI y z=true->lexI x z=true
 |[],[],_,h,_=>by simp[lexI]at h
 |[],_::_,[],_,h=>by simp[lexI]at h
 |[],_::_,_::_,_,_=>rfl|_::_,[],_,h,_=>by simp[lexI]at h
 |_::_,_::_,[],_,h=>by simp[lexI]at h
 |a::x,b::y,c::z,h1,h2=>by
  simp only[lexI]at h1 h2 ⊢;by_cases e1:a=b
  ·subst e1
   rw[aAG rfl]at h1;by_cases e2:a=c
   ·rw[aAG e2]at h2 ⊢;exact gF x y z h1 h2
   ·rw[aAH e2]at h2 ⊢;exact h2
  ·rw[aAH e1]at h1
   have h1:a < b:=by simpa using h1
   by_cases e2:b=c
   ·subst e2;rw[aAH e1];simpa using h1
   ·rw[aAH e2]at h2
    have h2:b < c:=by simpa using h2
    rw[aAH (by lia)];simp;lia
def ltI(ns:List (List Int))(i j:Nat):Bool:=lexI (ns.getD i []) (ns.getD j [])
variable{ns:List (List Int)}
def lU(nd:ns.Nodup):Lin (ltI ns) ns.length:=by
 have at_:∀i,i < ns.length->ns[i]?=some (ns.getD i []):=λi hi=>by simp[List.getD,hi]
 refine⟨λi j hi hj h=>nW _ _ λe=>h ?_,λi j k _ _ _ h1 h2=>gF _ _ _ h1 h2⟩;have h1:=at_ i hi;rw[e,<- at_ j hj]at h1;exact(aHZ hi nd).mp h1
def lX:∀i,i < ns.length->ltI ns i i=false:=λi _=>bW _
def srtI(ns:List (List Int)):List (List Int):=(EV.srtN (ltI ns) ns.length).map λi=>ns.getD i []
def kK:∀{ns:List Int} {us:List Value},Vals (ns.map V.int) us->∃ts:List Tok,ts.length=ns.length/\us=(ns.zip ts).map λp=>Value.int p.1 p.2
 |[],_,.nil=>⟨[],rfl,rfl⟩|n::ns,_,.cons r rs=>by
  obtain⟨t,rfl⟩:=r;obtain⟨ts,h1,rfl⟩:=kK rs;exact⟨t::ts,by simp[h1],rfl⟩
def vG:∀{x y:List Int} {t u:List Tok},t.length=x.length->u.length=y.length->(match((x.zip t).zip (y.zip u)).find? (λp=>p.1.1 != p.2.1)with|some p=>decide (p.1.1 < p.2.1)|none=>decide (x.length < y.length))=lexI x y
 |[],[],_,_,_,_=>by simp[lexI]|[],_::_,_,_,_,_=>by simp[lexI]|_::_,[],_,_,_,_=>by simp[lexI]|a::x,b::y,t::ts,u::us,h1,h2=>by
  simp only[aGA,lexI];by_cases e:a=b
  ·subst e
   rw[List.find?_cons_of_neg (by simp),aAG rfl];have:=vG (x:=x) (y:=y) (t:=ts) (u:=us) (by simpa using h1) (by simpa using h2);rw[<- this];simp
  ·rw[List.find?_cons_of_pos (by simpa using e),aAH e]
 |_::_,_::_,[],_,h1,_=>by simp at h1
 |_::_,_::_,_::_,[],_,h2=>by simp at h2
def aIt{xs:List (List Key×Addr×Value)}(t:KT H kvs xs):kvs.map (·.1)=ns.map (·.map Sum.inl)->Paired (λb n=>H b=some (.tup (n.map V.int))) (xs.map (·.2.1)) ns:=by
 induction t generalizing ns with
 |nil=>cases ns <;> intro h <;> first|exact .nil|cases h
 |cons r rs ih =>
  intro h;cases ns with
  |nil=>cases h
  |cons n ns =>
   simp only[aAK,aFY]at h;refine .cons ?_ (ih h.2);have:=r.2.1;rw[h.1,aBK]at this;exact this
def Paired.len{F:α->β->Prop}{l:List α}{m:List β}(h:Paired F l m):l.length=m.length:=Paired.length h
def Paired.pick{α β:Type}{F:α->β->Prop}{l:List α}{m:List β}(h:Paired F l m)(d:α)(e:β):∀is:List Nat,(∀i∈is,i < l.length)->Paired F (is.map λi=>l.getD i d) (is.map λi=>m.getD i e)
 |[],_=>.nil|i::is,hi=>by
  have lt:=hi i (by simp);obtain⟨y,h1,h2⟩:=Paired.at h (aAP lt);refine .cons ?_ (Paired.pick h d e is λj hj=>hi j (by simp[hj]));show F (l.getD i d) (m.getD i e);rw[show l.getD i d=l[i] by simp[List.getD,lt],show m.getD i e=y by simp[List.getD,h1]];exact h2
def Paired.rev{F:α->β->Prop}{l:List α}{m:List β}(h:Paired F l m):Paired F l.reverse m.reverse:=by
 have app:∀{l l':List α} {m m':List β},Paired F l m->Paired F l' m'->Paired F (l++l') (m++m'):=by
  intro l l' m m' a b;induction a with
  |nil=>exact b|cons r _ ih=>exact .cons r ih
 induction h with
 |nil=>exact .nil|cons r _ ih=>rw[List.reverse_cons,List.reverse_cons];exact app ih (.cons r .nil)
def uH{a:Addr}{ns:List (List Int)}{E:Value->Shared->Prop}(rev:Bool)(hh:X.A.handled=none)
  (I:Inv X pins σ H s)(rd:Rd H a (.dT kvs))(hk:kvs.map (·.1)=ns.map (·.map Sum.inl))(hne:2<=ns.length->∀n∈ns,n≠[])
  (h:∀l bs s',H l=none->Paired (λb n=>H b=some (.tup (n.map V.int))) bs (if rev=true then(srtI ns).reverse else srtI ns)->Inv X pins σ (upd H l (.lst (bs.map V.ref))) s'->Q (.ref l) s') :
  wpAny (model X.prog X.w) X.A (call (.builtin "sorted") [.ref a] (if rev=true then[(Str.ofString "reverse",.bool true)]else[])) Q E s:=by
 obtain⟨hz,hm,xs,kt,o,es,ep,h1,h2,h3,h4,h5⟩:=(show ObjOk X.prog X.w H s.heap a (.dT kvs)from wB I.hok rd)
 have P0:=aIt kt hk;have l0:(xs.map (·.2.1)).length=ns.length:=Paired.length P0;have lk:kvs.length=ns.length:=by have:=congrArg List.length hk;simpa using this
 have hnd:ns.Nodup:=by
  have e:xs.map (·.1)=ns.map (·.map Sum.inl):=by rw[<- hk];exact zT kt
  rw[e]at h5;exact(aCB.mp h5).imp λh e=>h (by rw[e])
 obtain⟨bs,hbs⟩:∃bs,bs=xs.map (·.2.1):=⟨_,rfl⟩
 rw[<- hbs]at P0 l0;have hvs:bs.map Value.ref=es.toList.map (·.key):=by
  rw[hbs,h4,aBK,aBK];rfl
 have hes:es.size=ns.length:=by
  have:=congrArg List.length hvs;simp at this;lia
 have item:∀i,i < (bs.map Value.ref).length->∃b,(bs.map Value.ref).getD i Value.none=.ref b/\bs[i]?=some b/\H b=some (.tup ((ns.getD i []).map V.int))/\ns.getD i []∈ns:=λi hi=>by
  have hi:i < bs.length:=by simpa using hi
  obtain⟨n,e1,e2⟩:=Paired.at P0 (aAP hi);have e3:ns.getD i []=n:=by simp[List.getD,e1]
  exact⟨bs[i],by simp[List.getD,hi],aAP hi,e3▸e2,e3▸aAQ e1⟩
 have nd:(bs.map Value.ref).Nodup:=by
  refine aBD.mpr λi j hi hj hij e=>?_
  obtain⟨b,e1,e2,e3,_⟩:=item i hi;obtain⟨c,f1,f2,f3,_⟩:=item j hj;have g1:(bs.map Value.ref)[i]=.ref b:=by rw[<- e1];simp[List.getD,show i < bs.length by simpa using hi]
  have g2:(bs.map Value.ref)[j]=.ref c:=by rw[<- f1];simp[List.getD,show j < bs.length by simpa using hj]
  rw[g1,g2]at e;cases e;rw[e3]at f3;have inj:∀{x y:List Int},x.map V.int=y.map V.int->x=y:=λ{x y} z=>by
   refine List.map_inj_right (f:=V.int) (λp q r=>by cases r;rfl) |>.mp z
  have f3:=inj (HO.tup.inj (Option.some.inj f3));have li:i < ns.length:=by rw[<- l0];simpa using hi
  have lj:j < ns.length:=by rw[<- l0];simpa using hj
  have a1:ns[i]?=some (ns.getD i []):=by simp[List.getD,li]
  have a2:ns[j]?=some (ns.getD j []):=by simp[List.getD,lj]
  rw[f3,<- a2]at a1;exact absurd ((aHZ li hnd).mp a1) (aAO hij)
 have lv:(bs.map Value.ref).length=ns.length:=by simpa using l0
 refine vL (lt:=ltI ns) (κ:=tuples' true) rev hm h2.1 h3 h1 hh hvs (by lia) nd (by rw[lv];exact lU hnd) (by rw[lv];exact lX) ?_ ?_ ?_
 ·intro g2 h' tk old Q' q'
  have I':=I.kept (t':=tk) old;have all:∀(bs:List Addr) (ns:List (List Int)),Paired (λb n=>H b=some (.tup (n.map V.int))) bs ns->(∀n∈ns,n≠[])->∃fs,KatTups h' (bs.map Value.ref) fs/\fs.length=bs.length/\∀f∈fs,∃n t,f=Value.int n t:=by
   intro bs ns p;induction p with
   |nil=>intro _;exact⟨[],trivial,rfl,by simp⟩|@cons b n bs ns r _ ih =>
    intro hn;obtain⟨fs,k1,k2,k3⟩:=ih λm hm=>hn m (by simp[hm])
    obtain⟨_,its,v,ob,g,gc,k,gd⟩:=(show ObjOk X.prog X.w H h' b (.tup (n.map V.int))from I'.hok b _ r)
    cases n with
    |nil=>exact absurd rfl (hn [] (by simp))|cons m ms =>
     cases v with
     |cons r1 r2 =>
      obtain⟨t,rfl⟩:=r1;refine⟨.int m t::fs,KatTups.cons g gc (congrArg (·.1) gd) (by simp) k1,by simp[k2],?_⟩;intro f hf;rcases aAU.mp hf with rfl|hf
      ·exact⟨m,t,rfl⟩
      ·exact k3 f hf
  obtain⟨fs,k1,k2,k3⟩:=all bs ns P0 (hne (by lia));refine kat_kind (T:=.type "int") k1 (by rw[k2];simp at g2;lia) (λv hv=>?_) (by decide) q';obtain⟨n,t,rfl⟩:=k3 v hv;exact .now
 ·intro h' tk old i j C hi hj c
  have I':=I.kept (t':=tk) old;obtain⟨b,e1,_,e3,_⟩:=item i hi;obtain⟨b',f1,_,f3,_⟩:=item j hj;obtain⟨_,its,v,ob,g,gc,k,gd⟩:=(show ObjOk X.prog X.w H h' b (.tup _)from I'.hok b _ e3)
  obtain⟨_,its',v',ob',g',gc',k',gd'⟩:=(show ObjOk X.prog X.w H h' b' (.tup _)from I'.hok b' _ f3)
  obtain⟨ts,t1,rfl⟩:=kK v;obtain⟨us,u1,rfl⟩:=kK v';unfold kas_ask;rw[e1,f1];refine kat_lt g (congrArg (·.1) gd) g' (congrArg (·.1) gd') ?_;have z:=wC (prog:=X.prog) (w:=X.w) (A:=X.A.in1.in1) (s:={s with heap:=h',toks:=tk}) (fin:=decide ((ns.getD i []).length < (ns.getD j []).length)) (Q:=C) (((ns.getD i []).zip ts).zip ((ns.getD j []).zip us)) 0 (λr hr=>by
   have e:r=ltI ns i j:=hr.trans (vG t1 u1);rw[e];exact c)
  have z':KatLex X.prog X.w X.A.in1.in1 true (decide ((ns.getD i []).length < (ns.getD j []).length)) C ((((ns.getD i []).zip ts).map λp=>Value.int p.1 p.2).zip (((ns.getD j []).zip us).map λp=>Value.int p.1 p.2)) 0 {s with heap:=h',toks:=tk}:=by
   rw[List.zip_map];exact z
  simpa[t1,u1]using z'
 ·intro h' tk b out c old le hb ⟨pp,ho,hp,hs⟩
  rw[lv]at hp;have e:=EV.qY (lU hnd) lX hp hs;subst e;have mem:∀i∈EV.srtN (ltI ns) ns.length,i < bs.length:=λi hi=>by rw[l0];exact aCP.mp (hp.mem_iff.mp hi)
  have pk:=Paired.pick P0 0 [] _ mem;obtain⟨cs,hcs⟩:∃cs,cs=(if rev=true then((EV.srtN (ltI ns) ns.length).map λi=>bs.getD i 0).reverse else(EV.srtN (ltI ns) ns.length).map λi=>bs.getD i 0):=⟨_,rfl⟩
  have o1:out.toList=cs.map Value.ref:=by
   have m1:((EV.srtN (ltI ns) ns.length).map λi=>(bs.map Value.ref).getD i Value.none)=((EV.srtN (ltI ns) ns.length).map λi=>bs.getD i 0).map Value.ref:=by
    rw[aBK];refine aBY λi hi=>?_
    have:=mem i hi;simp[List.getD,this]
   rw[m1]at ho;cases rev with
   |true =>
    simp only[aBM]at ho hcs;rw[hcs,List.map_reverse,<- ho,aIQ]
   |false =>
    simp only[aAT,aBW]at ho hcs;rw[hcs,ho]
  have lc:cs.length=ns.length:=by
   have:(EV.srtN (ltI ns) ns.length).length=ns.length:=by rw[hp.length_eq];simp
   rw[hcs];cases rev <;> simp[this]
  have vv:Vals (cs.map V.ref) out.toList:=by
   rw[o1];clear hcs o1 lc;induction cs with
   |nil=>exact .nil|cons b cs ih=>exact .cons rfl ih
  refine h b cs _ (I.hok.fresh le) ?_ (I.laid (t':=tk) (o:=.lst (cs.map V.ref)) old le ⟨by rw[aAM,lc,<- lk];exact hz,out.toList,c,vv,by simpa using hb⟩);rw[hcs];cases rev with
  |true=>simp only[aBM];exact Paired.rev pk|false=>simp only[aAT,aBW];exact pk
end L2
namespace L2
open PySem.W
def SrtD(H:Hp)(x:V)(rev:Bool)(Q:VK):Prop:=∃a kvs,∃ns:List (List Int),x=.ref a/\Rd H a (.dT kvs)/\kvs.map (·.1)=ns.map (·.map Sum.inl)/\(2<=ns.length->∀n∈ns,n≠[]) /\
 ∀l bs,H l=none->Paired (λb n=>H b=some (.tup (n.map V.int))) bs (if rev=true then(srtI ns).reverse else srtI ns)->Q (.ref l) (upd H l (.lst (bs.map V.ref)))
def wN(hc:X.calm=true):CallR X (.builtin "sorted") (λxs H Q=>∃x,xs=[x]/\SrtD H x false Q):=by
 intro pins s σ H xs us Q I r h;obtain⟨x,rfl,a,kvs,ns,rfl,rd,h1,h2,q⟩:=h;obtain⟨u,rfl,rx⟩:=vals1 r;cases rx;exact uH false (I.ok.hd hc) I rd h1 h2 λl bs s' hl hp I'=>⟨.ref l,_,I',rfl,q l bs hl hp⟩
def tSortR(ta te:TE):TE:=λσ H Q=>ta σ H λx H1=>te σ H1 λy H2=>y=.bl true/\SrtD H2 x true Q
def aEa{a e:Expr}{kp:Pos}(hc:X.calm=true)(hg:Gl X "sorted")(hm:X.mg "sorted"=none)(ha:PE X a ta)(he:PE X e te)(hs:starEach [a] X.env=[(false,eval a X.env)]) :
  PE X (.Call (.Name "sorted" p) [a] [⟨some "reverse",e,kp⟩] pos) (tSortR ta te):=by
 intro pins s σ H Q I h;refine aDU (dJ I hg hm kM (callWith_builtin_kwB (by rw[hs];rfl) (by rfl) ?_));have hA:=bF ha cJ hs pos pins s σ H (λvs H1=>match vs with|[x]=>te σ H1 (λy H2=>y=.bl true/\SrtD H2 x true Q)|_=>False) I h;rw[hs]at hA ⊢;refine evalArgs_kwB (by rfl) (thn hA λus s1 ⟨vs,H1,I1,r1,hr⟩=>?_)
 match vs,r1,hr with
 |[],_,hr=>exact hr.elim|_::_::_,_,hr=>exact hr.elim|[x],r1,hr =>
 obtain⟨u,rfl,rx⟩:=vals1 r1;refine thn (aBn (nm:=some "reverse") (kpos:=kp) he aFe pos pins s1 σ H1 (λys H2=>match ys with|[y]=>y=.bl true/\SrtD H2 x true Q|_=>False) I1 hr) λws s2 ⟨ys,H2,I2,r2,hq⟩=>?_
 match ys,r2,hq with
 |[],_,hq=>exact hq.elim|_::_::_,_,hq=>exact hq.elim|[y],r2,hq =>
 obtain⟨rfl,l,kvs,ns,rfl,rd,h1,h2,q⟩:=hq;obtain⟨u2,rfl,r3⟩:=vals1 r2;cases r3;cases rx;show wpAny _ _ (call (.builtin "sorted") [.ref l] [(Str.ofString "reverse",.bool true)]) _ _ _;exact uH true (I2.ok.hd hc) I2 rd h1 h2 λl bs s' hl hp I'=>⟨.ref l,_,I',rfl,q l bs hl hp⟩
end L2
namespace EV
open L2 PySem.W
def tupI(n:List Int):D:=.tup (n.map D.int)
variable{ns:List (List Int)}
def aDv{bs:List Addr}(h:Paired (λb n=>H b=some (.tup (n.map V.int))) bs ns):Rps K μ H (ns.map tupI) (bs.map V.ref):=by
 induction h with
 |nil=>exact .nil|@cons b n _ _ r _ ih =>
  refine Rps.cons ?_ ih;simp only[tupI,Rp];exact⟨b,_,rfl,r,Rps.ints⟩
variable{K:Frag}
def srtD(rev:Bool)(x:W)(M:Mm):Oc W:=match x with
 |.ob c j=>if c="dict"then(match M[j]? with
  |some ds=>match intTs (ents ds)with
   |some ns=>if 2<=ns.length->∀n∈ns,n≠[]then okD (.lst ((if rev=true then(srtI ns).reverse else srtI ns).map tupI)) M else .bad
   |none=>.bad
  |none=>.bad)else .bad
 |_=>.bad
def cSort(ws:List W)(M:Mm):Oc W:=match ws with
 |[.ob c j]=>srtD false (.ob c j) M|ws=>cSortB ws M
variable{rev:Bool}
def uN{x:W}{Q:VK}(hnd:nsIn K mainGlobals "dict"=some none)(hr:HR K μ H M)(rx:Rw K μ H x v)(p:Pst K Z μ H (srtD rev x M) (Wk K Q)):SrtD H v rev Q:=by
 unfold srtD at p;cases x with
 |d _=>exact p.elim|ref _=>exact p.elim|nest _=>exact p.elim|ob c j =>
  dsimp only at p;split at p
  ·rename_i hc;subst hc
   cases q2:M[j]? with
   |none=>simp only[q2]at p;exact p.elim
   |some ds =>
    simp only[q2]at p;cases q3:intTs (ents ds)with
    |none=>simp only[q3]at p;exact p.elim
    |some ns =>
     simp only[q3]at p;split at p
     ·rename_i hz
      obtain⟨a0,kvs,qa,rfl,rd,r1,_⟩:=eD hnd hr rx q2;exact⟨a0,kvs,ns,rfl,rd,oQ r1 q3,hz,λl bs hl hp=>eF hr (aDv hp) p l hl⟩
     ·exact p.elim
  ·exact p.elim
def callSort(hnd:nsIn K mainGlobals "dict"=some none)(hc:X.calm=true)(hu:X.A.units+101 < cLine):ClG X K Z (.builtin "sorted") cSort:=λhk=>by
 obtain⟨r,h1,h2⟩:=callSortB (Z:=Z) hc hu hk;refine⟨_,CallR.or h1 (wN hc),?_⟩;intro μ H M ws vs Q hr rx p
 match ws,rx,p with
 |[.ob c j],⟨v,r,e1,e2,e3⟩,p =>
  cases e3;subst e1;exact .inr ⟨v,rfl,uN hnd hr e2 p⟩
 |[],rx,p=>exact .inl (h2 μ H M _ _ Q hr rx p)|[.d x],rx,p=>exact .inl (h2 μ H M _ _ Q hr rx p)|[.ref x],rx,p=>exact .inl (h2 μ H M _ _ Q hr rx p)|[.nest x],rx,p=>exact .inl (h2 μ H M _ _ Q hr rx p)|x::y::r,rx,p=>exact .inl (h2 μ H M _ _ Q hr rx (by cases x <;> exact p))
def pSortR(x y:W)(M:Mm):Oc W:=match y with
 |.d (.bl true)=>srtD true x M|_=>.bad
def aHd{a e:Expr}{kp:Pos}{g:FE}(hnd:nsIn K mainGlobals "dict"=some none)(hc:X.calm=true)(hm:X.mg "sorted"=none)(ha:Ev X K Z a f)(he:Ev X K Z e g)(hg:Gl X "sorted":=by rfl)(hs:starEach [a] X.env=[(false,eval a X.env)]:=by rfl) :
  Ev X K Z (.Call (.Name "sorted" p) [a] [⟨some "reverse",e,kp⟩] pos) (e2 pSortR f g):=by
 refine⟨ha.k,cqE (aEa hc hg hm ha.h he.h hs) ?_⟩;rintro σ H Q ⟨μ,M,L,hr,lr,p⟩;refine⟨μ,M,L,hr,lr,p.bind.imp λμ1 H1 M1 x e1 hr1 _ p1 v rx=>?_⟩;refine⟨μ1,M1,L,hr1,lr.ext hr.lsts e1,p1.bind.imp λμ2 H2 M2 y e2 hr2 _ p2 u ry=>?_⟩;unfold pSortR at p2;split at p2
 ·simp only[Rw,Rp]at ry
  exact⟨ry,uN hnd hr2 (rx.ext hr1.lsts e2) p2⟩
 ·exact p2.elim
variable{EX:D->Mm->Prop}{Q:W->Mm->Prop}{j:Nat}{ds:List D}
def zI(h:M[j]?=some ds)(e:intTs (ents ds)=some ns)(hn:2<=ns.length->∀n∈ns,n≠[])(q:Q (.d (.lst ((if rev=true then(srtI ns).reverse else srtI ns).map tupI))) M):Okx EX (srtD rev (.ob "dict" j) M) Q:=by
 unfold srtD;simp only[aBM,h,e];rw[aAG hn];exact aH q
def aEs(h:M[j]?=some ds)(e:intTs (ents ds)=some ns)(hn:2<=ns.length->∀n∈ns,n≠[])(q:Q (.d (.lst ((srtI ns).map tupI))) M):Okx EX (cSort [.ob "dict" j] M) Q:=zI (rev:=false) h e hn q
def aEz(h:M[j]?=some ds)(e:intTs (ents ds)=some ns)(hn:2<=ns.length->∀n∈ns,n≠[])(q:Q (.d (.lst ((srtI ns).reverse.map tupI))) M):Okx EX (pSortR (.ob "dict" j) (.d (.bl true)) M) Q:=zI (rev:=true) h e hn q
def aGd{x:D}{xs:List D}(h:lr M (.d x)=some xs)(T:TSB xs)(q:Q (.d (.lst (srtB xs))) M):Okx EX (cSort [.d x] M) Q:=aDu h T q
def aCe(nd:ns.Nodup):(srtI ns).Perm ns:=by
 have h:=((gG (lU nd) lX).1).map λi=>ns.getD i []
 have e:(List.range ns.length).map (λi=>ns.getD i [])=ns:=by
  refine aGR (by simp) λi h1 h2=>?_
  simp[h2]
 rw[e]at h;exact h
def aIb(nd:ns.Nodup):(srtI ns).Pairwise λa b=>lexI a b=true:=by
 have h:=(gG (lU nd) lX).2;unfold srtI;rw[aCB];exact h
end EV
namespace EV
open L2
variable{K:Frag}{a:Expr}{EX:D->Mm->Prop}
end EV
set_option maxHeartbeats 4000000
namespace L2
def PutT(H:Hp)(a:Addr)(y v:V)(H':Hp):Prop:=∃kvs k b,H a=some (.dT kvs)/\y=.ref b/\H b=some (.tup (k.map kV))/\kvs.length < sizeLine/\H'=upd H a (.dT (putK kvs k v))
variable{σ:St}{E:Value->Shared->Prop}
def aBy{a:Addr}{r:Value}{Q:Unit->Shared->Prop}(hu:A.units < cLine)(I:Inv X pins σ H s)(g:PutT H a y v H')(ry:RelV y u)(rv:RelV v r)(h:∀s',Inv X pins σ H' s'->Q () s') :
  wpAny (model X.prog X.w) A (dictSet a u r) Q E s:=by
 obtain⟨kvs,k,b,e,ey,eb,l,eH⟩:=g;subst ey eH;cases(show u=Value.ref b from ry);obtain⟨z,hd,xs,rel,dd⟩:=aLk I.hok e;have hz:xs.length<=sizeLine:=by rw[<- Paired.length rel];exact z
 have hl:(putK kvs k v).length<=sizeLine:=by have:=dF kvs k v;lia
 refine wpAny_dictSet_heap (hsz:=hz) (show(tupleKind (mixKind X.prog X.w)).room A from hu) (gW I.hok eb) dd λh' dd' hs=>h _ ?_
 obtain⟨q,es,ep,hq,h2,h3,h4,_,h5⟩:=dd';refine mE I (by rw[e];exact True.intro) hs ⟨q,hq⟩ ⟨hl,hd,_,(rel.put k eb rv).keeps λc ys ec=>?_,q,es,ep,hq,h2,h3,h4,h5⟩;rw[aI (aGq ec e (λz=>nomatch z))];exact ec
def tTurnsD(J:It)(g:TG)(ti:TT)(tk tv:TE)(D:Addr)(σ0:St)(H0:Hp)(Q:Hp->Prop):Prop :=
 ∃W:Nat->Nat->St->Hp->Prop,(∃m,W 0 m σ0 H0)/\∀i m σ' H',W i m σ' H' ->
  (J.stop i H'/\Q H')\/(J.go i H'/\∃Nn:St->Hp->Prop,(∀σ'' H'',Nn σ'' H''->∃m',m' < m/\W (i+1) m' σ'' H'') /\
   ∀x H'',J.yld i H' x H''->g x σ' H'' λσ2 H2=>ti σ2 H2 λok H3=>if ok=true then tk σ2 H3 λy H4=>tv σ2 H4 λv H5=>∃H6,PutT H5 D y v H6/\Nn σ2 H6 else Nn σ2 H3)
def tDComp(js:List (Option Nat))(wi:TI)(g:TG)(ti:TT)(tk tv:TE):TE:=λσ H Q=>wi σ H λJ H1=>∀D,H1 D=none->tTurnsD J g ti tk tv D (outσ js σ) (upd H1 D (.dT [])) λH'=>Q (.ref D) H'
variable{scope:Scope}{js:List (Option Nat)}
def tN{ob:HO}(I:Inv X pins σ H₂ s₂)(hc:cP)(T:CompOk X.N X.env.scope scope Nc js)(hcl:∀x c,cl.lookup x=some c->X.env.cells.lookup x=some c)(hfr:∀y∈scope.names,y.2=.free->∃c,cl.lookup y.1=some c)
  (hf:∀b∈fp,FpOk X pins H₂ b)(ho:∀b∈fp,∃o,s₂.heap.get? b=some o){h₁:Heap}{tk:Nat}(hC:C=s₂.heap.objs.size+1)(old:∀b u,s₂.heap.get? b=some u->h₁.get? b=some u)
  (hns:h₁.Ns C m)(new:ObjOk X.prog X.w (upd H₂ s₂.heap.objs.size ob) h₁ s₂.heap.objs.size ob) :
  Inv (compCx X Nc scope cl C fp pins s₂ H₂) [] (outσ js σ) (upd H₂ s₂.heap.objs.size ob) {s₂ with heap:=h₁,toks:=tk}:=by
 have lt:∀b o,s₂.heap.get? b=some o->b < s₂.heap.objs.size:=λb o e=>aAE e
 have hle:s₂.heap.objs.size<=C:=by rw[hC];exact aGX _
 have cellc:∀x c,cl.lookup x=some c->c < s₂.heap.objs.size:=λx c h=>by
  obtain⟨v,o,e,_⟩:=I.cell x c (hcl x c h);exact lt c o e
 refine⟨aBc I hc T hcl hfr hle hf ho,rfl,I.bare,?_,⟨m,hns,λi x v e1 e2 e3=>?_⟩,λx c h=>?_,?_,λx c h=>?_,λp hp=>?_,I.hok.laid old (aAD _) new,?_,λz=>(I.hx z).imp id λ⟨e,C',d,q,y⟩=>⟨e,C',d,q,by rw[aI (aQ y (I.hok.fresh (aAD _)))];exact y⟩⟩
 ·exact Un.laid old (aAD _) (I.hok.fresh (aAD _))
 ·have e1:Nc[i]?=some x:=e1
  have e2':∃j,js[i]?=some (some j)/\σ[j]?=some (some v):=by
   unfold outσ at e2;rw[aAV]at e2;cases hj:js[i]? with
   |none=>rw[hj]at e2;cases e2
   |some o =>
    rw[hj]at e2;cases o with
    |none=>cases e2
    |some j =>
     refine⟨j,rfl,?_⟩;have e2:(σ[j]?).join=some v:=Option.some.inj e2;cases hq:σ[j]? with
     |none=>rw[hq]at e2;cases e2
     |some o=>rw[hq]at e2;exact congrArg some e2
  obtain⟨j,hj,hv⟩:=e2';have hz:(x,some j)∈Nc.zip js:=by
   refine aAQ (i:=i) ?_;rw[aDP];exact⟨e1,hj⟩
  obtain⟨t1,t2,t3⟩:=T.slots _ hz j rfl;obtain⟨m0,hn0,hl0⟩:=I.loc;obtain⟨u,ru,lk⟩:=hl0 j x v t1 hv (.inr (.inl t3));refine⟨u,ru,.inr ⟨.inl (bO I.ok.kind t2 t3),?_⟩⟩;rcases lk with⟨k,_⟩|⟨_,c,hcc,hcell⟩
  ·have k:X.env.scope.names.lookup x=some .local:=k
   rw[t3]at k;cases k
  ·have hm:(x,NameKind.free)∈scope.names:=by
    have:∀(l:List (Str×NameKind)),l.lookup x=some .free->(x,NameKind.free)∈l:=λl=>by
     induction l with
     |nil=>intro h;simp at h
     |cons y r ih =>
      obtain⟨n',k'⟩:=y;intro h;rw[aDK]at h;cases e:x==n' with
      |true =>
       rw[e]at h;have:x=n':=by simpa using e
       subst this;cases h;exact aBG
      |false=>rw[e]at h;exact aBF _ (ih h)
    exact this _ t2
   obtain⟨c',hc'⟩:=hfr _ hm rfl;have hc'':=hcl x c' hc';rw[hcc]at hc'';cases hc'';obtain⟨o,ho,hd⟩:=hcell;exact⟨c,hc',o,old c o ho,hd⟩
 ·obtain⟨v,o,e,d⟩:=I.cell x c (hcl x c h)
  exact⟨v,o,old c o e,d⟩
 ·show upd H₂ _ _ C=none
  rw[aI (by rw[hC];exact aBJ (aEJ _))];exact I.hok.fresh hle
 ·show upd H₂ _ _ c=none
  rw[aI (aAO (cellc x c h))];exact I.freeC x c (hcl x c h)
 ·have hp:p∈X.pn++pins:=by
   have hp:p∈(X.pn++pins)++[]:=hp;rwa[aEF]at hp
  obtain⟨e,n0,ne,nf,d⟩:=I.pin p hp;have hlt:=lt _ _ e;refine⟨old _ _ e,?_,?_,λz=>?_,d⟩
  ·show upd H₂ _ _ p.1=none
   rw[aI (aAO hlt)];exact n0
  ·show p.1≠C
   exact aAO (aAZ hlt hle)
  ·rcases aAU.mp (I.stkSub _ z)with q|q
   ·exact ne q
   ·exact nf q
 ·show(outσ js σ).length=Nc.length
  unfold outσ;rw[aAM];exact T.len
variable{ifs:List Expr}{it:Addr}{g:TG}
def yE{Y:Cx}{tg iter kx vx:Expr}{fp:List Addr}{tk:TE}{D:Addr}{s:Shared}{Q:Hp->Prop}
  (hc:Y.calm=true\/q)(hx:∀e s,¬Y.xe e s)(T:Turn Y.prog Y.w Y.K tg J fp it tn q)(hg:PG Y tg g)(hi:PIf Y ifs ti)(he:PE Y kx tk)(hv:PE Y vx tv)(hu:Y.A.units < cLine)
  (stat:∀H',(∀b∈fp,H' b=none)->∀b∈fp,FpOk Y [] H' b)(I0:Inv Y [] σ0 H0 s)(st0:tn 0 s.heap)(fr0:∀b∈fp,H0 b=none)(h:tTurnsD J g ti tk tv D σ0 H0 Q)
  (hR:∀σ' H' s',Inv Y [] σ' H' s'->Q H'->R (.ok .next) s') :
  codeAny (model Y.prog Y.w) Y.A (.compLoop (.DictComp kx vx [⟨tg,iter,ifs,0⟩] scope pos) 0 (.ref it) (.ref D) Y.env) R s:=by
 obtain⟨W,⟨m0,w0⟩,turn⟩:=h;refine codeAny_loop rfl (λn s'=>∃i σ' H',Inv Y [] σ' H' s'/\tn i s'.heap/\(∀b∈fp,H' b=none)/\W i n σ' H') (λn s' hI=>?_) m0 ⟨0,σ0,H0,I0,st0,fr0,w0⟩;show wpAny _ Y.A ((compTurn (.DictComp kx vx [⟨tg,iter,ifs,0⟩] scope pos) 0 (.ref it) (.ref D) Y.env).onRaise (λx=>do noteFrame x Y.env;theTreesLotGoes x)) _ _ s';refine wpAny_noted ?_;rw[compTurn_dict];obtain⟨i,σ3,H3,I3,st3,fr3,w3⟩:=hI;refine aAA (aFV (aAA ?_));rcases turn i n σ3 H3 w3 with⟨stop,qn⟩|⟨go,Nn,hN,step⟩
 ·refine aCU (T.done Y rfl rfl rfl hc i [] s' σ3 H3 _ I3 (stat H3 fr3) st3 stop) (λr s4 ⟨hr,I4⟩=>?_) (λ_ _ h=>h)
  subst hr;exact aAC (hR σ3 H3 s4 I4 qn)
 ·refine aCU (T.item Y rfl rfl rfl hc i [] s' σ3 H3 _ I3 (stat H3 fr3) st3 go) (λr s4 ⟨u,hr,h4⟩=>?_) (λ_ _ h=>h)
  subst hr;refine aAA (aCU h4 (λ_ s5 ⟨x,H5,I5,r5,y5,st5,fr5⟩=>?_) λ_ _ h=>h);have I5':=I5.pinned (stat H5 fr5) (T.obj _ _ st5);refine aAA (thnE hx (hg _ s5 σ3 H5 x u _ I5' r5 (step x H5 y5)) λ_ s6 ⟨σ6,H6,I6,q6⟩=>?_);refine aAA (thnE hx (hi _ s6 σ6 H6 _ I6 q6) λok s7 ⟨H7,I7,q7⟩=>?_);have again:∀{σ7:St} {H7:Hp} {s7:Shared},Inv Y ([]++pinsAt fp s5.heap) σ7 H7 s7->Nn σ7 H7->∃m,m < n/\∃i σ' H',Inv Y [] σ' H' s7/\tn i s7.heap/\(∀b∈fp,H' b=none)/\W i m σ' H':=λ{σ7 H7 s7} I7 n7=>by
   obtain⟨m',hm,w7⟩:=hN σ7 H7 n7;refine⟨m',hm,i+1,σ7,H7,I7.unpinned,T.keep _ _ _ st5 λb hb o e=>(I7.pin (b,o) (aBN _ (aBN _ (cA hb e)))).1,λb hb=>?_,w7⟩;obtain⟨o,e,d⟩:=T.obj _ _ st5 b hb;exact(I7.pin (b,o) (aBN _ (aBN _ (cA hb e)))).2.1
  cases ok with
  |false=>exact aAC ⟨rfl,again I7 q7⟩|true =>
   refine aAA (aAA (thnE hx (he _ s7 σ6 H7 _ I7 q7) λy s8 ⟨yv,H8,I8,r8,q8⟩=>aAA (aBC ?_)));refine thnE hx (hv _ s8 σ6 H8 _ I8 q8) λz s9 ⟨zv,H9,I9,r9,H10,g,n10⟩=>aAA (aFV (aBC ?_))
   exact aBy hu I9 g r8 r9 λs10 I10=>aAC ⟨rfl,again I10 n10⟩
variable{tg iter kx vx:Expr}{js:List (Option Nat)}{tk:TE}{wi:TI}
def uG{pins:List (Addr×Obj)}{H₂:Hp}{s₂:Shared}{fp:List Addr}{cl:List (Str×Addr)}{Q':Addr->Hp->Prop}
  (hc:X.calm=true\/qq)(T:CompOk X.N X.env.scope scope Nc js)(hcl:∀x c,cl.lookup x=some c->X.env.cells.lookup x=some c)(hfr:∀y∈scope.names,y.2=.free->∃c,cl.lookup y.1=some c)
  (hg:∀cl C fp pins s₂ H₂,PG (compCx X Nc scope cl C fp pins s₂ H₂) tg g)(hi:∀cl C fp pins s₂ H₂,PIf (compCx X Nc scope cl C fp pins s₂ H₂) ifs ti)(he:∀cl C fp pins s₂ H₂,PE (compCx X Nc scope cl C fp pins s₂ H₂) kx tk)(hv:∀cl C fp pins s₂ H₂,PE (compCx X Nc scope cl C fp pins s₂ H₂) vx tv)(hu:X.A.units < cLine)
  (I2:Inv X pins σ H₂ s₂)(Tn:Turn X.prog X.w X.K tg J fp it tn qq)(st2:tn 0 s₂.heap)(f2:∀b∈fp,FpOk X pins H₂ b)
  (q:∀D,H₂ D=none->tTurnsD J g ti tk tv D (outσ js σ) (upd H₂ D (.dT [])) (Q' D))
  (hRR:∀D C H' s',CompEnd X pins σ H' C s'->Q' D H'->RR (.ref D) C (.ok .next) s') :
  wpAny (model X.prog X.w) X.A (newDict) (λacc s₃=>wpAny (model X.prog X.w) X.A (newFunctionEnv scope X.env.globals cl [] X.env.qual none .none (some X.env)) (λcenv s₄ =>
   codeAny (model X.prog X.w) X.A (.compStart (.DictComp kx vx [⟨tg,iter,ifs,0⟩] scope pos) 0 (.ref it) acc {cenv with scope:=relabel scope X.env}) (RR acc cenv.locals) s₄) E s₃) E s₂:=by
 refine aBR (wpAny_newFunctionEnv T.nocell (by intro y hy;simp at hy) (λh₁ hns₁ hsb₁=>?_) T.kind);dsimp only at hns₁ hsb₁ ⊢;have hnew:(s₂.heap.push {cls:=.type "dict",dict:=none,data:=.dict #[]}).DictOfH (tupleKind (mixKind X.prog X.w)) s₂.heap.objs.size []:=Heap.DictOfH.new s₂.heap;generalize hH2:s₂.heap.push {cls:=.type "dict",dict:=none,data:=.dict #[]}=Hx at hns₁ hsb₁ hnew ⊢;have hC:Hx.objs.size=s₂.heap.objs.size+1:=by rw[<- hH2,aDG]
 have below:∀b,b < s₂.heap.objs.size->b≠Hx.objs.size:=λb hb=>by rw[hC];exact aAO (aEC hb)
 have old:∀b o,s₂.heap.get? b=some o->h₁.get? b=some o:=λb o e=>hsb₁.extBut b o (below b (aAE e)) (aAB _ (hH2▸aAB _ e))
 have new:ObjOk X.prog X.w (upd H₂ s₂.heap.objs.size (.dT [])) h₁ s₂.heap.objs.size (.dT []):=by
  obtain⟨o,es,ep,e1,e2,e3,e4,e5,e6⟩:=hnew;exact⟨aCE _,aIT (aBJ I2.big),[],.nil,o,es,ep,hsb₁.extBut _ _ (by rw[hC];exact aAO (aEJ _)) (aAB _ e1),e2,e3,e4,e6⟩
 have ho:∀b∈fp,∃o,s₂.heap.get? b=some o:=λb hb=>let⟨o,e,_⟩:=Tn.obj _ _ st2 b hb;⟨o,e⟩
 have hDn:H₂ s₂.heap.objs.size=none:=I2.hok.fresh (aAD _);have hle:s₂.heap.objs.size<=Hx.objs.size:=by rw[hC];exact aGX _
 have st1:tn 0 h₁:=Tn.keep _ _ _ st2 λb _ o e=>old b o e
 have fr1:∀b∈fp,upd H₂ s₂.heap.objs.size (.dT []) b=none:=λb hb=>by
  obtain⟨o,e⟩:=ho b hb;rw[aI (aAO (aAE e))];exact(f2 b hb).1
 have stat:∀H',(∀b∈fp,H' b=none)->∀b∈fp,FpOk (compCx X Nc scope cl Hx.objs.size fp pins s₂ H₂) [] H' b:=λH' hn b hb=>by
  obtain⟨g0,g1,g2,g3,g4,g5⟩:=f2 b hb;obtain⟨o,e⟩:=ho b hb;refine⟨hn b hb,below b (aAE e),λz=>?_,.inl hb,λx c h=>g4 x c (hcl x c h),λp hp=>g5 p ?_⟩
  ·rcases aAU.mp (I2.stkSub b z)with y|y
   ·exact g1 y
   ·exact g2 y
  ·have hp:p∈(X.pn++pins)++[]:=hp
   rwa[aEF]at hp
 have loop:∀tk,codeAny (model X.prog X.w) X.A (.compLoop (.DictComp kx vx [⟨tg,iter,ifs,0⟩] scope pos) 0 (.ref it) (.ref s₂.heap.objs.size) (compEnvC scope cl Hx.objs.size X.env)) (RR (.ref s₂.heap.objs.size) Hx.objs.size) {s₂ with heap:=h₁,toks:=tk}:=λtk=>by
  refine yE (Y:=compCx X Nc scope cl Hx.objs.size fp pins s₂ H₂) hc (λ_ _ z=>z) Tn (hg _ _ _ _ _ _) (hi _ _ _ _ _ _) (he _ _ _ _ _ _) (hv _ _ _ _ _ _) hu stat
   (tN (tk:=tk) I2 hc T hcl hfr f2 ho hC old hns₁ new) st1 fr1 (q _ hDn) λσ' H' s' I' qQ=>?_
  obtain⟨m,hm,_⟩:=I'.loc;refine hRR _ _ H' s' ⟨?_,⟨m,hm⟩,I'.free,aBJ (aAZ I2.lt hle),aBS I2.sz hle,λx c h=>?_,λp hp=>?_⟩ qQ
  ·exact I2.call' (ch:=fp) I'.os I'.base I'.hok I'.bare λb hb=>let⟨g0,g1,g2,g3,g4,g5⟩:=f2 b hb;⟨g3,g1,g4,g5⟩
  ·obtain⟨v,o,e,_⟩:=I2.cell x c h
   exact below c (aAE e)
  ·exact below _ (aAE (I2.pin p hp).1)
 exact codeAny_compStart_dict (loop _) (Tn.self _ _ _ _ _ st1 (loop _))
def aGo(hc:X.calm=true\/qq)(hu:X.A.units < cLine)(T:CompOk X.N X.env.scope scope Nc js)(hit:PI X tg iter wi qq)
  (hg:∀cl C fp pins s₂ H₂,PG (compCx X Nc scope cl C fp pins s₂ H₂) tg g)(hi:∀cl C fp pins s₂ H₂,PIf (compCx X Nc scope cl C fp pins s₂ H₂) ifs ti)(he:∀cl C fp pins s₂ H₂,PE (compCx X Nc scope cl C fp pins s₂ H₂) kx tk)(hv:∀cl C fp pins s₂ H₂,PE (compCx X Nc scope cl C fp pins s₂ H₂) vx tv)
  (hs:∀x,foldedSetIterable iter X.env x=pure x:=by intro _;rfl):PE X (.DictComp kx vx [⟨tg,iter,ifs,0⟩] scope pos) (tDComp js wi g ti tk tv):=by
 intro pins s σ H Q I h;rw[arm_eval_DictComp];obtain⟨cl,hcl0,hcl,hfr⟩:=dM (scope:=scope) (env:=X.env) (λy hy hf=>I.ok.has y.1 (.inl (T.free y hy hf)));refine aHM (use:=none) rfl hs hcl0 T.kind T.names (thn (hit pins s σ H _ I h) λxv s1 h1=>thn h1 λitv s2 h2=>?_);obtain⟨it,fp,tn,J,H2,e,I2,Tn,st2,f2,q⟩:=h2;subst e;refine uG (RR:=λacc C=>compPost (model X.prog X.w) X.A X.xe none (EP X pins σ Q) acc C) hc T hcl hfr hg hi he hv hu I2 Tn st2 f2 q λD C H' s' ce qD=>?_
 obtain⟨m,hm⟩:=ce.ns;exact⟨m,hm,λh' hs'=>⟨.ref D,H',ce.go ce.inv hs',rfl,qD⟩⟩
end L2
namespace EV
open L2
open Classical in
def compDD(t:Nat)(s:Src)(g:FG)(c:FT)(fk fv:FE):List D->Lc->Mm->Oc Unit
 |[]=>λ_ M=>if Chk s M then .ok () M else .bad
 |d::r=>λL M=>if Chk s M then(g (.d d) L M).bind λL1 M1=>(c L1 M1).bind λb M2=>if b=true then(fk L1 M2).bind λy M3=>(fv L1 M3).bind λw M4=>match keyT y,w,M4[t]? with
   |some k,.d x,some ds=>if ds.length < 16777216/\frzB ds=false then compDD t s g c fk fv r L1 (M4.set t (kput k x ds))else .bad
   |_,_,_=>.bad
   else compDD t s g c fk fv r L1 M2
  else .bad
def eDComp(js:List (Option Nat))(fi:FI)(g:FG)(c:FT)(fk fv:FE):FE:=λL M=>(fi L M).bind λs M1=>match compDD M1.length s g c fk fv s.ds (outL js L) (M1++[[]])with
 |.ok _ M2=>.ok (.ob "dict" M1.length) (M2.take (M1.length+1))|_=>.bad
variable{K:Frag}{c:FT}{fk:FE}
def aCb{Zi:Zt}{s:Src}{g:FG}{fv:FE}{Dt:Addr}{Q:Hp->Prop}(n:Nat)(μ0:List Addr)(H0:Hp)(e0:Ext μ0 H0 μ H)(hn:μ0.length=n)(hnd:nsIn K mainGlobals "dict"=some none)(hD:Rw K μ H (.ob "dict" n) (.ref Dt))
  (hr:HR K μ H M)(lr:LR K μ H L σ)(hJ:ItOk K μ H s J)
  (p:match compDD n s g c fk fv s.ds L M with
   |.ok _ M2=>∀μ2 H2,Ext μ H μ2 H2->HR K μ2 H2 M2->Q H2|.ex z M2=>Zi.z z M2 μ H|.bad=>False):tTurnsD J (liftG K Zi g) (liftT K Zi c) (lift K Zi fk) (lift K Zi fv) Dt σ H Q:=by
 obtain⟨S,s0,sx,step⟩:=hJ
 let R:List Addr->Hp->Lc->Mm->List D->Prop:=λμ1 H1 L M rest=>match compDD n s g c fk fv rest L M with
   |.ok _ M2=>∀μ2 H2,Ext μ1 H1 μ2 H2->HR K μ2 H2 M2->Q H2|.ex z M2=>Zi.z z M2 μ1 H1|.bad=>False
 refine⟨λi m σ H1=>m=s.ds.length - i/\i<=s.ds.length/\∃μ1 M L,Ext μ0 H0 μ1 H1/\Rw K μ1 H1 (.ob "dict" n) (.ref Dt)/\HR K μ1 H1 M/\LR K μ1 H1 L σ/\S μ1 H1/\R μ1 H1 L M (s.ds.drop i),⟨s.ds.length,by simp,aCE _,μ,M,L,e0,hD,hr,lr,s0,by simpa[R]using p⟩,?_⟩;rintro i m σ H1 ⟨rfl,hi,μ1,M,L,e1,hD1,hr,lr,sS,p⟩;by_cases hlt:i < s.ds.length
 ·simp only[R]at p
  rw[aCI hlt]at p;unfold compDD at p;by_cases hch:Chk s M
  ·rw[aAG hch]at p
   obtain⟨go,yl⟩:=(step μ1 H1 M i hr sS hch).1 s.ds[i] (by simp[hlt]);refine .inr ⟨go,λσ' H'=>i+1<=s.ds.length/\∃μ1 M L,Ext μ0 H0 μ1 H'/\Rw K μ1 H' (.ob "dict" n) (.ref Dt)/\HR K μ1 H' M/\LR K μ1 H' L σ'/\S μ1 H'/\R μ1 H' L M (s.ds.drop (i+1)),λσ' H' q=>⟨s.ds.length - (i+1),by lia,rfl,q.1,q.2⟩,λx H2 y=>?_⟩;obtain⟨e2,hr2,rx⟩:=yl x H2 y;have lr2:=lr.ext hr.lsts e2;have s2:=sx _ _ _ _ hr.lsts sS e2;refine⟨μ1,M,L,.d s.ds[i],hr2,lr2,rx,?_⟩;cases q3:g (.d s.ds[i]) L M with
   |bad=>rw[q3]at p;exact p.elim
   |ex z M2=>rw[q3]at p;exact Zi.mono e2 p
   |ok L3 M3 =>
    rw[q3]at p;intro μ3 H3 e3 hr3 σ3 lr3;refine⟨μ3,M3,L3,hr3,lr3,?_⟩;simp only[bI]at p;have s3:=sx _ _ _ _ hr2.lsts s2 e3;cases q4:c L3 M3 with
    |bad=>rw[q4]at p;exact p.elim
    |ex z M2=>rw[q4]at p;exact Zi.mono (e2.trans e3) p
    |ok b M4 =>
     rw[q4]at p;intro μ4 H4 e4 hr4;simp only[bI]at p;have s4:=sx _ _ _ _ hr3.lsts s3 e4;have lr4:=lr3.ext hr3.lsts e4;have E4:=((e1.trans e2).trans e3).trans e4;have D4:=Rw.ext hr.lsts ((e2.trans e3).trans e4) hD1;cases b with
     |false =>
      refine⟨hlt,μ4,M4,L3,E4,D4,hr4,lr4,s4,?_⟩;simp only[R];simp only[aAT,aBW]at p;cases q5:compDD n s g c fk fv (s.ds.drop (i+1)) L3 M4 with
      |ok u M5=>rw[q5]at p;exact λμ5 H5 e5 hr5=>p μ5 H5 (((e2.trans e3).trans e4).trans e5) hr5
      |ex z M5=>rw[q5]at p;exact Zi.mono ((e2.trans e3).trans e4) p
      |bad=>rw[q5]at p;exact p
     |true =>
      simp only[aBM]at p;refine⟨μ4,M4,L3,hr4,lr4,?_⟩;cases q5:fk L3 M4 with
      |bad=>rw[q5]at p;exact p.elim
      |ex z M2=>rw[q5]at p;exact Zi.mono ((e2.trans e3).trans e4) p
      |ok y M5 =>
       rw[q5]at p;intro μ5 H5 e5 hr5 vy ry;simp only[bI]at p;refine⟨μ5,M5,L3,hr5,lr4.ext hr4.lsts e5,?_⟩;cases q6:fv L3 M5 with
       |bad=>rw[q6]at p;exact p.elim
       |ex z M2=>rw[q6]at p;exact Zi.mono (((e2.trans e3).trans e4).trans e5) p
       |ok w M6 =>
        rw[q6]at p;intro μ6 H6 e6 hr6 vv rv;simp only[bI]at p;cases q7:keyT y with
        |none=>rw[q7]at p;exact p.elim
        |some k =>
         cases w with
         |ref _=>rw[q7]at p;exact p.elim
         |ob _ _=>rw[q7]at p;exact p.elim
         |nest _=>rw[q7]at p;exact p.elim
         |d x =>
          cases q8:M6[n]? with
          |none=>rw[q7,q8]at p;exact p.elim
          |some ds =>
           rw[q7,q8]at p;simp only at p;by_cases hz:ds.length < 16777216/\frzB ds=false
           ·rw[aAG hz]at p
            have D6:=Rw.ext hr4.lsts (e5.trans e6) D4;obtain⟨a0,kvs,qa,ea,_,r1,h1⟩:=eD hnd hr6 D6 q8;cases ea;obtain⟨h1,e0⟩:=h1 hz.2;rw[e0]at r1;obtain⟨b0,rfl,h2⟩:=rZ (Rw.ext hr5.lsts e6 ry) q7;have E6:=(E4.trans e5).trans e6;have x6:=fB (H:=H6) (o:=.dT (putK kvs k vv)) qa h1 .dT;refine⟨_,⟨kvs,k,b0,h1,rfl,h2,by rw[<- mC r1,aBE];exact hz.1,rfl⟩,hlt,μ6,M6.set n (kput k x ds),L3,E6.trans x6,Rw.ext hr6.lsts x6 D6,hr6.setO qa h1 .dT (o:=.dT (putK kvs k vv)) (aAf rv r1),?_,?_,?_⟩
            ·exact(lr4.ext hr4.lsts (e5.trans e6)).ext hr6.lsts x6
            ·exact sx _ _ _ _ hr6.lsts (sx _ _ _ _ hr4.lsts s4 (e5.trans e6)) x6
            ·simp only[R]
             cases q9:compDD n s g c fk fv (s.ds.drop (i+1)) L3 (M6.set n (kput k x ds))with
             |ok u M7=>rw[q9]at p;exact λμ7 H7 e7 hr7=>p μ7 H7 ((((((e2.trans e3).trans e4).trans e5).trans e6).trans x6).trans e7) hr7
             |ex z M7=>rw[q9]at p;exact Zi.mono (((((e2.trans e3).trans e4).trans e5).trans e6).trans x6) p
             |bad=>rw[q9]at p;exact p
           ·rw[aAH hz]at p;exact p.elim
  ·rw[aAH hch]at p;exact p.elim
 ·have e:i=s.ds.length:=by lia
  subst e;simp only[R]at p;rw[aEI (aAD _)]at p;unfold compDD at p;by_cases hch:Chk s M
  ·rw[aAG hch]at p
   exact .inl ⟨(step μ1 H1 M _ hr sS hch).2 (aAD _),p μ1 H1 .refl hr⟩
  ·rw[aAH hch]at p;exact p.elim
variable{fi:FI}
def aCy{g:FG}{fv:FE}(hnd:nsIn K mainGlobals "dict"=some none):∀σ H Q,lift K Z (eDComp js fi g c fk fv) σ H Q->tDComp js (liftI K Z fi) (liftG K Z0 g) (liftT K Z0 c) (lift K Z0 fk) (lift K Z0 fv) σ H Q:=by
 rintro σ H Q ⟨μ,M,L,hr,lr,p⟩;refine⟨μ,M,L,hr,lr,p.bind.imp λμ1 H1 M1 s e1 hr1 _ p1 J hJ Dt hDt=>?_⟩;have x:=dY (o:=.dT []) hr1 hDt;have hlen:=hr1.len;obtain⟨S,s0,sx,step⟩:=hJ;have hD:Rw K (μ1++[Dt]) (upd H1 Dt (.dT [])) (.ob "dict" M1.length) (.ref Dt):=⟨Dt,by rw[<- hlen];simp,rfl,.inr (.inl ⟨rfl,[],.inl aS⟩)⟩
 refine aCb (M:=M1++[[]]) M1.length μ1 H1 x hr1.len hnd hD (hr1.newO (o:=.dT []) (ds:=[]) hDt rfl) (LR.out ((lr.ext hr.lsts e1).ext hr1.lsts x)) ⟨S,sx _ _ _ _ hr1.lsts s0 x,sx,step⟩ ?_;cases q:compDD M1.length s g c fk fv s.ds (outL js L) (M1++[[]])with
 |bad=>simp only[q]at p1;exact p1.elim
 |ex z M2=>simp only[q]at p1;exact p1.elim
 |ok u M2 =>
  simp only[q]at p1;intro μ2 H2 e2 hr2;have hb:=hr2.back e2;rw[show(μ1++[Dt]).length=M1.length+1 by simp[hlen]]at hb;exact p1 _ H2 (x.trans e2.back) hb (.ref Dt) (Rw.ext (hr1.newO (o:=.dT []) (ds:=[]) hDt rfl).lsts e2.back hD)
def aEo{tg iter kx vx:Expr}{ifs:List Expr}{scope:Scope}{g:FG}{fv:FE}(hnd:nsIn K mainGlobals "dict"=some none)(hu:X.A.units+101 < cLine)(hc:X.calm=true)(T:CompOk X.N X.env.scope scope Nc js)(hit:Ei X K Z tg iter fi)
  (hg:∀cl C fp pins s₂ H₂,Eg (compCx X Nc scope cl C fp pins s₂ H₂) K Z0 tg g)(hi:∀cl C fp pins s₂ H₂,Eif (compCx X Nc scope cl C fp pins s₂ H₂) K Z0 ifs c)(he:∀cl C fp pins s₂ H₂,Ev (compCx X Nc scope cl C fp pins s₂ H₂) K Z0 kx fk)(hv:∀cl C fp pins s₂ H₂,Ev (compCx X Nc scope cl C fp pins s₂ H₂) K Z0 vx fv)
  (hs:∀x,foldedSetIterable iter X.env x=pure x:=by intro _;rfl):Ev X K Z (.DictComp kx vx [⟨tg,iter,ifs,0⟩] scope pos) (eDComp js fi g c fk fv) :=
 ⟨hit.k,cqE (aGo (.inl hc) (by lia) T hit.h (λ_ _ _ _ _ _=>(hg _ _ _ _ _ _).h) (λ_ _ _ _ _ _=>(hi _ _ _ _ _ _).h) (λ_ _ _ _ _ _=>(he _ _ _ _ _ _).h) (λ_ _ _ _ _ _=>(hv _ _ _ _ _ _).h) hs) (aCy hnd)⟩
end EV
namespace L2
def mxD(i:Int):List Int->Int
 |[]=>i|x::r=>r.foldl (λm y=>if y > m then y else m) x
variable{prog:Program}
def bst:Option (Int×Tok)->Array Value
 |none=>#[]|some (m,t)=>#[.int m t,.int m t]
def mxO(d:Value)(v:Value):Option (Int×Tok)->List Int->Prop
 |none,[]=>v=d|none,x::r=>∃t,v=.int (mxD 0 (x::r)) t|some (m,_),r=>∃t,v=.int (mxD 0 (m::r)) t
def aEu:∀{l:List Value},IntsAre l []->l=[]
 |_,.nil=>rfl
def aCu{x:Int}{r:List Int}:∀{l:List Value},IntsAre l (x::r)->∃t v,l=.int x t::v/\IntsAre v r
 |_,.cons _ t h=>⟨t,_,rfl,h⟩
def yU(a b:Value):argsOk "max" ⟨[a],[("default",b)]⟩:=by unfold argsOk;kernel_rfl
theorem dE{h₀:Heap}{it S:Addr}{its:List Value}{at_:Heap->Nat->Prop}{d:Value}(W:Wk1 prog w A.in1 h₀ it its at_)(hi:h₀.get? it=none)(hS:h₀.get? S=none)(ne:it≠S) :
  ∀(rest:List Int) (i:Nat) (s:Shared) (b:Option (Int×Tok)) (c:Nat),IntsAre (its.drop i) rest->(∀a o,h₀.get? a=some o->s.heap.get? a=some o)->at_ s.heap i->s.heap.get? S=some {cls:=.type "list",data:=.seq (bst b) c} ->
  (∀h' tk v,(∀a o,h₀.get? a=some o->h'.get? a=some o)->mxO d v b rest->R (.ok (.ret v)) {s with heap:=h',toks:=tk}) ->
  codeAny (model prog w) A (.builtin "max.loop" ⟨[.ref it,.none,.ref S],[("default",d)]⟩) R s
 |[],i,s,b,c,hr,hk,hat,hb,q=>by
  have e:=aEu hr;refine aEE F.entry_max_loop ?_;rw[aER aFS _];show wpAny _ _ (seqItems? (.ref S) >>= _) _ _ _;refine aAA (aCS hb rfl (aAA (aJG (W.done hk hat (List.drop_eq_nil_iff.mp e) λh' hx=>?_))));have k':∀a o,h₀.get? a=some o->h'.get? a=some o:=λa o z=>hx a o (λy=>by rw[y,hi]at z;cases z) (hk a o z)
  cases b with
  |none=>exact aAA (aCM (aAC (q h' _ d k' rfl)))|some p =>
   obtain⟨m,t⟩:=p;have hb':=hx S _ (Ne.symm ne) hb;refine aAA (m:=updateSeq S _) (aEN hb' rfl (aAA (aFN (aAC (q _ _ _ (λa o z=>?_) ⟨t,rfl⟩)))) (by show 2<=sizeLine;rw[aBE];decide));exact(aCL _ _ (λy:S=a=>by rw[<- y,hS]at z;cases z)).trans (k' a o z)
 |x::rest,i,s,b,c,hr,hk,hat,hb,q=>by
  obtain⟨tx,r,e,hr'⟩:=aCu hr;have hn:its[i]?=some (.int x tx):=by have:=congrArg (·[0]?) e;simpa using this
  have ed:IntsAre (its.drop (i+1)) rest:=by rw[<- aJI,e];exact hr'
  refine aEE F.entry_max_loop ?_;rw[aER aFS _];show wpAny _ _ (seqItems? (.ref S) >>= _) _ _ _;refine aAA (aCS hb rfl (aAA (aJG (W.item hk hat hn λh' hx hs=>?_))));have k':∀a o,h₀.get? a=some o->h'.get? a=some o:=λa o z=>(hs.2 a (λy=>by rw[y,hi]at z;cases z)).trans (hk a o z)
  have hb':=(hs.2 S (Ne.symm ne)).trans hb;have up:∀f:Array Value->Array Value,(∀a o,h₀.get? a=some o->(h'.update S (Obj.mapSeq f)).get? a=some o)/\at_ (h'.update S (Obj.mapSeq f)) (i+1):=λf =>
   ⟨λa o z=>(aCL _ _ (λy:S=a=>by rw[<- y,hS]at z;cases z)).trans (k' a o z),W.keep hx λo z=>(aCL _ _ (Ne.symm ne)).trans z⟩
  cases b with
  |none =>
   refine aAA (m:=updateSeq S _) (aEN hb' rfl (aAC ⟨aEU aFS _,?_⟩));refine dE W hi hS ne rest (i+1) _ (some (x,tx)) _ ed (up _).1 (up _).2 (aCF _ hb' rfl) λh2 tk v k2 o=>q h2 tk v k2 ?_
   exact o
  |some p =>
   obtain⟨m,t⟩:=p;have cmp:∀(s:Shared) (Q:Value->Shared->Prop) (E:Value->Shared->Prop),Q (.bool (decide (x > m))) s->wpAny (model prog w) A.in1 (richCompare .Gt (.int x tx) (.int m t)) Q E s:=λs Q E z =>
    CmpOf.ints_gt (P:=λj v=>∃t,v=.int (if j=0 then x else m) t) (λj=>if j=0 then x else m) (λ_ _ z=>z) 0 1 _ _ s Q E ⟨tx,rfl⟩ ⟨t,rfl⟩ z
   refine aAA (m:=tryCatch _ _) (aJG (aBC (aAA (cmp _ _ _ (aAA (aBC (aGH (aAA (aFN (aAC ?_))))))))));by_cases hg:x > m
   ·simp only[hg,aFO,aBM]
    refine aAA (m:=updateSeq S _) (aEN hb' rfl (aAA (aFN (aAC ⟨aEU aFS _,?_⟩))) (by show 2<=sizeLine;rw[aBE];decide));refine dE W hi hS ne rest (i+1) _ (some (x,tx)) _ ed (up _).1 (up _).2 (aCF _ hb' rfl) λh2 tk v k2 o=>q h2 tk v k2 ?_
    simpa[mxO,mxD,hg]using o
   ·simp only[hg,aFR,aAT,aBW]
    refine aAA (m:=letGo _ _) (aFN (aAC ⟨aEU aFS _,?_⟩));refine dE W hi hS ne rest (i+1) _ (some (m,t)) _ ed k' hx hb' λh2 tk v k2 o=>q h2 tk v k2 ?_
    simpa[mxO,mxD,hg]using o
variable{E:Value->Shared->Prop}
def aGe{id:String}{B:Builtin}{xs:List Value}{ys:List (Str×Value)}(h1:builtinKind id=none)(h2:plainId id=true)(h3:entryFor table id=some B)(h4:argsOk id ⟨xs,ys⟩)
  (h:wpAny (model prog w) A.in1 (B ⟨xs,ys⟩) (λo s'=>∃c,o=.again c/\c.quiet=true/\codeAny (model prog w) A c (λr s'=>match r with
   |.ok (.ret v)=>Q v s'|.ok _=>False|.error e=>E e s') s') E s):wpAny (model prog w) A (call (.builtin id) xs ys) Q E s:=by
 refine wpAny_call (codeAny_call_builtin h2 h3 ?_);have z:=aCU h (Q':=λo s'=>match o with
   |.done f=>(match(Except.ok f:Result)with
    |.ok (.ret v)=>Q v s'|.ok _=>False|.error e=>E e s')
   |.again c=>c.quiet=true/\codeAny (model prog w) A c (λr s'=>match r with
    |.ok (.ret v)=>Q v s'|.ok _=>False|.error e=>E e s') s') (λo s' ⟨c,e,q⟩=>by subst e;exact q) λ_ _ q=>q
 revert h4;unfold argsOk;simp only[checkBuiltinCall,h1];cases Manifest.signature? id with
 |none=>exact λ_=>aAC z
 |some g =>
  intro h4;simp only[show Bind.checkArgs id g ⟨xs,ys⟩=pure () by simpa using h4];exact aAC z
theorem aDi{p:Addr}{i:Int}{ti:Tok}(hA:A.handled=none)(ht:s.heap.IsTuple p its.toArray)(hi:IntsAre its ns)
  (q:∀h' tk t,(∀a o,s.heap.get? a=some o->h'.get? a=some o)->Q (.int (mxD i ns) t) {s with heap:=h',toks:=tk}) :
  wpAny (model prog w) A (call (.builtin "max") [.ref p] [(Str.ofString "default",.int i ti)]) Q E s:=by
 refine aGe F.kind_max F.plain_max F.entry_max (yU _ _) ?_;refine aAA (m:=Builtin.Builtins.bindParams "max" ["key","default"] 0 ⟨[],[("default",.int i ti)]⟩) (wpAny_of_eq (show _=pure [none,some (.int i ti)]from rfl) ?_);refine aAA (aAC (aAA (aGB ht (aAA (aBR ?_)))));have hl:s.heap.get? s.heap.objs.size=none:=aEA (aAD _);have n0:(s.heap.push {cls:=.type "tuple_iterator",data:=.fields #[.ref p,.int 0 0]}).objs.size=s.heap.objs.size+1:=aDG ..;refine aAC ⟨_,rfl,aEU aFS _,?_⟩;refine dE (aDs (A:=A.in1) (show A.in1.handled=none from hA) s.heap (l:=p) (it:=s.heap.objs.size) ht) hl (S:=(s.heap.push {cls:=.type "tuple_iterator",data:=.fields #[.ref p,.int 0 0]}).objs.size) (aEA (by rw[n0];exact aGX _)) (by rw[n0];exact aAO (aEJ _)) ns 0 _ none 0 hi (λa o z=>aAB _ (aAB _ z)) ⟨_,aAB _ (aAI _ rfl),rfl,rfl⟩ (aAI _ rfl) λh' tk v k o=>?_
 cases ns with
 |nil=>cases o;exact q h' tk _ k
 |cons x r=>obtain⟨t,rfl⟩:=o;exact q h' tk t k
def tMaxD(K:Frag)(ta te:TE):TE:=λσ H Q=>ta σ H λx H1=>te σ H1 λy H2=>∃p ns i,x=.ref p/\y=.int i/\SqT K H2 p (ns.map V.int)/\Q (.int (mxD i ns)) H2
def aKk{a e:Expr}{kp:Pos}(hc:X.calm=true)(hg:Gl X "max")(hm:X.mg "max"=none)(ha:PE X a ta)(he:PE X e te)(hs:starEach [a] X.env=[(false,eval a X.env)]) :
  PE X (.Call (.Name "max" p) [a] [⟨some "default",e,kp⟩] pos) (tMaxD X.K ta te):=by
 intro pins s σ H Q I h;refine aDU (dJ I hg hm boot_max (callWith_builtin_kwB (by rw[hs];rfl) (by rfl) ?_));have hA:=bF ha cJ hs pos pins s σ H (λvs H1=>match vs with|[x]=>te σ H1 (λy H2=>∃p ns i,x=.ref p/\y=.int i/\SqT X.K H2 p (ns.map V.int)/\Q (.int (mxD i ns)) H2)|_=>False) I h;rw[hs]at hA ⊢;refine evalArgs_kwB (by rfl) (thn hA λus s1 ⟨vs,H1,I1,r1,hr⟩=>?_)
 match vs,r1,hr with
 |[],_,hr=>exact hr.elim|_::_::_,_,hr=>exact hr.elim|[x],r1,hr =>
 obtain⟨u,rfl,rx⟩:=vals1 r1;refine thn (aBn (nm:=some "default") (kpos:=kp) he aFe pos pins s1 σ H1 (λys H2=>match ys with|[y]=>∃p ns i,x=.ref p/\y=.int i/\SqT X.K H2 p (ns.map V.int)/\Q (.int (mxD i ns)) H2|_=>False) I1 hr) λws s2 ⟨ys,H2,I2,r2,hq⟩=>?_
 match ys,r2,hq with
 |[],_,hq=>exact hq.elim|_::_::_,_,hq=>exact hq.elim|[y],r2,hq =>
 obtain⟨p,ns,i,rfl,rfl,sq,q⟩:=hq;obtain⟨u2,rfl,t2,rfl⟩:=vals1 r2;cases rx;obtain⟨its,rv,ht,_⟩:=I2.tuple sq;exact aDi (I2.ok.hd hc) ht (eL rv) λh' tk t k=>⟨.int (mxD i ns),H2,I2.kept (t':=tk) k,⟨t,rfl⟩,q⟩
end L2
namespace EV
open L2
variable{K:Frag}
def pMaxD(x y:W)(M:Mm):Oc W:=match x,y with
 |.d (.tup xs),.d (.int i)=>match intsOf xs with
  |some ns=>okD (.int (mxD i ns)) M|none=>.bad
 |_,_=>.bad
def aKe{a e:Expr}{kp:Pos}{g:FE}(hc:X.calm=true)(hm:X.mg "max"=none)(ha:Ev X K Z a f)(he:Ev X K Z e g)(hg:Gl X "max":=by rfl)(hs:starEach [a] X.env=[(false,eval a X.env)]:=by rfl) :
  Ev X K Z (.Call (.Name "max" p) [a] [⟨some "default",e,kp⟩] pos) (e2 pMaxD f g):=by
 have h:=aKk (p:=p) (pos:=pos) (kp:=kp) hc hg hm ha.h he.h hs;rw[ha.k]at h;refine⟨ha.k,cqE h ?_⟩;rintro σ H Q ⟨μ,M,L,hr,lr,p⟩;refine⟨μ,M,L,hr,lr,p.bind.imp λμ1 H1 M1 x e1 hr1 _ p1 v rx=>?_⟩;refine⟨μ1,M1,L,hr1,lr.ext hr.lsts e1,p1.bind.imp λμ2 H2 M2 y e2 hr2 _ p2 u ry=>?_⟩;have rx:=rx.ext hr1.lsts e2;unfold pMaxD at p2;split at p2
 ·rename_i xs i _ _ _
  cases q:intsOf xs with
  |none=>rw[q]at p2;exact p2.elim
  |some ns =>
   rw[q]at p2;have e:=cQ q;subst e;simp only[Rw,Rp]at rx ry;obtain⟨b,vs,rfl,hb,rs⟩:=rx;have e:=fD rs;subst e;exact⟨b,ns,i,rfl,ry,SqT.of hb,p2 μ2 H2 .refl hr2 _ (by simp[Rw,Rp])⟩
 ·exact p2.elim
def aKo{Q:W->Mm->Prop}{xs:List D}{i:Int}(h:intsOf xs=some ns)(q:Q (.d (.int (mxD i ns))) M):Okx EX (pMaxD (.d (.tup xs)) (.d (.int i)) M) Q:=by
 unfold pMaxD;simp only[h];exact aH q
def aCz{Q:W->Mm->Prop}{L:Lc}{fi:FI}{fk fv:FE}(I:Nat->List D->Lc->Prop)
  (h:Okx EX (fi L M) λs M1=>I 0 [] (outL js L)/\(∀acc,Chk s (M1++[acc]))/\s.ds.length<=16777216/\(∀i acc L,I i acc L->acc.length<=i/\frzB acc=false) /\
   (∀i d acc L,s.ds[i]?=some d->I i acc L->Ok (gg (.d d) L (M1++[acc])) λL1 M2=>M2=M1++[acc]/\Ok (fk L1 M2) λy M3=>M3=M2/\∃k,keyT y=some k/\Ok (fv L1 M3) λw M4=>M4=M3/\∃x,w=.d x/\I (i+1) (kput k x acc) L1) /\
   (∀acc L,I s.ds.length acc L->Q (.ob "dict" M1.length) (M1++[acc]))):Okx EX (eDComp js fi gg EV.tYes fk fv L M) Q:=by
 unfold eDComp;refine aG (h.mono λs M1 ⟨h0,hc,hz,hl,hs,hd⟩=>?_);have key:∀k i acc L,s.ds.length - i=k->i<=s.ds.length->I i acc L->∃acc' L',compDD M1.length s gg EV.tYes fk fv (s.ds.drop i) L (M1++[acc])=.ok () (M1++[acc'])/\I s.ds.length acc' L':=by
  intro k;induction k with
  |zero =>
   intro i acc L e hi hI;obtain rfl:i=s.ds.length:=by lia
   rw[aEI (aAD _)];unfold compDD;rw[aAG (hc acc)];exact⟨acc,L,rfl,hI⟩
  |succ k ih =>
   intro i acc L e hi hI;have hlt:i < s.ds.length:=by lia
   rw[aCI hlt];unfold compDD;rw[aAG (hc acc)];obtain⟨L1,M2,e1,rfl,g⟩:=gY.mp (hs i s.ds[i] acc L (by simp[hlt]) hI);obtain⟨y,M3,e2,rfl,k1,e3,g⟩:=gY.mp g;obtain⟨w,M4,e4,rfl,x,rfl,g⟩:=gY.mp g;obtain⟨l1,l2⟩:=hl i acc L hI;obtain⟨a',L',e5,g'⟩:=ih (i+1) (kput k1 x acc) L1 (by lia) (by lia) g;refine⟨a',L',?_,g'⟩;simp only[e1,bI,EV.tYes,aBM,e2,e4,e3,aFC];rw[aAG ⟨by lia,l2⟩,aIJ _ _ (aAD _),aGM,aFZ];exact e5
 obtain⟨a',L',e1,g⟩:=key _ 0 [] (outL js L) rfl (aCE _) h0;rw[aHN]at e1;rw[e1];refine aH ?_;rw[aCJ (by simp)];exact hd a' L' g
end EV
set_option maxHeartbeats 4000000
namespace FM
open L2 EV
abbrev Ts:=List (List Nat×Int)
def kN(s:List Nat):List Key:=s.map λe:Nat=>(Sum.inl (e:Int):Key)
def iD(s:List Nat):D:=.tup (s.map λe:Nat=>D.int (e:Nat))
def iL(s:List Nat):List Int:=s.map λe:Nat=>(e:Int)
def tD(t:List Nat×Int):D:=.tup [iD t.1,.int t.2]
def ks(ts:Ts):List (List Nat):=ts.map (·.1)
def tget(s:List Nat):Ts->Option Int
 |[]=>none|t::r=>if t.1=s then some t.2 else tget s r
def tg(s:List Nat)(ts:Ts):Int:=(tget s ts).getD 0
def tput(s:List Nat)(x:Int)(ts:Ts):Ts:=if(tget s ts).isSome then ts.map (λt=>if t.1=s then(s,x)else t)else ts++[(s,x)]
theorem lW{α β:Type}{f:α->β}(hf:∀a b,f a=f b->a=b):∀{x y:List α},x.map f=y.map f->x=y
 |[],[],_=>rfl|[],_::_,h=>by simp at h
 |_::_,[],h=>by simp at h
 |a::x,b::y,h=>by
  rw[aAK,aAK,aFY]at h;rw[hf _ _ h.1,lW hf h.2]
variable{s t:List Nat}
theorem rP(h:kN s=kN t):s=t:=lW (λa b e=>by simp at e;lia) h
theorem aDq(h:iL s=iL t):s=t:=lW (λa b e=>by have e:(a:Int)=b:=e;lia) h
theorem wV(s:List Nat):s.map (λe:Nat=>D.int (e:Nat))=(kN s).map kyD:=by simp[kN,kyD]
theorem aHm(t:List Nat×Int):asK (tD t)=some (kN t.1,.int t.2):=by
 show asK (.tup [.tup (t.1.map λe:Nat=>D.int (e:Nat)),.int t.2])=_;rw[wV,nK]
theorem fP(s:List Nat):keyT (.d (iD s))=some (kN s):=by
 show keysOf (s.map λe:Nat=>D.int (e:Nat))=_;rw[wV,eB]
theorem sV(s:List Nat):∀ts:Ts,kget (kN s) (ts.map tD)=(tget s ts).map D.int
 |[]=>rfl|t::r=>by
  rw[aAK];simp only[kget,aHm,tget];by_cases e:t.1=s
  ·subst e;simp
  ·rw[aAH (λh=>e (rP h)),aAH e];exact sV s r
theorem yR(s:List Nat)(x:Int)(ts:Ts):kput (kN s) (.int x) (ts.map tD)=(tput s x ts).map tD:=by
 have ke:∀x:Int,kent (kN s) (.int x)=tD (s,x):=λx=>by
  show _=D.tup [.tup (s.map λe:Nat=>D.int (e:Nat)),.int x];rw[wV];rfl
 unfold kput tput;rw[sV,ke];cases q:tget s ts with
 |none=>simp|some y =>
  simp only[aEO,aFW,aBM,aBK];refine aBY λt ht=>?_
  simp only[Function.comp,aHm];by_cases e:t.1=s
  ·subst e;simp
  ·rw[aAH (λh=>e (rP h)),aAH e]
theorem yN(ts:Ts):ents (ts.map tD)=ts.map tD:=by cases ts <;> rfl
theorem aHo(ts:Ts):frzB (ts.map tD)=false:=by cases ts <;> rfl
theorem wX:∀ts:Ts,asKs (ts.map tD)=some (ts.map λt=>(kN t.1,D.int t.2))
 |[]=>rfl|t::r=>by rw[aAK];simp only[asKs,aHm,wX r];rfl
theorem nF(s:List Nat):intsOf (s.map λe:Nat=>D.int (e:Nat))=some (iL s):=by
 have:=yA (iL s);rwa[iL,aBK]at this
theorem aBg:∀ts:Ts,intTs (ts.map tD)=some (ts.map λt=>iL t.1)
 |[]=>rfl|t::r=>by
  rw[aAK];show intTs (.tup [.tup (t.1.map λe:Nat=>D.int (e:Nat)),.int t.2]::r.map tD)=_;simp only[intTs,nF,aBg r];rfl
def sm(p:List Nat->Int):Ts->Int
 |[]=>0|t::r=>t.2*p t.1+sm p r
theorem jY{p:List Nat->Int}:∀{x y:Ts},sm p (x++y)=sm p x+sm p y
 |[],y=>by simp[sm]|t::x,y=>by rw[List.cons_append,sm,sm,jY];lia
theorem dZ{s:List Nat}:∀{ts:Ts},tget s ts=none ↔ s∉ks ts
 |[]=>by simp[tget,ks]|t::r=>by
  simp only[tget,ks,aAK,aAU];by_cases e:t.1=s
  ·simp[e]
  ·rw[aAH e,dZ (ts:=r)]
   simp only[ks,not_or];exact⟨λh=>⟨Ne.symm e,h⟩,λh=>h.2⟩
theorem nB{s:List Nat}{x:Int}:∀{ts:Ts},tget s ts=some x->(s,x)∈ts
 |[],h=>by cases h
 |t::r,h=>by
  simp only[tget]at h;by_cases e:t.1=s
  ·rw[aAG e]at h;cases h;subst e;exact aBG
  ·rw[aAH e]at h;exact aBF _ (nB h)
theorem nV{t:List Nat×Int}:∀{ts:Ts},(ks ts).Nodup->t∈ts->tget t.1 ts=some t.2
 |[],_,h=>by cases h
 |u::r,nd,h=>by
  simp only[ks,aAK,aED]at nd;rcases aAU.mp h with rfl|h
  ·simp[tget]
  ·have:u.1≠t.1:=λe=>nd.1 (e▸aDO h)
   simp only[tget,aAH this];exact nV nd.2 h
theorem aFf{p:List Nat->Int}{s:List Nat}{x y:Int}:∀{ts:Ts},(ks ts).Nodup->tget s ts=some y->sm p (ts.map λt=>if t.1=s then(s,x)else t)=sm p ts+(x - y)*p s
 |[],_,h=>by cases h
 |t::r,nd,h=>by
  simp only[ks,aAK,aED]at nd;simp only[tget]at h;by_cases e:t.1=s
  ·rw[aAG e]at h;cases h
   have:r.map (λt=>if t.1=s then(s,x)else t)=r:=by
    rw[show r=r.map id by simp];simp only[aBK];refine aBY λu hu=>?_
    simp only[id,Function.comp];rw[aAH];exact λe2=>nd.1 (e▸e2▸aDO hu)
   rw[aAK,this];simp only[aAG e,sm,e];grind
  ·rw[aAH e]at h
   rw[aAK];simp only[aAH e,sm];rw[aFf nd.2 h];lia
variable{x:Int}
theorem aMf{p:List Nat->Int}(nd:(ks ts).Nodup):sm p (tput s x ts)=sm p ts+(x - tg s ts)*p s:=by
 unfold tput tg;cases q:tget s ts with
 |none=>simp[jY,sm]|some y=>simp only[aFW,aBM,aGT];exact aFf nd q
theorem aEy:ks (tput s x ts)=if(tget s ts).isSome then ks ts else ks ts++[s]:=by
 unfold tput;split
 ·simp only[ks,aBK]
  refine aBY λt _=>?_
  simp only[Function.comp];by_cases e:t.1=s <;> simp[e]
 ·simp[ks]
theorem aBu(nd:(ks ts).Nodup):(ks (tput s x ts)).Nodup:=by
 rw[aEy];split
 ·exact nd
 ·rename_i h
  have:s∉ks ts:=dZ.mp (by simpa using h);rw[aGG];exact⟨nd,by simp,λa ha b hb e=>this (by simp at hb;subst hb;subst e;exact ha)⟩
theorem zU(h:e∈ks (tput s x ts)):e=s\/e∈ks ts:=by
 rw[aEy]at h;split at h
 ·exact .inr h
 ·rw[aCH]at h
  rcases h with h|h
  ·exact .inr h
  ·exact .inl (by simpa using h)
theorem aLh{ts:Ts}:(tput s x ts).length<=ts.length+1:=by
 unfold tput;split <;> simp
def dlt(s e:List Nat):Int:=if e=s then 1 else 0
theorem jX{s:List Nat}:∀{ts:Ts},(ks ts).Nodup->sm (dlt s) ts=tg s ts
 |[],_=>rfl|t::r,nd=>by
  simp only[ks,aAK,aED]at nd;have ih:=jX (s:=s) (ts:=r) nd.2;simp only[sm,dlt,tg,tget]at ih ⊢;by_cases e:t.1=s
  ·have:tget s r=none:=dZ.mpr (e▸nd.1)
   rw[ih];simp[e,this,tg]
  ·simp only[aAH e];rw[ih];simp[tg]
theorem cX{p q:List Nat->Int}:∀{ts:Ts},(∀s∈ks ts,p s=q s)->sm p ts=sm q ts
 |[],_=>rfl|t::r,h=>by
  simp only[ks,aAK,aAU,forall_eq_or_imp]at h;simp only[sm,h.1,cX (ts:=r) h.2]
theorem bH{EX:D->Mm->Prop}{L:Lc}{M:Mm}{s:Src}(I:Nat->Lc->Mm->Prop)(h0:I 0 L M)(hc:∀i L M,i<=s.ds.length->I i L M->Chk s M)
  (hs:∀i d L M,s.ds[i]?=some d->I i L M->Okx EX (gg (.d d) L M) (poA EX B (poO (λ_ _=>False) (I (i+1)))))(hd:∀L M,I s.ds.length L M->QS (.nx L) M):Okx EX (forD s gg B s.ds L M) QS :=
 uK I h0 hc (λi d L M a b=>(hs i d L M a b).mono λ_ _ z=>z.mono λo _ z=>by
  cases o with
  |nx _=>exact z|ct _=>exact z|bk _=>exact z.elim|rt _=>exact z.elim) hd
def rmN(n a:Nat):Nat:=n / Nat.gcd n a
variable{a:Nat}
theorem iS{b:Nat}(hn:0 < n):rmN (rmN n a) b=rmN n (a*b):=by
 unfold rmN;have g0:0 < Nat.gcd n a:=aDJ a hn;have e1:Nat.gcd n a*Nat.gcd (n / Nat.gcd n a) b=Nat.gcd n (a*b):=by
  apply Nat.dvd_antisymm
  ·apply Nat.dvd_gcd
   ·have h1:Nat.gcd (n / Nat.gcd n a) b ∣ n / Nat.gcd n a:=aDA _ _
    have h2:=Nat.mul_dvd_mul_left (Nat.gcd n a) h1;rwa[aCV (aDA n a)]at h2
   ·exact Nat.mul_dvd_mul (aEB n a) (aEB _ _)
  ·rw[<- Nat.gcd_mul_left,aCV (aDA n a)]
   apply Nat.dvd_gcd (aDA _ _);have h1:Nat.gcd n (a*b) ∣ n*b:=Nat.dvd_trans (aDA _ _) (Nat.dvd_mul_right _ _);have h2:Nat.gcd n (a*b) ∣ a*b:=aEB _ _;have h3:=Nat.dvd_gcd h1 h2;rwa[Nat.gcd_mul_right]at h3
 rw[<- e1,Nat.div_div_eq_div_mul]
def fct:Nat->Nat
 |0=>1|n+1=>fct n*(n+1)
def fcts(s:List Nat):Nat:=(s.map fct).prod
theorem zD:rmN n 1=n:=by simp[rmN]
theorem aBk:rmN 1 a=1:=by simp[rmN]
theorem bU(hn:0 < n):0 < rmN n a:=Nat.div_pos (Nat.le_of_dvd hn (aDA n a)) (aDJ a hn)
theorem kP:rmN n a<=n:=Nat.div_le_self _ _
theorem aBi:∀{e k:Nat},1<=k->k<=e->k ∣ fct e
 |0,k,h,h2=>by lia|e+1,k,h,h2=>by
  by_cases q:k=e+1
  ·subst q;exact Nat.dvd_mul_left _ _
  ·exact Nat.dvd_trans (aBi h (by lia)) (Nat.dvd_mul_right _ _)
variable{e:Nat}
theorem aLe(hn:1<=n)(h:n<=e):rmN n (fct e)=1:=by
 unfold rmN;rw[Nat.gcd_eq_left (aBi hn h)];exact Nat.div_self hn
theorem qU{n k:Nat}(hn:0 < n)(h:rmN n (fct k)=1):∀j,rmN n (fct (k+j))=1
 |0=>h|j+1=>by
  show rmN n (fct (k+j)*(k+j+1))=1;rw[<- iS hn,qU hn h j,aBk]
theorem jJ:fcts (s++t)=fcts s*fcts t:=by simp[fcts]
theorem nT:fcts [e]=fct e:=by simp[fcts]
theorem aGs(hn:1<=n)(h:e∈s)(he:n<=e):rmN n (fcts s)=1:=by
 obtain⟨x,y,rfl⟩:=List.append_of_mem h;rw[show x++e::y=x++([e]++y) by simp,jJ,jJ,nT,<- iS hn,<- iS (bU hn)];rw[aLe (bU hn) (aBS kP he),aBk]
def rms(n:Nat)(c:List Nat->Int)(s:List Nat):Int:=c s % (rmN n (fcts s):Nat)
structure Frm(n many:Nat)(c:List Nat->Int)(ts:Ts):Prop where
 ord:ts.Pairwise λa b=>lexI (iL a.1) (iL b.1)=true
 it:∀t∈ts,t.1.length=many/\0 < t.2/\t.2=rms n c t.1
 all:∀s,s.length=many->0 < rms n c s->s∈ks ts
variable{many:Nat}
theorem Frm.mem(F:Frm n many c ts)(t:List Nat×Int):t∈ts ↔ t.1.length=many/\0 < t.2/\t.2=rms n c t.1:=by
 refine⟨F.it t,λ⟨h1,h2,h3⟩=>?_⟩;obtain⟨u,hu,e⟩:=aAX.mp (F.all t.1 h1 (h3▸h2));have:=(F.it u hu).2.2;rw[e,<- h3]at this;have:u=t:=Prod.ext e this;exact this▸hu
theorem Frm.nd(F:Frm n many c ts):(ks ts).Nodup:=by
 unfold ks;rw[aBT,aCB];exact F.ord.imp λh e=>by rw[e,bW]at h;cases h
theorem qE:∀{ts us:Ts},ts.Pairwise (λa b=>lexI (iL a.1) (iL b.1)=true)->us.Pairwise (λa b=>lexI (iL a.1) (iL b.1)=true)->(∀t,t∈ts ↔ t∈us)->ts=us:=by
 intro ts us h1 h2 h;have nd:∀{l:Ts},l.Pairwise (λa b=>lexI (iL a.1) (iL b.1)=true)->l.Nodup:=λp=>p.imp λh e=>by rw[e,bW]at h;cases h
 have p:ts.Perm us:=(List.perm_ext_iff_of_nodup (nd h1) (nd h2)).mpr h;refine List.Perm.eq_of_pairwise (le:=λa b=>lexI (iL a.1) (iL b.1)=true) (λx y _ _ a b=>?_) h1 h2 p;have:=gF _ _ _ a b;rw[bW]at this;cases this
theorem Frm.uniq{d:List Nat->Int}{ts us:Ts}(F:Frm n many c ts)(G:Frm n many d us)(e:∀s,s.length=many->rms n c s=rms n d s):ts=us:=by
 refine qE F.ord G.ord λt=>?_
 rw[F.mem,G.mem];constructor
 ·rintro⟨a,b,h⟩;exact⟨a,b,h.trans (e _ a)⟩
 ·rintro⟨a,b,h⟩;exact⟨a,b,h.trans (e _ a).symm⟩
theorem Frm.congr{d:List Nat->Int}(F:Frm n many c ts)(e:∀s,s.length=many->rms n c s=rms n d s):Frm n many d ts :=
 ⟨F.ord,λt ht=>by have:=F.it t ht;exact⟨this.1,this.2.1,this.2.2.trans (e _ this.1)⟩,λs h1 h2=>F.all s h1 (by rw[e s h1];exact h2)⟩
theorem aNd{a b:List Nat×Int}(h:tD a=tD b):a=b:=by
 unfold tD iD at h;simp only[D.tup.injEq,aFY,D.int.injEq,and_true]at h;refine Prod.ext (lW (λx y e=>by simp at e;lia) h.1) h.2
open Classical in
def dec(d:D):List Nat×Int:=if h:∃t,tD t=d then h.choose else([],0)
theorem aLp(t:List Nat×Int):dec (tD t)=t:=by
 unfold dec;have h:∃u,tD u=tD t:=⟨t,rfl⟩
 rw[dif_pos h];exact aNd h.choose_spec
theorem aIs{l:List D}{ts:Ts}(h:l.Perm (ts.map tD)):∃us:Ts,us.Perm ts/\l=us.map tD:=by
 refine⟨l.map dec,?_,?_⟩
 ·have:=h.map dec
  rw[aBK]at this;rwa[show ts.map (dec ∘ tD)=ts by rw[show dec ∘ tD=id from funext aLp];simp]at this
 ·rw[aBK]
  conv=>lhs;rw[show l=l.map id by simp]
  refine aBY λd hd=>?_
  obtain⟨t,_,rfl⟩:=aAX.mp (h.mem_iff.mp hd);simp[aLp]
theorem rF{x y:List Nat}:eqDs (x.map λe:Nat=>D.int (e:Nat)) (y.map λe:Nat=>D.int (e:Nat))=decide (x=y):=by
 induction x generalizing y with
 |nil=>cases y <;> simp[eqDs]
 |cons a x ih =>
  cases y with
  |nil=>simp[eqDs]|cons b y =>
   simp only[aAK,eqDs,eqD,ih];by_cases e:a=b <;> by_cases e2:x=y <;> simp[e,e2] <;> lia
theorem vW:∀x y:List Int,HT.lexLt x y=lexI x y
 |[],[]=>rfl|[],_::_=>rfl|_::_,[]=>rfl|a::x,b::y=>by simp only[HT.lexLt,lexI,vW x y]
theorem kY(a b:List Nat×Int):ltT (tl (tD a)) (tl (tD b))=some (if a.1=b.1 then decide (a.2 < b.2)else lexI (iL a.1) (iL b.1)):=by
 show ltT [.tup (a.1.map λe:Nat=>D.int (e:Nat)),.int a.2] [.tup (b.1.map λe:Nat=>D.int (e:Nat)),.int b.2]=_;simp only[ltT,eqD,rF];by_cases e:a.1=b.1
 ·rw[aAG (by simpa using e),aAG e]
  by_cases e2:a.2=b.2
  ·simp[e2]
  ·simp[e2,ltE]
 ·rw[aAH (by simpa using e),aAH e]
  simp only[ltE,nF,vW]
theorem aLv{ts:Ts}(nd:(ks ts).Nodup):Lin (EV.tLt (ts.map tD)) (ts.map tD).length/\∀i,i < (ts.map tD).length->EV.tLt (ts.map tD) i i=false:=by
 have at_:∀i,i < (ts.map tD).length->∃t,ts[i]?=some t/\(ts.map tD).getD i .non=tD t:=λi hi=>by
  rw[aAM]at hi;exact⟨ts[i],by simp[hi],by simp[List.getD,hi]⟩
 have ne:∀{i j:Nat} {a b:List Nat×Int},ts[i]?=some a->ts[j]?=some b->i≠j->a.1≠b.1:=λ{i j a b} h1 h2 h e=>by
  have k1:(ks ts)[i]?=some a.1:=by simp[ks,h1]
  have k2:(ks ts)[j]?=some a.1:=by simp[ks,h2,e]
  have hi:=(aAF.mp k1).1;exact h ((aHZ hi nd).mp (k1.trans k2.symm))
 refine⟨⟨λi j hi hj h=>?_,λi j k hi hj hk h1 h2=>?_⟩,λi hi=>?_⟩
 ·obtain⟨a,ha,ea⟩:=at_ i hi
  obtain⟨b,hb,eb⟩:=at_ j hj;have n1:=ne ha hb h;unfold EV.tLt;rw[ea,eb,kY,kY,aAH n1,aAH (Ne.symm n1),nW _ _ λe=>n1 (aDq e)];cases lexI (iL b.1) (iL a.1) <;> rfl
 ·obtain⟨a,ha,ea⟩:=at_ i hi
  obtain⟨b,hb,eb⟩:=at_ j hj;obtain⟨c,hc,ec⟩:=at_ k hk;unfold EV.tLt at h1 h2 ⊢;rw[ea,eb,kY]at h1;rw[eb,ec,kY]at h2;rw[ea,ec,kY];simp only[beq_iff_eq,aAS]at h1 h2 ⊢;by_cases e1:a.1=b.1
  ·rw[aAG e1]at h1
   by_cases e2:b.1=c.1
   ·rw[aAG e2]at h2
    rw[aAG (e1.trans e2)];simp at h1 h2 ⊢;lia
   ·rw[aAH e2]at h2
    rw[aAH (e1▸e2),e1];exact h2
  ·rw[aAH e1]at h1
   by_cases e2:b.1=c.1
   ·rw[<- e2,aAH e1];exact h1
   ·rw[aAH e2]at h2
    have:=gF _ _ _ h1 h2;rw[aAH]
    ·exact this
    ·intro e;rw[e,bW]at this;cases this
 ·obtain⟨a,ha,ea⟩:=at_ i hi
  unfold EV.tLt;rw[ea,kY,aAG rfl];simp
theorem qK(x:List Nat):deps (x.map λe:Nat=>D.int (e:Nat))=0:=by
 induction x with
 |nil=>rfl|cons a x ih=>simp only[aAK,deps,dep,ih];rfl
theorem tQ(x:List Nat):noLs (x.map λe:Nat=>D.int (e:Nat))=true:=by
 induction x with
 |nil=>rfl|cons a x ih=>simp only[aAK,noLs,noL,ih];rfl
theorem aLr{ts:Ts}(nd:(ks ts).Nodup)(few:ts.length<=1000000):TSB (ts.map tD)where
 few:=by rw[aAM];exact few
 it:=λx hx=>by
  obtain⟨t,_,rfl⟩:=aAX.mp hx;refine⟨_,_,rfl,?_⟩;simp only[deps,dep,qK];decide
 nl:=λx hx=>by
  obtain⟨t,_,rfl⟩:=aAX.mp hx;show noLs [.tup (t.1.map λe:Nat=>D.int (e:Nat)),.int t.2]=true;simp only[noLs,noL,tQ];rfl
 so:=λi j hi hj=>by
  rw[aAM]at hi hj;rw[show(ts.map tD).getD i .non=tD ts[i] by simp[List.getD,hi],show(ts.map tD).getD j .non=tD ts[j] by simp[List.getD,hj],kY];simp
 lin:=(aLv nd).1
 irr:=(aLv nd).2
theorem aOi{ts:Ts}(nd:(ks ts).Nodup)(few:ts.length<=1000000):∃us:Ts,srtB (ts.map tD)=us.map tD/\us.Perm ts/\us.Pairwise λa b=>lexI (iL a.1) (iL b.1)=true:=by
 have T:=aLr nd few;obtain⟨us,p,e⟩:=aIs (aDb T);refine⟨us,e,p,?_⟩;have l:=aKl T;rw[e,aCB]at l;have nd2:(ks us).Nodup:=(p.map (λt:List Nat×Int=>t.1)).nodup_iff.mpr nd;unfold ks at nd2;rw[aBT,aCB]at nd2;refine(l.and nd2).imp λ{a b} h=>?_
 have h1:=h.1;rw[kY,aAH h.2]at h1;simpa using h1
theorem aLy{ts us:Ts}(hn:0 < n)(nd:(ks ts).Nodup)(hl:∀s∈ks ts,s.length=many)(p:us.Perm ((ts.map λt=>(t.1,t.2 % ((rmN n (fcts t.1):Nat):Int))).filter λt=>decide (0 < t.2)))(o:us.Pairwise λa b=>lexI (iL a.1) (iL b.1)=true):Frm n many (λs=>tg s ts) us:=by
 refine⟨o,λt ht=>?_,λs h1 h2=>?_⟩
 ·have:=p.mem_iff.mp ht
  rw[aIY,aAX]at this;obtain⟨⟨u,hu,rfl⟩,h0⟩:=this;refine⟨hl _ (show u.1∈ks ts from aDO hu),by simpa using h0,?_⟩;simp only[rms,tg,nV nd hu,aGT]
 ·cases q:tget s ts with
  |none=>simp[rms,tg,q]at h2
  |some x =>
   have hm:=nB q;refine aAX.mpr ⟨(s,x % ((rmN n (fcts s):Nat):Int)),p.mem_iff.mpr (aIY.mpr ⟨aAX.mpr ⟨_,hm,rfl⟩,?_⟩),rfl⟩;simp only[rms,tg,q,aGT]at h2;simpa using h2
end FM
namespace FM
open L2 EV LS
def st:Nat->Nat->Nat
 |0,0=>1|0,_+1=>0|_+1,0=>0|e+1,k+1=>(k+1)*st e (k+1)+st e k
theorem yF:∀{e k:Nat},e < k->st e k=0
 |0,_+1,_=>rfl|e+1,k+1,h=>by simp[st,yF (e:=e) (k:=k+1) (by lia),yF (e:=e) (k:=k) (by lia)]
def mx:Nat->List Nat->List Nat->Int
 |_,[],[]=>1|0,e::es,k::ks=>st e k*mx 0 es ks|i+1,e::es,k::ks=>if e=k then mx i es ks else 0
 |_,_,_=>0
theorem sC:∀{es s:List Nat} {i:Nat},es.length≠s.length->mx i es s=0
 |[],[],_,h=>(h rfl).elim|[],_::_,i,_=>by cases i <;> rfl
 |_::_,[],i,_=>by cases i <;> rfl
 |e::es,k::ks,0,h=>by rw[mx,sC (es:=es) (s:=ks) λz=>h (by simp[z])];simp
 |e::es,k::ks,i+1,h=>by rw[mx,sC (es:=es) (s:=ks) λz=>h (by simp[z])];simp
theorem aFs:∀{es s:List Nat},mx 0 es s≠0->s.length=es.length/\∀(i e k:Nat),es[i]?=some e->s[i]?=some k->k<=e
 |[],[],_=>⟨rfl,by simp⟩|[],_::_,h=>(h rfl).elim|_::_,[],h=>(h rfl).elim|e::es,k::ks,h=>by
  rw[mx]at h;have h1:mx 0 es ks≠0:=λz=>h (by rw[z];simp)
  have h2:k<=e:=by
   apply aEK;intro z;rw[yF (by lia)]at h;simp at h
  obtain⟨a,b⟩:=aFs h1;refine⟨by simp[a],λi x y hx hy=>?_⟩;cases i with
  |zero=>simp at hx hy;lia
  |succ i=>exact b i x y (by simpa using hx) (by simpa using hy)
def cf(ts:Ts)(s:List Nat):Int:=sm (λe=>mx 0 e s) ts
def df(g:Nat->Int):Nat->Nat->Int
 |0,p=>g p|t+1,p=>if t+1<=p then df g t p - df g t (p - 1)else df g t p
theorem aBj{g:Nat->Int}{p:Nat}:∀j,df g (p+j) p=df g p p
 |0=>rfl|j+1=>by rw[<- Nat.add_assoc,df,aAH (by lia),aBj j]
theorem kB{g:Nat->Int}:∀{t p:Nat},t<=p->df (λx=>(x:Int)*g x) t p=p*df g t p+t*df g (t - 1) (p - 1)
 |0,p,_=>by simp[df]|t+1,p,h=>by
  rw[df,aAG h,kB (t:=t) (p:=p) (by lia),kB (t:=t) (p:=p - 1) (by lia)];rw[df,aAG h,aJR];have e1:((p - 1:Nat):Int)=(p:Int) - 1:=by lia
  rw[e1];cases t with
  |zero=>simp;grind|succ t =>
   rw[aJR];have e2:df g (t+1) (p - 1)=df g t (p - 1) - df g t (p - 1 - 1):=by rw[df,aAG (by lia)]
   rw[show((t+1+1:Nat):Int)=(t:Int)+1+1 by lia,show((t+1:Nat):Int)=(t:Int)+1 by lia];generalize df g (t+1) p=A at *;generalize df g (t+1) (p - 1)=B at *;generalize df g t (p - 1)=C at *;generalize df g t (p - 1 - 1)=E at *;subst e2;grind
theorem iY:∀{t p:Nat},1<=t->1<=p->df (λ_=>1) t p=0
 |0,p,h,_=>by lia|1,p,_,h=>by simp[df];lia|t+2,p,_,h=>by
  rw[df];by_cases q:t+1+1<=p
  ·rw[aAG q,iY (t:=t+1) (by lia) h,iY (t:=t+1) (by lia) (by lia)];rfl
  ·rw[aAH q,iY (t:=t+1) (by lia) h]
def pwf(e x:Nat):Int:=(x:Int) ^ e
theorem xR:∀{e p:Nat},df (pwf e) p p=fct p*st e p
 |0,p=>by
  have:pwf 0=λ_=>1:=by funext x;simp[pwf]
  rw[this];cases p with
  |zero=>rfl|succ p=>rw[iY (by lia) (by lia)];simp[st]
 |e+1,p=>by
  have:pwf (e+1)=λx:Nat=>(x:Int)*pwf e x:=by funext x;simp only[pwf,Int.pow_succ];exact Int.mul_comm _ _
  rw[this,kB (aAD p),xR (e:=e) (p:=p)];cases p with
  |zero=>simp[st]|succ p =>
   rw[aJR,xR (e:=e) (p:=p)];simp only[st,fct];push_cast;grind
theorem vR{e p t:Nat}(h:p<=t):df (pwf e) t p=fct p*st e p:=by
 obtain⟨j,rfl⟩:∃j,t=p+j:=⟨t - p,by lia⟩
 rw[aBj,xR]
def pd:Nat->Nat->List Nat->List Nat->Int
 |_,_,[],[]=>1|0,t,e::es,p::ps=>df (pwf e) t p*pd 0 0 es ps|i+1,t,e::es,p::ps=>(fct p*st e p:Int)*pd i t es ps|_,_,_,_=>0
theorem zV:∀{i t:Nat} {es ps:List Nat},t+1<=ps.getD i 0->pd i (t+1) es ps=pd i t es ps - pd i t es (ps.set i (ps.getD i 0 - 1))
 |i,t,_,[],h=>by simp at h
 |i,t,[],p::ps,h=>by cases i <;> rfl
 |0,t,e::es,p::ps,h=>by
  rw[aEH]at h;rw[aEH,aFZ,pd,pd,pd,df,aAG h];grind
 |i+1,t,e::es,p::ps,h=>by
  rw[aEZ]at h;rw[aEZ,List.set_cons_succ,pd,pd,pd,zV h];grind
theorem aAp:∀{i t:Nat} {es ps:List Nat},¬t+1<=ps.getD i 0->pd i (t+1) es ps=pd i t es ps
 |i,t,[],[],h=>by cases i <;> rfl
 |i,t,_::_,[],h=>by cases i <;> rfl
 |i,t,[],p::ps,h=>by cases i <;> rfl
 |0,t,e::es,p::ps,h=>by
  rw[aEH]at h;rw[pd,pd,df,aAH h]
 |i+1,t,e::es,p::ps,h=>by
  rw[aEZ]at h;rw[pd,pd,aAp h]
theorem zR:∀{i t:Nat} {es ps:List Nat},i < ps.length->ps.getD i 0<=t->pd i t es ps=pd (i+1) 0 es ps
 |i,t,_,[],h,_=>by simp at h
 |i,t,[],p::ps,_,h=>by cases i <;> rfl
 |0,t,e::es,p::ps,_,h=>by
  rw[aEH]at h;rw[pd,pd,vR h]
 |i+1,t,e::es,p::ps,h1,h=>by
  rw[aEZ]at h;rw[pd,pd,zR (by simpa using h1) h]
theorem aFx:∀{es ps:List Nat} {i t:Nat},ps.length<=i->pd i t es ps=fcts ps*mx 0 es ps
 |[],[],i,t,_=>by cases i <;> rfl
 |_::_,[],i,t,h=>by cases i <;> (rw[sC (by simp)];simp[pd])
 |[],p::ps,i,t,h=>by cases i <;> (rw[sC (by simp)];simp[pd])
 |e::es,p::ps,0,t,h=>by simp at h
 |e::es,p::ps,i+1,t,h=>by
  rw[pd,aFx (by simpa using h),mx];simp only[fcts,aAK,List.prod_cons];push_cast;grind
def Bxs:List Nat->List Nat->Prop
 |[],[]=>True|p::ps,z::zs=>p < z/\Bxs ps zs|_,_=>False
theorem Bxs.len:∀{p z:List Nat},Bxs p z->p.length=z.length
 |[],[],_=>rfl|[],_::_,h=>h.elim|_::_,[],h=>h.elim|_::_,_::_,h=>by simp[Bxs.len h.2]
theorem Bxs.lt:∀{p z:List Nat} {i x y:Nat},Bxs p z->p[i]?=some x->z[i]?=some y->x < y
 |[],[],i,x,y,_,h,_=>by simp at h
 |[],_::_,_,_,_,h,_,_=>h.elim|_::_,[],_,_,_,h,_,_=>h.elim|p::ps,z::zs,0,x,y,h,h1,h2=>by simp at h1 h2;subst h1 h2;exact h.1
 |p::ps,z::zs,i+1,x,y,h,h1,h2=>Bxs.lt h.2 (by simpa using h1) (by simpa using h2)
theorem Bxs.of:∀{p z:List Nat},p.length=z.length->(∀(i x y:Nat),p[i]?=some x->z[i]?=some y->x < y)->Bxs p z
 |[],[],_,_=>trivial|[],_::_,h,_=>by simp at h
 |_::_,[],h,_=>by simp at h
 |p::ps,z::zs,h,g=>⟨g 0 p z rfl rfl,Bxs.of (by simpa using h) λi x y h1 h2=>g (i+1) x y (by simpa using h1) (by simpa using h2)⟩
theorem Bxs.down{p z:List Nat}(h:Bxs p z):Bxs (p.set i (p.getD i 0 - 1)) z:=by
 refine Bxs.of (by rw[aIU];exact h.len) λj x y h1 h2=>?_
 rw[List.getElem?_set]at h1;split at h1
 ·rename_i e;subst e
  split at h1
  ·rename_i hl
   cases h1;have:=h.lt (i:=i) (x:=p.getD i 0) (by simp[List.getD,hl]) h2;lia
  ·cases h1
 ·exact h.lt h1 h2
def ptf(l:List (List Nat))(z:Nat):List (List Nat):=l.flatMap λp=>(List.range z).map λx=>p++[x]
def pts(zs:List Nat):List (List Nat):=zs.foldl ptf [[]]
theorem oY:∀{zs:List Nat} {l:List (List Nat)} {q:List Nat},q∈zs.foldl ptf l ↔ ∃p∈l,∃r,q=p++r/\Bxs r zs
 |[],l,q=>by
  constructor
  ·exact λh=>⟨q,h,[],by simp,trivial⟩
  ·rintro⟨p,hp,r,rfl,h⟩
   cases r with
   |nil=>simpa using hp|cons _ _=>exact h.elim
 |z::zs,l,q=>by
  rw[aHB,oY];constructor
  ·rintro⟨p,hp,r,rfl,h⟩
   obtain⟨a,ha,hp⟩:=List.mem_flatMap.mp hp;obtain⟨x,hx,rfl⟩:=aAX.mp hp;exact⟨a,ha,x::r,by simp,aCP.mp hx,h⟩
  ·rintro⟨p,hp,r,rfl,h⟩
   cases r with
   |nil=>exact h.elim|cons x r=>exact⟨p++[x],List.mem_flatMap.mpr ⟨p,hp,aAX.mpr ⟨x,aCP.mpr h.1,rfl⟩⟩,r,by simp,h.2⟩
theorem dH{q:List Nat}:q∈pts zs ↔ Bxs q zs:=by
 unfold pts;rw[oY];simp
theorem nG:∀{zs:List Nat} {l:List (List Nat)} {m:Nat},l.Nodup->(∀p∈l,p.length=m)->(zs.foldl ptf l).Nodup
 |[],l,m,h,_=>h|z::zs,l,m,h,hl=>by
  rw[aHB];refine nG (m:=m+1) ?_ ?_
  ·unfold ptf
   rw[aBT,List.pairwise_flatMap];refine⟨λa _=>?_,?_⟩
   ·rw[aCB]
    refine List.nodup_range.imp λ{x y} h e=>h ?_
    simpa using e
   ·refine(List.Pairwise.and_mem.mp (aBT.mp h)).imp λ{a b} hh x hx y hy e=>?_
    obtain⟨u,_,rfl⟩:=aAX.mp hx;obtain⟨v,_,rfl⟩:=aAX.mp hy;have:=(List.append_inj e (by rw[hl a hh.1,hl b hh.2.1])).1;exact hh.2.2 this
  ·intro p hp
   obtain⟨a,ha,hp⟩:=List.mem_flatMap.mp hp;obtain⟨x,_,rfl⟩:=aAX.mp hp;simp[hl a ha]
theorem gI:(pts zs).Nodup:=nG (m:=0) (by simp) (by simp)
theorem uT{α β:Type}{f:α->β}:∀{l:List β} {x:List α},l.Perm (x.map f)->∃y:List α,y.Perm x/\l=y.map f
 |[],x,h=>by
  have:=h.length_eq;rw[aAM]at this;have:x=[]:=aEY.mp this.symm;subst this;exact⟨[],.rfl,rfl⟩
 |b::l,x,h=>by
  obtain⟨a,ha,rfl⟩:=aAX.mp (h.mem_iff.mp aBG);obtain⟨u,v,rfl⟩:=List.append_of_mem ha;rw[aDR,aAK]at h;have h2:l.Perm ((u++v).map f):=by
   rw[aDR];exact(h.trans List.perm_middle).cons_inv
  obtain⟨y,h3,e⟩:=uT h2;exact⟨a::y,(h3.cons a).trans List.perm_middle.symm,by rw[aAK,e]⟩
theorem uU{ps:List (List Nat)}(nd:ps.Nodup):∃qs:List (List Nat),srtI (ps.map iL)=qs.map iL/\qs.Perm ps/\qs.Pairwise λa b=>lexI (iL a) (iL b)=true:=by
 have nd2:(ps.map iL).Nodup:=by
  rw[aBT,aCB];exact(aBT.mp nd).imp λh e=>h (aDq e)
 obtain⟨qs,p,e⟩:=uT (aCe nd2);refine⟨qs,e,p,?_⟩;have:=aIb nd2;rw[e,aCB]at this;exact this
theorem aFh(s:List Nat):tupI (iL s)=iD s:=by simp[tupI,iL,iD]
theorem uC:∀{p:List Nat} {i:Nat},1<=p.getD i 0->lexI (iL (p.set i (p.getD i 0 - 1))) (iL p)=true
 |[],i,h=>by simp at h
 |p::ps,0,h=>by
  rw[aEH]at h;rw[aEH,aFZ];simp only[iL,aAK,lexI];rw[aAH (by lia)];simp;lia
 |p::ps,i+1,h=>by
  rw[aEZ]at h;rw[aEZ,List.set_cons_succ];simp only[iL,aAK,lexI,aBM];exact uC h
theorem aAc:∀e,0 < fct e
 |0=>by decide|e+1=>Nat.mul_pos (aAc e) (by lia)
theorem iX:∀s,0 < fcts s
 |[]=>by decide|e::s=>by simp only[fcts,aAK,List.prod_cons];exact Nat.mul_pos (aAc e) (iX s)
variable{own:Nat}{c d:Int}
theorem newt(hn:0 < n)(ho:0 < own)(hd:d=own*c):d % (n:Int) / ((Nat.gcd n own:Nat):Int)=((own / Nat.gcd n own:Nat):Int)*c % ((rmN n own:Nat):Int):=by
 have g0:0 < Nat.gcd n own:=aDJ own hn;have e1:(n:Int)=((Nat.gcd n own:Nat):Int)*((rmN n own:Nat):Int):=by
  unfold rmN
  exact_mod_cast (aCV (aDA n own)).symm
 have e2:(own:Int)=((Nat.gcd n own:Nat):Int)*((own / Nat.gcd n own:Nat):Int):=by
  exact_mod_cast (aCV (aEB n own)).symm
 generalize((own / Nat.gcd n own:Nat):Int)=o at *;generalize((rmN n own:Nat):Int)=r at *;generalize hg:((Nat.gcd n own:Nat):Int)=g at *;have gp:0 < g:=by lia
 rw[hd,e1,e2,aGV,Int.mul_emod_mul_of_pos _ _ gp,Int.mul_ediv_cancel_left _ (by lia)]
theorem aBl{x y:Int}(hn:0 < n)(e:(n:Int)*x+own*y=((Nat.gcd n own:Nat):Int)):∃v,IsIv ((rmN n own:Nat):Int) ((own / Nat.gcd n own:Nat):Int) v:=by
 have g0:0 < Nat.gcd n own:=aDJ own hn;have r0:0 < rmN n own:=bU hn;have e1:(n:Int)=((Nat.gcd n own:Nat):Int)*((rmN n own:Nat):Int):=by
  unfold rmN
  exact_mod_cast (aCV (aDA n own)).symm
 have e2:(own:Int)=((Nat.gcd n own:Nat):Int)*((own / Nat.gcd n own:Nat):Int):=by
  exact_mod_cast (aCV (aEB n own)).symm
 generalize((own / Nat.gcd n own:Nat):Int)=o at *;generalize hr:((rmN n own:Nat):Int)=r at *;generalize hg:((Nat.gcd n own:Nat):Int)=g at *;have gp:0 < g:=by lia
 have rp:0 < r:=by lia
 have e3:r*x+o*y=1:=by
  have h:g*(r*x+o*y)=g*1:=by rw[e1,e2]at e;rw[<- e];grind
  exact Int.eq_of_mul_eq_mul_left (by lia) h
 refine⟨y % r,aCO _ (by lia),aCN _ rp,Cg.emod ((Cg.mul Cg.rfl Cg.mod).trans ⟨-x,by grind⟩)⟩
theorem aHs{x y:Int}(hn:0 < n)(ho:0 < own)(hd:d=own*c)(e:(n:Int)*x+own*y=((Nat.gcd n own:Nat):Int)):d % (n:Int) / ((Nat.gcd n own:Nat):Int)*LS.iv ((rmN n own:Nat):Int) ((own / Nat.gcd n own:Nat):Int) % ((rmN n own:Nat):Int)=c % ((rmN n own:Nat):Int):=by
 have h:=rT (aBl hn e);rw[newt hn ho hd];refine Cg.emod ?_;refine(Cg.mul Cg.mod Cg.rfl).trans ?_;refine(Cg.of_eq (b:=((own / Nat.gcd n own:Nat):Int)*LS.iv ((rmN n own:Nat):Int) ((own / Nat.gcd n own:Nat):Int)*c) (by grind)).trans ?_;refine(Cg.mul (Cg.of h.2.2) Cg.rfl).trans (Cg.of_eq (by grind))
theorem kJ(hn:0 < n)(ho:0 < own)(hd:d=own*c):d % (n:Int)=0 ↔ c % ((rmN n own:Nat):Int)=0:=by
 have g0:0 < Nat.gcd n own:=aDJ own hn;constructor
 ·intro h
  obtain⟨k,hk⟩:=aEW h;have e1:(n:Int)=((Nat.gcd n own:Nat):Int)*((rmN n own:Nat):Int):=by
   unfold rmN
   exact_mod_cast (aCV (aDA n own)).symm
  have e2:(own:Int)=((Nat.gcd n own:Nat):Int)*((own / Nat.gcd n own:Nat):Int):=by
   exact_mod_cast (aCV (aEB n own)).symm
  have cp:Nat.gcd (rmN n own) (own / Nat.gcd n own)=1:=Nat.gcd_div_gcd_div_gcd_of_pos_left hn;have e3:((own / Nat.gcd n own:Nat):Int)*c=((rmN n own:Nat):Int)*k:=by
   rw[hd,e1,e2]at hk;have:((Nat.gcd n own:Nat):Int)*(((own / Nat.gcd n own:Nat):Int)*c)=((Nat.gcd n own:Nat):Int)*(((rmN n own:Nat):Int)*k):=by rw[<- aGV,hk,aGV]
   exact Int.eq_of_mul_eq_mul_left (by lia) this
  refine aFU ?_;have hdv:((rmN n own:Nat):Int) ∣ ((own / Nat.gcd n own:Nat):Int)*c:=⟨k,e3⟩
  rw[<- Int.natAbs_dvd_natAbs,Int.natAbs_mul,aJN,aJN]at hdv;rw[<- Int.natAbs_dvd_natAbs,aJN];exact Nat.Coprime.dvd_of_dvd_mul_left cp hdv
 ·intro h
  obtain⟨k,hk⟩:=aEW h;refine aFU ?_;have e1:(n:Int)=((Nat.gcd n own:Nat):Int)*((rmN n own:Nat):Int):=by
   unfold rmN
   exact_mod_cast (aCV (aDA n own)).symm
  have e2:(own:Int)=((Nat.gcd n own:Nat):Int)*((own / Nat.gcd n own:Nat):Int):=by
   exact_mod_cast (aCV (aEB n own)).symm
  refine⟨((own / Nat.gcd n own:Nat):Int)*k,?_⟩;rw[hd,hk];generalize((own / Nat.gcd n own:Nat):Int)=o at *;generalize((rmN n own:Nat):Int)=r at *;generalize((Nat.gcd n own:Nat):Int)=g at *;rw[e1,e2];grind
theorem aJh{many:Nat}{c:List Nat->Int}(ho:qs.Pairwise λa b=>lexI (iL a) (iL b)=true)(hm:∀s,s∈qs ↔ Bxs s zs)(lz:zs.length=many)(hc:∀s,s.length=many->¬Bxs s zs->rms n c s=0):Frm n many c (qs.filterMap λs=>if 0 < rms n c s then some (s,rms n c s)else none):=by
 refine⟨?_,λt ht=>?_,λs h1 h2=>?_⟩
 ·rw[List.pairwise_filterMap]
  refine ho.imp λ{a b} h x hx y hy=>?_
  have e:∀{s:List Nat} {x:List Nat×Int},(if 0 < rms n c s then some (s,rms n c s)else none)=some x->x.1=s:=λ{s x} h=>by
   split at h
   ·cases h;rfl
   ·cases h
  rw[e hx,e hy];exact h
 ·obtain⟨s,hs,h⟩:=aHF.mp ht
  split at h
  ·cases h
   exact⟨((hm s).mp hs).len.trans lz,by assumption,rfl⟩
  ·cases h
 ·refine aAX.mpr ⟨(s,rms n c s),aHF.mpr ⟨s,?_,by rw[aAG h2]⟩,rfl⟩
  apply aEK;intro h;rw[hc s h1 λz=>h ((hm s).mpr z)]at h2;lia
end FM
set_option maxHeartbeats 4000000
end
namespace K53
open PySem L2 EV
def top(i:Nat):Stmt:=PySem.Challenge.pw_lentshelf_k53_where_forms_part.main.body.getD i (.Pass ⟨0,0,0,0⟩)
abbrev uR:Stmt:=top 1
abbrev aFn:Stmt:=top 2
abbrev qW:Stmt:=top 3
abbrev fZ:Stmt:=top 4
abbrev nJ:Stmt:=top 6
abbrev dI:Stmt:=top 7
abbrev lO:Stmt:=top 8
abbrev fO:Stmt:=top 9
abbrev aBf:Stmt:=top 11
abbrev vP:Stmt:=top 12
abbrev aLw:Stmt:=top 13
abbrev nU:Stmt:=top 14
abbrev lF:Stmt:=top 15
abbrev pW:Stmt:=top 16
abbrev iA:Stmt:=top 17
abbrev lH:Stmt:=top 18
abbrev eW:Stmt:=top 19
abbrev vX:Stmt:=top 20
abbrev kI:Stmt:=top 21
abbrev qB:Stmt:=top 22
abbrev wE:Stmt:=top 23
abbrev dC:Stmt:=top 24
abbrev hW:Stmt:=top 25
abbrev jM:Stmt:=top 26
abbrev aGh:Stmt:=top 27
abbrev Adr:=Unit
structure Tk(K:Frag):Prop where
 z_all:nsIn K mainGlobals "all"=some none
 z_bool:nsIn K mainGlobals "bool"=some none
 z_dict:nsIn K mainGlobals "dict"=some none
 z_int:nsIn K mainGlobals "int"=some none
 z_isinstance:nsIn K mainGlobals "isinstance"=some none
 z_len:nsIn K mainGlobals "len"=some none
 z_list:nsIn K mainGlobals "list"=some none
 z_max:nsIn K mainGlobals "max"=some none
 z_min:nsIn K mainGlobals "min"=some none
 z_range:nsIn K mainGlobals "range"=some none
 z_sorted:nsIn K mainGlobals "sorted"=some none
 z_tuple:nsIn K mainGlobals "tuple"=some none
 z_zip:nsIn K mainGlobals "zip"=some none
 d_common:Dk K "common" uR
 d_room:Dk K "room" aFn
 d_room_of:Dk K "room_of" qW
 d_settled:Dk K "settled" fZ
 d_form_sum:Dk K "form_sum" nJ
 d_form_scaled:Dk K "form_scaled" dI
 d_form_less:Dk K "form_less" lO
 d_first_unlike:Dk K "first_unlike" fO
 d_l_box:Dk K "_law_box" aBf
 d_l_take:Dk K "_law_take" vP
 d_l_n:Dk K "_law_n" aLw
 d_l_shared:Dk K "_law_shared" nU
 d_l_inverse:Dk K "_law_inverse" lF
 d_l_alike:Dk K "_law_alike" pW
 d_l_points:Dk K "_law_points" iA
 d_l_falling:Dk K "_law_falling" lH
 d_l_differences:Dk K "_law_differences" eW
 d_l_form:Dk K "_law_form" vX
 d_l_terms:Dk K "_law_terms" kI
 d_l_value:Dk K "_law_value" qB
 d_l_caps:Dk K "_law_caps" wE
 d_l_form_of:Dk K "_law_form_of" dC
 d_l_second:Dk K "_law_second" hW
 d_l_right:Dk K "_law_right" jM
 d_law:Dk K "law" aGh
structure Tx(K:Frag)(mg:Str->Option Value)(a:Adr):Prop where
 t:Tk K
 h:Hk K mg
 nd_dict:nsIn K mainGlobals "dict"=some none
 z_all:mg "all"=none
 z_bool:mg "bool"=none
 z_dict:mg "dict"=none
 z_int:mg "int"=none
 z_isinstance:mg "isinstance"=none
 z_len:mg "len"=none
 z_list:mg "list"=none
 z_max:mg "max"=none
 z_min:mg "min"=none
 z_range:mg "range"=none
 z_sorted:mg "sorted"=none
 z_tuple:mg "tuple"=none
 z_zip:mg "zip"=none
def nM:Dsc:=⟨"common",uR,["one","other"],["one","other"],none⟩
theorem kD:Sc nM:=scm λ_ _ _ _ _ _=>ex2 λ_ _=>rfl
def wZ:Dsc:=⟨"room",aFn,["many","e"],["many","e","factor"],none⟩
theorem lY:Sc wZ:=scm λ_ _ _ _ _ _=>ex2 λ_ _=>rfl
def jO:Dsc:=⟨"room_of",qW,["many","steps"],["many","steps","e"],none⟩
theorem eQ:Sc jO:=scm λ_ _ _ _ _ _=>ex2 λ_ _=>rfl
def kQ:Dsc:=⟨"settled",fZ,["n","numbers"],["n","numbers","terms"],none⟩
theorem gR:Sc kQ:=scm λ_ _ _ _ _ _=>ex2 λ_ _=>rfl
def gO:Dsc:=⟨"form_sum",nJ,["n","one","other"],["n","one","other","numbers","steps","number"],none⟩
theorem cG:Sc gO:=scm λ_ _ _ _ _ _=>ex3 λ_ _ _=>rfl
def dL:Dsc:=⟨"form_scaled",dI,["n","one","times"],["n","one","times"],none⟩
theorem fL:Sc dL:=scm λ_ _ _ _ _ _=>ex3 λ_ _ _=>rfl
def fM:Dsc:=⟨"form_less",lO,["n","one","other"],["n","one","other"],none⟩
theorem jA:Sc fM:=scm λ_ _ _ _ _ _=>ex3 λ_ _ _=>rfl
def cR:Dsc:=⟨"first_unlike",fO,["n","one","other"],["n","one","other","less"],none⟩
theorem cH:Sc cR:=scm λ_ _ _ _ _ _=>ex3 λ_ _ _=>rfl
def sA:Dsc:=⟨"_law_box",aBf,["_law_script","_law_k"],["_law_script","_law_k","_law_cell","_law_seed"],none⟩
theorem dW:Sc sA:=scm λ_ _ _ _ _ _=>ex2 λ_ _=>rfl
def oH:Dsc:=⟨"_law_take",vP,["_law_box_here","_law_many"],["_law_box_here","_law_many","_law_digit","_law_one"],none⟩
theorem gJ:Sc oH:=scm λ_ _ _ _ _ _=>ex2 λ_ _=>rfl
def aFu:Dsc:=⟨"_law_n",aLw,["_law_box_here"],["_law_box_here","_law_form_here","_law_some","_law_number"],none⟩
theorem nA:Sc aFu:=scm λ_ _ _ _ _ _=>ex1 λ_=>rfl
def gQ:Dsc:=⟨"_law_shared",nU,["_law_one","_law_other"],["_law_one","_law_other"],none⟩
theorem fG:Sc gQ:=scm λ_ _ _ _ _ _=>ex2 λ_ _=>rfl
def fK:Dsc:=⟨"_law_inverse",lF,["_law_n_here","_law_u"],["_law_n_here","_law_u","_law_one","_law_other","_law_before","_law_here","_law_many"],none⟩
theorem aY:Sc fK:=scm λ_ _ _ _ _ _=>ex2 λ_ _=>rfl
def kC:Dsc:=⟨"_law_alike",pW,["_law_found","_law_due"],["_law_found","_law_due","_law_left","_law_one","_law_other"],none⟩
theorem dB:Sc kC:=scm λ_ _ _ _ _ _=>ex2 λ_ _=>rfl
def iG:Dsc:=⟨"_law_points",iA,["_law_sizes"],["_law_sizes","_law_found","_law_size","_law_longer","_law_point"],none⟩
theorem bK:Sc iG:=scm λ_ _ _ _ _ _=>ex1 λ_=>rfl
def fR:Dsc:=⟨"_law_falling",lH,["_law_steps"],["_law_steps","_law_found","_law_e","_law_k"],none⟩
theorem bM:Sc fR:=scm λ_ _ _ _ _ _=>ex1 λ_=>rfl
def cK:Dsc:=⟨"_law_differences",eW,["_law_values","_law_many","_law_sizes"],["_law_values","_law_many","_law_sizes","_law_left","_law_points_here","_law_i","_law_turn","_law_point"],none⟩
theorem aX:Sc cK:=scm λ_ _ _ _ _ _=>ex3 λ_ _ _=>rfl
def nY:Dsc:=⟨"_law_form",vX,["_law_n_here","_law_values","_law_sizes"],["_law_n_here","_law_values","_law_sizes","_law_found","_law_left","_law_steps","_law_own","_law_common","_law_room","_law_number"],none⟩
theorem bL:Sc nY:=scm λ_ _ _ _ _ _=>ex3 λ_ _ _=>rfl
def kA:Dsc:=⟨"_law_terms",kI,["_law_box_here","_law_many","_law_caps_here"],["_law_box_here","_law_many","_law_caps_here","_law_found","_law_k","_law_exponents","_law_number"],none⟩
theorem bR:Sc kA:=scm λ_ _ _ _ _ _=>ex3 λ_ _ _=>rfl
def kF:Dsc:=⟨"_law_value",qB,["_law_terms_here","_law_point"],["_law_terms_here","_law_point","_law_found","_law_exponents","_law_number","_law_e","_law_x","_law_turn"],none⟩
theorem bC:Sc kF:=scm λ_ _ _ _ _ _=>ex2 λ_ _=>rfl
def oU:Dsc:=⟨"_law_caps",wE,["_law_box_here"],["_law_box_here","_law_some"],none⟩
theorem fX:Sc oU:=scm λ_ _ _ _ _ _=>ex1 λ_=>rfl
def eZ:Dsc:=⟨"_law_form_of",dC,["_law_n_here","_law_terms_here","_law_caps_here"],["_law_n_here","_law_terms_here","_law_caps_here","_law_sizes","_law_values"],none⟩
theorem cN:Sc eZ:=scm λ_ _ _ _ _ _=>ex3 λ_ _ _=>rfl
def iH:Dsc:=⟨"_law_second",hW,["_law_box_here","_law_n_here","_law_terms_here","_law_caps_here"],["_law_box_here","_law_n_here","_law_terms_here","_law_caps_here","_law_form_here","_law_at","_law_exponents","_law_number","_law_more"],none⟩
theorem bB:Sc iH:=scm λ_ _ _ _ _ _=>ex4 λ_ _ _ _=>rfl
def jN:Dsc:=⟨"_law_right",jM,["_law_n_here","_law_one","_law_other","_law_caps_here"],["_law_n_here","_law_one","_law_other","_law_caps_here","_law_first","_law_second_here","_law_less","_law_due"],none⟩
theorem cB:Sc jN:=scm λ_ _ _ _ _ _=>ex4 λ_ _ _ _=>rfl
def aAv:Dsc:=⟨"law",aGh,["_law_script"],["_law_script","_law_asked","_law_k","_law_box_here","_law_n_here","_law_caps_here","_law_one"],none⟩
theorem eG:Sc aAv:=scm λ_ _ _ _ _ _=>ex1 λ_=>rfl
abbrev tJ:Bq Tx 0 nM:=⟨_,λT=>λhr =>
  (aE (jK NW aBI (aW opGt (aB 1) aC (nomark _))
  (aF (oK (cP:=True) (i:=0) (j:=1) trivial kD.s.nd (aA (aB 1) (aA (aJ opMod (aB 0) (aB 1)) aD)))))
  (aF (aR (aB 0))))⟩
def uY:FS:=tJ.1
def iK:Fn:=fnD 2 2 uY
variable{a:Adr}
theorem aCc(T:Tx K mg a):Q0 P w K mg base 1 nM iK:=q0 (dk T.t.d_common T.h kD) kD.s (tJ.2 T)
abbrev aDt:Bq Tx 1 wZ:=⟨_,λT=>λhr =>
  (aE (bP aBI rfl (jT T.z_range aC (aJ opAdd (aB 1) aC)) (aK (i:=2) lY.s.nd)
  (aE (bY (aW (opEq (aN hr)) (aB 0) aC (nomark _))
  (aF (aR aC))
  bG)
  (aF (aL (i:=0) lY.s.nd (aJ opDiv (aB 0) (qc (aCc T) hr (aA (aB 0) (aA (aB 2) aD))))))))
  (aF (aR (aB 0))))⟩
def aHh:FS:=aDt.1
def yH:Fn:=fnD 2 3 aHh
theorem aIg(T:Tx K mg a):Q0 P w K mg base 2 wZ yH:=q0 (dk T.t.d_room T.h lY) lY.s (aDt.2 T)
abbrev qX:Bq Tx 2 jO:=⟨_,λT=>λhr =>
  (aE (bP aBI rfl (gX (aB 1)) (aK (i:=2) eQ.s.nd)
  (aF (aL (i:=0) eQ.s.nd (qc (aIg T) hr (aA (aB 0) (aA (aB 2) aD))))))
  (aF (aR (aB 0))))⟩
def rB:FS:=qX.1
def jR:Fn:=fnD 2 3 rB
theorem wL(T:Tx K mg a):Q0 P w K mg base 3 jO jR:=q0 (dk T.t.d_room_of T.h eQ) eQ.s (qX.2 T)
abbrev qO:Bq Tx 3 kQ:=⟨_,λT=>λhr =>
  (aE (aBb (i:=2) gR.s.nd rfl (CompOk.of (N0:=["n","numbers","terms"]) (sc0:=defScope fZ) (Nc:=["steps","number","n"]) (js:=[none,none,some 0]) (by decide +kernel)) (aHy T.nd_dict (aB 1)) (λ_ _ _ _ _ _=>(dA (n:=2) rfl (aM (aK (i:=0) (show(["steps","number","n"]:List Str).Nodup by decide +kernel)) (aM (aK (i:=1) (show(["steps","number","n"]:List Str).Nodup by decide +kernel)) bX)))) (λ_ _ _ _ _ _=>cM) (λ_ _ _ _ _ _=>(aU (aA (aB 0) (aA (aJ opMod (aB 1) (qc (wL T) hr (aA (aB 2) (aA (aB 0) aD)))) aD)))))
  (aF (aR (cU callTup rfl T.z_tuple bV (aA (aV (callSort T.nd_dict rfl (aN hr)) rfl T.z_sorted kM (aA (eO rfl (CompOk.of (N0:=["n","numbers","terms"]) (sc0:=defScope fZ) (Nc:=["steps","number"]) (js:=[none,none]) (by decide +kernel)) (gX (aB 2)) (λ_ _ _ _ _ _=>(dA (n:=2) rfl (aM (aK (i:=0) (show(["steps","number"]:List Str).Nodup by decide +kernel)) (aM (aK (i:=1) (show(["steps","number"]:List Str).Nodup by decide +kernel)) bX)))) (λ_ _ _ _ _ _=>(aJv (aW opGt (aB 1) aC (nomark _)))) (λ_ _ _ _ _ _=>(aU (aA (aB 0) (aA (aB 1) aD))))) aD)) aD)))))⟩
def rL:FS:=qO.1
def kS:Fn:=fnD 2 3 rL
theorem mL(T:Tx K mg a):Q0 P w K mg base 4 kQ kS:=q0 (dk T.t.d_settled T.h gR) gR.s (qO.2 T)
abbrev nH:Bq Tx 4 gO:=⟨_,λT=>λhr =>
  (aE (aL (i:=3) cG.s.nd (tE T.nd_dict rfl (aN hr) T.z_dict (aB 1)))
  (aE (bP aBI rfl (gX (aB 2)) (dA (n:=2) rfl (aM (aK (i:=4) cG.s.nd) (aM (aK (i:=5) cG.s.nd) bX)))
  (aF (zG T.nd_dict (aN hr) (aB 3) (aB 4) (aJ opAdd (aHt T.nd_dict (aN hr) (aB 3) (aB 4) aC) (aB 5)))))
  (aF (aR (qc (mL T) hr (aA (aB 0) (aA (aB 3) aD)))))))⟩
def mU:FS:=nH.1
def hX:Fn:=fnD 3 6 mU
theorem uA(T:Tx K mg a):Q0 P w K mg base 5 gO hX:=q0 (dk T.t.d_form_sum T.h cG) cG.s (nH.2 T)
abbrev gL:Bq Tx 4 dL:=⟨_,λT=>λhr =>
  (aF (aR (qc (mL T) hr (aA (aB 0) (aA (aEo T.nd_dict (aN hr) rfl (CompOk.of (N0:=["n","one","times"]) (sc0:=defScope dI) (Nc:=["steps","number","times"]) (js:=[none,none,some 2]) (by decide +kernel)) (gX (aB 1)) (λ_ _ _ _ _ _=>(dA (n:=2) rfl (aM (aK (i:=0) (show(["steps","number","times"]:List Str).Nodup by decide +kernel)) (aM (aK (i:=1) (show(["steps","number","times"]:List Str).Nodup by decide +kernel)) bX)))) (λ_ _ _ _ _ _=>cM) (λ_ _ _ _ _ _=>(aB 0)) (λ_ _ _ _ _ _=>(aJ opMulA (aB 1) (aB 2)))) aD)))))⟩
def gK:FS:=gL.1
def dO:Fn:=fnD 3 3 gK
theorem mO(T:Tx K mg a):Q0 P w K mg base 5 dL dO:=q0 (dk T.t.d_form_scaled T.h fL) fL.s (gL.2 T)
abbrev lL:Bq Tx 5 fM:=⟨_,λT=>λhr =>
  (aF (aR (qc (uA T) hr (aA (aB 0) (aA (aB 1) (aA (qc (mO T) hr (aA (aB 0) (aA (aB 2) (aA (aOy aC) aD)))) aD))))))⟩
def lK:FS:=lL.1
def fF:Fn:=fnD 3 3 lK
theorem sH(T:Tx K mg a):Q0 P w K mg base 6 fM fF:=q0 (dk T.t.d_form_less T.h jA) jA.s (lL.2 T)
abbrev fS:Bq Tx 6 cR:=⟨_,λT=>λhr =>
  (aE (aL (i:=3) cH.s.nd (qc (sH T) hr (aA (aB 0) (aA (aB 1) (aA (aB 2) aD)))))
  (aE (bY (aW (opEq (aN hr)) (aV callLen rfl T.z_len aCY (aA (aB 3) aD)) aC (nomark _))
  (aF (aR aDy))
  bG)
  (aF (aR (bE (bE (aB 3) aC) aC)))))⟩
def fQ:FS:=fS.1
def cV:Fn:=fnD 3 4 fQ
theorem eY(T:Tx K mg a):Q0 P w K mg base 7 cR cV:=q0 (dk T.t.d_first_unlike T.h cH) cH.s (fS.2 T)
abbrev aAx:Bq Tx 0 sA:=⟨_,λT=>λhr =>
  (aE (aL (i:=2) dW.s.nd (aJ opAdd (aJ opMulA aC (aB 1)) aC))
  (aE (bY (aW opLt (aB 1) (aV callLen rfl T.z_len aCY (aA (aB 0) aD)) (nomark _))
  (aF (aL (i:=2) dW.s.nd (bE (aB 0) (aB 1))))
  (aF (bY (aW opGt (aV callLen rfl T.z_len aCY (aA (aB 0) aD)) aC (nomark _))
  (aF (aL (i:=2) dW.s.nd (aJ opAdd (aB 2) (aJ opMulA (aJ opMod (bE (aB 0) (aJ opMod (aB 1) (aV callLen rfl T.z_len aCY (aA (aB 0) aD)))) aC) aC))))
  bG)))
  (aE (aL (i:=3) dW.s.nd (aJ opAdd (aJ opMod (aJ opAdd (aJ opMulA (aJ opMod (aB 2) aC) aC) (aJ opMulA aC (aB 1))) aC) aC))
  (aF (aR (fY (aA (bE (dQ (aA aC (aA (aB 2) aD))) (cU callInt rfl T.z_int yX (aA (xE opGe (aB 2) (aJ opPow aC aC) (nomark _)) aD))) (aA (aB 3) (aA aC aD)))))))))⟩
def zN:FS:=aAx.1
def aAm:Fn:=fnR 2 4 zN
theorem aEx(T:Tx K mg a):Q0 P w K mg base 1 sA aAm:=q0R (dk T.t.d_l_box T.h dW) dW.s rfl (aAx.2 T)
abbrev tP:Bq Tx 0 oH:=⟨_,λT=>λhr =>
  (aE (bY (aW opGt (bE (aB 0) aC) aC (nomark _))
  (aE (aL (i:=2) gJ.s.nd (aJ opMod (bE (aB 0) aC) (aB 1)))
  (aE (kT (aJ opDiv (bE (aB 0) aC) (aB 1)) (xT (aB 0) aC))
  (aF (aR (aB 2)))))
  bG)
  (aE (kT (aJ opAdd (bE (aB 0) aC) aC) (xT (aB 0) aC))
  (aE (aL (i:=3) gJ.s.nd (aJ opMod (aJ opMulA (aJ opAdd (bE (aB 0) aC) (aJ opMulA aC (bE (aB 0) aC))) aC) aC))
  (aE (kT (aJ opAdd (aJ opMod (aJ opAdd (aJ opMulA (aB 3) aC) aC) aC) aC) (xT (aB 0) aC))
  (aF (aR (aJ opMod (aJ opDiv (aJ opAdd (aJ opMulA (aB 3) aC) (bE (aB 0) aC)) aC) (aB 1))))))))⟩
def uF:FS:=tP.1
def tK:Fn:=fnD 2 4 uF
theorem aO(T:Tx K mg a):Q0 P w K mg base 1 oH tK:=q0 (dk T.t.d_l_take T.h gJ) gJ.s (tP.2 T)
abbrev aLm:Bq Tx 1 aFu:=⟨_,λT=>λhr =>
  (aE (aL (i:=1) nA.s.nd (qc (aO T) hr (aA (aB 0) (aA aC aD))))
  (aE (aL (i:=2) nA.s.nd (aLg (ns:=[2,3,4,5,6,7,8,9,12,16,30,36,49,64,91,97,210,1009,65536,999983,999999,1000000]) (by repeat constructor)))
  (aE (aL (i:=3) nA.s.nd (bE (aB 2) (qc (aO T) hr (aA (aB 0) (aA aC aD)))))
  (aE (bY (aW (opEq (aN hr)) (aB 1) aC (nomark _))
  (aF (aR (aJ opAdd aC (qc (aO T) hr (aA (aB 0) (aA aC aD))))))
  bG)
  (aE (bY (aW opLt (aB 1) aC (nomark _))
  (aF (aR (aJ opAdd aC (qc (aO T) hr (aA (aB 0) (aA aC aD))))))
  bG)
  (aF (aR (aB 3))))))))⟩
def aLj:FS:=aLm.1
def aGm:Fn:=fnD 1 4 aLj
theorem aNf(T:Tx K mg a):Q0 P w K mg base 2 aFu aGm:=q0 (dk T.t.d_l_n T.h nA) nA.s (aLm.2 T)
abbrev nZ:Bq Tx 0 gQ:=⟨_,λT=>λhr =>
  (aE (jK NW aBI (aW opGt (aB 1) aC (nomark _))
  (aF (oK (cP:=True) (i:=0) (j:=1) trivial fG.s.nd (aA (aB 1) (aA (aJ opMod (aB 0) (aB 1)) aD)))))
  (aF (aR (aB 0))))⟩
def yJ:FS:=nZ.1
def mQ:Fn:=fnD 2 2 yJ
theorem wD(T:Tx K mg a):Q0 P w K mg base 1 gQ mQ:=q0 (dk T.t.d_l_shared T.h fG) fG.s (nZ.2 T)
abbrev lD:Bq Tx 0 fK:=⟨_,λT=>λhr =>
  (aE (kT (aU (aA (aB 0) (aA (aJ opMod (aB 1) (aB 0)) (aA aC (aA aC aD))))) (dA (n:=4) rfl (aM (aK (i:=2) aY.s.nd) (aM (aK (i:=3) aY.s.nd) (aM (aK (i:=4) aY.s.nd) (aM (aK (i:=5) aY.s.nd) bX))))))
  (aE (jK NW aBI (aW opGt (aB 3) aC (nomark _))
  (aE (aL (i:=6) aY.s.nd (aJ opDiv (aB 2) (aB 3)))
  (aE (oK (cP:=True) (i:=2) (j:=3) trivial aY.s.nd (aA (aB 3) (aA (aJ opSub (aB 2) (aJ opMulA (aB 6) (aB 3))) aD)))
  (aF (oK (cP:=True) (i:=4) (j:=5) trivial aY.s.nd (aA (aB 5) (aA (aJ opSub (aB 4) (aJ opMulA (aB 6) (aB 5))) aD)))))))
  (aF (aR (aJ opMod (aB 4) (aB 0))))))⟩
def lG:FS:=lD.1
def fH:Fn:=fnD 2 7 lG
theorem sL(T:Tx K mg a):Q0 P w K mg base 1 fK fH:=q0 (dk T.t.d_l_inverse T.h aY) aY.s (lD.2 T)
abbrev rC:Bq Tx 0 kC:=⟨_,λT=>λhr =>
  (aE (aL (i:=2) dB.s.nd (fY (aA (aU (aA (aB 0) (aA (aB 1) aD))) aD)))
  (aE (jK NW aBI (aW opGt (aV callLen rfl T.z_len aCY (aA (aB 2) aD)) aC (nomark _))
  (aE (kT (aOo (aB 2)) (dA (n:=2) rfl (aM (aK (i:=3) dB.s.nd) (aM (aK (i:=4) dB.s.nd) bX))))
  (aF (bY (wW (iF mM T.z_isinstance T.z_tuple bV (aB 4)))
  (aE (bY (xS (uO (aPv (wW (iF mM T.z_isinstance T.z_tuple bV (aB 3)))) (mT (aW (opNe (aN hr)) (aV callLen rfl T.z_len aCY (aA (aB 3) aD)) (aV callLen rfl T.z_len aCY (aA (aB 4) aD)) (nomark _)))))
  (aF (aR mW))
  bG)
  (aF (jD (oP (aB 2) (wT rfl T.z_list T.z_zip (aB 3) (aB 4))))))
  (aF (bY (xS (uO (aW (opNe (aN hr)) (iF zQ T.z_isinstance T.z_bool aBm (aB 3)) (iF zQ T.z_isinstance T.z_bool aBm (aB 4)) (nomark _)) (mT (aW (opNe (aN hr)) (iF aFt T.z_isinstance T.z_int yX (aB 3)) (iF aFt T.z_isinstance T.z_int yX (aB 4)) (nomark _)))))
  (aF (aR mW))
  (aF (bY (xS (uO (wW (iF mM T.z_isinstance T.z_tuple bV (aB 3))) (mT (aW (opNe (aN hr)) (aB 3) (aB 4) (nomark _)))))
  (aF (aR mW))
  bG))))))))
  (aF (aR mW))))⟩
def qR:FS:=rC.1
def qJ:Fn:=fnD 2 5 qR
theorem oA(T:Tx K mg a):Q0 P w K mg base 1 kC qJ:=q0 (dk T.t.d_l_alike T.h dB) dB.s (rC.2 T)
abbrev nN:Bq Tx 0 iG:=⟨_,λT=>λhr =>
  (aE (aL (i:=1) bK.s.nd (dQ (aA (aU aD) aD)))
  (aE (bP aBI rfl (gX (aB 0)) (aK (i:=2) bK.s.nd)
  (aE (aL (i:=3) bK.s.nd (fY aD))
  (aE (bP aBI rfl (gX (aB 1)) (aK (i:=4) bK.s.nd)
  (aF (jD (oP (aB 3) (eO rfl (CompOk.of (N0:=["_law_sizes","_law_found","_law_size","_law_longer","_law_point"]) (sc0:=defScope iA) (Nc:=["_law_x","_law_point"]) (js:=[none,some 4]) (by decide +kernel)) (cO T.z_range (aB 2)) (λ_ _ _ _ _ _=>(aK (i:=0) (show(["_law_x","_law_point"]:List Str).Nodup by decide +kernel))) (λ_ _ _ _ _ _=>cM) (λ_ _ _ _ _ _=>(aJ opAdd (aB 1) (aU (aA (aB 0) aD)))))))))
  (aF (aL (i:=1) bK.s.nd (aB 3))))))
  (aF (aR (aB 1)))))⟩
def mJ:FS:=nN.1
def iI:Fn:=fnD 1 5 mJ
theorem tR(T:Tx K mg a):Q0 P w K mg base 1 iG iI:=q0 (dk T.t.d_l_points T.h bK) bK.s (nN.2 T)
abbrev lN:Bq Tx 0 fR:=⟨_,λT=>λhr =>
  (aE (aL (i:=1) bM.s.nd aC)
  (aE (bP aBI rfl (gX (aB 0)) (aK (i:=2) bM.s.nd)
  (aF (bP aBI rfl (jT T.z_range aC (aJ opAdd (aB 2) aC)) (aK (i:=3) bM.s.nd)
  (aF (aL (i:=1) bM.s.nd (aJ opMulA (aB 1) (aB 3)))))))
  (aF (aR (aB 1)))))⟩
def lA:FS:=lN.1
def fA:Fn:=fnD 1 4 lA
theorem sB(T:Tx K mg a):Q0 P w K mg base 1 fR fA:=q0 (dk T.t.d_l_falling T.h bM) bM.s (lN.2 T)
abbrev eX:Bq Tx 0 cK:=⟨_,λT=>λhr =>
  (aE (aL (i:=3) aX.s.nd (tE T.nd_dict rfl (aN hr) T.z_dict (aB 0)))
  (aE (aL (i:=4) aX.s.nd (aHd T.nd_dict rfl T.z_sorted (aB 3) mW))
  (aE (bP aBI rfl (cO T.z_range (aB 1)) (aK (i:=5) aX.s.nd)
  (aF (bP aBI rfl (jT T.z_range aC (bE (aB 2) (aB 5))) (aK (i:=6) aX.s.nd)
  (aF (bP aBI rfl (gX (aB 4)) (aK (i:=7) aX.s.nd)
  (aF (bY (aW opGe (bE (aB 7) (aB 5)) (aB 6) (nomark _))
  (aF (zG T.nd_dict (aN hr) (aB 3) (aB 7) (aJ opSub (mF T.nd_dict (aN hr) (aB 3) (aB 7)) (mF T.nd_dict (aN hr) (aB 3) (aJ opAdd (aJ opAdd (fN (aB 7) wH (vH (aB 5))) (aU (aA (aJ opSub (bE (aB 7) (aB 5)) aC) aD))) (fN (aB 7) (vH (aJ opAdd (aB 5) aC)) wH))))))
  bG)))))))
  (aF (aR (aB 3))))))⟩
def eU:FS:=eX.1
def cI:Fn:=fnRO "dict" 3 8 eU
theorem kH(T:Tx K mg a):Q0 P w K mg base 1 cK cI:=q0O (dk T.t.d_l_differences T.h aX) aX.s rfl (eX.2 T)
abbrev vB:Bq Tx 1 nY:=⟨_,λT=>λhr =>
  (aE (aL (i:=3) bL.s.nd (fY aD))
  (aE (aL (i:=4) bL.s.nd (qc (kH T) hr (aA (aB 1) (aA (aV callLen rfl T.z_len aCY (aA (aB 2) aD)) (aA (aB 2) aD)))))
  (aE (bP aBI rfl (gX (aV (callSort T.nd_dict rfl (aN hr)) rfl T.z_sorted kM (aA (aB 4) aD))) (aK (i:=5) bL.s.nd)
  (aE (aL (i:=6) bL.s.nd (qc (sB T) hr (aA (aB 5) aD)))
  (aE (aL (i:=7) bL.s.nd (qc (wD T) hr (aA (aB 0) (aA (aB 6) aD))))
  (aE (aL (i:=8) bL.s.nd (aJ opDiv (aB 0) (aB 7)))
  (aF (bY (xS (aGr (aW opGt (aB 8) aC (nomark _)) (aBh (aW (opNe (aN hr)) (aJ opMod (mF T.nd_dict (aN hr) (aB 4) (aB 5)) (aB 0)) aC (nomark _)))))
  (aE (aL (i:=9) bL.s.nd (aJ opMod (aJ opMulA (aJ opDiv (aJ opMod (mF T.nd_dict (aN hr) (aB 4) (aB 5)) (aB 0)) (aB 7)) (qc (sL T) hr (aA (aB 8) (aA (aJ opDiv (aB 6) (aB 7)) aD)))) (aB 8)))
  (aF (jD (jV (aB 3) (aU (aA (aB 5) (aA (aB 9) aD)))))))
  bG))))))
  (aF (aR (cU callTup rfl T.z_tuple bV (aA (aB 3) aD)))))))⟩
def uJ:FS:=vB.1
def oX:Fn:=fnD 3 10 uJ
theorem aCd(T:Tx K mg a):Q0 P w K mg base 2 nY oX:=q0 (dk T.t.d_l_form T.h bL) bL.s (vB.2 T)
abbrev pY:Bq Tx 1 kA:=⟨_,λT=>λhr =>
  (aE (aL (i:=3) bR.s.nd (fY aD))
  (aE (bP aBI rfl (cO T.z_range (qc (aO T) hr (aA (aB 0) (aA aC aD)))) (aK (i:=4) bR.s.nd)
  (aE (aL (i:=5) bR.s.nd (cU callTup rfl T.z_tuple bV (aA (eO rfl (CompOk.of (N0:=["_law_box_here","_law_many","_law_caps_here","_law_found","_law_k","_law_exponents","_law_number"]) (sc0:=defScope kI) (Nc:=["_law_i","_law_box_here","_law_caps_here"]) (js:=[none,some 0,some 2]) (by decide +kernel)) (cO T.z_range (aB 1)) (λ_ _ _ _ _ _=>(aK (i:=0) (show(["_law_i","_law_box_here","_law_caps_here"]:List Str).Nodup by decide +kernel))) (λ_ _ _ _ _ _=>cM) (λ_ _ _ _ _ _=>(qc (aO T) hr (aA (aB 1) (aA (aJ opAdd (bE (aB 2) (aB 0)) aC) aD))))) aD)))
  (aE (bY (xS (aGr (aW (opNe (aN hr)) (aB 3) (dQ aD) (nomark _)) (aBh (aW (opEq (aN hr)) (qc (aO T) hr (aA (aB 0) (aA aC aD))) aC (nomark _)))))
  (aF (aL (i:=5) bR.s.nd (bE (bE (aB 3) (qc (aO T) hr (aA (aB 0) (aA (aV callLen rfl T.z_len aCY (aA (aB 3) aD)) aD)))) aC)))
  bG)
  (aE (aL (i:=6) bR.s.nd (bE (dQ (aA (qc (aO T) hr (aA (aB 0) (aA aC aD))) (aA (qc (aO T) hr (aA (aB 0) (aA aC aD))) aD))) (qc (aO T) hr (aA (aB 0) (aA aC aD)))))
  (aF (jD (jV (aB 3) (aU (aA (aB 5) (aA (bE (dQ (aA (aB 6) (aA (aJ opSub aC (aB 6)) aD))) (qc (aO T) hr (aA (aB 0) (aA aC aD)))) aD))))))))))
  (aF (aR (cU callTup rfl T.z_tuple bV (aA (aB 3) aD))))))⟩
def rD:FS:=pY.1
def jZ:Fn:=fnD 3 7 rD
theorem mR(T:Tx K mg a):Q0 P w K mg base 2 kA jZ:=q0 (dk T.t.d_l_terms T.h bR) bR.s (pY.2 T)
abbrev rA:Bq Tx 0 kF:=⟨_,λT=>λhr =>
  (aE (aL (i:=2) bC.s.nd aC)
  (aE (bP aBI rfl (gX (aB 0)) (dA (n:=2) rfl (aM (aK (i:=3) bC.s.nd) (aM (aK (i:=4) bC.s.nd) bX)))
  (aE (bP aBI rfl (aNw T.z_zip (aB 3) (aB 1)) (dA (n:=2) rfl (aM (aK (i:=5) bC.s.nd) (aM (aK (i:=6) bC.s.nd) bX)))
  (aF (bP aBI rfl (cO T.z_range (aB 5)) (aK (i:=7) bC.s.nd)
  (aF (aL (i:=4) bC.s.nd (aJ opMulA (aB 4) (aB 6)))))))
  (aF (aL (i:=2) bC.s.nd (aJ opAdd (aB 2) (aB 4))))))
  (aF (aR (aB 2)))))⟩
def qS:FS:=rA.1
def jS:Fn:=fnD 2 8 qS
theorem gU(T:Tx K mg a):Q0 P w K mg base 1 kF jS:=q0 (dk T.t.d_l_value T.h bC) bC.s (rA.2 T)
abbrev tM:Bq Tx 1 oU:=⟨_,λT=>λhr =>
  (aE (aL (i:=1) fX.s.nd (dQ (aA (aU (aA aC aD)) (aA (aU (aA aC aD)) (aA (aU (aA aC (aA aC aD))) (aA (aU (aA aC (aA aC aD))) (aA (aU (aA aC (aA aC (aA aC aD)))) (aA (aU (aA aC (aA aC (aA aC aD)))) (aA (aU (aA aC (aA aC (aA aC (aA aC aD))))) (aA (aU (aA aC (aA aC (aA aC (aA aC aD))))) (aA (aU (aA aC aD)) (aA (aU (aA aC (aA aC aD))) aD))))))))))))
  (aE (aL (i:=1) fX.s.nd (aJ opAdd (aB 1) (dQ (aA (aU (aA aC (aA aC (aA aC (aA aC aD))))) (aA (aU (aA aC (aA aC (aA aC (aA aC aD))))) (aA (aU (aA aC (aA aC aD))) (aA (aU aD) aD)))))))
  (aF (aR (bE (aB 1) (qc (aO T) hr (aA (aB 0) (aA aC aD))))))))⟩
def vE:FS:=tM.1
def oJ:Fn:=fnD 1 2 vE
theorem aCk(T:Tx K mg a):Q0 P w K mg base 2 oU oJ:=q0 (dk T.t.d_l_caps T.h fX) fX.s (tM.2 T)
abbrev lI:Bq Tx 2 eZ:=⟨_,λT=>λhr =>
  (aE (aBb (i:=3) cN.s.nd rfl (CompOk.of (N0:=["_law_n_here","_law_terms_here","_law_caps_here","_law_sizes","_law_values"]) (sc0:=defScope dC) (Nc:=["_law_cap","_law_n_here"]) (js:=[none,some 0]) (by decide +kernel)) (gX (aB 2)) (λ_ _ _ _ _ _=>(aK (i:=0) (show(["_law_cap","_law_n_here"]:List Str).Nodup by decide +kernel))) (λ_ _ _ _ _ _=>cM) (λ_ _ _ _ _ _=>(aV (callMin2 rfl) rfl T.z_min aDx (aA (aB 1) (aA (aJ opAdd (aB 0) aC) aD)))))
  (aE (aL (i:=4) cN.s.nd (tE T.nd_dict rfl (aN hr) T.z_dict (eO rfl (CompOk.of (N0:=["_law_n_here","_law_terms_here","_law_caps_here","_law_sizes","_law_values"]) (sc0:=defScope dC) (Nc:=["_law_point","_law_terms_here"]) (js:=[none,some 1]) (by decide +kernel)) (gX (qc (tR T) hr (aA (aB 3) aD))) (λ_ _ _ _ _ _=>(aK (i:=0) (show(["_law_point","_law_terms_here"]:List Str).Nodup by decide +kernel))) (λ_ _ _ _ _ _=>cM) (λ_ _ _ _ _ _=>(aU (aA (aB 0) (aA (qc (gU T) hr (aA (aB 1) (aA (aB 0) aD))) aD)))))))
  (aF (aR (qc (aCd T) hr (aA (aB 0) (aA (aB 4) (aA (aB 3) aD))))))))⟩
def lC:FS:=lI.1
def fV:Fn:=fnD 3 5 lC
theorem eN(T:Tx K mg a):Q0 P w K mg base 3 eZ fV:=q0 (dk T.t.d_l_form_of T.h cN) cN.s (lI.2 T)
abbrev mY:Bq Tx 2 iH:=⟨_,λT=>λhr =>
  (aE (aL (i:=4) bB.s.nd (qc (aO T) hr (aA (aB 0) (aA aC aD))))
  (aE (bY (xS (uO (aW (opEq (aN hr)) (aB 4) aC (nomark _)) (mT (aW (opEq (aN hr)) (aB 2) (aU aD) (nomark _)))))
  (aF (aR (qc (mR T) hr (aA (aB 0) (aA (aV callLen rfl T.z_len aCY (aA (aB 3) aD)) (aA (aB 3) aD))))))
  bG)
  (aE (aL (i:=5) bB.s.nd (qc (aO T) hr (aA (aB 0) (aA (aV callLen rfl T.z_len aCY (aA (aB 2) aD)) aD))))
  (aE (kT (bE (aB 2) (aB 5)) (dA (n:=2) rfl (aM (aK (i:=6) bB.s.nd) (aM (aK (i:=7) bB.s.nd) bX))))
  (aE (bY (aW (opEq (aN hr)) (aB 4) aC (nomark _))
  (aE (aL (i:=7) bB.s.nd (aJ opAdd (aB 7) (bE (dQ (aA (aB 1) (aA aC (aA (aJ opDiv (aB 1) aC) aD)))) (qc (aO T) hr (aA (aB 0) (aA aC aD))))))
  (aF (aR (aJ opAdd (aJ opAdd (fN (aB 2) wH (vH (aB 5))) (aU (aA (aU (aA (aB 6) (aA (aB 7) aD))) aD))) (fN (aB 2) (vH (aJ opAdd (aB 5) aC)) wH)))))
  bG)
  (aE (aL (i:=8) bB.s.nd (cU callTup rfl T.z_tuple bV (aA (eO rfl (CompOk.of (N0:=["_law_box_here","_law_n_here","_law_terms_here","_law_caps_here","_law_form_here","_law_at","_law_exponents","_law_number","_law_more"]) (sc0:=defScope hW) (Nc:=["_law_cap","_law_box_here"]) (js:=[none,some 0]) (by decide +kernel)) (gX (aB 3)) (λ_ _ _ _ _ _=>(aK (i:=0) (show(["_law_cap","_law_box_here"]:List Str).Nodup by decide +kernel))) (λ_ _ _ _ _ _=>cM) (λ_ _ _ _ _ _=>(qc (aO T) hr (aA (aB 1) (aA (aJ opAdd (aB 0) aC) aD))))) aD)))
  (aE (aL (i:=7) bB.s.nd (bE (dQ (aA (aB 1) (aA (aJ opAdd aC (qc (aO T) hr (aA (aB 0) (aA (aB 1) aD)))) (aA (aJ opDiv (aB 1) aC) (aA (aJ opDiv (aB 1) aC) aD))))) (qc (aO T) hr (aA (aB 0) (aA aC aD)))))
  (aF (aR (aJ opAdd (aB 2) (aU (aA (aU (aA (aB 8) (aA (aB 7) aD))) aD))))))))))))⟩
def oO:FS:=mY.1
def hZ:Fn:=fnD 4 9 oO
theorem uD(T:Tx K mg a):Q0 P w K mg base 3 iH hZ:=q0 (dk T.t.d_l_second T.h bB) bB.s (mY.2 T)
abbrev rK:Bq Tx 7 jN:=⟨_,λT=>λhr =>
  (aE (oK (cP:=True) (i:=4) (j:=5) trivial cB.s.nd (aA (qc (eN T) hr (aA (aB 0) (aA (aB 1) (aA (aB 3) aD)))) (aA (qc (eN T) hr (aA (aB 0) (aA (aB 2) (aA (aB 3) aD)))) aD)))
  (aE (aL (i:=6) cB.s.nd (qc (eN T) hr (aA (aB 0) (aA (aJ opAdd (aB 1) (cU callTup rfl T.z_tuple bV (aA (eO rfl (CompOk.of (N0:=["_law_n_here","_law_one","_law_other","_law_caps_here","_law_first","_law_second_here","_law_less","_law_due"]) (sc0:=defScope jM) (Nc:=["_law_exponents","_law_number"]) (js:=[none,none]) (by decide +kernel)) (gX (aB 2)) (λ_ _ _ _ _ _=>(dA (n:=2) rfl (aM (aK (i:=0) (show(["_law_exponents","_law_number"]:List Str).Nodup by decide +kernel)) (aM (aK (i:=1) (show(["_law_exponents","_law_number"]:List Str).Nodup by decide +kernel)) bX)))) (λ_ _ _ _ _ _=>cM) (λ_ _ _ _ _ _=>(aU (aA (aB 0) (aA (aJ opSub aC (aB 1)) aD))))) aD))) (aA (aB 3) aD)))))
  (aE (aL (i:=7) cB.s.nd aDy)
  (aE (bY (aW (opNe (aN hr)) (aB 6) (aU aD) (nomark _))
  (aE (aL (i:=7) cB.s.nd (bE (bE (aB 6) aC) aC))
  (aF (bY (xS (uO (aW (opEq (aN hr)) (aJ opMod (aJ opSub (qc (gU T) hr (aA (aB 1) (aA (aB 7) aD))) (qc (gU T) hr (aA (aB 2) (aA (aB 7) aD)))) (aB 0)) aC (nomark _)) (mT (aW opGe (aKe rfl T.z_max (aB 7) aC) (aB 0) (nomark _)))))
  (aF (aR mW))
  bG)))
  bG)
  (aE (bY (aW (opNe (aN hr)) (xE (opEq (aN hr)) (aB 4) (aB 5) (nomark _)) (xE (opEq (aN hr)) (aB 6) (aU aD) (nomark _)) (nomark _))
  (aF (aR mW))
  bG)
  (aF (aR (aPk (qc (oA T) hr (aA (qc (eY T) hr (aA (aB 0) (aA (aB 4) (aA (aB 5) aD)))) (aA (aB 7) aD))) (aOp (qc (oA T) hr (aA (qc (eY T) hr (aA (aB 0) (aA (aB 5) (aA (aB 4) aD)))) (aA (aB 7) aD))))))))))))⟩
def qH:FS:=rK.1
def kO:Fn:=fnD 4 8 qH
theorem wY(T:Tx K mg a):Q0 P w K mg base 8 jN kO:=q0 (dk T.t.d_l_right T.h cB) cB.s (rK.2 T)
abbrev aLq:Bq Tx 8 aAv:=⟨_,λT=>λhr =>
  (aE (aL (i:=1) eG.s.nd (fY aD))
  (aE (bP aBI rfl (cO T.z_range (aV (callMax2 rfl) rfl T.z_max aPa (aA aC (aA (aV (callMin2 rfl) rfl T.z_min aDx (aA aC (aA (aV callLen rfl T.z_len aCY (aA (aB 0) aD)) aD))) aD)))) (aK (i:=2) eG.s.nd)
  (aE (aL (i:=3) eG.s.nd (qc (aEx T) hr (aA (aB 0) (aA (aB 2) aD))))
  (aE (aL (i:=4) eG.s.nd (bE (dQ (aA (qc (aNf T) hr (aA (aB 3) aD)) (aA (aJ opAdd aC (qc (aO T) hr (aA (aB 3) (aA aC aD)))) aD))) (qc (aO T) hr (aA (aB 3) (aA aC aD)))))
  (aE (aL (i:=5) eG.s.nd (qc (aCk T) hr (aA (aB 3) aD)))
  (aE (aL (i:=6) eG.s.nd (qc (mR T) hr (aA (aB 3) (aA (aV callLen rfl T.z_len aCY (aA (aB 5) aD)) (aA (aB 5) aD)))))
  (aF (jD (jV (aB 1) (aU (aA (aB 4) (aA (aB 6) (aA (qc (uD T) hr (aA (aB 3) (aA (aB 4) (aA (aB 6) (aA (aB 5) aD))))) (aA (aB 5) aD)))))))))))))
  (aF (aR (aV (callAllB rfl) rfl T.z_all aMy (aA (eO rfl (CompOk.of (N0:=["_law_script","_law_asked","_law_k","_law_box_here","_law_n_here","_law_caps_here","_law_one"]) (sc0:=defScope aGh) (Nc:=["_law_n_here","_law_one","_law_other","_law_caps_here"]) (js:=[none,none,none,none]) (by decide +kernel)) (gX (aJ opAdd (aB 1) (fN (aB 1) wH (vH aC)))) (λ_ _ _ _ _ _=>(dA (n:=4) rfl (aM (aK (i:=0) (show(["_law_n_here","_law_one","_law_other","_law_caps_here"]:List Str).Nodup by decide +kernel)) (aM (aK (i:=1) (show(["_law_n_here","_law_one","_law_other","_law_caps_here"]:List Str).Nodup by decide +kernel)) (aM (aK (i:=2) (show(["_law_n_here","_law_one","_law_other","_law_caps_here"]:List Str).Nodup by decide +kernel)) (aM (aK (i:=3) (show(["_law_n_here","_law_one","_law_other","_law_caps_here"]:List Str).Nodup by decide +kernel)) bX)))))) (λ_ _ _ _ _ _=>cM) (λ_ _ _ _ _ _=>(qc (wY T) hr (aA (aB 0) (aA (aB 1) (aA (aB 2) (aA (aB 3) aD))))))) aD))))))⟩
def aLo:FS:=aLq.1
def oR:Fn:=fnD 1 7 aLo
theorem aNk(T:Tx K mg a):Q0 P w K mg base 9 aAv oR:=q0 (dk T.t.d_law T.h eG) eG.s (aLq.2 T)
open PySem L2 EV LS
local macro_rules | `(tactic| rfl') => `(tactic| repeat decreasing_trivial_pre_omega)
local macro_rules | `(tactic| decreasing_trivial_pre_omega) => `(tactic| with_reducible first
 | apply xB
 | apply aNx
 | apply aBq
 | apply aRi
 | refine aRn (by with_unfolding_all exact rfl) ?_
 | apply aRl
 | apply aRk
 | apply aQq
 | apply aQk
 | apply aQl
 | apply xC
 | apply aQj
 | apply rW
 | apply aQc
 | apply aQu
 | apply aNt
 | apply aMk
 | apply aMs
 | (refine aLt ?hz ?_; case hz=>(with_unfolding_all first | exact rfl | decide | ((try simp only [aBO,true_and,and_true,aAM,aBV,aEQ,aCC,aIK]) <;> lia)))
 | (refine aMx ?hz ?_; case hz=>(with_unfolding_all first | decide | ((try simp only [mulOk,aBO,aAM,aBV,aEQ,aCC,aIK]) <;> lia)))
 | apply aOe
 | apply aDw
 | apply aNp
 | refine hG (by with_unfolding_all exact rfl) ?_
 | refine cL (by with_unfolding_all exact rfl) ?_
 | refine xP (by with_unfolding_all exact rfl) ?_
 | refine xI (by assumption) (by with_unfolding_all exact rfl) ?_
 | refine xI (aBZ (by simpa only [aIU])) (by with_unfolding_all exact rfl) ?_
 | apply aLd
 | apply aKs
 | apply aMw
 | apply aQx
 | apply aHz
 | apply aMc
 | refine aMl (by with_unfolding_all exact rfl) (by with_unfolding_all simp) ?_
 | refine aOc (by with_unfolding_all exact rfl) (by with_unfolding_all simp) ?_
 | refine aNe (by with_unfolding_all exact rfl) (by with_unfolding_all simp) ?_
 | apply aJx
 | apply rM
 | apply aKu
 | apply aIr
 | refine aJd (by assumption) ?_
 | apply aLa
 | apply aPh
 | apply aNg
 | apply aRg
 | apply aQb
 | apply aPy
 | apply aPb
 | apply aNn
 | apply aMi
 | apply aLx
 | apply aNo
 | refine aRc (s:=⟨[],none⟩) ?_
 | apply aIm
 | apply aJl
 | apply aRh
 | apply aOt
 | apply aOv
 | refine aNz (by with_unfolding_all exact rfl) ?_
 | apply aAk
 | refine aQs (by with_unfolding_all exact rfl) ?_
 | refine ⟨_,rfl,?_⟩
 | refine ⟨_,_,_,_,rfl,rfl,by assumption,by with_unfolding_all exact rfl,?_⟩
 | refine ⟨_,_,_,_,rfl,rfl,aBZ (by simpa only [aIU]),by with_unfolding_all exact rfl,?_⟩
 | refine aFq (by with_unfolding_all decide) ?_
 | refine gZ (by with_unfolding_all decide) ?_
 | refine ⟨fun h=>absurd h (by with_unfolding_all decide),fun _=>?_⟩
 | refine ⟨fun _=>?_,fun h=>absurd h (by with_unfolding_all decide)⟩
 | refine ⟨_,_,rfl,?_⟩
 | refine ⟨_,_,_,rfl,?_⟩
 | apply aDe
 | apply aHv
 | apply aJu)
variable{b:Nat}{m:Int}
theorem aP(h:Bx M b)(h0:0 < m)(h1:m < 18446744073709551616):Ok (tK [.ref b,.d (.int m)] M) λw M'=>∃d:Int,w=.d (.int d)/\0<=d/\d < m/\Nx b M M':=by
 have hb:=h.lt;obtain⟨x,y,z,e⟩:=h;refine bN rfl ?_;unfold uF
 rfl'
 refine dN (λhx=>?_) (λhx=>?_)
 ·rfl'
  refine⟨aCO _ (by lia),aCN _ h0,x / m,y,z,?_⟩;rw[aCJ (by simp)];rfl
 ·rfl'
  refine⟨aCO _ (by lia),aCN _ h0,?_⟩;rw[aCJ (by simp)];exact⟨_,_,_,by rw[List.set_set];rfl⟩
variable{k:Int}
theorem aHn(h0:0<=k)(hl:ns.length<=63):Ok (aAm [.d (.fz (ns.map D.int)),.d (.int k)] M) λw M'=>∃x y z,w=.ref M.length/\M'=M++[[.int x,.int y,.int z]]:=by
 refine aOz rfl ?_;have at_:∀i:Int,0<=i->i < (ns.length:Int)->∃n,atI (ns.map D.int) i=some (.int n):=λi a b=>by
  have hi:i.toNat < ns.length:=by lia
  refine⟨ns[i.toNat],?_⟩;simp only[atI,ixN,aAM];rw[aAG a,aAG b];simp[hi]
 unfold zN
 rfl'
 refine dN (λhx=>?_) (λhx=>?_)
 ·rw[aAM]at hx
  obtain⟨n,e⟩:=at_ k h0 hx
  rfl'
  refine xP e ?_
  rfl'
  refine cL (atBox _) ?_
  rfl'
  exact⟨M.length,[.int _,.int _,.int _],rfl,aAD _,aFC,_,_,_,rfl,by rw[aJH]⟩
 ·rfl'
  refine dN (λhy=>?_) (λhy=>?_)
  ·rw[aAM]at hy
   obtain⟨n,e⟩:=at_ (k % ns.length) (aCO _ (by lia)) (aCN _ hy)
   rfl'
   rw[aAM];refine xP e ?_
   rfl'
   refine cL (atBox _) ?_
   rfl'
   exact⟨M.length,[.int _,.int _,.int _],rfl,aAD _,aFC,_,_,_,rfl,by rw[aJH]⟩
  ·rfl'
   refine cL (atBox _) ?_
   rfl'
   exact⟨M.length,[.int _,.int _,.int _],rfl,aAD _,aFC,_,_,_,rfl,by rw[aJH]⟩
theorem aPg(hb:Bx M b):Ok (aGm [.ref b] M) λw M'=>∃n:Int,w=.d (.int n)/\2<=n/\n<=1000000/\Nx b M M':=by
 have n:=Nx.refl hb;unfold aGm;refine bN rfl ?_;unfold aLj
 rfl'
 (refine(aP hb (by lia) (by lia)).mono ?_;rintro _ _ ⟨d1,rfl,l_d1,u_d1,n'⟩;replace n:=n.trans n';replace hb:=n'.bx hb;clear n')
 rfl'
 (refine(aP hb (by lia) (by lia)).mono ?_;rintro _ _ ⟨d2,rfl,l_d2,u_d2,n'⟩;replace n:=n.trans n';replace hb:=n'.bx hb;clear n')
 obtain⟨v,ev,mv⟩:=atInts (ns:=[2,3,4,5,6,7,8,9,12,16,30,36,49,64,91,97,210,1009,65536,999983,999999,1000000]) l_d2 (by simpa using u_d2);have hv:∀x∈[2,3,4,5,6,7,8,9,12,16,30,36,49,64,91,97,210,1009,65536,999983,999999,(1000000:Int)],2<=x/\x<=1000000:=by decide
 refine cL ev ?_
 rfl'
 refine dN (λ_=>?_) (λ_=>?_)
 ·rfl'
  (refine(aP hb (by lia) (by lia)).mono ?_;rintro _ _ ⟨d3,rfl,l_d3,u_d3,n'⟩;replace n:=n.trans n';replace hb:=n'.bx hb;clear n')
  rfl'
  rw[n.take];exact⟨by lia,by lia,n⟩
 ·rfl'
  refine dN (λ_=>?_) (λ_=>?_)
  ·rfl'
   (refine(aP hb (by lia) (by lia)).mono ?_;rintro _ _ ⟨d3,rfl,l_d3,u_d3,n'⟩;replace n:=n.trans n';replace hb:=n'.bx hb;clear n')
   rfl'
   rw[n.take];exact⟨by lia,by lia,n⟩
  ·rfl'
   rw[n.take];exact⟨(hv v mv).1,(hv v mv).2,n⟩
theorem oE{n:Int}(hn:2<=n)(hn2:n<=1000000)(hu:∃v,IsIv n k v):Ok (fH [.d (.int n),.d (.int k)] M) λw M'=>w=.d (.int (iv n k))/\M'=M:=by
 unfold fH;refine bN rfl ?_;unfold lG
 rfl'
 refine(kE (QS:=λo M'=>M'=M/\∃h p q t,o=.nx [some (.d (.int n)),some (.d (.int k)),some (.d (.int h)),some (.d (.int 0)),some (.d (.int p)),some (.d (.int q)),t]/\0 < h/\h<=n/\Cg n (p*k) h/\h ∣ n/\h ∣ k)
  (I:=λm L M'=>M'=M/\∃(h l p q:Int) (t:Option W),L=[some (.d (.int n)),some (.d (.int k)),some (.d (.int h)),some (.d (.int l)),some (.d (.int p)),some (.d (.int q)),t]/\m=l.toNat/\0 < h/\h<=n/\0<=l/\l<=n/\Cg n (p*k) h/\Cg n (q*k) l/\∀c:Int,c ∣ h->c ∣ l->c ∣ n/\c ∣ k) ?_ NW (k % n).toNat _ _
  ⟨rfl,n,k % n,0,1,none,rfl,rfl,by lia,by lia,aCO _ (by lia),Int.le_of_lt (aCN _ (by lia)),⟨-1,by grind⟩,?_,?_⟩ ?_).mono ?_
 ·rintro m L _ ⟨rfl,h,l,p,q,t,rfl,rfl,h0,h1,l0,l1,c1,c2,hd⟩
  rfl'
  refine⟨λhl=>?_,λhl=>?_⟩
  ·have hl:0 < l:=by simpa using hl
   have e:h - h / l*l=h % l:=by rw[Int.emod_def,Int.mul_comm]
   have ht0:0<=h / l:=Int.ediv_nonneg (by lia) (by lia);have ht1:h / l<=h:=Int.ediv_le_self _ (by lia)
   rfl'
   rw[e];have em1:=aCO h (by lia:l≠0);have em2:=aCN h hl;refine⟨(h % l).toNat,by lia,rfl,l,h % l,q,p - h / l*q,_,rfl,rfl,hl,by lia,em1,by lia,c2,?_,?_⟩
   ·rw[<- e]
    exact(Cg.of_eq (by grind)).trans (Cg.sub c1 (Cg.mul (Cg.rfl (a:=h / l)) c2))
   ·intro c g1 g2
    refine hd c ?_ g1;have:=aIE g2 (aIF g1 (Int.dvd_mul_left (h / l) l));rwa[<- e,show h - h / l*l+h / l*l=h by lia]at this
  ·have hl:l=0:=by simp at hl;lia
   subst hl;have:=hd h (Int.dvd_refl h) (Int.dvd_zero h);exact⟨rfl,h,p,q,t,rfl,h0,h1,c1,this.1,this.2⟩
 ·exact(Cg.of_eq (by grind)).trans (Cg.mod (a:=k)).symm
 ·intro c g1 g2
  refine⟨g1,?_⟩;have:=aIE g2 (aIF g1 (aHY n (k / n)));rwa[Int.emod_add_mul_ediv]at this
 ·rw[aGl];have:=aCN k (by lia:0 < n);lia
 ·rintro _ _ ⟨rfl,h,p,q,t,rfl,h0,h1,c1,d1,d2⟩
  have pn:=aCO p (by lia:n≠0);have pl:=aCN p (by lia:0 < n);have h1:h=1:=by
   obtain⟨v,v0,v1,e⟩:=hu;obtain⟨z,hz⟩:=Cg.of e;have:h ∣ 1:=by
    have g1:h ∣ k*v:=Int.dvd_mul_of_dvd_left d2;rw[hz]at g1;exact(Int.dvd_add_left (Int.dvd_mul_of_dvd_left d1)).mp g1
   have:=Int.le_of_dvd (by lia) this;lia
  subst h1
  rfl'
  rw[aLn (n:=n) (u:=k) (v:=p % n) ⟨pn,pl,Cg.emod ((Cg.mul Cg.rfl Cg.mod).trans ((Cg.of_eq (Int.mul_comm _ _)).trans c1))⟩];exact⟨rfl,by simp⟩
theorem mI{d:D}(hl:noL d=true)(hs:sz d<=16777216):Ok (qJ [.d d,.d d] M) λw M'=>w=.d (.bl true)/\M'=M:=by
 refine bN rfl ?_;unfold qR
 rfl'
 refine(kE (QS:=λo M'=>∃a b,o=.nx [some (.d d),some (.d d),some (.ref M.length),a,b]/\∃s,M'=M++[s]) (I:=λm L M'=>∃(ds:List D) (a b:Option W),m=szs ds/\(∀x∈ds,noL x=true)/\m<=16777216/\M'=M++[ds.map λx=>.tup [x,x]]/\L=[some (.d d),some (.d d),some (.ref M.length),a,b]) ?_ NW (sz d) _ _ ⟨[d],none,none,by simp[szs],by simpa using hl,hs,rfl,rfl⟩ (by rw[aGl];lia)).mono ?_
 ·rintro m L M' ⟨ds,a,b,rfl,hn,hm,rfl,rfl⟩
  have g:(M++[ds.map λx=>D.tup [x,x]])[M.length]?=some (ds.map λx=>.tup [x,x]):=by simp
  rfl'
  refine⟨λh=>?_,λh=>⟨a,b,rfl,_,rfl⟩⟩;have hne:ds≠[]:=by rintro rfl;simp at h
  obtain⟨ds',x,rfl⟩:∃ds' x,ds=ds'++[x]:=⟨ds.dropLast,ds.getLast hne,(List.dropLast_concat_getLast hne).symm⟩
  have hx:noL x=true:=hn x (by simp);have hn':∀y∈ds',noL y=true:=λy hy=>hn y (by simp[hy])
  rw[iB]at hm ⊢;have se:szs [x]=sz x:=by simp[szs]
  rw[se]at hm ⊢;have hp:=aHe x
  rfl'
  refine aOn (xs:=ds'.map λx=>.tup [x,x]) (d:=.tup [x,x]) (by simp) ?_;rw[show(M++[(ds'++[x]).map λx=>D.tup [x,x]]).set M.length (ds'.map λx=>.tup [x,x])=M++[ds'.map λx=>.tup [x,x]] by simp];have g':(M++[ds'.map λx=>D.tup [x,x]])[M.length]?=some (ds'.map λx=>.tup [x,x]):=by simp
  rfl'
  cases x with
  |tup xs =>
   rfl'
   refine gZ (by simp) ?_
   rfl'
   have hz:szs xs+1=sz (.tup xs):=by simp[sz]
   refine aMp rfl rfl ?_;have hle:=tI xs;have hle':=tI ds';refine qN (xs:=ds'.map λx=>.tup [x,x]) (ys:=zipT xs xs) g' rfl (by simp[zipT];lia) ?_;rw[show zipT xs xs=xs.map (λx=>.tup [x,x]) by unfold zipT;clear hz hle hle' hx hn hm g h hne se hp;induction xs with|nil=>rfl|cons a t ih=>rw[aGA,aAK,aAK,ih]];refine⟨szs ds'+szs xs,by lia,ds'++xs,_,_,by rw[iB],?_,by lia,by simp,rfl⟩;intro y hy;rcases aCH.mp hy with hy|hy
   ·exact hn' y hy
   ·exact aIi hx hy
  |non =>
   rfl'
   refine pR (a:=.non) (b:=.non) rfl rfl (by simp[dep,deps]) ?_
   rfl'
   exact⟨szs ds',by lia,ds',_,_,rfl,hn',by lia,rfl,rfl⟩
  |bl b =>
   rfl'
   refine gZ (by simp) ?_
   rfl'
   exact⟨szs ds',by lia,ds',_,_,rfl,hn',by lia,rfl,rfl⟩
  |int b =>
   rfl'
   refine gZ (by simp) ?_
   rfl'
   exact⟨szs ds',by lia,ds',_,_,rfl,hn',by lia,rfl,rfl⟩
  |str b =>
   rfl'
   refine gZ (by simp) ?_
   rfl'
   exact⟨szs ds',by lia,ds',_,_,rfl,hn',by lia,rfl,rfl⟩
  |lst b=>simp[noL]at hx
  |fz b=>simp[noL]at hx
  |exn c f b=>simp[noL]at hx
  |adr b=>simp[noL]at hx
 ·rintro o M' ⟨a,b,rfl,s,rfl⟩
  rfl'
  exact by simp
theorem vY{a b:Int}(ha:0<=a)(hb:0<=b)(hb2:b<=4000000000000000000):Ok (iK [.d (.int a),.d (.int b)] M) λw M'=>M'=M/\∃g:Int,w=.d (.int g)/\0<=g/\g ∣ a/\g ∣ b/\∃x y,a*x+b*y=g:=by
 unfold iK;refine bN rfl ?_;unfold uY
 rfl'
 refine(kE (QS:=λo M'=>M'=M/\∃g t,o=.nx [some (.d (.int g)),t]/\0<=g/\g ∣ a/\g ∣ b/\∃x y,a*x+b*y=g)
  (I:=λm L M'=>M'=M/\∃(h l:Int),L=[some (.d (.int h)),some (.d (.int l))]/\m=l.toNat/\0<=h/\0<=l/\l<=4000000000000000000/\(∃x y,a*x+b*y=h)/\(∃x y,a*x+b*y=l)/\∀c:Int,c ∣ h->c ∣ l->c ∣ a/\c ∣ b) ?_ NW b.toNat _ _
  ⟨rfl,a,b,rfl,rfl,ha,hb,hb2,⟨1,0,by lia⟩,⟨0,1,by lia⟩,λc h1 h2=>⟨h1,h2⟩⟩ (by rw[aGl];lia)).mono ?_
 ·rintro m L _ ⟨rfl,h,l,rfl,rfl,h0,l0,l1,⟨x1,y1,e1⟩,⟨x2,y2,e2⟩,hd⟩
  rfl'
  refine⟨λhl=>?_,λhl=>?_⟩
  ·have hl:0 < l:=by simpa using hl
   have em1:=aCO h (by lia:l≠0);have em2:=aCN h hl;have e:h - l*(h / l)=h % l:=by rw[Int.emod_def]
   rfl'
   refine⟨(h % l).toNat,by lia,rfl,l,h % l,rfl,rfl,by lia,em1,by lia,⟨x2,y2,e2⟩,⟨x1 - x2*(h / l),y1 - y2*(h / l),?_⟩,?_⟩
   ·rw[<- e,<- e1,<- e2];grind
   ·intro c g1 g2
    refine hd c ?_ g1;have:=aIE g2 (aIF g1 (aHY l (h / l)));rwa[<- e,show h - l*(h / l)+l*(h / l)=h by lia]at this
  ·have hl:l=0:=by simp at hl;lia
   subst hl;have:=hd h (Int.dvd_refl h) (Int.dvd_zero h);exact⟨rfl,h,_,rfl,h0,this.1,this.2,x1,y1,e1⟩
 ·rintro _ _ ⟨rfl,g,t,rfl,h0,d1,d2,x,y,e⟩
  rfl'
  exact⟨by simp,_,rfl,h0,d1,d2,x,y,e⟩
open PySem L2 EV LS FM
theorem nC{a:Nat}(hb:(b:Int)<=4000000000000000000):Ok (iK [.d (.int a),.d (.int b)] M) λw M'=>M'=M/\w=.d (.int (Nat.gcd a b:Nat))/\∃x y,(a:Int)*x+b*y=((Nat.gcd a b:Nat):Int):=by
 refine(vY (by lia) (by lia) (by lia)).mono ?_;rintro w M' ⟨rfl,g,rfl,h0,h1,h2,x,y,h3⟩;obtain⟨k,rfl⟩:∃k:Nat,g=k:=⟨g.toNat,by lia⟩
 have e:k=Nat.gcd a b:=by
  apply Nat.dvd_antisymm
  ·exact Nat.dvd_gcd (aEX.mp h1) (aEX.mp h2)
  ·apply aEX.mp
   rw[<- h3];exact aIE (aIF (aEX.mpr (aDA a b)) (aHY _ _)) (aIF (aEX.mpr (aEB a b)) (aHY _ _))
 rw[<- e];exact⟨rfl,rfl,x,y,h3⟩
theorem xO{a:Nat}(hb:(b:Int)<=4000000000000000000):Ok (mQ [.d (.int a),.d (.int b)] M) λw M'=>M'=M/\w=.d (.int (Nat.gcd a b:Nat))/\∃x y,(a:Int)*x+b*y=((Nat.gcd a b:Nat):Int):=nC hb
theorem aCm{e:Nat}(hn:1<=n)(hn2:n<=1000000)(he:e<=1000):Ok (yH [.d (.int n),.d (.int e)] M) λw M'=>M'=M/\w=.d (.int (rmN n (fct e):Nat)):=by
 unfold yH;refine bN rfl ?_;unfold aHh
 rfl'
 refine⟨_,_,rfl,rfl,⟨by simp[in62],by simp[in62];lia⟩,?_⟩;refine uK (λi L M'=>M'=M/\∃o2,L=[some (.d (.int (rmN n (fct (i+1)):Nat))),some (.d (.int e)),o2]) ⟨rfl,none,?_⟩ (λi L M _ _ t e=>by cases e) ?_ ?_
 ·show _=_
  rw[show fct (0+1)=1 from rfl,zD];rfl
 ·rintro i d _ _ hx ⟨rfl,o2,rfl⟩
  obtain⟨hi,rfl⟩:=cE hx;rw[show(2:Int)+(i:Nat)=((i+2:Nat):Int) by lia];have hi:i+2<=e:=by lia
  obtain⟨m,hm⟩:∃m,m=rmN n (fct (i+1)):=⟨_,rfl⟩
  have m1:0 < m:=hm▸bU hn;rw[<- hm]
  rfl'
  refine dN (λh=>?_) (λh=>?_)
  ·have h:m=1:=by lia
   rfl'
   refine⟨aBA,?_⟩;obtain⟨j,hj⟩:∃j,e=i+1+j:=⟨e - (i+1),by lia⟩
   rw[hj,qU hn (hm▸h) j];rfl
  ·rfl'
   refine(nC (by lia)).mono ?_;rintro _ M' ⟨rfl,rfl,_⟩;have g0:0 < m.gcd (i+2):=aDJ _ m1;have g1:m.gcd (i+2)<=m:=Nat.gcd_le_left _ m1;have g2:m<=n:=by rw[hm];exact kP
   refine aLt (by simp only[aBO];lia) ?_
   rfl'
   refine⟨rfl,some (.d (.int (i+2:Nat))),?_⟩;have e2:(m:Int) / ((m.gcd (i+2):Nat):Int)=((rmN n (fct (i+1+1)):Nat):Int):=by
    rw[<- Int.natCast_ediv,show fct (i+1+1)=fct (i+1)*(i+2)from rfl,<- iS hn,<- hm];rfl
   rw[<- e2];rfl
 ·rintro L _ ⟨rfl,o2,rfl⟩
  rfl'
  refine⟨aBA,?_⟩;have e0:(rngD 2 ((e:Int)+1 - 2).toNat).length=e - 1:=by simp[rngD];lia
  show W.d (.int (rmN n (fct ((rngD 2 ((e:Int)+1 - 2).toNat).length+1)):Nat))=_;rw[e0];cases e with
  |zero=>rfl|succ e=>rfl
theorem sN{s:List Nat}(hn:1<=n)(hn2:n<=1000000)(hs:∀e∈s,e<=1000):Ok (jR [.d (.int n),.d (iD s)] M) λw M'=>M'=M/\w=.d (.int (rmN n (fcts s):Nat)):=by
 unfold jR;refine bN rfl ?_;unfold rB
 rfl'
 refine bH (λi L M'=>M'=M/\∃o2,L=[some (.d (.int (rmN n (fcts (s.take i)):Nat))),some (.d (iD s)),o2]) ⟨rfl,none,?_⟩ (λi L M _ _ t e=>by cases e) ?_ ?_
 ·show _=_
  rw[show fcts (s.take 0)=1 by simp[fcts],zD];rfl
 ·rintro i d _ _ hx ⟨rfl,o2,rfl⟩
  rw[aAV,aAR]at hx;obtain⟨e,he,rfl⟩:=hx;have e1:=hs e (aAQ he);have m1:0 < rmN n (fcts (s.take i)):=bU hn;have m2:rmN n (fcts (s.take i))<=n:=kP
  rfl'
  refine(aCm m1 (by lia) e1).mono ?_;rintro _ M' ⟨rfl,rfl⟩
  rfl'
  refine⟨rfl,some (.d (.int e)),?_⟩;have e2:rmN (rmN n (fcts (s.take i))) (fct e)=rmN n (fcts (s.take (i+1))):=by
   rw[iS hn,aBX,he];simp[jJ,nT]
  rw[<- e2];rfl
 ·rintro L _ ⟨rfl,o2,rfl⟩
  rfl'
  refine⟨aBA,?_⟩;simp
structure Tm(many:Nat)(ts:Ts):Prop where
 nd:(ks ts).Nodup
 ln:∀s∈ks ts,s.length=many
 e8:∀s∈ks ts,∀e∈s,e<=8
theorem Tm.put{many:Nat}{s:List Nat}{x:Int}(h:Tm many ts)(h1:s.length=many)(h2:∀e∈s,e<=8):Tm many (tput s x ts) :=
 ⟨aBu h.nd,λt ht=>(zU ht).elim (λe=>e▸h1) (h.ln t),λt ht=>(zU ht).elim (λe=>e▸h2) (h.e8 t)⟩
variable{s:List Nat}
theorem zK(h:i < s.length):atI (s.map λe:Nat=>D.int (e:Nat)) (i:Nat)=some (.int (s.getD i 0:Nat)):=by
 simp[atI,ixN,h,List.getD]
def rst(n:Nat)(ts:Ts):Ts:=ts.map λt=>(t.1,t.2 % ((rmN n (fcts t.1):Nat):Int))
theorem iP{many:Nat}{ts:Ts}(hn:2<=n)(hn2:n<=1000000)(hj:M[j]?=some (ts.map tD))(h:Tm many ts)(hm:many<=1000)(few:ts.length<=1000000):Ok (kS [.d (.int n),.ob "dict" j] M) λw M'=>M'=M.set j (.bl true::ts.map tD)/\∃us:Ts,w=.d (.tup (us.map tD))/\Frm n many (λs=>tg s ts) us:=by
 unfold kS;refine bN rfl ?_;unfold rL
 rfl'
 refine cF (λi acc L' M'=>M'=M.set j (.bl true::ts.map tD)/\acc=(rst n (ts.take i)).map tD/\∃a b,L'=[a,b,some (.d (.int n))]) ?_
 rfl'
 refine⟨j,ts.map tD,rfl,hj,?_⟩;rw[yN];refine⟨⟨rfl,rfl,none,none,rfl⟩,?_,by simp;lia,?_,?_⟩
 ·rintro i acc L' M' hi ⟨rfl,rfl,_⟩
  exact⟨rfl,(λt e=>by cases e),by simp[rst];lia⟩
 ·rintro i d acc _ _ hd ⟨rfl,rfl,a,b,rfl⟩
  rw[aAV,aAR]at hd;obtain⟨t,ht,rfl⟩:=hd;have tm:=aAQ ht;have t8:=h.e8 t.1 (aDO tm);obtain⟨s,v⟩:=t;simp only at t8;rw[show tD (s,v)=.tup [iD s,.int v]from rfl]
  rfl'
  refine(sN (by lia) hn2 λe he=>by have:=t8 e he;lia).mono ?_;rintro _ _ ⟨rfl,rfl⟩;have r0:0 < rmN n (fcts s):=bU (by lia);have r1:rmN n (fcts s)<=n:=kP
  rfl'
  exact⟨_,_,rfl,rfl,rfl,by rw[aBX,ht];simp[rst,tD],_,_,rfl⟩
 rintro acc _ _ ⟨rfl,rfl,a,b,rfl⟩;rw[show(ts.take (⟨ts.map tD,none⟩:Src).ds.length)=ts by simp]
 rfl'
 refine cF (λi acc L' M'=>M'=M.set j (.bl true::ts.map tD)/\acc=(((rst n ts).take i).filter λt=>decide (0 < t.2)).map tD/\∃a b,L'=[a,b]) ?_
 rfl'
 refine⟨⟨rfl,rfl,none,none,rfl⟩,?_,by simp[rst];lia,?_,?_⟩
 ·rintro i acc L' M' hi ⟨rfl,rfl,_⟩
  refine⟨rfl,(λt e=>by cases e),?_⟩;have:=List.length_filter_le (λt:List Nat×Int=>decide (0 < t.2)) ((rst n ts).take i);rw[aAM];rw[aDT]at this;lia
 ·rintro i d acc _ _ hd ⟨rfl,rfl,a,b,rfl⟩
  rw[aAV,aAR]at hd;obtain⟨t,ht,rfl⟩:=hd;rw[aBX,ht,List.filter_append];obtain⟨s,v⟩:=t;rw[show tD (s,v)=.tup [iD s,.int v]from rfl]
  rfl'
  refine⟨λh=>?_,λh=>?_⟩
  ·have h:0 < v:=by simpa using h
   rfl'
   exact⟨_,_,rfl,rfl,rfl,by simp[h,tD],_,_,rfl⟩
  ·have h:¬0 < v:=by simpa using h
   exact⟨_,rfl,rfl,by simp[h],_,_,rfl⟩
 rintro acc _ _ ⟨rfl,rfl,a,b,rfl⟩;rw[show(⟨(rst n ts).map tD,none⟩:Src).ds.length=(rst n ts).length by simp,aBA];have nd2:(ks ((rst n ts).filter λt=>decide (0 < t.2))).Nodup:=by
  have e:ks (rst n ts)=ks ts:=by simp[ks,rst]
  exact List.Nodup.sublist (List.filter_sublist.map _) (show(ks (rst n ts)).Nodup by rw[e];exact h.nd)
 have few2:((rst n ts).filter λt=>decide (0 < t.2)).length<=1000000:=by
  have:=List.length_filter_le (λt:List Nat×Int=>decide (0 < t.2)) (rst n ts);simp only[rst,aAM]at this ⊢;lia
 obtain⟨us,e,p,o⟩:=aOi nd2 few2
 rfl'
 refine aGd rfl (aLr nd2 few2) ?_
 rfl'
 rw[e]
 rfl'
 refine jL rfl ?_
 rfl'
 refine⟨?_,us,rfl,aLy (by lia) h.nd h.ln p o⟩;rw[show M.length=(M.set j (.bl true::ts.map tD)).length by simp,aBA]
abbrev nsD(zs:List Nat):List D:=zs.map λz:Nat=>D.int (z:Nat)
def ptT(zs:List Nat)(t:Nat):List (List Nat):=(zs.take t).foldl ptf [[]]
variable{z:Nat}
theorem aAe{l:List (List Nat)}:(ptf l z).length=l.length*z:=by
 induction l with
 |nil=>simp[ptf]|cons a l ih =>
  unfold ptf at ih ⊢;rw[List.flatMap_cons,aCC,ih,aAM,aHW,aBV,Nat.succ_mul];lia
variable{t:Nat}
theorem vA(h:zs[t]?=some z):ptT zs (t+1)=ptf (ptT zs t) z:=by
 unfold ptT;rw[aBX,h,List.foldl_append];rfl
theorem sE{zs:List Nat}(h9:∀z∈zs,z<=9):∀t,t<=zs.length->(ptT zs t).length<=9 ^ t
 |0,_=>by simp[ptT]|t+1,h=>by
  have h1:zs[t]?=some zs[t]:=by simp
  rw[vA h1,aAe,Nat.pow_succ];exact Nat.mul_le_mul (sE h9 t (by lia)) (h9 _ (aCQ _))
def ptW(n t:Nat):W:=if t=0 then .d (.lst [.tup []])else .ref (n+t - 1)
theorem pA{zs:List Nat}(hz:zs.length<=4)(h9:∀z∈zs,z<=9):Ok (iI [.d (.lst (nsD zs))] M) λw M'=>M'=M/\w=.d (.lst ((pts zs).map iD)):=by
 unfold iI;refine bN rfl ?_;unfold mJ
 rfl'
 refine bH (λt L M'=>M'=M++(List.range t).map (λi=>(ptT zs (i+1)).map iD)/\∃o2 o3 o4,L=[some (.d (.lst (nsD zs))),some (ptW M.length t),o2,o3,o4]) ⟨by simp,none,none,none,rfl⟩ (λi L M _ _ t e=>by cases e) ?_ ?_
 ·rintro t d _ _ hx ⟨rfl,o2,o3,o4,rfl⟩
  rw[aAV,aAR]at hx;obtain⟨z,hzt,rfl⟩:=hx;have ht:=(aAF.mp hzt).1;have z9:=h9 z (aAQ hzt);have pl:=sE h9 t (by lia);have pl2:(ptT zs t).length<=9 ^ 4:=aBS pl (Nat.pow_le_pow_right (by lia) (by lia));generalize eM:M++(List.range t).map (λi=>(ptT zs (i+1)).map iD)=M1;have lM:M1.length=M.length+t:=by subst eM;simp
  have hrow:1<=t->M1[M.length+t - 1]?=some ((ptT zs t).map iD):=λh=>by
   subst eM;rw[aBU (by lia),show M.length+t - 1 - M.length=t - 1 by lia,aAV,aJD (by lia)];rw[aEO,show t - 1+1=t by lia]
  have hs:∃k:Option Ck,srcOf (M1++[[]]) (ptW M.length t)=some ⟨(ptT zs t).map iD,k⟩/\∀acc,Chk ⟨(ptT zs t).map iD,k⟩ (M1++[acc]):=by
   by_cases h:t=0
   ·subst h;exact⟨none,rfl,λacc t e=>by cases e⟩
   ·have hr:=hrow (by lia)
    refine⟨some (.one (M.length+t - 1)),?_,?_⟩
    ·unfold ptW
     rw[aAH h];show Option.map _ ((M1++[[]])[M.length+t - 1]?)=_;rw[aAW (by lia),hr];rfl
    ·rintro acc c e
     cases e;show(M1++[acc])[M.length+t - 1]?=_;rw[aAW (by lia)];exact hr
  obtain⟨k,hk,hc⟩:=hs
  rfl'
  refine⟨_,hk,?_⟩;refine bH (λj L M'=>M'=M1++[(ptf ((ptT zs t).take j) z).map iD]/\∃o4,L=[some (.d (.lst (nsD zs))),some (ptW M.length t),some (.d (.int z)),some (.ref M1.length),o4]) ⟨by simp[ptf],o4,rfl⟩ (λi L M' _ hh=>by rw[hh.1];exact hc _) ?_ ?_
  ·rintro j d _ _ hd ⟨rfl,o4,rfl⟩
   rw[aAV,aAR]at hd;obtain⟨s,hs,rfl⟩:=hd;have hj:=(aAF.mp hs).1;have sl:s.length<=4:=by
    have:=aAQ hs;unfold ptT at this;obtain⟨p,hp,r,rfl,hr⟩:=oY.mp this;have:=hr.len;simp at hp this;subst hp;simp;lia
   have tl:(ptf ((ptT zs t).take j) z).length<=9 ^ 4*9:=by
    rw[aAe];exact Nat.mul_le_mul (by rw[aDT];lia) z9
   have e0:(rngD 0 ((z:Int)).toNat).map (λd=>D.tup (nsD s++[d]))=((List.range z).map λx=>s++[x]).map iD:=by
    simp[rngD,iD]
   rfl'
   refine tO ?_
   rfl'
   refine⟨by simp only[in62,aBO];lia,λd=>.tup (nsD s++[d]),by simp[rngD];lia,(λt e=>by cases e),?_,?_⟩
   ·rintro d hd acc
    rw[show iD s=.tup (nsD s)from rfl]
    rfl'
    refine eI (by simp;lia) ?_;exact⟨rfl,rfl⟩
   ·rw[e0]
    rfl'
    refine yK (λz h=>by cases h) (xs:=(ptf ((ptT zs t).take j) z).map iD) (ys:=((List.range z).map λx=>s++[x]).map iD) (by simp) rfl (by simp;lia) ?_;refine⟨?_,_,rfl⟩;rw[aBX,hs];simp[ptf]
  ·rintro L _ ⟨rfl,o4,rfl⟩
   rfl'
   refine⟨?_,some (.d (.int z)),some (.ref M1.length),o4,?_⟩
   ·rw[show((⟨(ptT zs t).map iD,k⟩:Src).ds.length)=(ptT zs t).length by simp,aBA,<- vA hzt,List.range_succ,aDR,<- aDE,eM];rfl
   ·unfold ptW
    rw[aAH (Nat.succ_ne_zero t)];simp[lM]
 ·rintro L _ ⟨rfl,o2,o3,o4,rfl⟩
  rfl'
  have e0:(⟨nsD zs,none⟩:Src).ds.length=zs.length:=by simp
  rw[e0];by_cases h:zs.length=0
  ·have:zs=[]:=aEY.mp h
   subst this;refine aAk ?_;exact⟨by simp,rfl⟩
  ·unfold ptW
   rw[aAH h];refine aIl (by lia) (xs:=(pts zs).map iD) ?_ ?_
   ·rw[aBU (by lia),show M.length+zs.length - 1 - M.length=zs.length - 1 by lia,aAV,aJD (by lia)]
    rw[aEO,show zs.length - 1+1=zs.length by lia];unfold ptT;rw[aBA];rfl
   ·exact⟨by simp,rfl⟩
theorem oI(h8:∀e∈s,e<=8):Ok (fA [.d (iD s)] M) λw M'=>M'=M/\w=.d (.int (fcts s:Nat)):=by
 unfold fA;refine bN rfl ?_;unfold lA
 rfl'
 refine bH (λi L M'=>M'=M/\∃o2 o3,L=[some (.d (iD s)),some (.d (.int (fcts (s.take i):Nat))),o2,o3]) ⟨rfl,none,none,rfl⟩ (λi L M _ _ t e=>by cases e) ?_ ?_
 ·rintro i d _ M hx ⟨rfl,o2,o3,rfl⟩
  rw[aAV,aAR]at hx;obtain⟨e,he,rfl⟩:=hx;have e8:=h8 e (aAQ he)
  rfl'
  refine⟨_,_,rfl,rfl,⟨by decide,by simp only[in62,aBO];lia⟩,?_⟩;refine bH (λj L M'=>M'=M/\∃o3,L=[some (.d (iD s)),some (.d (.int (fcts (s.take i)*fct (j+1):Nat))),some (.d (.int (e:Nat))),o3]) ⟨rfl,o3,by simp[fct]⟩ (λi L M _ _ t e=>by cases e) ?_ ?_
  ·rintro j d _ M hx ⟨rfl,o3,rfl⟩
   obtain⟨hj,rfl⟩:=cE hx
   rfl'
   refine⟨rfl,some (.d (.int (2+(j:Nat)))),?_⟩;have:((fcts (s.take i)*fct (j+1):Nat):Int)*(2+(j:Nat))=((fcts (s.take i)*fct (j+1+1):Nat):Int):=by
    rw[show fct (j+1+1)=fct (j+1)*(j+2)from rfl];push_cast;grind
   rw[this];rfl
  ·rintro L _ ⟨rfl,o3,rfl⟩
   rfl'
   refine⟨rfl,some (.d (.int (e:Nat))),o3,?_⟩;have e0:(rngD 2 ((e:Int)+1 - 2).toNat).length=e - 1:=by simp[rngD];lia
   have e1:fct (e - 1+1)=fct e:=by cases e <;> rfl
   have e2:fcts (s.take (i+1))=fcts (s.take i)*fct e:=by
    rw[aBX,he];simp[jJ,nT]
   rw[e2,<- e1,<- e0]
 ·rintro L _ ⟨rfl,o2,o3,rfl⟩
  rfl'
  refine⟨aBA,?_⟩;simp
def pz:List (Nat×Nat)->Int
 |[]=>1|q::r=>(q.2:Int) ^ q.1*pz r
theorem aEb:∀{x y:List (Nat×Nat)},pz (x++y)=pz x*pz y
 |[],y=>by simp[pz]|q::x,y=>by rw[List.cons_append,pz,pz,aEb,aGV]
theorem aOh{e x:Nat}:pz [(e,x)]=(x:Int) ^ e:=by simp[pz]
theorem aEh:∀{es ps:List Nat},es.length=ps.length->pd 0 0 es ps=pz (es.zip ps)
 |[],[],_=>rfl|[],_::_,h=>by simp at h
 |_::_,[],h=>by simp at h
 |e::es,p::ps,h=>by
  rw[pd,aEh (by simpa using h),aGA,pz];rfl
def vl(ts:Ts)(p:List Nat):Int:=sm (λes=>pz (es.zip p)) ts
theorem eR{ts:Ts}{p:List Nat}(h8:∀t∈ts,∀e∈t.1,e<=8)(hp:∀x∈p,x<=9):Ok (jS [.d (.tup (ts.map tD)),.d (iD p)] M) λw M'=>M'=M/\w=.d (.int (vl ts p)):=by
 unfold jS;refine bN rfl ?_;unfold qS
 rfl'
 refine bH (λi L M'=>M'=M/\∃o3 o4 o5 o6 o7,L=[some (.d (.tup (ts.map tD))),some (.d (iD p)),some (.d (.int (vl (ts.take i) p))),o3,o4,o5,o6,o7]) ⟨rfl,none,none,none,none,none,rfl⟩ (λi L M _ _ t e=>by cases e) ?_ ?_
 ·rintro i d _ M hx ⟨rfl,o3,o4,o5,o6,o7,rfl⟩
  rw[aAV,aAR]at hx;obtain⟨⟨s,v⟩,ht,rfl⟩:=hx;have t8:=h8 _ (aAQ ht);simp only at t8;rw[show tD (s,v)=.tup [iD s,.int v]from rfl]
  rfl'
  refine⟨s.map λe:Nat=>D.int (e:Nat),p.map λe:Nat=>D.int (e:Nat),rfl,rfl,?_⟩;refine bH (λj L M'=>M'=M/\∃o5 o6 o7,L=[some (.d (.tup (ts.map tD))),some (.d (iD p)),some (.d (.int (vl (ts.take i) p))),some (.d (iD s)),some (.d (.int (v*pz ((s.zip p).take j)))),o5,o6,o7]) ⟨rfl,o5,o6,o7,by simp[pz]⟩ (λi L M _ _ t e=>by cases e) ?_ ?_
  ·rintro j d _ M hx ⟨rfl,o5,o6,o7,rfl⟩
   obtain⟨_,_,h1,h2,rfl⟩:=oN hx;rw[aAV,aAR]at h1 h2;obtain⟨e,he,rfl⟩:=h1;obtain⟨x,hx2,rfl⟩:=h2;have e8:=t8 e (aAQ he);have hz:(s.zip p)[j]?=some (e,x):=aDP.mpr ⟨he,hx2⟩;have x8:=hp x (aAQ hx2)
   rfl'
   refine⟨by simp only[in62,aBO];lia,?_⟩;refine bH (λk L M'=>M'=M/\∃o7,L=[some (.d (.tup (ts.map tD))),some (.d (iD p)),some (.d (.int (vl (ts.take i) p))),some (.d (iD s)),some (.d (.int (v*pz ((s.zip p).take j)*(x:Int) ^ k))),some (.d (.int (e:Nat))),some (.d (.int (x:Nat))),o7]) ⟨rfl,o7,by simp⟩ (λi L M _ _ t e=>by cases e) ?_ ?_
   ·rintro k d _ _ hx ⟨rfl,o7,rfl⟩
    rfl'
    refine⟨rfl,some (.d d),?_⟩;rw[Int.pow_succ,<- aGV];rfl
   ·rintro L _ ⟨rfl,o7,rfl⟩
    rfl'
    refine⟨rfl,some (.d (.int (e:Nat))),some (.d (.int (x:Nat))),o7,?_⟩;have e0:(rngD 0 ((e:Int)).toNat).length=e:=by simp[rngD]
    have e1:v*pz ((s.zip p).take (j+1))=v*pz ((s.zip p).take j)*(x:Int) ^ (rngD 0 ((e:Int)).toNat).length:=by
     rw[e0,aBX,hz,Option.toList_some,aEb,aOh,aGV]
    rw[e1]
  ·rintro L _ ⟨rfl,o5,o6,o7,rfl⟩
   rfl'
   refine⟨rfl,some (.d (iD s)),some (.d (.int (v*pz ((s.zip p).take (zipT (s.map λe:Nat=>D.int (e:Nat)) (p.map λe:Nat=>D.int (e:Nat))).length)))),o5,o6,o7,?_⟩;have e0:v*pz ((s.zip p).take (zipT (s.map λe:Nat=>D.int (e:Nat)) (p.map λe:Nat=>D.int (e:Nat))).length)=v*pz (s.zip p):=by
    rw[aCJ];simp[zipT]
   have e1:vl (ts.take (i+1)) p=vl (ts.take i) p+v*pz (s.zip p):=by
    rw[aBX,ht];simp[vl,jY,sm]
   rw[e1,<- e0];rfl
 ·rintro L _ ⟨rfl,o3,o4,o5,o6,o7,rfl⟩
  rfl'
  refine⟨aBA,?_⟩;simp
def gr(ps:List (List Nat))(f:List Nat->Int):Ts:=ps.map λp=>(p,f p)
variable{ps:List (List Nat)}{f:List Nat->Int}
theorem aRa :ks (gr ps f)=ps:=by
 unfold ks gr;rw[aBK];exact List.map_id ps
theorem dS{ps:List (List Nat)}{g:List Nat->Int}(h:∀p∈ps,f p=g p):gr ps f=gr ps g:=aBY λp hp=>by rw[h p hp]
variable{p:List Nat}
theorem aBo(nd:ps.Nodup)(h:p∈ps):tget p (gr ps f)=some (f p):=nV (t:=(p,f p)) (by rw[aRa];exact nd) (aAX.mpr ⟨p,h,rfl⟩)
theorem aLf{x:Int}(nd:ps.Nodup)(h:p∈ps):tput p x (gr ps f)=gr ps λq=>if q=p then x else f q:=by
 unfold tput;rw[aBo nd h];simp only[aFW,aBM,gr,aBK];refine aBY λq _=>?_
 simp only[Function.comp];by_cases e:q=p <;> simp[e]
theorem nE :intTs (ents ((gr ps f).map tD))=some (ps.map iL):=by
 rw[yN,aBg];unfold gr;rw[aBK];rfl
theorem sD(nd:ps.Nodup)(h:p∈ps):kget (kN p) ((gr ps f).map tD)=some (.int (f p)):=by rw[sV,aBo nd h];rfl
theorem xJ :(gr ps f).length=ps.length:=by simp[gr]
def dv(ts:Ts)(i t:Nat)(p:List Nat):Int:=sm (λes=>pd i t es p) ts
theorem aFc{c:Int}{g:List Nat->Int}:∀{ts:Ts},sm (λe=>c*g e) ts=c*sm g ts
 |[]=>by simp[sm]|t::r=>by simp only[sm];rw[aFc (ts:=r)];grind
theorem aFo{g h:List Nat->Int}:∀{ts:Ts},sm (λe=>g e - h e) ts=sm g ts - sm h ts
 |[]=>by simp[sm]|t::r=>by simp only[sm];rw[aFo (ts:=r)];grind
theorem zJ(h:t+1<=p.getD i 0):dv ts (i) (t+1) p=dv ts i t p - dv ts i t (p.set i (p.getD i 0 - 1)):=by
 unfold dv;rw[<- aFo];exact cX λes _=>zV h
theorem aAz(h:¬t+1<=p.getD i 0):dv ts i (t+1) p=dv ts i t p:=cX λes _=>aAp h
theorem aAu(h1:i < p.length)(h2:p.getD i 0<=t):dv ts i t p=dv ts (i+1) 0 p:=cX λes _=>zR h1 h2
theorem aHu(h:p.length<=i):dv ts i 0 p=fcts p*cf ts p:=by
 unfold dv cf;rw[<- aFc];exact cX λes _=>aFx h
theorem uE(hl:∀t∈ts,t.1.length=p.length):dv ts 0 0 p=vl ts p:=cX λes he=>by
 obtain⟨t,ht,rfl⟩:=aAX.mp he;exact aEh (hl t ht)
theorem sI{z:List Nat}:∀{zs:List Nat},(∀z∈zs,z<=9)->zs.length<=4->(pts zs).length<=6561:=λ{zs} h9 hz=>by
 have:=sE h9 zs.length (aAD _);unfold ptT at this;rw[aBA]at this;exact aBS this (Nat.pow_le_pow_right (n:=9) (by lia) hz)
theorem gP{zs:List Nat}(hl:∀t∈ts,t.1.length=zs.length)(hz:zs.length<=4)(h9:∀z∈zs,z<=9)(hh:((pts zs).map λp=>hI (iL p)).Nodup)(hp:2<=(pts zs).length->∀p∈pts zs,p≠[])(h0:pts zs≠[])(hj:M[j]?=some ((gr (pts zs) (vl ts)).map tD)):Ok (cI [.ob "dict" j,.d (.int zs.length),.d (.lst (nsD zs))] M) λw M'=>w=.ob "dict" M.length/\M'=M++[(gr (pts zs) λp=>fcts p*cf ts p).map tD]:=by
 have nd:=gI (zs:=zs);have bl:=sI (z:=[]) h9 hz;obtain⟨qs,eq,pq,oq⟩:=uU nd;generalize hP:pts zs=P at *;unfold cI;refine aJi rfl ?_;unfold eU
 rfl'
 refine aEp hj nE (by rw[aBK];exact hh) (by simpa using h0) ?_;rw[yN]
 rfl'
 refine aEz (ds:=(gr P (vl ts)).map tD) (by simp) nE (by simpa[iL]using hp) ?_;rw[eq,show(qs.map iL).reverse.map tupI=qs.reverse.map iD by rw[<- List.map_reverse,aBK];exact aBY λs _=>aFh s];have pr:qs.reverse.Perm P:=qs.reverse_perm.trans pq;have or':qs.reverse.Pairwise λa b=>lexI (iL b) (iL a)=true:=aGN.mpr oq
 generalize qs.reverse=rs at pr or';clear oq pq eq qs;have mem:∀p,p∈P ↔ Bxs p zs:=λp=>hP▸dH
 have gs:gr P (vl ts)=gr P (dv ts 0 0):=dS λp h=>(uE λt ht=>(hl t ht).trans ((mem p).mp h).len.symm).symm
 rw[gs];clear hh hp h0 hj gs;have gM:∀x:List D,(M++[x])[M.length]?=some x:=λx=>by simp
 have ndr:rs.Nodup:=pr.nodup_iff.mpr nd;have rl:rs.length<=6561:=by rw[pr.length_eq];exact bl
 rfl'
 refine⟨by simp only[in62,aBO];lia,?_⟩;refine bH (λi L M'=>M'=M++[(gr P (dv ts i 0)).map tD]/\∃o5 o6 o7,L=[some (.ob "dict" j),some (.d (.int zs.length)),some (.d (.lst (nsD zs))),some (.ob "dict" M.length),some (.d (.lst (rs.map iD))),o5,o6,o7]) ⟨rfl,none,none,none,rfl⟩ (λi L M _ _ t e=>by cases e) ?_ ?_
 ·rintro i d _ _ hx ⟨rfl,o5,o6,o7,rfl⟩
  obtain⟨hi,rfl⟩:=cE hx;have hi:i < zs.length:=by lia
  obtain⟨z,hzi⟩:∃z,z=zs.getD i 0:=⟨_,rfl⟩
  have hz2:zs[i]?=some z:=by rw[hzi];simp[List.getD,hi]
  have z9:=h9 z (aAQ hz2);rw[show(0:Int)+(i:Nat)=i by lia]
  rfl'
  refine cL (zK hi) ?_;rw[<- hzi]
  rfl'
  refine⟨_,_,rfl,rfl,⟨by decide,by simp only[in62,aBO];lia⟩,?_⟩;refine bH (λt L M'=>M'=M++[(gr P (dv ts i t)).map tD]/\∃o6 o7,L=[some (.ob "dict" j),some (.d (.int zs.length)),some (.d (.lst (nsD zs))),some (.ob "dict" M.length),some (.d (.lst (rs.map iD))),some (.d (.int (i:Nat))),o6,o7]) ⟨rfl,o6,o7,rfl⟩ (λi L M _ _ t e=>by cases e) ?_ ?_
  ·rintro t d _ _ hx ⟨rfl,o6,o7,rfl⟩
   obtain⟨ht,rfl⟩:=cE hx
   rfl'
   refine bH (λk L M'=>M'=M++[(gr P λp=>if p∈rs.take k then dv ts i (t+1) p else dv ts i t p).map tD]/\∃o7,L=[some (.ob "dict" j),some (.d (.int zs.length)),some (.d (.lst (nsD zs))),some (.ob "dict" M.length),some (.d (.lst (rs.map iD))),some (.d (.int (i:Nat))),some (.d (.int (1+(t:Nat)))),o7]) ⟨by simp,o7,rfl⟩ (λi L M _ _ t e=>by cases e) ?_ ?_
   ·rintro k d _ _ hx ⟨rfl,o7,rfl⟩
    rw[aAV,aAR]at hx;obtain⟨p,hk,rfl⟩:=hx;have pP:p∈P:=pr.mem_iff.mp (aAQ hk);have pb:=(mem p).mp pP;have pl:=pb.len;have ip:i < p.length:=by lia
    have hk1:=(aAF.mp hk).1;have tk:rs.take (k+1)=rs.take k++[p]:=by rw[aBX,hk];rfl
    have ahead:∀r∈rs.take k,lexI (iL p) (iL r)=true:=λr hr=>by
     have h2:(rs.take k++[p]).Pairwise λa b=>lexI (iL b) (iL a)=true:=tk▸or'.sublist (aJU _ _)
     exact(aIO.mp h2).2.2 r hr p (by simp)
    have pn:p∉rs.take k:=λh=>by have:=ahead p h;rw[bW]at this;cases this
    obtain⟨x,hx⟩:∃x,x=p.getD i 0:=⟨_,rfl⟩
    rw[show iD p=.tup (nsD p)from rfl]
    rfl'
    refine hG (zK ip) ?_;rw[<- hx]
    rfl'
    refine dN (λh=>?_) (λh=>?_)
    ·have h:t+1<=x:=by lia
     rfl'
     refine lZ (k:=kN p) (fP p) (gM _) (sD nd pP) ?_;rw[aAH pn]
     rfl'
     rw[aHq (by simp;lia)]
     rfl'
     refine hG (zK ip) ?_;rw[<- hx]
     rfl'
     refine eI (by simp;lia) ?_
     rfl'
     rw[show((i:Int)+1)=((i+1:Nat):Int) by simp,aEj (by simp;lia)]
     rfl'
     refine eI (by simp;lia) ?_;have ek:List.take i (nsD p)++[D.int ((x:Int) - 1)]++List.drop (i+1) (nsD p)=nsD (p.set i (x - 1)):=by
      rw[show((x:Int) - 1)=((x - 1:Nat):Int) by lia,List.set_eq_take_append_cons_drop,aAG ip];simp
     rw[ek];have dP:p.set i (x - 1)∈P:=(mem _).mpr (hx▸pb.down);have dn:p.set i (x - 1)∉rs.take k:=λh2=>by
      have h3:=gF _ _ _ (ahead _ h2) (hx▸uC (p:=p) (i:=i) (by lia));rw[bW]at h3;cases h3
     refine lZ (k:=kN (p.set i (x - 1))) (fP _) (gM _) (sD nd dP) ?_;rw[aAH dn]
     rfl'
     refine⟨_,_,_,_,rfl,fP _,rfl,gM _,⟨by rw[aAM,xJ];lia,aHo _⟩,?_⟩;rw[yR,aLf nd pP];refine⟨?_,_,rfl⟩;rw[aIJ _ _ (aAD _),aGM,aFZ];congr 3;refine dS λq _=>?_
     rw[tk];by_cases e:q=p
     ·subst e;simp[zJ (hx▸h),hx]
     ·simp[e]
    ·have h:¬t+1<=x:=by lia
     rfl'
     refine⟨?_,_,rfl⟩;congr 3;refine dS λq _=>?_
     rw[tk];by_cases e:q=p
     ·subst e;simp[pn,aAz (hx▸h)]
     ·simp[e]
   ·rintro L _ ⟨rfl,o7,rfl⟩
    rfl'
    refine⟨?_,some (.d (.int (1+(t:Nat)))),o7,rfl⟩;congr 3;refine dS λq hq=>?_
    rw[show(⟨rs.map iD,none⟩:Src).ds.length=rs.length by simp,aBA,aAG (pr.mem_iff.mpr hq)]
  ·rintro L _ ⟨rfl,o6,o7,rfl⟩
   rfl'
   refine⟨?_,some (.d (.int (i:Nat))),o6,o7,rfl⟩;congr 3;have e0:(⟨rngD 1 ((z:Int) - 1).toNat,none⟩:Src).ds.length=z - 1:=by simp[rngD]
   rw[e0];refine dS λq hq=>?_
   have qb:=(mem q).mp hq;have iq:i < q.length:=by rw[qb.len];exact hi
   exact aAu iq (by have:=qb.lt (i:=i) (x:=q.getD i 0) (by simp[List.getD,iq]) hz2;lia)
 ·rintro L _ ⟨rfl,o5,o6,o7,rfl⟩
  rfl'
  refine⟨_,(gr P (dv ts zs.length 0)).map tD,rfl,aAD _,by simp[rngD],rfl,?_⟩;rw[aJH];congr 3;exact dS λq hq=>aHu (Nat.le_of_eq ((mem q).mp hq).len)
theorem gA(A:Mm)(x:List D):(A++[x])[A.length]?=some x:=by simp
theorem gB(A:Mm)(x y:List D):(A++[x,y])[A.length+1]?=some y:=by simp
theorem fct8:∀e,e < 9->fct e<=40320:=by decide
theorem fcts8:∀{s:List Nat} {k:Nat},s.length<=k->(∀e∈s,e<=8)->fcts s<=40320 ^ k
 |[],k,_,_=>Nat.pow_pos (by decide)|e::s,0,h,_=>by simp at h
 |e::s,k+1,h,h8=>by
  have:=fct8 e (by have:=h8 e (by simp);lia);have h2:=fcts8 (s:=s) (k:=k) (by simpa using h) λe he=>h8 e (by simp[he])
  rw[Nat.pow_succ,Nat.mul_comm];simp only[fcts,aAK,List.prod_cons]at h2 ⊢;exact Nat.mul_le_mul this h2
theorem aEt{s:List Nat}(h:s.length<=4)(h8:∀e∈s,e<=8):(fcts s:Int)<=4000000000000000000:=by
 have:=fcts8 h h8;have e:40320 ^ 4=2642908293365760000:=by decide
 lia
theorem box8{s zs:List Nat}(h:Bxs s zs)(h9:∀z∈zs,z<=9):∀e∈s,e<=8:=λe he=>by
 obtain⟨i,hi,rfl⟩:=aCK.mp he;have:=h.len;have h1:=h.lt (i:=i) (x:=s[i]) (y:=zs[i]) (by simp) (by simp);have:=h9 zs[i] (aCQ _);lia
def nums(n:Nat)(c:List Nat->Int)(qs:List (List Nat)):Ts:=qs.filterMap λs=>if 0 < rms n c s then some (s,rms n c s)else none
variable{k:Nat}
theorem jU(h:qs[k]?=some s):nums n c (qs.take (k+1))=nums n c (qs.take k)++if 0 < rms n c s then[(s,rms n c s)]else[]:=by
 unfold nums;rw[aBX,h,List.filterMap_append];congr 1;by_cases q:0 < rms n c s <;> simp[q]
theorem vC{zs:List Nat}(hn:2<=n)(hn2:n<=1000000)(hl:∀t∈ts,t.1.length=zs.length)(hz:zs.length<=4)(h9:∀z∈zs,z<=9)(hh:((pts zs).map λp=>hI (iL p)).Nodup)(hp:2<=(pts zs).length->∀p∈pts zs,p≠[])(h0:pts zs≠[])(hc:∀s:List Nat,s.length=zs.length->¬Bxs s zs->rms n (cf ts) s=0)(hj:M[j]?=some ((gr (pts zs) (vl ts)).map tD)):Ok (oX [.d (.int n),.ob "dict" j,.d (.lst (nsD zs))] M) λw M'=>M'=M/\∃us:Ts,w=.d (.tup (us.map tD))/\Frm n zs.length (cf ts) us/\us.length<=6561:=by
 have nd:=gI (zs:=zs);have bl:=sI (z:=[]) h9 hz;obtain⟨qs,eq,pq,oq⟩:=uU nd;have F:=aJh (n:=n) (c:=cf ts) oq (λs=>(pq.mem_iff.trans dH)) rfl hc;have jl:=(aAF.mp hj).1;have hj2:(M++[[]])[j]?=some ((gr (pts zs) (vl ts)).map tD):=by rw[aAW jl];exact hj
 unfold oX;refine bN rfl ?_;unfold uJ
 rfl'
 rw[show(nsD zs).length=zs.length by simp];refine(gP (ts:=ts) hl hz h9 hh hp h0 hj2).mono ?_;rintro _ _ ⟨rfl,rfl⟩
 rfl'
 refine aEs (gA _ _) nE (by simpa[iL]using hp) ?_;rw[eq,show(qs.map iL).map tupI=qs.map iD by rw[aBK];exact aBY λs _=>aFh s];have ql:qs.length<=6561:=by rw[pq.length_eq];exact bl
 rfl'
 refine bH (λk L M'=>M'=M++[(nums n (cf ts) (qs.take k)).map tD,(gr (pts zs) λp=>fcts p*cf ts p).map tD]/\∃o5 o6 o7 o8 o9,L=[some (.d (.int n)),some (.ob "dict" j),some (.d (.lst (nsD zs))),some (.ref M.length),some (.ob "dict" (M.length+1)),o5,o6,o7,o8,o9]) ⟨by simp[nums],none,none,none,none,none,by simp⟩ (λi L M _ _ t e=>by cases e) ?_ ?_
 ·rintro k d _ _ hx ⟨rfl,o5,o6,o7,o8,o9,rfl⟩
  rw[aAV,aAR]at hx;obtain⟨s,hk,rfl⟩:=hx;have sP:s∈pts zs:=pq.mem_iff.mp (aAQ hk);have sb:=dH.mp sP;have s8:=box8 sb h9;have sl:=sb.len;have f0:=iX s;have f1:=aEt (by lia) s8;obtain⟨d,hd⟩:∃d,d=(fcts s:Int)*cf ts s:=⟨_,rfl⟩
  have gd:kget (kN s) ((gr (pts zs) λp=>fcts p*cf ts p).map tD)=some (.int d):=hd▸sD nd sP;have r0:0 < rmN n (fcts s):=bU (by lia);have r1:rmN n (fcts s)<=n:=kP
  rfl'
  refine(oI s8).mono ?_;rintro _ _ ⟨rfl,rfl⟩
  rfl'
  refine(xO f1).mono ?_;rintro _ _ ⟨rfl,rfl,x,y,exy⟩;have nl:(nums n (cf ts) (qs.take k)).length<=6561:=aBS (List.length_filterMap_le _ _) (by rw[aDT];lia);have g0:0 < n.gcd (fcts s):=aDJ _ (by lia);have g1:n.gcd (fcts s)<=n:=Nat.gcd_le_left _ (by lia)
  rfl'
  have eroom:(n:Int) / ((n.gcd (fcts s):Nat):Int)=((rmN n (fcts s):Nat):Int):=by rw[<- Int.natCast_ediv];rfl
  rw[eroom]
  rfl'
  refine⟨λh=>?_,λh=>?_⟩
  ·have h:1 < rmN n (fcts s):=by have:=aFK h;lia
   have z0:d % (n:Int)=0 ↔ cf ts s % ((rmN n (fcts s):Nat):Int)=0:=kJ (by lia) f0 hd;have c0:0<=cf ts s % ((rmN n (fcts s):Nat):Int):=aCO _ (by lia)
   rfl'
   refine lZ (fP s) (gB M _ _) gd ?_
   rfl'
   refine aPs (λh2=>?_) (λh2=>?_)
   ·have e1:¬0 < rms n (cf ts) s:=by have:=z0.mp h2;unfold rms;lia
    rfl'
    refine⟨?_,_,_,_,_,_,rfl⟩;rw[jU hk,aAH e1,aEF]
   ·have e1:0 < rms n (cf ts) s:=by have:=λh=>h2 (z0.mpr h);unfold rms;lia
    have iv:=aBl (by lia) exy;have ivs:=LS.rT iv;have eown:(fcts s:Int) / ((n.gcd (fcts s):Nat):Int)=((fcts s / n.gcd (fcts s):Nat):Int):=by rw[<- Int.natCast_ediv]
    rfl'
    refine lZ (fP s) (gB M _ _) gd ?_
    rfl'
    rw[eown];refine(oE (by lia) (by lia) iv).mono ?_;rintro _ _ ⟨rfl,rfl⟩;have v0:=ivs.1;have v1:=ivs.2.1
    rfl'
    rw[aHs (by lia) f0 hd exy]
    rfl'
    refine kU (xs:=(nums n (cf ts) (qs.take k)).map tD) (by simp) (by rw[aAM];lia) ?_;refine⟨?_,_,_,_,_,_,rfl⟩;rw[jU hk,aAG e1,aDR];simp only[aIJ _ _ (aAD _),aGM,aFZ];rfl
  ·have h:rmN n (fcts s)=1:=by have:=of_decide_eq_false h;lia
   have e1:¬0 < rms n (cf ts) s:=by unfold rms;rw[h];lia
   rfl'
   refine⟨?_,_,_,_,_,_,rfl⟩;rw[jU hk,aAH e1,aEF]
 ·rintro L _ ⟨rfl,o5,o6,o7,o8,o9,rfl⟩
  rfl'
  rw[show(⟨qs.map iD,none⟩:Src).ds.length=qs.length by simp,aBA];refine jL (xs:=(nums n (cf ts) qs).map tD) (by simp[sv,lr,lv]) ?_
  rfl'
  exact⟨by simp,_,rfl,F,aBS (List.length_filterMap_le _ _) ql⟩
def capL:List (List Nat):=[[8],[8],[5,4],[8,8],[2,3,3],[8,1,2],[3,2,1,2],[1,1,8,1],[4],[3,3],[1,1,1,8],[1,2,1,5],[1,8],[]]
theorem aCi:∀cs∈capL,((pts (cs.map (·+1))).map λp=>hI (iL p)).Nodup:=by decide +kernel
theorem fJ:∀cs∈capL,cs.length<=4/\∀c∈cs,c<=8:=by decide
def szL(n:Nat)(cs:List Nat):List Nat:=cs.map λc=>min n (c+1)
theorem gH :(szL n cs).length=cs.length:=by simp[szL]
theorem aGn{y:Nat}(h:(szL n cs)[i]?=some y):∃c,cs[i]?=some c/\y=min n (c+1):=by
 unfold szL at h;rw[aAV,aAR]at h;obtain⟨c,h1,rfl⟩:=h;exact⟨c,h1,rfl⟩
theorem aEn{α β:Type}{f:α->β}:∀{l:List α},(l.map f).Nodup->∀a∈l,∀b∈l,f a=f b->a=b
 |[],_,a,ha,_,_,_=>by cases ha
 |x::l,h,a,ha,b,hb,e=>by
  rw[aAK,aED]at h;rcases aAU.mp ha with e1|h1
  ·rcases aAU.mp hb with e2|h2
   ·rw[e1,e2]
   ·exact(h.1 (by rw[<- e1,e];exact aDO h2)).elim
  ·rcases aAU.mp hb with e2|h2
   ·exact(h.1 (by rw[<- e2,<- e];exact aDO h1)).elim
   ·exact aEn h.2 a h1 b h2 e
theorem aDz(h:cs∈capL):((pts (szL n cs)).map λp=>hI (iL p)).Nodup:=by
 have up:∀p∈pts (szL n cs),p∈pts (cs.map (·+1)):=λp hp=>by
  have hb:=dH.mp hp;refine dH.mpr (Bxs.of (by rw[hb.len,gH,aAM]) λi x y h1 h2=>?_);rw[aAV,aAR]at h2;obtain⟨c,h2,rfl⟩:=h2;have:=hb.lt (i:=i) (x:=x) (y:=min n (c+1)) h1 (by simp[szL,h2]);lia
 have inj:=aEn (aCi cs h);rw[aBT,aCB];exact(List.Pairwise.and_mem.mp (aBT.mp gI)).imp λ{a b} hh e=>hh.2.2 (inj a (up a hh.1) b (up b hh.2.1) e)
theorem aMm{zs:List Nat}(h:∀z∈zs,1<=z):pts zs≠[]:=by
 have:zs.map (λ_=>0)∈pts zs:=dH.mpr (Bxs.of (by simp) λi x y h1 h2=>by
  rw[aAV,h2]at h1;simp at h1;have:=h y (aAQ h2);lia)
 exact λe=>by rw[e]at this;cases this
theorem aJw{zs:List Nat}(h:2<=(pts zs).length):∀p∈pts zs,p≠[]:=λp hp e=>by
 have:=(dH.mp hp).len;subst e;have:zs=[]:=aEY.mp this.symm;subst this;simp[pts]at h
def Und(cs:List Nat)(ts:Ts):Prop:=∀t∈ts,t.1.length=cs.length/\∀i e c:Nat,t.1[i]?=some e->cs[i]?=some c->e<=c
theorem zF(hn:1<=n)(hu:Und cs ts)(hl:s.length=cs.length)(h:¬Bxs s (szL n cs)):rms n (cf ts) s=0:=by
 have:∃i x y:Nat,s[i]?=some x/\(szL n cs)[i]?=some y/\y<=x:=by
  apply aEK;intro g;refine h (Bxs.of (by rw[hl,gH]) λi x y h1 h2=>?_);apply aEK;intro q;exact g ⟨i,x,y,h1,h2,by lia⟩
 obtain⟨i,x,y,h1,h2,h3⟩:=this;obtain⟨c,h4,rfl⟩:=aGn h2;by_cases q:n<=x
 ·unfold rms
  rw[aGs hn (aAQ h1) q];lia
 ·have:cf ts s=0:=by
   unfold cf;rw[cX (q:=λ_=>0)]
   ·induction ts with
    |nil=>rfl|cons t r ih=>rw[sm,ih λu hu'=>hu u (aBF _ hu')];simp
   ·intro es he
    obtain⟨t,ht,rfl⟩:=aAX.mp he;apply aEK;intro g;have m:=aFs g;have l:=hu t ht;have il:i < t.1.length:=by rw[<- m.1];exact(aAF.mp h1).1
    have a:=m.2 i t.1[i] x (by simp) h1;have b:=l.2 i t.1[i] c (by simp) h4;lia
  unfold rms;rw[this];simp
theorem cZ{ts:Ts}(hn:2<=n)(hn2:n<=1000000)(hc:cs∈capL)(hu:Und cs ts):Ok (fV [.d (.int n),.d (.tup (ts.map tD)),.d (iD cs)] M) λw M'=>M'=M/\∃us:Ts,w=.d (.tup (us.map tD))/\Frm n cs.length (cf ts) us/\us.length<=6561:=by
 have hcf:=fJ cs hc;have h8:∀t∈ts,∀e∈t.1,e<=8:=λt ht e he=>by
  obtain⟨i,hi,rfl⟩:=aCK.mp he;have l:=hu t ht;have il:i < cs.length:=by rw[<- l.1];exact hi
  exact aBS (l.2 i t.1[i] cs[i] (by simp) (by simp)) (hcf.2 _ (aCQ _))
 have z9:∀z∈szL n cs,z<=9:=λz hz=>by
  obtain⟨c,h1,rfl⟩:=aAX.mp hz;have:=hcf.2 c h1;lia
 have z1:∀z∈szL n cs,1<=z:=λz hz=>by
  obtain⟨c,h1,rfl⟩:=aAX.mp hz;lia
 have zl:(szL n cs).length<=4:=by rw[gH];exact hcf.1
 have bl:=sI (z:=[]) z9 zl;unfold fV;refine bN rfl ?_;unfold lC
 rfl'
 refine tO ?_
 rfl'
 refine⟨λd=>match d with|.int c=>.int (if c+1 < (n:Int)then c+1 else n)|d=>d,by simp;lia,(λt e=>by cases e),?_,?_⟩
 ·rintro d hd acc
  obtain⟨c,_,rfl⟩:=aAX.mp hd
  rfl'
  exact⟨rfl,rfl⟩
 have e0:(cs.map λe:Nat=>D.int (e:Nat)).map (λd=>match d with|.int c=>D.int (if c+1 < (n:Int)then c+1 else n)|d=>d)=nsD (szL n cs):=by
  unfold szL nsD;rw[aBK,aBK];refine aBY λc _=>?_
  simp only[Function.comp];split <;> (congr 1;lia)
 rw[e0]
 rfl'
 refine cF (λi acc L' M'=>M'=M/\acc=(gr ((pts (szL n cs)).take i) (vl ts)).map tD/\∃a,L'=[a,some (.d (.tup (ts.map tD)))]) ?_
 rfl'
 refine(pA zl z9).mono ?_;rintro _ _ ⟨rfl,rfl⟩
 rfl'
 refine⟨⟨rfl,rfl,none,rfl⟩,?_,by simp;lia,?_,?_⟩
 ·rintro i acc L' M' hi ⟨rfl,rfl,_⟩
  exact⟨rfl,(λt e=>by cases e),by rw[aAM,xJ,aDT];lia⟩
 ·rintro i d acc _ M hd ⟨rfl,rfl,a,rfl⟩
  rw[aAV,aAR]at hd;obtain⟨p,hp,rfl⟩:=hd;have pb:=dH.mp (aAQ hp);have p8:=box8 pb z9
  rfl'
  refine(eR h8 λx hx=>by have:=p8 x hx;lia).mono ?_;rintro _ _ ⟨rfl,rfl⟩
  rfl'
  exact⟨_,_,rfl,rfl,rfl,by rw[aBX,hp];simp[gr,tD],_,rfl⟩
 rintro acc _ M ⟨rfl,rfl,a,rfl⟩;rw[show(⟨(pts (szL n cs)).map iD,none⟩:Src).ds.length=(pts (szL n cs)).length by simp,aBA];have nd:=gI (zs:=szL n cs);refine aFw (wX _) ?_ (by rw[aAM,xJ];lia) ?_
 ·unfold gr
  rw[aBK,aBK,aBT,aCB];exact(aBT.mp nd).imp λh e=>h (rP e)
 rfl'
 refine(vC (ts:=ts) hn hn2 (λt ht=>by rw[gH];exact(hu t ht).1) zl z9 (aDz hc) aJw (aMm z1) (λs h1 h2=>zF (by lia) hu (by rw[h1,gH]) h2) (gA M _)).mono ?_;rintro _ _ ⟨rfl,us,rfl,F,ul⟩
 rfl'
 rw[gH]at F;exact⟨by simp,us,rfl,F,ul⟩
theorem aCt(hb:Bx M b):Ok (oJ [.ref b] M) λw M'=>∃cs∈capL,w=.d (iD cs)/\Nx b M M':=by
 have n:=Nx.refl hb;unfold oJ;refine bN rfl ?_;unfold vE
 rfl'
 refine zH rfl rfl (by decide) ?_
 rfl'
 (refine(aP hb (by lia) (by lia)).mono ?_;rintro _ _ ⟨d1,rfl,l_d1,u_d1,n'⟩;replace n:=n.trans n';replace hb:=n'.bx hb;clear n')
 have hd:d1.toNat < capL.length:=by have:capL.length=14:=rfl;lia
 have e:atI (capL.map iD) d1=some (iD capL[d1.toNat]):=by
  simp only[atI,ixN,aAM];rw[aAG l_d1,aAG (by lia)];simp[hd]
 refine cL (show atI _ d1=_ from e) ?_
 rfl'
 rw[n.take];exact⟨_,aCQ hd,rfl,n⟩
theorem oC(ts:Ts):deps (ts.map tD)<=2:=by
 induction ts with
 |nil=>exact aCE _|cons t r ih =>
  have:dep (tD t)=2:=by
   show dep (.tup [.tup (t.1.map λe:Nat=>D.int (e:Nat)),.int t.2])=_;simp only[dep,deps,qK];rfl
  simp only[aAK,deps,this];lia
theorem Und.snoc{t:List Nat×Int}(h:Und cs ts)(h1:t.1.length=cs.length)(h2:∀i e c:Nat,t.1[i]?=some e->cs[i]?=some c->e<=c):Und cs (ts++[t]):=λu hu=>by
 rcases aCH.mp hu with hu|hu
 ·exact h u hu
 ·rw[aBP.mp hu];exact⟨h1,h2⟩
theorem iZ(hb:Bx M b)(hc:cs∈capL):Ok (jZ [.ref b,.d (.int cs.length),.d (iD cs)] M) λw M'=>∃ts:Ts,w=.d (.tup (ts.map tD))/\Und cs ts/\ts.length<=12/\Nx b M M':=by
 have hcf:=fJ cs hc;unfold jZ;refine bN rfl ?_;unfold rD;have hb1:Bx (M++[[]]) b:=hb.app
 rfl'
 refine(aP hb1 (by lia) (by lia)).mono ?_;rintro _ _ ⟨d1,rfl,l_d1,u_d1,n'⟩;obtain⟨M1,rfl,n1⟩:=n'.unapp hb.lt;have hb':=n1.bx hb;clear hb1 n'
 rfl'
 refine⟨by simp only[in62,aBO];lia,?_⟩;refine bH (λi L M'=>∃(Mi:Mm) (ts:Ts),M'=Mi++[ts.map tD]/\Nx b M Mi/\Bx Mi b/\ts.length=i/\Und cs ts/\∃o4 o5 o6,L=[some (.ref b),some (.d (.int cs.length)),some (.d (iD cs)),some (.ref M.length),o4,o5,o6])
  ⟨M1,[],rfl,n1,hb',rfl,(λt ht=>by cases ht),none,none,none,rfl⟩ (λi L M _ _ t e=>by cases e) ?_ ?_
 ·clear n1 hb' M1
  rintro i d _ _ hx ⟨Mi,ts,rfl,n,hb',hl,hu,o4,o5,o6,rfl⟩;obtain⟨hi,rfl⟩:=cE hx;have hi:i < 12:=by lia
  rfl'
  refine cF (λi acc L' M'=>∃(Mi:Mm) (es:List Nat),M'=Mi++[ts.map tD]/\Nx b M Mi/\Bx Mi b/\acc=nsD es/\es.length=i/\(∀j e c:Nat,es[j]?=some e->cs[j]?=some c->e<=c)/\∃a,L'=[a,some (.ref b),some (.d (iD cs))]) ?_
  rfl'
  refine⟨by simp only[in62,aBO];lia,?_⟩;have e0:(rngD 0 ((cs.length:Int)).toNat).length=cs.length:=by simp[rngD]
  refine⟨⟨Mi,[],rfl,n,hb',rfl,rfl,by simp,none,rfl⟩,?_,by rw[e0];lia,?_,?_⟩
  ·rintro k acc L' M' hk ⟨Mj,es,rfl,nj,_,rfl,hes,_⟩
   exact⟨by simp[n.len,nj.len],(λt e=>by cases e),by simp[hes]⟩
  ·rintro k d acc _ _ hx ⟨Mj,es,rfl,nj,hbj,rfl,hes,hle,a,rfl⟩
   obtain⟨hk,rfl⟩:=cE hx;have hk:k < cs.length:=by lia
   rw[show(0:Int)+(k:Nat)=k by lia];have c8:cs.getD k 0<=8:=hcf.2 _ (by simp only[aFI,aAP hk,aGT];exact aCQ hk)
   rfl'
   refine hG (zK hk) ?_
   rfl'
   rw[show Mj++[ts.map tD]++[nsD es]=Mj++[ts.map tD,nsD es] by simp];refine(aP (hbj.app (J:=[ts.map tD,nsD es])) (by lia) (by lia)).mono ?_;rintro _ _ ⟨d2,rfl,l2,u2,n'⟩;obtain⟨M2,rfl,n2⟩:=n'.unapp hbj.lt;refine⟨_,M2++[ts.map tD],rfl,by simp,M2,es++[d2.toNat],rfl,nj.trans n2,n2.bx hbj,?_,by simp[hes],?_,_,rfl⟩
   ·rw[nsD,nsD,aDR,List.map_singleton]
    congr 3;lia
   ·intro j e c h1 h2
    rw[aIP]at h1;split at h1
    ·exact hle j e c h1 h2
    ·rename_i hj
     have hj2:j=es.length:=by
      have:=(aAF.mp h1).1;simp at this;lia
     subst hj2;rw[aGM]at h1;simp at h1;subst h1;rw[hes]at h2;have:cs.getD k 0=c:=by simp[List.getD,h2]
     lia
  rintro acc _ _ ⟨Mj,es,rfl,nj,hbj,rfl,hes,hle,a,rfl⟩;rw[show(⟨rngD 0 ((cs.length:Int)).toNat,none⟩:Src).ds.length=cs.length from e0]at hes;clear n hb' Mi
  rfl'
  refine jL (xs:=nsD es) rfl ?_;refine aBq (xB (Okx.mono (Q:=λo M5=>∃(M6:Mm) (e2:List Nat),M5=M6++[ts.map tD]/\Nx b M M6/\Bx M6 b/\e2.length=cs.length/\(∀j e c:Nat,e2[j]?=some e->cs[j]?=some c->e<=c)/\o=.nx [some (.ref b),some (.d (.int cs.length)),some (.d (iD cs)),some (.ref M.length),some (.d (.int (0+(i:Nat)))),some (.d (.tup (nsD e2))),o6]) ?_ ?_))
  ·refine xC (Okx.mono (Q:=λc M5=>∃M6,M5=M6++[ts.map tD]/\Nx b M M6/\Bx M6 b/\(c=true->ts≠[])) ?_ ?_)
   ·have e1:M.length=Mj.length:=nj.len.symm
    rfl'
    refine pR (a:=.lst (ts.map tD)) (b:=.lst []) (by show Option.map D.lst _=_;rw[e1];simp) rfl (by have:=oC ts;simp only[dep,deps];lia) ?_;rw[show(!eqD (.lst (ts.map tD)) (.lst []))=decide (ts≠[]) by cases ts <;> simp[eqD,eqDs]]
    rfl'
    refine⟨λh=>?_,λh=>?_⟩
    ·rfl'
     refine(aP (hbj.app (J:=[ts.map tD])) (by lia) (by lia)).mono ?_;rintro _ _ ⟨d2,rfl,l2,u2,n'⟩;obtain⟨M2,rfl,n2⟩:=n'.unapp hbj.lt
     rfl'
     exact⟨nj.trans n2,n2.bx hbj,λ_=>aFK h⟩
    ·exact⟨Mj,rfl,nj,hbj,λh2=>by cases h2⟩
   ·rintro c _ ⟨M6,rfl,n6,hb6,hcc⟩
    cases c with
    |false =>
     rfl'
     exact⟨M6,es,rfl,n6,hb6,hes,hle,rfl⟩
    |true =>
     have tne:0 < ts.length:=aJB.mpr (hcc rfl);have e1:M.length=M6.length:=n6.len.symm;have gt:(M6++[ts.map tD])[M.length]?=some (ts.map tD):=by rw[e1];simp
     rfl'
     refine(aP (hb6.app (J:=[ts.map tD])) (m:=((ts.map tD).length:Int)) (by simp;lia) (by simp;lia)).mono ?_;rintro _ _ ⟨r,rfl,lr,ur,n'⟩;obtain⟨M7,rfl,n2⟩:=n'.unapp hb6.lt;have hr:r.toNat < ts.length:=by simp at ur;lia
     have e3:M.length=M7.length:=by rw[e1,n2.len]
     refine xI (xs:=ts.map tD) (d:=tD ts[r.toNat]) (by rw[e3];simp) ?_ ?_
     ·simp only[atI,ixN,aAM]
      rw[aAG lr,aAG (by simpa using ur)];simp[hr]
     have ut:=hu _ (aCQ hr);generalize ts[r.toNat]=u at ut;rw[show tD u=.tup [.tup (nsD u.1),.int u.2]from rfl]
     rfl'
     exact⟨M7,u.1,rfl,n6.trans n2,n2.bx hb6,ut.1,ut.2,rfl⟩
  ·clear nj hbj hes hle a
   rintro _ _ ⟨M6,e2,rfl,n,hb,h1,h2,rfl⟩
   rfl'
   refine(aP (hb.app (J:=[ts.map tD])) (by lia) (by lia)).mono ?_;rintro _ _ ⟨d3,rfl,l_d3,u_d3,n'⟩;obtain⟨M2,rfl,n2⟩:=n'.unapp hb.lt;replace n:=n.trans n2;replace hb:=n2.bx hb;clear n' n2
   rfl'
   refine(aP (hb.app (J:=[ts.map tD])) (by lia) (by lia)).mono ?_;rintro _ _ ⟨d4,rfl,l_d4,u_d4,n'⟩;obtain⟨M2,rfl,n2⟩:=n'.unapp hb.lt;replace n:=n.trans n2;replace hb:=n2.bx hb;clear n' n2
   rfl'
   refine(aP (hb.app (J:=[ts.map tD])) (by lia) (by lia)).mono ?_;rintro _ _ ⟨d5,rfl,l_d5,u_d5,n'⟩;obtain⟨M2,rfl,n2⟩:=n'.unapp hb.lt;replace n:=n.trans n2;replace hb:=n2.bx hb;clear n' n2;obtain⟨v,ev,mv⟩:=atInts (ns:=[d3,d4]) l_d5 (by simpa using u_d5);refine cL ev ?_
   rfl'
   refine(aP (hb.app (J:=[ts.map tD])) (by lia) (by lia)).mono ?_;rintro _ _ ⟨d6,rfl,l_d6,u_d6,n'⟩;obtain⟨M2,rfl,n2⟩:=n'.unapp hb.lt;replace n:=n.trans n2;replace hb:=n2.bx hb;clear n' n2;obtain⟨v2,ev2,mv2⟩:=atInts (ns:=[v,0 - v]) l_d6 (by simpa using u_d6);refine cL ev2 ?_
   rfl'
   have e1:M.length=M2.length:=n.len.symm;refine kU (xs:=ts.map tD) (by rw[e1];simp) (by simp;lia) ?_;exact⟨M2,ts++[(e2,v2)],by rw[e1];simp[tD,iD],n,hb,by simp[hl],hu.snoc h1 h2,_,_,_,rfl⟩
 ·clear n1 hb' M1
  rintro L _ ⟨Mi,ts,rfl,n,hb',hl,hu,o4,o5,o6,rfl⟩;have e1:M.length=Mi.length:=n.len.symm;simp only[rngD,aAM,aHW]at hl
  rfl'
  refine jL (xs:=ts.map tD) (by simp[sv,lr,lv,e1]) ?_
  rfl'
  exact⟨hu,by lia,by rw[e1];simpa using n⟩
def Blw:List Nat->List Nat->Prop
 |[],[]=>True|a::q,b::p=>a<=b/\Blw q p|_,_=>False
theorem Blw.refl:∀p,Blw p p
 |[]=>trivial|_::p=>⟨aAD _,Blw.refl p⟩
theorem Blw.len:∀{q p:List Nat},Blw q p->q.length=p.length
 |[],[],_=>rfl|_::_,[],h=>h.elim|[],_::_,h=>h.elim|_::q,_::p,h=>by simp[Blw.len h.2]
theorem Blw.trans:∀{q p r:List Nat},Blw q p->Blw p r->Blw q r
 |[],[],[],_,_=>trivial|_::_,_::_,_::_,h,g=>⟨aBS h.1 g.1,Blw.trans h.2 g.2⟩|[],[],_::_,_,g=>g.elim|_::_,_::_,[],_,g=>g.elim|_::_,[],_,h,_=>h.elim|[],_::_,_,h,_=>h.elim
theorem Blw.down:∀{p:List Nat} {i:Nat},Blw (p.set i (p.getD i 0 - 1)) p
 |[],i=>by simp[Blw]|a::p,0=>by simp[Blw,Blw.refl]|a::p,i+1=>by simpa[Blw]using Blw.down (p:=p) (i:=i)
theorem Blw.sum:∀{q p:List Nat},Blw q p->q.sum<=p.sum/\(q.sum=p.sum->q=p)
 |[],[],_=>⟨aAD _,λ_=>rfl⟩
 |_::_,[],h=>h.elim|[],_::_,h=>h.elim|a::q,b::p,h=>by
  obtain⟨h1,h2⟩:=Blw.sum h.2;have:=h.1;simp only[List.sum_cons,aFY];exact⟨by lia,λe=>⟨by lia,h2 (by lia)⟩⟩
theorem Blw.lex:∀{q p:List Nat},Blw q p->q≠p->lexI (iL q) (iL p)=true
 |[],[],_,n=>(n rfl).elim|_::_,[],h,_=>h.elim|[],_::_,h,_=>h.elim|a::q,b::p,h,n=>by
  have:=h.1;simp only[iL,aAK,lexI];split
  ·rename_i e
   have e:a=b:=by lia
   subst e;exact Blw.lex h.2 λe=>n (by rw[e])
  ·simp;lia
theorem aKy(h:1<=p.getD i 0):p.set i (p.getD i 0 - 1)≠p:=λe=>by
 have hi:i < p.length:=by
  rcases Nat.lt_or_ge i p.length with h'|h'
  ·exact h'
  ·rw[aFI,aGK h']at h;simp at h
 have:=congrArg (·.getD i 0) e;simp only[aFI,aBZ hi,aGT]at this h;lia
variable{k:Nat}{ts:Ts}
theorem aIw(hl:∀t∈ts,t.1.length=k):∀i,i<=k->∀(t:Nat) (p:List Nat),p.length=k->(∀q,Blw q p->q≠p->m ∣ vl ts q)->m ∣ dv ts i t p - vl ts p:=by
 have step:∀i,(∀p:List Nat,p.length=k->(∀q,Blw q p->q≠p->m ∣ vl ts q)->m ∣ dv ts i 0 p - vl ts p)->∀(t:Nat) (p:List Nat),p.length=k->(∀q,Blw q p->q≠p->m ∣ vl ts q)->m ∣ dv ts i t p - vl ts p:=by
  intro i h0 t;induction t with
  |zero=>exact h0|succ t ih =>
   intro p hp H;by_cases hc:t+1<=p.getD i 0
   ·rw[zJ hc]
    have b:=Blw.down (p:=p) (i:=i);have ne:=aKy (p:=p) (i:=i) (by lia);have h1:=ih p hp H;have h2:=ih _ (b.len.trans hp) λq hq hn=>H q (hq.trans b) λe=>by
     subst e;have s1:=(Blw.sum hq).1;exact hn ((Blw.sum b).2 (Nat.le_antisymm (Blw.sum b).1 s1)).symm
    have h3:=H _ b ne;have:dv ts i t p - dv ts i t (p.set i (p.getD i 0 - 1)) - vl ts p=(dv ts i t p - vl ts p) - ((dv ts i t (p.set i (p.getD i 0 - 1)) - vl ts (p.set i (p.getD i 0 - 1)))+vl ts (p.set i (p.getD i 0 - 1))):=by lia
    rw[this];exact Int.dvd_sub h1 (aIE h2 h3)
   ·rw[aAz hc];exact ih p hp H
 intro i;induction i with
 |zero=>exact λ_=>step 0 λp hp H=>by rw[uE λt ht=>(hl t ht).trans hp.symm,Int.sub_self];exact Int.dvd_zero m
 |succ i ih=>exact λhi=>step (i+1) λp hp H=>by rw[<- aAu (t:=p.getD i 0) (by lia) (aAD _)];exact ih (by lia) _ p hp H
theorem uQ(hl:∀t∈ts,t.1.length=k)(hp:p.length=k)(H:∀q,Blw q p->q≠p->m ∣ vl ts q):m ∣ fcts p*cf ts p - vl ts p:=by
 rw[<- aHu (ts:=ts) (i:=k) (by lia)];exact aIw hl k (aAD _) 0 p hp H
theorem aFr(hn:0 < n)(hl:∀t∈ts,t.1.length=k):∀(N:Nat) (p:List Nat),p.sum<=N->p.length=k->(∀q,Blw q p->rms n (cf ts) q=0)->(n:Int) ∣ vl ts p:=by
 intro N;induction N using Nat.strongRecOn with
 |ind N ih =>
  intro p hN hp H;have t:=uQ (m:=n) hl hp λq hq hne=>by
   have s:=Blw.sum hq;have lt:q.sum < p.sum:=by
    rcases Nat.lt_or_ge q.sum p.sum with h|h
    ·exact h
    ·exact(hne (s.2 (by lia))).elim
   exact ih q.sum (by lia) q (aAD _) (hq.len.trans hp) λr hr=>H r (hr.trans hq)
  have z:=(kJ (d:=fcts p*cf ts p) hn (iX p) rfl).mpr (H p (Blw.refl p));have:=Int.dvd_sub (aEW z) t;rwa[show(fcts p*cf ts p - (fcts p*cf ts p - vl ts p):Int)=vl ts p by lia]at this
theorem yO(hn:0 < n)(hl:∀t∈ts,t.1.length=k){v:Int}{r:Ts}(F:Frm n k (cf ts) ((s,v)::r)):vl ts s % (n:Int)≠0:=by
 obtain⟨f1,f2,f3⟩:=F.it (s,v) aBG;have low:∀q,Blw q s->q≠s->rms n (cf ts) q=0:=λq hq hne=>by
  have nn:0<=rms n (cf ts) q:=aCO _ (by have:=bU (n:=n) (a:=fcts q) hn;lia);rcases aJQ nn with h|h
  ·have hm:=F.all q (hq.len.trans f1) h
   simp only[ks,aAK,aAU]at hm;rcases hm with h'|h'
   ·exact(hne h').elim
   ·obtain⟨u,hu,e⟩:=aAX.mp h'
    have o:=(List.pairwise_cons.mp F.ord).1 u hu;rw[e]at o;have:=gF _ _ _ o (Blw.lex hq hne);rw[bW]at this;cases this
  ·exact h.symm
 intro z;have t:=uQ (m:=n) hl f1 λq hq hne=>aFr hn hl _ q (aAD _) (hq.len.trans f1) λr hr=>low r (hr.trans hq) λe=>by
  subst e;exact hne ((Blw.sum hq).2 (Nat.le_antisymm (Blw.sum hq).1 (Blw.sum hr).1))
 have:=(kJ (d:=fcts s*cf ts s) hn (iX s) rfl).mp (by
  have:=aIE t (aEW z);rw[show(fcts s*cf ts s - vl ts s+vl ts s:Int)=fcts s*cf ts s by lia]at this;exact aFU this)
 have e:rms n (cf ts) s=0:=this;have g2:0 < v:=f2;have g3:v=rms n (cf ts) s:=f3;rw[e]at g3;lia
def hdD:Ts->D
 |[]=>.non|t::_=>iD t.1
variable{d:List Nat->Int}
theorem aDc{us vs:Ts}(F:Frm n k c us)(G:Frm n k d vs)(e:∀s,s.length=k->(0 < rms n c s ↔ 0 < rms n d s)):hdD us=hdD vs:=by
 have h:us.map (λt=>(t.1,(1:Int)))=vs.map (λt=>(t.1,(1:Int))):=by
  refine qE (aCB.mpr F.ord) (aCB.mpr G.ord) λt=>?_
  rw[aAX,aAX];constructor
  ·rintro⟨u,hu,rfl⟩
   obtain⟨a,b,b'⟩:=F.it u hu;obtain⟨w,hw,e'⟩:=aAX.mp (G.all u.1 a ((e _ a).mp (b'▸b)));exact⟨w,hw,by rw[e']⟩
  ·rintro⟨u,hu,rfl⟩
   obtain⟨a,b,b'⟩:=G.it u hu;obtain⟨w,hw,e'⟩:=aAX.mp (F.all u.1 a ((e _ a).mpr (b'▸b)));exact⟨w,hw,by rw[e']⟩
 cases us with
 |nil=>cases vs with
  |nil=>rfl|cons _ _=>cases h
 |cons u _=>cases vs with
  |nil=>cases h
  |cons v _ =>
   simp only[aAK,aFY,Prod.mk.injEq]at h;simp only[hdD,h.1.1]
theorem zX(hn:0 < n)(h:d s = - c s):0 < rms n c s ↔ 0 < rms n d s:=by
 have r:=bU (n:=n) (a:=fcts s) hn;have z:∀x:Int,0 < x % ((rmN n (fcts s):Nat):Int) ↔ ¬(((rmN n (fcts s):Nat):Int) ∣ x):=λx=>by
  rw[Int.dvd_iff_emod_eq_zero];have:=aCO x (b:=((rmN n (fcts s):Nat):Int)) (by lia);lia
 unfold rms;rw[z,z,h,Int.dvd_neg]
theorem aEg(hn:0 < n)(c:List Nat->Int)(s:List Nat):0<=rms n c s:=aCO _ (by have:=bU (n:=n) (a:=fcts s) hn;lia)
theorem oG{us:Ts}(hn:0 < n)(F:Frm n k c us)(h:s.length=k):tg s us=rms n c s:=by
 cases q:tget s us with
 |some x=>rw[tg,q];exact(F.it _ (nB q)).2.2|none =>
  have nn:=aEg hn c s;rw[tg,q];rcases aJQ nn with z|z
  ·exact(dZ.mp q (F.all s h z)).elim
  ·exact z
structure Fm8(n k:Nat)(c:List Nat->Int)(us:Ts):Prop where
 F:Frm n k c us
 e8:∀s∈ks us,∀e∈s,e<=8
 few:us.length<=10000
theorem Fm8.sub{n k:Nat}{c d:List Nat->Int}{us vs:Ts}(h:Fm8 n k c us)(G:Frm n k d vs)(e:∀s,s.length=k->0 < rms n d s->0 < rms n c s):Fm8 n k d vs:=by
 have sub:ks vs ⊆ ks us:=λs hs=>by
  obtain⟨t,ht,rfl⟩:=aAX.mp hs;obtain⟨a,b,b'⟩:=G.it t ht;exact h.F.all _ a (e _ a (b'▸b))
 refine⟨G,λs hs=>h.e8 s (sub hs),?_⟩;have:=List.Nodup.length_le_of_subset G.nd sub;simp only[ks,aAM]at this;exact aBS this h.few
theorem Fm8.tm{us:Ts}(h:Fm8 n k c us):Tm k us:=⟨h.F.nd,λs hs=>by
 obtain⟨t,ht,rfl⟩:=aAX.mp hs;exact(h.F.it t ht).1,h.e8⟩
def ngT(ts:Ts):Ts:=ts.map λt=>(t.1,t.2*(-1))
theorem aAh(ts:Ts):ks (ngT ts)=ks ts:=by simp[ks,ngT]
theorem zS{p:List Nat->Int}:∀ts:Ts,sm p (ngT ts) = - sm p ts
 |[]=>rfl|t::r=>by
  have:=zS (p:=p) r;simp only[ngT,aAK,sm]at this ⊢;rw[this,Int.mul_neg_one,Int.neg_mul];lia
theorem jW{us:Ts}(hn:2<=n)(hn2:n<=1000000)(hk:k<=4)(h:Fm8 n k c us):Ok (dO [.d (.int n),.d (.tup (us.map tD)),.d (.int (-1))] M) λw M'=>M'=M/\∃vs:Ts,w=.d (.tup (vs.map tD))/\Fm8 n k (λs => - c s) vs:=by
 unfold dO;refine bN rfl ?_;unfold gK
 rfl'
 refine aCz (λi acc L'=>acc=(ngT (us.take i)).map tD/\∃a b,L'=[a,b,some (.d (.int (-1)))]) ?_
 rfl'
 refine⟨⟨rfl,none,none,rfl⟩,(λacc t e=>by cases e),by simp;have:=h.few;lia,?_,?_,?_⟩
 ·rintro i acc L' ⟨rfl,_⟩
  exact⟨by simp[ngT];lia,aHo _⟩
 ·rintro i d acc _ hd ⟨rfl,a,b,rfl⟩
  rw[aAV,aAR]at hd;obtain⟨t,ht,rfl⟩:=hd;obtain⟨s,v⟩:=t;have ni:s∉ks (ngT (us.take i)):=by
   rw[aAh];intro hm;have nd:=h.F.nd;rw[<- aGO i us,ks,aDR]at nd;have il:=(aAF.mp ht)
   refine(aGG.mp nd).2.2 s hm s ?_ rfl;exact aAX.mpr ⟨(s,v),by rw[aFE];exact⟨0,by simpa using ht⟩,rfl⟩
  have hv:=(h.F.it _ (aAQ ht)).2;have hr:rms n c s < n:=by
   have r0:=bU (n:=n) (a:=fcts s) (by lia);have r1:=kP (n:=n) (a:=fcts s);have:=aCN (c s) (b:=((rmN n (fcts s):Nat):Int)) (by lia);unfold rms;lia
  have hv2:v=rms n c s:=hv.2;have hv1:0 < v:=hv.1;rw[show tD (s,v)=.tup [iD s,.int v]from rfl]
  rfl'
  refine⟨rfl,?_⟩
  rfl'
  refine⟨rfl,kN s,fP _,?_⟩
  rfl'
  refine⟨rfl,_,rfl,?_,_,_,rfl⟩;rw[yR,aBX,ht];congr 1;unfold tput;rw[dZ.mpr ni];simp[ngT]
 rintro acc _ ⟨rfl,a,b,rfl⟩;rw[show(us.take (⟨us.map tD,none⟩:Src).ds.length)=us by simp]
 rfl'
 have tm:Tm k (ngT us):=⟨by rw[aAh];exact h.tm.nd,by rw[aAh];exact h.tm.ln,by rw[aAh];exact h.tm.e8⟩
 refine(iP hn hn2 (ts:=ngT us) (j:=M.length) (by simp) tm (by lia) (by simp[ngT];have:=h.few;lia)).mono ?_;rintro _ _ ⟨rfl,vs,rfl,G⟩
 rfl'
 have e:∀s:List Nat,s.length=k->rms n (λs=>tg s (ngT us)) s=rms n (λs => - c s) s:=λs hs=>by
  have:tg s (ngT us) = - rms n c s:=by rw[<- jX tm.nd,zS,jX h.F.nd,oG (by lia) h.F hs]
  unfold rms;simp only[this];unfold rms;rw[Int.neg_emod_eq_sub_emod,Int.neg_emod_eq_sub_emod (a:=c s),Int.sub_emod_emod]
 exact⟨by simp[List.set_append],vs,rfl,h.sub (G.congr e) λs _=>(zX (by lia) rfl).mpr⟩
theorem pL{us vs:Ts}(hn:2<=n)(hn2:n<=1000000)(hk:k<=4)(h:Fm8 n k c us)(g:Fm8 n k d vs):Ok (hX [.d (.int n),.d (.tup (us.map tD)),.d (.tup (vs.map tD))] M) λw M'=>M'=M/\∃ws:Ts,w=.d (.tup (ws.map tD))/\Frm n k (λs=>c s+d s) ws:=by
 unfold hX;refine bN rfl ?_;unfold mU
 rfl'
 refine aHr (wX us) ?_ (by rw[aAM];have:=h.few;lia) ?_
 ·have:(us.map λt=>(kN t.1,D.int t.2)).map (·.1)=(ks us).map kN:=by simp[ks]
  rw[this];exact(aCB.mpr (h.F.nd.imp λn e=>n (rP e)))
 rfl'
 refine bH (λi L M'=>∃ts:Ts,M'=M++[ts.map tD]/\Tm k ts/\ts.length<=us.length+i/\(∀p,sm p ts=sm p us+sm p (vs.take i))/\∃o4 o5,L=[some (.d (.int n)),some (.d (.tup (us.map tD))),some (.d (.tup (vs.map tD))),some (.ob "dict" M.length),o4,o5]) ⟨us,rfl,h.tm,by lia,λp=>by simp[sm],none,none,rfl⟩ (λi L M _ _ t e=>by cases e) ?_ ?_
 ·rintro i x _ _ hd ⟨ts,rfl,hu,ul,uc,o4,o5,rfl⟩
  rw[aAV,aAR]at hd;obtain⟨t,ht,rfl⟩:=hd;have tm:=aAQ ht;have t1:=(g.F.it t tm).1;have t8:=g.e8 t.1 (aDO tm);have il:=(aAF.mp ht).1;have hv:=(g.F.it t tm).2;have:=h.few;have:=g.few;obtain⟨s,v⟩:=t;simp only at t1 t8;rw[show tD (s,v)=.tup [iD s,.int v]from rfl]
  rfl'
  have gM:(M++[ts.map tD])[M.length]?=some (ts.map tD):=by simp
  refine⟨_,_,_,fP _,rfl,gM,?_⟩;rw[sV];obtain⟨y,hy⟩:∃y,y=tg s ts:=⟨_,rfl⟩
  rw[show((tget s ts).map D.int).getD (D.int 0)=D.int y by rw[hy,tg];cases tget s ts <;> rfl]
  rfl'
  refine⟨_,_,_,_,rfl,fP _,rfl,gM,⟨by rw[aAM];lia,aHo ts⟩,?_⟩;refine⟨tput s (y+v) ts,by rw[yR];simp,hu.put t1 t8,?_,λp=>?_,_,_,rfl⟩
  ·have:=aLh (s:=s) (x:=y+v) (ts:=ts);lia
  ·rw[aMf hu.nd,<- hy,aBX,ht]
   simp only[Option.toList_some,jY,sm,uc p];rw[show y+v - y=v by lia];lia
 rintro L _ ⟨ts,rfl,hu,ul,uc,o4,o5,rfl⟩;rw[show(⟨vs.map tD,none⟩:Src).ds.length=vs.length by simp]at ul uc;rw[aBA]at uc;have:=h.few;have:=g.few
 rfl'
 refine(iP hn hn2 (ts:=ts) (j:=M.length) (by simp) hu (by lia) (by lia)).mono ?_;rintro _ _ ⟨rfl,ws,rfl,G⟩
 rfl'
 refine⟨by simp[List.set_append],ws,rfl,G.congr λs hs=>?_⟩;have e:tg s ts=rms n c s+rms n d s:=by rw[<- jX hu.nd,uc,jX h.F.nd,jX g.F.nd,oG (by lia) h.F hs,oG (by lia) g.F hs]
 unfold rms at e ⊢;simp only[e];rw[Int.emod_add_emod,Int.add_emod_emod]
theorem mZ{us vs:Ts}(hn:2<=n)(hn2:n<=1000000)(hk:k<=4)(h:Fm8 n k c us)(g:Fm8 n k d vs):Ok (fF [.d (.int n),.d (.tup (us.map tD)),.d (.tup (vs.map tD))] M) λw M'=>M'=M/\∃ws:Ts,w=.d (.tup (ws.map tD))/\Frm n k (λs=>c s - d s) ws:=by
 unfold fF;refine bN rfl ?_;unfold lK
 rfl'
 refine(jW hn hn2 hk g).mono ?_;rintro _ _ ⟨rfl,xs,rfl,g'⟩
 rfl'
 refine(pL hn hn2 hk h g').mono ?_;rintro _ _ ⟨rfl,ws,rfl,G⟩
 rfl'
 exact⟨aBA,ws,rfl,G.congr λs _=>by unfold rms;exact congrArg (· % _) (Int.sub_eq_add_neg (a:=c s) (b:=d s)).symm⟩
theorem dG{us vs:Ts}(hn:2<=n)(hn2:n<=1000000)(hk:k<=4)(h:Fm8 n k c us)(g:Fm8 n k d vs):Ok (cV [.d (.int n),.d (.tup (us.map tD)),.d (.tup (vs.map tD))] M) λw M'=>M'=M/\∃ws:Ts,w=.d (hdD ws)/\Frm n k (λs=>c s - d s) ws:=by
 unfold cV;refine bN rfl ?_;unfold fQ
 rfl'
 refine(mZ hn hn2 hk h g).mono ?_;rintro _ _ ⟨rfl,ws,rfl,G⟩
 rfl'
 refine dN (λz=>?_) (λz=>?_)
 ·have:ws=[]:=by cases ws with|nil=>rfl|cons _ _=>simp at z;lia
  subst this
  rfl'
  exact⟨aBA,[],rfl,G⟩
 ·cases ws with
  |nil=>exact(z rfl).elim|cons t r =>
   rw[show(t::r).map tD=.tup [iD t.1,.int t.2]::r.map tD from rfl]
   rfl'
   refine hG (d:=.tup [iD t.1,.int t.2]) (by simp[atI,ixN]) ?_
   rfl'
   exact⟨aBA,t::r,rfl,G⟩
theorem aEr(s:List Nat):szs (s.map λe:Nat=>D.int (e:Nat))=s.length:=by
 induction s with
 |nil=>rfl|cons a s ih=>simp[szs,sz,ih];lia
theorem aLi{ts us:Ts}(hn:1<=n)(hc:cs∈capL)(hu:Und cs ts)(F:Frm n cs.length (cf ts) us):∀s∈ks us,Bxs s (szL n cs):=λs hs=>by
 obtain⟨t,ht,rfl⟩:=aAX.mp hs;obtain⟨a,b,b'⟩:=F.it t ht;by_cases h:Bxs t.1 (szL n cs)
 ·exact h
 ·rw[b',zF hn hu a h]at b;lia
theorem aHa{ts us:Ts}(hn:1<=n)(hc:cs∈capL)(hu:Und cs ts)(F:Frm n cs.length (cf ts) us)(few:us.length<=6561):Fm8 n cs.length (cf ts) us:=by
 have hcf:=fJ cs hc;have z9:∀z∈szL n cs,z<=9:=λz hz=>by
  obtain⟨c,h1,rfl⟩:=aAX.mp hz;have:=hcf.2 c h1;lia
 exact⟨F,λs hs=>box8 (aLi hn hc hu F s hs) z9,by lia⟩
theorem aMh{x y:Ts}:vl (x++y) p=vl x p+vl y p:=jY
theorem aQh{x:Ts}:vl (ngT x) p = - vl x p:=zS x
theorem aMo{n i:Int}:∀{ns:List Int},i < n->(∀x∈ns,x < n)->mxD i ns < n
 |[],h,_=>h|x::r,_,h=>by
  have key:∀(r:List Int) (m:Int),m < n->(∀x∈r,x < n)->r.foldl (λm y=>if y > m then y else m) m < n:=by
   intro r;induction r with
   |nil=>exact λm h _=>h
   |cons y r ih =>
    intro m hm hr;simp only[aHB];refine ih _ ?_ λx hx=>hr x (aBF _ hx)
    split
    ·exact hr y aBG
    ·exact hm
  exact key r x (h x aBG) λy hy=>h y (aBF _ hy)
theorem aMb:∀{us vs:Ts},eqDs (us.map tD) (vs.map tD)=decide (us=vs)
 |[],[]=>by simp[eqDs]|[],_::_=>by simp[eqDs]|_::_,[]=>by simp[eqDs]|(s,v)::us,(t,w)::vs=>by
  simp only[aAK,eqDs,aMb,tD,iD,eqD,rF,Bool.and_true];by_cases h1:s=t <;> by_cases h2:v=w <;> by_cases h3:us=vs <;> simp[h1,h2,h3]
theorem aNq(ws:Ts):noL (hdD ws)=true:=by
 cases ws with
 |nil=>rfl|cons t r=>simp only[hdD,iD,noL];exact tQ t.1
theorem tG{ts xs:Ts}(hn:2<=n)(hn2:n<=1000000)(hc:cs∈capL)(hu:Und cs ts)(hx:Und cs xs)(hl:ts.length<=100)(hxl:xs.length<=100):Ok (kO [.d (.int n),.d (.tup (ts.map tD)),.d (.tup (xs.map tD)),.d (iD cs)] M) λw M'=>M'=M/\w=.d (.bl true):=by
 have hcf:=fJ cs hc;unfold kO;refine bN (Eq.refl _) ?_;unfold qH
 rfl'
 refine(cZ hn hn2 hc hu).mono ?_;rintro _ M ⟨rfl,us,rfl,F,ul⟩
 rfl'
 refine(cZ hn hn2 hc hx).mono ?_;rintro _ M ⟨rfl,vs,rfl,G,vl'⟩;have f8:=aHa (by lia) hc hu F ul;have g8:=aHa (by lia) hc hx G vl'
 rfl'
 refine cF (λi acc L' M'=>M'=M/\acc=(ngT (xs.take i)).map tD/\∃a b,L'=[a,b]) ?_
 rfl'
 refine⟨⟨rfl,rfl,none,none,rfl⟩,?_,by simp;lia,?_,?_⟩
 ·rintro i acc L' M' hi ⟨rfl,rfl,_⟩
  exact⟨rfl,(λt e=>by cases e),by simp[ngT];lia⟩
 ·rintro i d acc _ M hd ⟨rfl,rfl,a,b,rfl⟩
  rw[aAV,aAR]at hd;obtain⟨⟨s,v⟩,ht,rfl⟩:=hd;rw[show tD (s,v)=.tup [iD s,.int v]from rfl]
  rfl'
  exact⟨_,_,rfl,rfl,rfl,by rw[aBX,ht];simp[ngT,tD],_,_,rfl⟩
 rintro acc _ M ⟨rfl,rfl,a,b,rfl⟩;rw[show(⟨xs.map tD,none⟩:Src).ds.length=xs.length by simp,aBA]
 rfl'
 refine jL rfl ?_
 rfl'
 refine eI (by simp[ngT];lia) ?_;rw[<- aDR];have hxn:Und cs (ngT xs):=λu hu=>by
  obtain⟨t,ht,rfl⟩:=aAX.mp hu;exact hx t ht
 have huA:Und cs (ts++ngT xs):=λu hu'=>(aCH.mp hu').elim (hu u) (hxn u)
 rfl'
 refine(cZ hn hn2 hc huA).mono ?_;rintro _ M ⟨rfl,ws,rfl,A,wl⟩;have eA:cf (ts++ngT xs)=λs=>cf ts s - cf xs s:=by
  funext s;unfold cf;rw[jY,zS];lia
 rfl'
 have uv:us=vs ↔ ws=[]:=by
  constructor
  ·rintro rfl
   cases ws with
   |nil=>rfl|cons t r =>
    obtain⟨a,b,b'⟩:=A.it t aBG;have e1:=oG (by lia) F a;rw[oG (by lia) G a]at e1;have:rms n (cf (ts++ngT xs)) t.1=0:=by
     unfold rms at e1 ⊢;rw[eA];exact aFU (aEW (by rw[Int.sub_emod,<- e1,Int.sub_self,Int.zero_emod]))
    lia
  ·rintro rfl
   refine F.uniq G λs hs=>?_
   have nn:=aEg (by lia) (cf (ts++ngT xs)) s (n:=n);have z:rms n (cf (ts++ngT xs)) s=0:=by
    rcases aJQ nn with z|z
    ·cases A.all s hs z
    ·exact z.symm
   unfold rms at z ⊢;rw[eA]at z;exact Int.emod_eq_emod_iff_emod_sub_eq_zero.mpr z
 have dt:=oC ws;refine pR rfl rfl (by simp only[dep];exact⟨by lia,by decide⟩) ?_;refine⟨_,rfl,?_⟩;refine Okx.mono (Q:=λo M5=>M5=M/\o=.nx [some (.d (.int n)),some (.d (.tup (ts.map tD))),some (.d (.tup (xs.map tD))),some (.d (iD cs)),some (.d (.tup (us.map tD))),some (.d (.tup (vs.map tD))),some (.d (.tup (ws.map tD))),some (.d (hdD ws))]) ?_ ?_
 ·cases ws with
  |nil =>
   refine gZ (by simp[eqD,eqDs]) ?_;exact rW ⟨rfl,rfl⟩
  |cons t r =>
   obtain⟨s0,v0⟩:=t;have hp:=yO (k:=cs.length) (by lia) (λt ht=>(huA t ht).1) A;have bx:=aLi (by lia) hc huA A s0 (by simp[ks]);have z9:∀z∈szL n cs,z<=9:=λz hz=>by
    obtain⟨c,h1,rfl⟩:=aAX.mp hz;have:=hcf.2 c h1;lia
   have s9:∀x∈s0,x<=9:=λx hx=>by have:=box8 bx z9 x hx;lia
   have sn:∀x∈s0,x < n:=λx hx=>by
    obtain⟨i,hi⟩:=aFE.mp hx;have il:=(aAF.mp hi).1;have il2:i < (szL n cs).length:=by rw[<- bx.len];exact il
    have:=bx.lt hi (aAP il2);obtain⟨c,_,e⟩:=aGn (aAP il2);lia
   have t8:∀{y:Ts},Und cs y->∀t∈y,∀e∈t.1,e<=8:=λhy t ht e he=>by
    obtain⟨i,hi,rfl⟩:=aCK.mp he;have l:=hy t ht;have il:i < cs.length:=by rw[<- l.1];exact hi
    exact aBS (l.2 i t.1[i] cs[i] (by simp) (by simp)) (hcf.2 _ (aCQ _))
   refine aFq (by simp[eqD,eqDs]) ?_;rw[show((s0,v0)::r).map tD=.tup [iD s0,.int v0]::r.map tD from rfl]
   rfl'
   refine hG (d:=.tup [iD s0,.int v0]) (by simp[atI,ixN]) ?_
   rfl'
   refine(eR (t8 hu) s9).mono ?_;rintro _ M ⟨rfl,rfl⟩
   rfl'
   refine(eR (t8 hx) s9).mono ?_;rintro _ M ⟨rfl,rfl⟩
   rfl'
   refine⟨λz=>?_,λ_=>?_⟩
   ·have z:(vl ts s0 - vl xs s0) % (n:Int)=0:=aFK z
    rw[aMh,aQh,<- Int.sub_eq_add_neg]at hp;exact(hp z).elim
   ·rfl'
    refine aKo (nF s0) ?_
    rfl'
    refine dN (λz=>?_) (λ_=>rW ⟨rfl,rfl⟩);have:=aMo (n:=(n:Int)) (i:=0) (ns:=iL s0) (by lia) λx hx=>by
     obtain⟨y,hy,rfl⟩:=aAX.mp hx;have:=sn y hy;lia
    lia
 rintro _ M ⟨rfl,rfl⟩;have du:=oC us;have dv':=oC vs
 rfl'
 refine aAg rfl rfl (by simp only[dep];exact⟨by lia,by lia⟩) ?_
 rfl'
 refine aAg rfl rfl (by simp only[dep];exact⟨by lia,by decide⟩) ?_;refine aDw ?_;refine⟨_,rfl,?_⟩;refine gZ ?_ ?_
 ·rw[show eqD (.tup (us.map tD)) (.tup (vs.map tD))=decide (us=vs)from aMb,show eqD (.tup (ws.map tD)) (.tup [])=decide (ws=[])from aMb (vs:=[])]
  by_cases z:ws=[]
  ·simp[z,uv.mpr z]
  ·have z2:¬us=vs:=λe=>z (uv.mp e)
   simp[z,z2]
 have hn':=aNq ws;have hs':sz (hdD ws)<=16777216:=by
  cases ws with
  |nil=>simp[hdD,sz]|cons t r =>
   have:=(A.it t aBG).1;have:=aEr t.1;simp only[hdD,iD,sz];lia
 refine rW ?_
 rfl'
 refine(dG hn hn2 hcf.1 f8 g8).mono ?_;rintro _ M ⟨rfl,w1,rfl,B1⟩
 rfl'
 rw[B1.uniq (eA▸A) λ_ _=>rfl];refine(mI hn' hs').mono ?_;rintro _ M ⟨rfl,rfl⟩
 rfl'
 refine(dG hn hn2 hcf.1 g8 f8).mono ?_;rintro _ M ⟨rfl,w2,rfl,B2⟩
 rfl'
 rw[aDc B2 (eA▸A) λs _=>zX (by lia) (by show cf ts s - cf xs s = -(cf xs s - cf ts s);lia)];refine(mI hn' hs').mono ?_;rintro _ M ⟨rfl,rfl⟩
 rfl'
 exact⟨aBA,rfl⟩
theorem Und.sub{x y:Ts}(h:Und cs x)(s:∀t∈y,∃u∈x,t.1=u.1):Und cs y:=λt ht=>by
 obtain⟨u,hu,e⟩:=s t ht;rw[e];exact h u hu
theorem oZ{m:Nat}{ts:Ts}(hb:Bx M b)(hn:2<=m)(hn2:m<=1000000)(hc:cs∈capL)(hu:Und cs ts)(hl:ts.length<=12):Ok (hZ [.ref b,.d (.int m),.d (.tup (ts.map tD)),.d (iD cs)] M) λw M'=>∃xs:Ts,w=.d (.tup (xs.map tD))/\Und cs xs/\xs.length<=13/\Nx b M M':=by
 have hcf:=fJ cs hc;unfold hZ;refine bN rfl ?_;unfold oO;have n:=Nx.refl hb
 rfl'
 (refine(aP hb (by lia) (by lia)).mono ?_;rintro _ _ ⟨d1,rfl,l_d1,u_d1,n'⟩;replace n:=n.trans n';replace hb:=n'.bx hb;clear n')
 have dt:=oC ts;refine aBq (xB (xC (Okx.mono (Q:=λc M2=>(c=false->ts≠[])/\Nx b M M2/\Bx M2 b) ?_ ?_)))
 ·rfl'
  refine⟨λ_=>⟨(λh=>by cases h),n,hb⟩,λ_=>?_⟩
  rfl'
  refine aAg rfl rfl (by simp only[dep];exact⟨by lia,by decide⟩) ?_
  rfl'
  refine⟨λh e=>?_,n,hb⟩;subst e;cases h
 clear n hb;rintro c M2 ⟨hc0,n,hb⟩;cases c with
 |true =>
  rfl'
  refine rM (xs:=nsD cs) ?_;rw[show(nsD cs).length=cs.length by simp]
  rfl'
  refine(iZ hb hc).mono ?_;rintro _ _ ⟨xs,rfl,hx,xl,n'⟩;replace n:=n.trans n'
  rfl'
  exact⟨hx,by lia,by rw[<- n.len,aBA];exact n⟩
 |false =>
  have tne:0 < ts.length:=aJB.mpr (hc0 rfl)
  rfl'
  refine(aP hb (m:=((ts.map tD).length:Int)) (by simp;lia) (by simp;lia)).mono ?_;rintro _ _ ⟨r,rfl,lr,ur,n'⟩;replace n:=n.trans n';replace hb:=n'.bx hb;clear n';have hr:r.toNat < ts.length:=by simp at ur;lia
  rfl'
  refine hG (d:=tD ts[r.toNat]) ?_ ?_
  ·simp only[atI,ixN,aAM]
   rw[aAG lr,aAG (by simpa using ur)];simp[hr]
  have ut:=aCQ hr;generalize ts[r.toNat]=u at ut;obtain⟨s,v⟩:=u;rw[show tD (s,v)=.tup [iD s,.int v]from rfl]
  rfl'
  refine dN (λ_=>?_) (λ_=>?_)
  ·rfl'
   (refine(aP hb (by lia) (by lia)).mono ?_;rintro _ _ ⟨d2,rfl,l_d2,u_d2,n'⟩;replace n:=n.trans n';replace hb:=n'.bx hb;clear n')
   obtain⟨x,ex,_⟩:=atInts (ns:=[(m:Int),1,m / 2]) l_d2 (by simpa using u_d2);refine cL ex ?_
   rfl'
   rw[show r=(r.toNat:Int) by lia,aHq (by simp;lia)];refine eI (by simp;lia) ?_
   rfl'
   rw[show(r.toNat:Int)+1=((r.toNat+1:Nat):Int) by lia,aEj (by simp;lia)];refine eI (by simp;lia) ?_
   rfl'
   refine⟨ts.take r.toNat++[(s,v+x)]++ts.drop (r.toNat+1),by simp[tD],hu.sub λt ht=>?_,by simp;lia,by rw[<- n.len,aBA];exact n⟩;simp only[aCH,aBP]at ht;rcases ht with(ht|rfl)|ht
   ·exact⟨t,aCZ ht,rfl⟩
   ·exact⟨_,ut,rfl⟩
   ·exact⟨t,aIR ht,rfl⟩
  ·rfl'
   refine cF (λi acc L' M'=>∃es:List Nat,Nx b M M'/\Bx M' b/\acc=nsD es/\es.length=i/\(∀j e c:Nat,es[j]?=some e->cs[j]?=some c->e<=c)/\∃a,L'=[a,some (.ref b)]) ?_
   rfl'
   refine⟨⟨[],n,hb,rfl,rfl,by simp,none,rfl⟩,?_,by simp;lia,?_,?_⟩
   ·rintro k acc L' M' hk ⟨es,nj,_,rfl,hes,_⟩
    exact⟨by rw[nj.len,n.len],(λt e=>by cases e),by simp[hes]⟩
   ·rintro k d acc _ Mj hx ⟨es,nj,hbj,rfl,hes,hle,a,rfl⟩
    rw[aAV,aAR]at hx;obtain⟨c,hx,rfl⟩:=hx;have c8:=hcf.2 c (aAQ hx)
    rfl'
    refine(aP hbj.app (by lia) (by lia)).mono ?_;rintro _ _ ⟨d2,rfl,l2,u2,n'⟩;obtain⟨M2,rfl,n2⟩:=n'.unapp hbj.lt;refine⟨_,M2,rfl,rfl,es++[d2.toNat],nj.trans n2,n2.bx hbj,?_,by simp[hes],?_,_,rfl⟩
    ·rw[nsD,nsD,aDR,List.map_singleton]
     congr 3;lia
    ·intro j e c' h1 h2
     rw[aIP]at h1;split at h1
     ·exact hle j e c' h1 h2
     ·rename_i hj
      have hj2:j=es.length:=by
       have:=(aAF.mp h1).1;simp at this;lia
      subst hj2;rw[aGM]at h1;simp at h1;subst h1;rw[hes,hx]at h2;cases h2;lia
   rintro acc _ M4 ⟨es,n4,hb4,rfl,hes,hle,a,rfl⟩;have hes:es.length=cs.length:=by simpa using hes
   rfl'
   refine jL (xs:=nsD es) rfl ?_
   rfl'
   clear n hb;have n:=n4;have hb:=hb4
   (refine(aP hb (by lia) (by lia)).mono ?_;rintro _ _ ⟨d3,rfl,l_d3,u_d3,n'⟩;replace n:=n.trans n';replace hb:=n'.bx hb;clear n')
   rfl'
   (refine(aP hb (by lia) (by lia)).mono ?_;rintro _ _ ⟨d4,rfl,l_d4,u_d4,n'⟩;replace n:=n.trans n';replace hb:=n'.bx hb;clear n')
   obtain⟨x,ex,_⟩:=atInts (ns:=[(m:Int),1+d3,m / 2,m / 6]) l_d4 (by simpa using u_d4);refine cL ex ?_
   rfl'
   refine eI (by simp;lia) ?_
   rfl'
   refine⟨ts++[(es,x)],by simp[tD];rfl,λt ht=>?_,by simp;lia,by rw[<- n.len,aBA];exact n⟩;rcases aCH.mp ht with ht|ht
   ·exact hu t ht
   ·rw[aBP]at ht;subst ht;exact⟨hes,hle⟩
def Ask(d:D):Prop:=∃(n:Nat) (cs:List Nat) (ts xs:Ts),d=.tup [.int n,.tup (ts.map tD),.tup (xs.map tD),iD cs]/\2<=n/\n<=1000000/\cs∈capL/\Und cs ts/\Und cs xs/\ts.length<=100/\xs.length<=100
theorem aPi(ns:List Int)(hn:ns.length<=63):Ok (oR [.d (.fz (ns.map D.int))] []) λw _=>w=.d (.bl true):=by
 unfold oR;refine bN (Eq.refl _) ?_;unfold aLo
 rfl'
 generalize hk:(if(if((List.map D.int ns).length:Int) < 6 then((List.map D.int ns).length:Int)else 6) > 3 then(if((List.map D.int ns).length:Int) < 6 then((List.map D.int ns).length:Int)else 6)else 3)=kk;have hk1:3<=kk/\kk<=6:=by
  rw[<- hk];generalize((List.map D.int ns).length:Int)=q;by_cases h:q < 6
  ·rw[aAG h]
   by_cases h2:q > 3
   ·rw[aAG h2];lia
   ·rw[aAH h2];lia
  ·rw[aAH h];simp
 refine⟨by simp only[in62,aBO];lia,?_⟩;refine bH (λi L M'=>∃as:List D,(M'[0]?=some as/\(∀a∈as,Ask a)/\as.length<=i)/\∃o2 o3 o4 o5 o6,L=[some (.d (.fz (ns.map D.int))),some (.ref 0),o2,o3,o4,o5,o6]) ⟨[],⟨rfl,by simp,by simp⟩,none,none,none,none,none,rfl⟩ (λi L M _ _ t e=>by cases e) ?_ ?_
 ·rintro i d _ M hd ⟨as,⟨hM,ha,hal⟩,o2,o3,o4,o5,o6,rfl⟩
  obtain⟨hi,rfl⟩:=cE hd;have hi:i < 6:=by lia
  have hM0:M.length≠0:=by intro h;rw[aEY.mp h]at hM;cases hM
  rfl'
  refine(aHn (by lia) hn).mono ?_;rintro _ _ ⟨x,y,z,rfl,rfl⟩;have hb:Bx (M++[[.int x,.int y,.int z]]) M.length:=⟨x,y,z,by simp⟩
  have nx:=Nx.refl hb;have hM':(M++[[D.int x,D.int y,D.int z]])[0]?=some as:=by rw[aAW (by lia)];exact hM
  generalize M++[[.int x,.int y,.int z]]=M1 at hb nx hM';generalize M.length=b at hb nx hM0
  rfl'
  refine(aPg hb).mono ?_;rintro _ _ ⟨m,rfl,m2,m1,n'⟩;replace nx:=nx.trans n';replace hb:=n'.bx hb;clear n'
  rfl'
  refine(aP hb (by lia) (by lia)).mono ?_;rintro _ _ ⟨d2,rfl,l2,u2,n'⟩;replace nx:=nx.trans n';replace hb:=n'.bx hb;clear n'
  rfl'
  refine(aP hb (by lia) (by lia)).mono ?_;rintro _ _ ⟨d3,rfl,l3,u3,n'⟩;replace nx:=nx.trans n';replace hb:=n'.bx hb;clear n';obtain⟨v,ev,mv⟩:=atInts (ns:=[m,2+d2]) l3 (by simpa using u3);refine cL ev ?_;obtain⟨n,rfl⟩:∃n:Nat,v=n:=⟨v.toNat,by simp at mv;lia⟩
  have n2:2<=n/\n<=1000000:=by simp at mv;lia
  rfl'
  refine(aCt hb).mono ?_;rintro _ _ ⟨cs,hc,rfl,n'⟩;replace nx:=nx.trans n';replace hb:=n'.bx hb;clear n'
  rfl'
  refine rM (xs:=nsD cs) ?_;rw[show(nsD cs).length=cs.length by simp]
  rfl'
  refine(iZ hb hc).mono ?_;rintro _ _ ⟨ts,rfl,hu,tl,n'⟩;replace nx:=nx.trans n';replace hb:=n'.bx hb;clear n'
  rfl'
  refine(oZ hb n2.1 n2.2 hc hu tl).mono ?_;rintro _ M5 ⟨xs,rfl,hx,xl,n'⟩;replace nx:=nx.trans n';have h5:M5[0]?=some as:=by rw[nx.get hM0];exact hM'
  have hlt:0 < M5.length:=(aAF.mp h5).1
  rfl'
  refine kU h5 (by lia) ?_
  rfl'
  refine⟨as++[_],⟨aBZ hlt,?_,by simp;lia⟩,_,_,_,_,_,rfl⟩;intro a h;rcases aCH.mp h with h|h
  ·exact ha a h
  ·rw[aBP.mp h]
   exact⟨n,cs,ts,xs,rfl,n2.1,n2.2,hc,hu,hx,by lia,by lia⟩
 ·rintro L M ⟨as,⟨hM,ha,hal⟩,o2,o3,o4,o5,o6,rfl⟩
  have hal:as.length<=6:=by simp[rngD]at hal;lia
  have hlc:(cut as none (some 1)).length<=as.length:=aKp;have hall:∀e∈as++cut as none (some 1),Ask e:=by
   intro e he;rcases aCH.mp he with he|he
   ·exact ha e he
   ·exact ha e (aJz he)
  rfl'
  refine cF (λi acc L' M'=>acc=(List.replicate i true).map D.bl/\M'=M/\∃a b c e,L'=[a,b,c,e]) ?_
  rfl'
  refine aMj (xs:=as) (by simp) (by simp[lr,lv,hM]) ?_;refine zH (xs:=as) (by simp[lv,hM]) rfl (by lia) ?_;refine⟨_,rfl,⟨rfl,rfl,none,none,none,none,rfl⟩,?_,by simp;lia,?_,?_⟩
  ·rintro i acc L' M' hi ⟨rfl,rfl,_⟩
   exact⟨rfl,(λt e=>by cases e),by simp⟩
  ·rintro i d acc _ M hx ⟨rfl,rfl,a,b,c,e,rfl⟩
   obtain⟨n,cs,ts,xs,rfl,n2,n1,hc,hu,hx',tl,xl⟩:=hall d (aAQ hx)
   rfl'
   refine(tG n2 n1 hc hu hx' tl xl).mono ?_;rintro _ M ⟨rfl,rfl⟩;exact⟨_,_,rfl,rfl,by rw[List.replicate_succ'];simp,rfl,_,_,_,_,rfl⟩
  ·rintro acc _ M ⟨rfl,rfl,a,b,c,e,rfl⟩
   rfl'
   refine aOx (bs:=List.replicate _ true) rfl rfl ?_
   rfl'
   simp
theorem aEf(ns:List Int)(hn:ns.length<=63):∃M',oR [.d (.fz (ns.map D.int))] []=.ok (.d (.bl true)) M':=by
 obtain⟨_,M,e,rfl⟩:=gY.mp (aPi ns hn);exact⟨M,e⟩
theorem aOs{l:PySem.W.OpenLaw}{fa:Addr}  (X:K.In h)(G:h.Ns mainGlobals mg)(hfa:mg "law"=some (.ref fa))(t:Tk K)
  (nddict:nsIn K mainGlobals "dict"=some none)
  : ∃fd:FuncData,(∀(s:Shared) (v:Value),BindsTo s fd ⟨[v],[]⟩ [("_law_script",v)])/\∀base:Heap,K.In base->base.Ns mainGlobals mg->FnOk l.prog w K mg base CX0 9 fa fd ["_law_script"] (spF K Z0 1 oR):=by
 have H:Hk K mg:=⟨h,X,G⟩
 have T:Tx K mg () :=
  ⟨t,
   H,
   nddict,
   H.no t.z_all,
   H.no t.z_bool,
   H.no t.z_dict,
   H.no t.z_int,
   H.no t.z_isinstance,
   H.no t.z_len,
   H.no t.z_list,
   H.no t.z_max,
   H.no t.z_min,
   H.no t.z_range,
   H.no t.z_sorted,
   H.no t.z_tuple,
   H.no t.z_zip⟩
 exact aKm (D:=aAv) t.d_law eG hfa rfl H λbase=>aNk T
theorem aDr{l:PySem.W.OpenLaw}{q:Program}{d:DefRec}{K:Params->Frag}(hn:l.most=some 63)(hdf:d.params.defaults=[])
  (hY:∀(w:World) (h:Heap),YP w h->(K w.params).In h)
  (F:∀(w:World) (mg:Str->Option Value) (fa:Addr) (h:Heap),(K w.params).In h->h.Ns mainGlobals mg->mg d.name=some (.ref fa) ->
   ∃fd:FuncData,(∀(s:Shared) (u:Value),BindsTo s fd ⟨[u],[]⟩ [("_law_script",u)])/\∀base:Heap,(K w.params).In base->base.Ns mainGlobals mg->FnOk l.prog w (K w.params) mg base CX0 9 fa fd ["_law_script"] (spF (K w.params) Z0 1 oR)) :
  PySem.W.WalkO q loose XP YP l.row.toRowW d [] (λf vs=>PySem.call f vs) :=
 L2.aBp (n:=63) (k:=9) (x:="_law_script") (CX:=λw=>CX0) (sp:=λw=>(spF (K w.params) Z0 1 oR)) hn (by decide) hdf ⟨rfl,by decide,by decide⟩ hY F (λ_ _ a ns hl hO hS=>aOu hO hS (aEf ns hl)) λ_ _ _ _ _ z=>z
end K53
open PySem PySem.W PyProof.Rows
end
namespace PySem.W.Fast
def zo:Params->Obj:=fun _=>default
def zs:List Stmt:=[]
def zb:Params->BT:=fun _=>BT.nil
theorem zq{α:Type _}(a:α):a=a:=rfl
def tw17719307582582276742:=zs
def te17719307582582276742:=zq tw17719307582582276742
def tw15503189163626053325:=zo
def te15503189163626053325:=zq tw15503189163626053325
def tw610385970793080825:=zo
def te610385970793080825:=zq tw610385970793080825
def tw18431669406927534758:=zo
def te18431669406927534758:=zq tw18431669406927534758
def tw5048060150510097172:=zo
def te5048060150510097172:=zq tw5048060150510097172
def tw4344524472640062397:=zo
def te4344524472640062397:=zq tw4344524472640062397
def tw6875101061011044812:=zo
def te6875101061011044812:=zq tw6875101061011044812
def tw14574051310892395832:=zo
def te14574051310892395832:=zq tw14574051310892395832
def tw10670552515242469336:=zo
def te10670552515242469336:=zq tw10670552515242469336
def tw6291835625123919319:=zo
def te6291835625123919319:=zq tw6291835625123919319
def tw11583526205745889350:Params->Heap:=fun _=>⟨#[],default⟩
theorem te11583526205745889350:tw11583526205745889350=tw11583526205745889350:=rfl
def tw4622897804056456295:Params->Heap:=fun _=>⟨#[],default⟩
theorem te4622897804056456295:tw4622897804056456295=tw4622897804056456295:=rfl
def tw13113822830298139680:Program:=Challenge.pw_lentshelf_k53_where_forms_part
theorem te13113822830298139680:Challenge.pw_lentshelf_k53_where_forms_part=tw13113822830298139680:=rfl
def tw11466125596188400011:Program:=Challenge.pw_lentshelf_k53_where_forms_part
theorem te11466125596188400011:tw11466125596188400011=tw11466125596188400011:=rfl
def tw1258240916282026646:=zs
def te1258240916282026646:=zq tw1258240916282026646
def tw4490076949079238233:=zb
def te4490076949079238233:=zq tw4490076949079238233
def tw13999509624659843719:=zs
def te13999509624659843719:=zq tw13999509624659843719
def tw13366523343533126614:=zb
def te13366523343533126614:=zq tw13366523343533126614
def tw11259949635373455785:=zo
def te11259949635373455785:=zq tw11259949635373455785
def tw13114389643988578726:=zo
def te13114389643988578726:=zq tw13114389643988578726
def tw3606830019728974530:=zo
def te3606830019728974530:=zq tw3606830019728974530
def tw7802507177636519392:=zo
def te7802507177636519392:=zq tw7802507177636519392
def tw12801575055059243529:=zo
def te12801575055059243529:=zq tw12801575055059243529
def tw7337220656568808067:=zo
def te7337220656568808067:=zq tw7337220656568808067
def tw4134076664478314784:=zo
def te4134076664478314784:=zq tw4134076664478314784
def tw4793319202661861182:=zo
def te4793319202661861182:=zq tw4793319202661861182
def tw8807555062456433956:=zo
def te8807555062456433956:=zq tw8807555062456433956
def tw14766458537877839478:=zo
def te14766458537877839478:=zq tw14766458537877839478
def tw4574319252870876414:=zo
def te4574319252870876414:=zq tw4574319252870876414
def tw996120366476729604:=zo
def te996120366476729604:=zq tw996120366476729604
def tw9519244544201108601:=zo
def te9519244544201108601:=zq tw9519244544201108601
def tw8847562925338250275:=zo
def te8847562925338250275:=zq tw8847562925338250275
def tw17867156041645667325:=zo
def te17867156041645667325:=zq tw17867156041645667325
def tw4752413545404945803:=zo
def te4752413545404945803:=zq tw4752413545404945803
def tw8712671845104233561:=zo
def te8712671845104233561:=zq tw8712671845104233561
def tw3005043666498849543:=zo
def te3005043666498849543:=zq tw3005043666498849543
def tw1371388219914515483:=zo
def te1371388219914515483:=zq tw1371388219914515483
def tw9577269804917252782:=zo
def te9577269804917252782:=zq tw9577269804917252782
def tw7602879498650634248:=zo
def te7602879498650634248:=zq tw7602879498650634248
def tw15332402217608181613:=zo
def te15332402217608181613:=zq tw15332402217608181613
def tw15898752851371084399:=zo
def te15898752851371084399:=zq tw15898752851371084399
def tw5479596276365222778:=zo
def te5479596276365222778:=zq tw5479596276365222778
def tw10205923146584230578:=zo
def te10205923146584230578:=zq tw10205923146584230578
def tw16351954919299534890:=zo
def te16351954919299534890:=zq tw16351954919299534890
def tw3545338601073191576:=zo
def te3545338601073191576:=zq tw3545338601073191576
def tw7891919350356274223:=zo
def te7891919350356274223:=zq tw7891919350356274223
def tw9789617383395172667:=zo
def te9789617383395172667:=zq tw9789617383395172667
def tw17252626517793481895:=zo
def te17252626517793481895:=zq tw17252626517793481895
def tw16262034398706880146:=zo
def te16262034398706880146:=zq tw16262034398706880146
def tw1240241373488064162:=zo
def te1240241373488064162:=zq tw1240241373488064162
def tw2606097726124005805:=zo
def te2606097726124005805:=zq tw2606097726124005805
def tw12308735019482501908:=zo
def te12308735019482501908:=zq tw12308735019482501908
def tw95174947261234147:=zo
def te95174947261234147:=zq tw95174947261234147
def tw248661727011956955:=zo
def te248661727011956955:=zq tw248661727011956955
def tw10061145252009240496:=zo
def te10061145252009240496:=zq tw10061145252009240496
def tw14864913307713969930:=zo
def te14864913307713969930:=zq tw14864913307713969930
def tw17763793634034042852:=zo
def te17763793634034042852:=zq tw17763793634034042852
def tw8911133195824280328:=zo
def te8911133195824280328:=zq tw8911133195824280328
def tw632299091765999939:=zo
def te632299091765999939:=zq tw632299091765999939
def tw12124823991787707899:=zo
def te12124823991787707899:=zq tw12124823991787707899
def tw4448827555625062205:=zo
def te4448827555625062205:=zq tw4448827555625062205
def tw6105769919635407350:=zo
def te6105769919635407350:=zq tw6105769919635407350
def tw12282292311905991646:=zo
def te12282292311905991646:=zq tw12282292311905991646
def tw12253594295974441197:=zo
def te12253594295974441197:=zq tw12253594295974441197
def tw5730036211032246430:=zo
def te5730036211032246430:=zq tw5730036211032246430
def tw17080862742360142356:=zo
def te17080862742360142356:=zq tw17080862742360142356
def tw8169219780233496968:=zo
def te8169219780233496968:=zq tw8169219780233496968
def tw9483650603274690228:=zo
def te9483650603274690228:=zq tw9483650603274690228
def tw7926462322531534751:=zo
def te7926462322531534751:=zq tw7926462322531534751
def tw6388849522890787701:=zo
def te6388849522890787701:=zq tw6388849522890787701
def tw223284099648981627:=zo
def te223284099648981627:=zq tw223284099648981627
def tw5855866996449628729:=zo
def te5855866996449628729:=zq tw5855866996449628729
def tw6646607825821490131:=zo
def te6646607825821490131:=zq tw6646607825821490131
def tw80076369283948947:=zo
def te80076369283948947:=zq tw80076369283948947
def tw1009353200884385170:=zo
def te1009353200884385170:=zq tw1009353200884385170
def tw14469750222910197805:=zo
def te14469750222910197805:=zq tw14469750222910197805
def tw12778240628080191033:=zo
def te12778240628080191033:=zq tw12778240628080191033
def tw18353193201533271521:=zo
def te18353193201533271521:=zq tw18353193201533271521
def tw11829988588907650727:=zo
def te11829988588907650727:=zq tw11829988588907650727
def tw18118170795635773917:=zo
def te18118170795635773917:=zq tw18118170795635773917
def tw3484685050370841874:=zo
def te3484685050370841874:=zq tw3484685050370841874
def tw16126484421946969879:=zo
def te16126484421946969879:=zq tw16126484421946969879
def tw4633699382943893983:=zo
def te4633699382943893983:=zq tw4633699382943893983
def tw15524010745277786634:=zo
def te15524010745277786634:=zq tw15524010745277786634
def tw1005837347259203229:=zo
def te1005837347259203229:=zq tw1005837347259203229
def tw14782535538129212008:=zo
def te14782535538129212008:=zq tw14782535538129212008
def tw18203205481549734006:=zo
def te18203205481549734006:=zq tw18203205481549734006
def tw13862685039543559962:=zo
def te13862685039543559962:=zq tw13862685039543559962
def tw4130096959423339197:=zo
def te4130096959423339197:=zq tw4130096959423339197
def tw689215174115813811:=zo
def te689215174115813811:=zq tw689215174115813811
def tw4525538738548733510:=zo
def te4525538738548733510:=zq tw4525538738548733510
def tw18344785381311510203:=zo
def te18344785381311510203:=zq tw18344785381311510203
def tw3483103024637368740:=zo
def te3483103024637368740:=zq tw3483103024637368740
def tw14860982839796344227:=zo
def te14860982839796344227:=zq tw14860982839796344227
def tw8276211226535256119:=zo
def te8276211226535256119:=zq tw8276211226535256119
def tw12901056915339148781:=zo
def te12901056915339148781:=zq tw12901056915339148781
def tw647815145400750198:=zo
def te647815145400750198:=zq tw647815145400750198
def tw12752695345189902688:=zo
def te12752695345189902688:=zq tw12752695345189902688
def tw308831341170482865:=zo
def te308831341170482865:=zq tw308831341170482865
def tw9231825550633365292:=zo
def te9231825550633365292:=zq tw9231825550633365292
def tw14962027915768104547:=zo
def te14962027915768104547:=zq tw14962027915768104547
def tw2033355350183422701:=zo
def te2033355350183422701:=zq tw2033355350183422701
def tw14843552445608991036:=zb
def te14843552445608991036:=zq tw14843552445608991036
def tw16162199873161396338:=zo
def te16162199873161396338:=zq tw16162199873161396338
def tw15012009712976844231:=zo
def te15012009712976844231:=zq tw15012009712976844231
def tw15005966334399752654:=zo
def te15005966334399752654:=zq tw15005966334399752654
def tw2781404953165070904:=zo
def te2781404953165070904:=zq tw2781404953165070904
def tw2773111961367473992:=zo
def te2773111961367473992:=zq tw2773111961367473992
def tw7153638146264958856:=zo
def te7153638146264958856:=zq tw7153638146264958856
def tw8327190213482767149:=zo
def te8327190213482767149:=zq tw8327190213482767149
def tw4167840880001776906:=zo
def te4167840880001776906:=zq tw4167840880001776906
def tw17713951357886894254:=zo
def te17713951357886894254:=zq tw17713951357886894254
def tw5204547480238957888:=zo
def te5204547480238957888:=zq tw5204547480238957888
def tw3603609703487139638:=zo
def te3603609703487139638:=zq tw3603609703487139638
def tw16194284722402554206:=zo
def te16194284722402554206:=zq tw16194284722402554206
def tw13233339757702197856:=zo
def te13233339757702197856:=zq tw13233339757702197856
def tw5903868663180376159:=zo
def te5903868663180376159:=zq tw5903868663180376159
def tw8751887446678828805:=zo
def te8751887446678828805:=zq tw8751887446678828805
def tw1661690138742098291:=zo
def te1661690138742098291:=zq tw1661690138742098291
def tw8685106112929438119:=zo
def te8685106112929438119:=zq tw8685106112929438119
def tw4121835812362647257:=zo
def te4121835812362647257:=zq tw4121835812362647257
def tw7231751781553560942:=zo
def te7231751781553560942:=zq tw7231751781553560942
def tw10815434271212819962:=zo
def te10815434271212819962:=zq tw10815434271212819962
def tw2301647962183938891:=zo
def te2301647962183938891:=zq tw2301647962183938891
def tw13093711805129246595:=zo
def te13093711805129246595:=zq tw13093711805129246595
def tw1636490208835641385:=zo
def te1636490208835641385:=zq tw1636490208835641385
def tw18032199441208479085:=zo
def te18032199441208479085:=zq tw18032199441208479085
def tw17052326934095714683:=zo
def te17052326934095714683:=zq tw17052326934095714683
def tw16584641111166412195:=zo
def te16584641111166412195:=zq tw16584641111166412195
def tw12944459177706101770:=zo
def te12944459177706101770:=zq tw12944459177706101770
def tw4875447852731955966:=zo
def te4875447852731955966:=zq tw4875447852731955966
def tw2998921157105750049:=zo
def te2998921157105750049:=zq tw2998921157105750049
def tw16461130289666429098:=zo
def te16461130289666429098:=zq tw16461130289666429098
def tw4435023856036735494:=zo
def te4435023856036735494:=zq tw4435023856036735494
def tw8043368057444148442:=zo
def te8043368057444148442:=zq tw8043368057444148442
def tw71574570599319379:=zo
def te71574570599319379:=zq tw71574570599319379
def tw16076009741518758888:=zo
def te16076009741518758888:=zq tw16076009741518758888
def tw10888245596562404520:=zo
def te10888245596562404520:=zq tw10888245596562404520
def tw14922261912988781344:=zo
def te14922261912988781344:=zq tw14922261912988781344
def tw11253433537951099808:=zo
def te11253433537951099808:=zq tw11253433537951099808
def tw10116320622204387005:=zo
def te10116320622204387005:=zq tw10116320622204387005
def tw14132020456269358278:=zo
def te14132020456269358278:=zq tw14132020456269358278
def tw4689672573449958885:=zo
def te4689672573449958885:=zq tw4689672573449958885
def tw560727030671978482:=zo
def te560727030671978482:=zq tw560727030671978482
def tw1724464912479626991:=zo
def te1724464912479626991:=zq tw1724464912479626991
def tw8030525723251173637:=zo
def te8030525723251173637:=zq tw8030525723251173637
def tw3898722467571248662:=zo
def te3898722467571248662:=zq tw3898722467571248662
def tw10253634209942631781:=zo
def te10253634209942631781:=zq tw10253634209942631781
def tw7235660782941651768:=zs
def te7235660782941651768:=zq tw7235660782941651768
def tw15352718400827688589:=zs
def te15352718400827688589:=zq tw15352718400827688589
def tw7024601962109067477:=zo
def te7024601962109067477:=zq tw7024601962109067477
def tw3602515584683864145:=zo
def te3602515584683864145:=zq tw3602515584683864145
def tw12701060296102795525:=zo
def te12701060296102795525:=zq tw12701060296102795525
def tw15014620985579956868:=zo
def te15014620985579956868:=zq tw15014620985579956868
def tw4984073424383402433:=zo
def te4984073424383402433:=zq tw4984073424383402433
def tw13333745892419764:=zo
def te13333745892419764:=zq tw13333745892419764
def tw12262608670547093237:=zo
def te12262608670547093237:=zq tw12262608670547093237
def tw3873840988964958362:=zo
def te3873840988964958362:=zq tw3873840988964958362
def tw4992522217549345495:=zo
def te4992522217549345495:=zq tw4992522217549345495
def tw990315149298130421:=zo
def te990315149298130421:=zq tw990315149298130421
def tw15639976774007576551:=zo
def te15639976774007576551:=zq tw15639976774007576551
def tw11529734254930478206:=zo
def te11529734254930478206:=zq tw11529734254930478206
def tw18016802905529896371:=zo
def te18016802905529896371:=zq tw18016802905529896371
def tw11378495963352084422:=zo
def te11378495963352084422:=zq tw11378495963352084422
def tw3317507198178325955:=zo
def te3317507198178325955:=zq tw3317507198178325955
def tw9783186197698390273:=zo
def te9783186197698390273:=zq tw9783186197698390273
def tw1494667117345274792:=zo
def te1494667117345274792:=zq tw1494667117345274792
def tw11349428144866717732:=zo
def te11349428144866717732:=zq tw11349428144866717732
def tw10031678234957486323:=zo
def te10031678234957486323:=zq tw10031678234957486323
def tw10440143770117245171:=zo
def te10440143770117245171:=zq tw10440143770117245171
def tw5807516721088962014:=zo
def te5807516721088962014:=zq tw5807516721088962014
def tw9619642987371418411:=zo
def te9619642987371418411:=zq tw9619642987371418411
def tw8212451435781087434:=zo
def te8212451435781087434:=zq tw8212451435781087434
def tw4774126568277785294:=zo
def te4774126568277785294:=zq tw4774126568277785294
def tw450382787316553899:=zo
def te450382787316553899:=zq tw450382787316553899
def tw18172429782812349148:=zo
def te18172429782812349148:=zq tw18172429782812349148
def tw37814525004240534:=zo
def te37814525004240534:=zq tw37814525004240534
def tw17434240450059206872:=zo
def te17434240450059206872:=zq tw17434240450059206872
end PySem.W.Fast
set_option maxRecDepth 100000 in
set_option maxHeartbeats 0 in
theorem PySem.Challenge.cw_lentshelf_k53_where_forms_part_holds : PySem.Challenge.rw_lentshelf_k53_where_forms_part.Holds := by
 w_on; o_law; k_head; (case hw=>w_witness2)
 k_fill
 refine K53.aDr (l:=PySem.Challenge.rw_lentshelf_k53_where_forms_part) rfl rfl (fun w h Y=>PySem.W.kIn_of Y) ?F
 case F =>
  intro w mg fa h KX G hmg
  refine' K53.aOs KX G hmg ?t ?nddict
  (case t=>constructor <;> first | (refine' EV.Dk.mk ?a ?l ?c ?k; (case a=>k_is); (case l=>k_is); (case c=>k_is); (case k=>k_is)) | (refine' EV.Dd.mk ?a ?l ?c ?k ?d; (case a=>k_is); (case l=>k_is); (case c=>k_is); (case k=>k_is); (case d=>k_is)) | k_is)
  (case nddict=>k_is)

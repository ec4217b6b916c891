import PyProof.Rows.All
import Wide.All
import OpenK.AllK
import Wide.FinOn
import Lean
import PyProof.EqAt
import PyProof.EqKinds
import PyProof.TupleCall
import PyProof.WalksMore
import PyProof.Rows.SortShell
import PySem.Challenge.RW_lentshelf_k33_papers_refused
set_option Elab.async false
set_option linter.all false
set_option bootstrap.genMatcherCode false
set_option maxRecDepth 100000
set_option maxHeartbeats 4000000
section
open PySem.W (Frag fnOf keepIn nsIn codeIn)
section
open PySem PySem.Spec PyProof.Rows
def aAA:=@wpAny_bind
def aAB:=@Heap.get?_push_of_some
def aAC:=@wpAny_pure
def aAD:=@List.getElem?_eq_some_iff
def aAE:=@Heap.get?_push_size
def aAF:=@Heap.lt_size
def aAG:=@Nat.le_refl
def aAH:=@List.size_toArray
def aAI:=@if_pos
def aAJ:=@Nat.ne_of_lt
def aAK:=@List.length_map
def aAL:=@if_neg
def aAM:=@List.mem_singleton
def aAN:=@wpAny_field
def aAO:=@Nat.lt_of_lt_of_le
def aAP:=@List.length_append
def aAQ:=@Option.some.injEq
def aAR:=@List.getElem?_eq_getElem
def aAS:=@List.take_length
def aAT:=@List.getElem?_append_left
def aAU:=@wpAny_callSpecial?_slot
def aAV:=@Nat.le_trans
def aAW:=@Heap.size_push
def aAX:=@List.mem_append
def aAY:=@List.mem_cons
def aAZ:=@wpAny_call_entry
def aBA:=@Bool.false_ne_true
def aBB:=@Int.emod_lt_of_pos
def aBC:=@sizeLine_eq
def aBD:=@PySem.boot_len
def aBE:=@Option.map_eq_some_iff
def aBF:=@Nat.ne_of_gt
def aBG:=@Heap.get?_update_self
def aBH:=@decide_eq_true_eq
def aBI:=@wpAny_newObj_type
def aBJ:=@List.getElem?_map
def aBK:=@List.getElem?_append_right
def aBL:=@wpAny_holding
def aBM:=@List.mem_of_getElem?
def aBN:=@Bool.and_eq_true
def aBO:=@wpAny_loadPart'
def aBP:=@List.map_cons
def aBQ:=@PyProof.Rows.callWith_type1
def aBR:=@Int.emod_nonneg
def aBS:=@List.length_range
def aBT:=@wpAny_attempt
def aBU:=@Array.getElem?_eq_getElem
def aBV:=@wpAny_setField_rec
def aBW:=@List.mem_append_right
def aBX:=@wpAny_setField
def aBY:=@wpAny_of_eq
def aBZ:=@List.mem_of_mem_take
def aCA:=@Heap.get?_update_other
def aCB:=@List.getElem?_set_self
def aCC:=@List.length_take
def aCD:=@PyProof.Rows.slot_tuple_getitem
def aCE:=@decide_eq_false
def aCF:=@List.getElem?_set_ne
def aCG:=@Nat.add_right_comm
def aCH:=@List.mem_cons_of_mem
def aCI:=@List.drop_eq_getElem_cons
def aCJ:=@wpAny_rule
def aCK:=@PySem.W.mg_of
def aCL:=@builtinLookup_eq_fast
def aCM:=@Nat.le_add_left
def aCN:=@PySem.W.kia_one
def aCO:=@List.map_append
def aCP:=@Bool.false_eq_true
def aCQ:=@F.slot_tuple_iterator_next
def aCR:=@wpAny_seqItems
def aCS:=@wpAny_specialOf
def aCT:=@wpAny_mono
def aCU:=@wpAny_pyIter_tuple
def aCV:=@List.map_map
def aCW:=@Obj.data_mapFields
def aCX:=@List.not_mem_nil
def aCY:=@wpAny_Call_Name_kw
def aCZ:=@List.lookup_cons
def aDA:=@wpAny_isInstance
def aDB:=@Nat.zero_le
def aDC:=@Nat.pow_le_pow_right
def aDD:=@F.slot_zip_next
def aDE:=@Nat.min_eq_left
def aDF:=@Array.length_toList
def aDG:=@List.take_of_length_le
def aDH:=@List.getElem?_eq_none
def aDI:=@List.pairwise_iff_getElem
def aDJ:=@typeLookup_type
def aDK:=@Option.isSome_iff_exists
def aDL:=@codeAny_builtin
def aDM:=@call_meets
def aDN:=@wpAny_loadPart_at
def aDO:=@List.take_add_one
def aDP:=@Int.toNat_natCast
def aDQ:=@List.replicate_succ
def aDR:=@Heap.SameBut.update
def aDS:=@F.plain_extend_loop
def aDT:=@Option.bind_some
def aDU:=@isSubtype_type
def aDV:=@List.length_drop
def aDW:=@List.map_nil
def aDX:=@List.mem_cons_self
def aDY:=@assignInOrder_cons
def aDZ:=@wpAny_updateSeq
def aEA:=@if_true
def aEB:=@F.slot_enumerate_next
def aEC:=@wpAny_passesOwn
def aED:=@List.length_filter_le
def aEE:=@List.append_nil
def aEF:=@if_false
def aEG:=@Nat.lt_irrefl
def aEH:=@wpAny_pyIter_list
def aEI:=@Nat.lt_succ_of_lt
def aEJ:=@List.append_assoc
def aEK:=@Around.under_plainId
def aEL:=@Nat.le_succ
def aEM:=@isSubtype_stop
def aEN:=@List.length_cons
def aEO:=@wpAny_typeOf
def aEP:=@List.mem_map
def aEQ:=@List.mem_reverse
def aER:=@PySem.mem_of_lookup
def aES:=@List.filterMap_cons
def aET:=@Heap.get?_update_ne
def aEU:=@PySem.F.plainAttrs_list
def aEV:=@Int.dvd_mul_of_dvd_left
def aEW:=@List.any_cons
def aEX:=@wpAny_standAt
def aEY:=@beq_iff_eq
def aEZ:=@Calls.spliced_cons
def aFA:=@List.forIn_cons
def aFB:=@List.find?_cons
def aFC:=@Nat.min_le_left
def aFD:=@List.drop_eq_nil_of_le
def aFE:=@PassesOwn.leaving
def aFF:=@Obj.isFreed_of_fields
def aFG:=@Bool.and_false
def aFH:=@List.take_append_drop
def aFI:=@Array.getElem?_toList
def aFJ:=@F.args_tuple_iterator_next_1
def aFK:=@callType_new
def aFL:=@F.entry_tuple_iterator_next
def aFM:=@List.getElem?_concat_length
def aFN:=@F.args_object_init_3
def aFO:=@Nat.lt_succ_self
def aFP:=@List.mem_iff_getElem
def aFQ:=@wpAny_call
def aFR:=@Heap.get?_none_of_le
def aFS:=@F.slot_tuple_mul
def aFT:=@codeAny_call_builtin
def aFU:=@List.all_cons
def aFV:=@Array.getElem?_eq_some_iff
def aFW:=@plainId_quiet
def aFX:=@List.map_congr_left
def aFY:=@wpAny_isSubtype_exc
def aFZ:=@wpAny_execs_nil
def aGA:=@or_false
def aGB:=@List.filter_append
def aGC:=@List.getElem?_take_of_lt
def aGD:=@PySem.F.args_tuple_add_2
def aGE:=@wpAny_bindName
def aGF:=@PySem.F.entry_tuple_add
def aGG:=@Int.emod_eq_of_lt
def aGH:=@Calls.spliced_nil
def aGI:=@List.flatten_cons
def aGJ:=@F.args_zip_next_1
def aGK:=@Calls.callWith_builtin
def aGL:=@seqIndex_of
def aGM:=@wpAny_pyIter_rangeiter
def aGN:=@PySem.F.slot_tuple_add
def aGO:=@Int.dvd_trans
def aGP:=@List.map_reverse
def aGQ:=@F.typeCall_zip_2
def aGR:=@AutoSeq1.idx_int
def aGS:=@F.entry_zip_next
def aGT:=@List.getElem?_reverse
def aGU:=@List.length_replicate
def aGV:=@F.slot_range_reversed
def aGW:=@List.eraseIdxIfInBounds_toArray
def aGX:=@Array.getElem?_setIfInBounds_ne
def aGY:=@F.args_object_init_2
def aGZ:=@Bool.or_eq_false_iff
def aHA:=@wpAny_updateSeq_pair
def aHB:=@Nat.le_of_lt
def aHC:=@List.nodup_cons
def aHD:=@F.slot_int_rmul
def aHE:=@F.slot_tuple_getitem
def aHF:=@List.nil_append
def aHG:=@F.newCall_zip_2
def aHH:=@List.range_succ
def aHI:=@wpAny_ite_false
def aHJ:=@List.length_nil
def aHK:=@Option.map_some
def aHL:=@F.entry_zip_new
def aHM:=@List.mem_of_mem_drop
def aHN:=@Int.mul_comm
def aHO:=@codeAny_mono
def aHP:=@Array.getElem?_push
def aHQ:=@List.forIn_nil
def aHR:=@Int.dvd_add
def aHS:=@wpAny_letGo
def aHT:=@List.getElem?_take
def aHU:=@F.args_tuple_mul_2
def aHV:=@PySem.W.callWith_K
def aHW:=@Code.quiet_builtin
def aHX:=@List.set_comm
def aHY:=@wpAny_onRaise
def aHZ:=@Bool.or_false
def aIA:=@Bool.not_true
def aIB:=@Bool.and_true
def aIC:=@F.entry_tuple_mul
def aID:=@Obj.cls_mapFields
def aIE:=@assignInOrder_nil
def aIF:=@wpAny_pyIter_slot
def aIG:=@Int.dvd_mul_right
def aIH:=@List.ext_getElem?
def aII:=@typeIs_int
abbrev aIJ:List Str:=["self","at"]
abbrev aIK:List Str:=["n","deeds","at","paper","shelves","by","back"]
abbrev aIL:List Str:=["_law_box_here","_law_n_here"]
abbrev aIM:List Str:=["_law_box_here","_law_n_here","_law_givens","_law_shelves_here","_law_ks","_law_form","_law_many","_law_gs","_law_others","_law_ts"]
abbrev aIN:List Str:=["_law_n_here","_law_expr_here","_law_ks","_law_kb","_law_kc"]
abbrev aIO:List Str:=["_law_n_here","_law_expr_here","_law_ks","_law_kb","_law_kc","_law_word","_law_one","_law_other"]
abbrev aIP:List Str:=["_law_box_here","_law_deeds","_law_most"]
abbrev aIQ:List Str:=["_law_box_here","_law_shelves_here","_law_left"]
abbrev aIR:List Str:=["_law_box_here","_law_givens"]
abbrev aIS:List Str:=["_law_begin","_law_end"]
abbrev aIT:List Str:=["_law_box_here","_law_shelves_here","_law_deed_here","_law_form","_law_some","_law_one","_law_ts"]
abbrev aIU:List Str:=["_law_by","_law_n_here","_law_expr_here","_law_places"]
abbrev aIV:List Str:=["_law_program","_law_paper_here","_law_places","_law_by"]
abbrev aIW:List Str:=["_law_k","_law_box_here","_law_givens"]
abbrev aIX:List Str:=["_law_k","_law_others","_law_box_here"]
abbrev aIY:List Str:=["_law_k","_law_left","_law_box_here"]
end
variable{A A':PySem.Around}{h h' base:PySem.Heap}{w:PySem.World}{s s' s₂:PySem.Shared}{α β:Type}{it l C dx fI LE Dc src z l1 l2:PySem.Addr}{i t' j m G SH:Nat}{items xs ys:Array PySem.Value}{Q:PySem.Value->PySem.Shared->Prop}{x y name qual cn ff:PySem.Str}{us its bm:List PySem.Value}{u doc pm cdv ct oc u2:PySem.Value}{κ:PyProof.Rows.SortKind}{P:PySem.Program}{pins:List (PySem.Addr×PySem.Obj)}{ch fp μ μ1:List PySem.Addr}{N ps loose Nc cns:List PySem.Str}{pos pos' py q p tpos apos p2 cpos pos2:PySem.Pos}{K:Frag}{st:PySem.Stmt}{n:Int}{cP qq:Prop}{op:PySem.Operator}{body:List PySem.Stmt}{tn:Nat->PySem.Heap->Prop}{lo hi:Option Int}{mA mg mN:PySem.Str->Option PySem.Value}{env:PySem.Env}{kw:List (PySem.Str×PySem.Value)}{fd:PySem.FuncData}{outer:List PySem.Env}{cd:PySem.ClassData}{an od d:Option PySem.Addr}{osl sl:Array (Option PySem.Value)}{XP:(PySem.Str->Option PySem.Value)->PySem.Heap->Prop}{YP:PySem.World->PySem.Heap->Prop}{ns:List Int}{js:List (Option Nat)}{cl:List (PySem.Str×PySem.Addr)}{ini:Option PySem.Value}{S:PyProof.Rows.Keyed->Prop}{ky:PyProof.Rows.Keyed->Int}{byb:Bool}
section
open PySem PySem.Spec PyProof.Rows
namespace L2
noncomputable def Calm(A:Around)(h:Heap):Prop:=A.handled=none\/∃e c d vs sl,A.handled=some (.ref e)/\h.get? e=some ⟨c,d,.fields vs,sl⟩/\vs[2]?=some .none
theorem Calm.mono(c:Calm A h)(k:∀e c d vs sl,h.get? e=some ⟨c,d,.fields vs,sl⟩->vs[2]?=some .none->A.handled=some (.ref e)->h'.get? e=some ⟨c,d,.fields vs,sl⟩):Calm A h':=by
 rcases c with c|⟨e,c,d,vs,sl,h1,h2,h3⟩
 ·exact .inl c
 ·exact .inr ⟨e,c,d,vs,sl,h1,k e c d vs sl h2 h3 h1,h3⟩
theorem tJ:entryFor table "proto.unchain"=some Builtin.«proto.unchain»:=entryFor_of_fast (by kernel_rfl)
variable{prog:Program}{E:Value->Shared->Prop}
theorem lZ{Q:α->Shared->Prop}(c:Calm A s.heap)(h:∀h' a,(∀b o,s.heap.get? b=some o->h'.get? b=some o)->(∃o,h'.get? a=some o/\o.cls=.type "StopIteration")->E (.ref a) {s with heap:=h'}) :
  wpAny (model prog w) A (newExc (.type "StopIteration") [] >>= λe=>(raiseNew e:Sem α)) Q E s:=by
 refine aAA ?_
 simp only[newExc,newTuple]
 refine aAA (aBI (aAA (m:=firstArgMember _ _) (aBY (a:=Value.none) (by first|rfl|(simp only[firstArgMember];rfl)) (aBI ?_ (by size_fits)))) (by size_fits))
 generalize eo:({cls:=.type "StopIteration",data:=.fields _}:Obj)=oS
 generalize eh:s.heap.push _=h1
 have k1:∀b o,s.heap.get? b=some o->h1.get? b=some o:=λb o q=>by rw[<- eh];exact aAB _ q
 have e1:(h1.push oS).get? h1.objs.size=some oS:=aAE _ (by rw[<- eo];rfl)
 have hx:(∀b o,s.heap.get? b=some o->(h1.push oS).get? b=some o):=λb o q=>aAB _ (k1 b o q)
 simp only[raiseNew]
 refine aAA (wpAny_handled ?_)
 rcases c with c|⟨e,cc,d,vs,sl,q1,q2,q3⟩
 ·rw[c]
  exact aAA (aAC (wpAny_throw (h _ _ hx ⟨oS,e1,by rw[<- eo]⟩)))
 ·rw[q1]
  dsimp only
  have lt:=aAF (k1 _ _ q2)
  rw[aAI (by simpa using aAJ lt)]
  refine aAA (aBL (wpAny_runValue (aDL (id:="proto.unchain") tJ ?_)))
  show wpAny _ _ (field (.ref e) 2 >>= _) _ _ _
  refine aAA (aAN (hx _ _ q2) rfl (x:=.none) q3 ?_)
  rw[aAI (show(Value.none==Value.none)=true from rfl)]
  refine aAC ?_
  show wpAny (model prog w) A (updateField h1.objs.size 2 (.ref e) >>= λ_=>throw (.ref h1.objs.size)) Q E _
  have e1':(h1.push oS).get? h1.objs.size=some oS:=e1
  refine aAA (aBX (x:=.ref e) e1 (by rw[<- eo]) (by simp;lia) (wpAny_throw (h _ _ (λb o q=>?_) ⟨_,aBG _ e1 ?_,?_⟩)))
  ·rw[aET _ _ _ _ (aAJ (aAF (k1 b o q)))]
   exact hx b o q
  ·rw[<- eo];rfl
  ·rw[<- eo];rfl
variable{Q:Option Value->Shared->Prop}
theorem pV(c:Calm A s.heap)(hit:s.heap.IsListIter it l i)(hl:s.heap.IsList l items)(hx:items[i]?=none)
  (q:∀h',Heap.ExtBut it s.heap h'->Q none {s with heap:=h'}):wpAny (model prog w) A (pyNext (.ref it)) Q E s:=by
 obtain⟨o,ho,hc,hd⟩:=id hit
 obtain⟨ol,hol,_,nl,hdl⟩:=hl
 unfold pyNext
 refine aAA (aBT (aAU (name:=Str.ofString "__next__") hit.typeIs slot_listiter_next (aAZ slot_listiter_next hit.typeIs entry_listiter_next ?_ (args_listiter_next _))))
 show wpAny _ _ (field (.ref it) 0 >>= _) _ _ s
 refine aAA (aAN ho hd (x:=.ref l) rfl ?_)
 show wpAny _ _ (if(Value.ref l==Value.none)=true then _ else _) _ _ s
 rw[aAL (λz:(Value.ref l==Value.none)=true=>aBA z)]
 refine aAA (m:=field (.ref it) 1) (aAN ho hd (x:=.int i 0) rfl (aAA (m:=seqItems? (.ref l)) (aCR hol hdl ?_)))
 simp only[aDP,hx]
 refine aAA (aCJ (aAA (aBX ho hd (by simp) ?_)))
 refine lZ (c.mono λe cc d vs sl q2 q3 _=>?_) λh' a k ⟨oa,ea,ca⟩=>?_
 ·have ne:e≠it:=by
   rintro rfl
   rw[ho]at q2;cases q2
   cases hd
   simp at q3
  rw[aET _ _ _ _ ne];exact q2
 ·refine aAA (aDA (T:="StopIteration") (b:=true) ⟨oa,ea,ca⟩ aEM (aAC (q _ λb ob hb z=>k b ob ?_)))
  rw[aET _ _ _ _ hb];exact z
theorem hW(c:Calm A s.heap)(hit:s.heap.IsTupleIter it l i)(hl:s.heap.IsTuple l items)(hx:items[i]?=none)
  (q:∀h',Heap.ExtBut it s.heap h'->Q none {s with heap:=h'}):wpAny (model prog w) A (pyNext (.ref it)) Q E s:=by
 obtain⟨o,ho,hc,hd⟩:=id hit
 obtain⟨ol,hol,_,nl,hdl⟩:=hl
 unfold pyNext
 refine aAA (aBT (aAU (name:=Str.ofString "__next__") hit.typeIs aCQ (aAZ aCQ hit.typeIs aFL ?_ (aFJ _))))
 show wpAny _ _ (field (.ref it) 0 >>= _) _ _ s
 refine aAA (aAN ho hd (x:=.ref l) rfl ?_)
 show wpAny _ _ (if(Value.ref l==Value.none)=true then _ else _) _ _ s
 rw[aAL (λz:(Value.ref l==Value.none)=true=>aBA z)]
 refine aAA (m:=field (.ref it) 1) (aAN ho hd (x:=.int i 0) rfl (aAA (m:=seqItems? (.ref l)) (aCR hol hdl ?_)))
 simp only[aDP,hx]
 refine aAA (aCJ (aAA (aBX ho hd (by simp) ?_)))
 refine lZ (c.mono λe cc d vs sl q2 q3 _=>?_) λh' a k ⟨oa,ea,ca⟩=>?_
 ·have ne:e≠it:=by
   rintro rfl
   rw[ho]at q2;cases q2
   cases hd
   simp at q3
  rw[aET _ _ _ _ ne];exact q2
 ·refine aAA (aDA (T:="StopIteration") (b:=true) ⟨oa,ea,ca⟩ aEM (aAC (q _ λb ob hb z=>k b ob ?_)))
  rw[aET _ _ _ _ hb];exact z
theorem xL{x left step:Int}(c:Calm A s.heap)(hit:IsRangeIter s.heap it x left step)(hl:left<=0)
  (q:∀h',Heap.ExtBut it s.heap h'->Q none {s with heap:=h'}):wpAny (model prog w) A (pyNext (.ref it)) Q E s:=by
 have hT:s.TypeIs (.ref it) "range_iterator":=⟨_,hit,rfl⟩
 unfold pyNext
 refine aAA (aBT (aAU (name:=Str.ofString "__next__") hT F.slot_range_iterator_next (aAZ F.slot_range_iterator_next hT F.entry_range_iterator_next ?_ (F.args_range_iterator_next_1 _))))
 show wpAny _ _ (field (.ref it) 0 >>= _) _ _ s
 refine aAA (aAN hit rfl (x:=rawInt x) rfl ?_)
 refine aAA (m:=field (.ref it) 1) (aAN hit rfl (x:=rawInt left) rfl ?_)
 refine aAA (m:=field (.ref it) 2) (aAN hit rfl (x:=rawInt step) rfl ?_)
 show wpAny _ _ (if left<=0 then _ else _) _ _ s
 rw[aAI hl]
 refine aAA (aCJ ?_)
 refine aAA ?_
 show wpAny _ _ (newExc (.type "StopIteration") [] >>= _) _ _ _
 refine lZ (A:=A.in1) c λh' a k ⟨oa,ea,ca⟩=>?_
 exact aAA (aDA (T:="StopIteration") (b:=true) ⟨oa,ea,ca⟩ aEM (aAC (q _ λb ob hb z=>k b ob z)))
theorem aHr{t:Addr}{Q:List Value->Shared->Prop}(c:Calm A s.heap)(ht:IsTup s.heap t items)
  (q:∀h',Heap.ExtBut s.heap.objs.size s.heap h'->Q items.toList {s with heap:=h'}):wpAny (model prog w) A (unpackItems (.ref t) items.size none) Q E s:=by
 have lt:t≠s.heap.objs.size:=by obtain⟨o,ho,_⟩:=ht;exact aAJ (aAF ho)
 unfold unpackItems notIterableAtAll
 refine aAA (aAA (aCS ht.typeIs slot_tuple_iter.lookup (aAC ?_)))
 simp only[aCP,aEF]
 refine aAA (aBL (iter_tuple ht (aAA (aBL (draw_tuple lt items.size 0 _ _ ⟨_,aAE _ rfl,rfl,rfl⟩ (ht.push _) (by lia) λh₁ it₁ s₁=>?_)))))
 have all:List.take items.size (List.drop 0 items.toList)=items.toList:=by
  rw[List.drop_zero,aDG (by simp)]
 rw[all,aAL (by simp)]
 have t1:IsTup h₁ t items:=(ht.push _).extBut s₁.extBut lt
 refine aAA (aBL (hW (s:={s with heap:=h₁}) (c.mono λe cc d vs sl q2 q3 _=>?_) it₁ t1 (by simp) λh₂ e₂=>?_))
 ·exact s₁.extBut e _ (aAJ (aAF q2)) (aAB _ q2)
 ·simp only[Option.isSome_none,aCP,aEF]
  exact aAC (q h₂ λb o hb z=>e₂ b o hb (s₁.extBut b o hb (aAB _ z)))
noncomputable section
abbrev Key:=Sum Int Str
def keyIs:Key->Value->Bool
 |.inl k,v=>Value.isInt k v
 |.inr x,v=>Value.isStrOf x v
def keyH(w:World):Key->Int
 |.inl k=>hashInt k
 |.inr x=>hashStr w x
theorem cC:∀{k:Key} {v:Value},keyIs k v=true->(∃i t,k=Sum.inl i/\v=Value.int i t)\/(∃x t,k=Sum.inr x/\v=Value.str x t)
 |.inl i,v,h=>by
  obtain⟨t,e⟩:=Value.isInt_shape (k:=i) (v:=v) h
  exact .inl ⟨i,t,rfl,e⟩
 |.inr x,v,h=>by
  obtain⟨t,e⟩:=Value.isStrOf_shape (x:=x) (v:=v) h
  exact .inr ⟨x,t,rfl,e⟩
theorem aOu(a b:Int):decide ((Sum.inl a:Key)=Sum.inl b)=(a==b):=by
 by_cases e:a=b
 ·subst e;simp
 ·have h:¬(Sum.inl a:Key)=Sum.inl b:=λq=>e (Sum.inl.inj q)
  rw[aCE h]
  exact(beq_eq_false_iff_ne.mpr e).symm
theorem aOe(a b:Str):decide ((Sum.inr a:Key)=Sum.inr b)=decide (a=b):=by
 by_cases e:a=b
 ·subst e;simp
 ·have h:¬(Sum.inr a:Key)=Sum.inr b:=λq=>e (Sum.inr.inj q)
  rw[aCE h,aCE e]
theorem aNd(a:Int)(b:Str):decide ((Sum.inl a:Key)=Sum.inr b)=false:=aCE (λq=>nomatch q)
theorem aQq(a:Str)(b:Int):decide ((Sum.inr a:Key)=Sum.inl b)=false:=aCE (λq=>nomatch q)
def mixKind(prog:Program)(w:World):PySem.KeyKind prog w Key where
 is:=keyIs
 hash:=keyH w
 inj:=λv a b ha hb=>by
  rcases cC ha with⟨i,t,rfl,rfl⟩|⟨x,t,rfl,rfl⟩
  ·rcases cC hb with⟨j,u,rfl,e⟩|⟨y,u,rfl,e⟩
   ·injection e with e1 _;rw[e1]
   ·exact nomatch e
  ·rcases cC hb with⟨j,u,rfl,e⟩|⟨y,u,rfl,e⟩
   ·exact nomatch e
   ·injection e with e1 _;rw[e1]
 byValue:=λk v h=>by
  rcases cC h with⟨i,t,rfl,rfl⟩|⟨x,t,rfl,rfl⟩ <;> rfl
 pyHash:=λhv h=>by
  rcases cC hv with⟨i,t,rfl,rfl⟩|⟨x,t,rfl,rfl⟩
  ·exact wpAny_pyHash_int h
  ·exact wpAny_pyHash_str h
 eqBool:=λhu hv h=>by
  rcases cC hu with⟨i,t,rfl,rfl⟩|⟨x,t,rfl,rfl⟩
  ·rcases cC hv with⟨j,u,rfl,rfl⟩|⟨y,u,rfl,rfl⟩
   ·rw[aOu]at h;exact wpAny_eqBool_int h
   ·rw[aNd]at h;exact SeqAt.EqAt.int_str i t y u _ _ _ _ h
  ·rcases cC hv with⟨j,u,rfl,rfl⟩|⟨y,u,rfl,rfl⟩
   ·rw[aQq]at h;exact SeqAt.EqAt.str_int x t j u _ _ _ _ h
   ·rw[aOe]at h;exact wpAny_eqBool_str h
 «strs»:=λk x t v h=>by
  rcases cC h with⟨i,u,rfl,e⟩|⟨y,u,rfl,e⟩
  ·exact nomatch e
  ·injection e with e1 _
   subst e1
   cases v <;> rfl
end
inductive V where
 |non|bl (b:Bool)|int (i:Int)|str (x:Str)|byt (b:Array UInt8)|flt (b:UInt64)|ref (a:Addr)|ty (n:String)
 deriving DecidableEq
noncomputable section
def RelV:V->Value->Prop
 |.non,u=>u=Value.none
 |.bl b,u=>u=Value.bool b
 |.int i,u=>∃t,u=Value.int i t
 |.str x,u=>∃t,u=Value.str x t
 |.byt b,u=>∃t,u=Value.bytes b t
 |.flt b,u=>∃t,u=Value.float b t
 |.ref a,u=>u=Value.ref a
 |.ty n,u=>u=Value.type n
abbrev Vals:List V->List Value->Prop:=Paired RelV
theorem Vals.length{xs:List V}{us:List Value}(r:Vals xs us):xs.length=us.length:=Paired.length r
theorem Vals.get:∀{xs:List V} {us:List Value} {i:Nat} {x:V},Vals xs us->xs[i]?=some x->∃u,us[i]?=some u/\RelV x u
 |_,_,_,_,.nil,e=>by simp at e
 |_,_,0,_,.cons r _,e=>by simp at e;subst e;exact⟨_,rfl,r⟩
 |_,_,i+1,x,.cons _ t,e=>by
  obtain⟨u,h1,h2⟩:=Vals.get (i:=i) (x:=x) t (by simpa using e)
  exact⟨u,by simpa using h1,h2⟩
theorem Vals.set{x:V}{u:Value}(r:RelV x u):∀{xs:List V} {us:List Value} (i:Nat),Vals xs us->Vals (xs.set i x) (us.set i u)
 |_,_,_,.nil=>.nil
 |_,_,0,.cons _ t=>.cons r t
 |_,_,i+1,.cons q t=>.cons q (Vals.set r i t)
theorem Vals.append:∀{xs ys:List V} {us ws:List Value},Vals xs us->Vals ys ws->Vals (xs++ys) (us++ws)
 |_,_,_,_,.nil,s=>s
 |_,_,_,_,.cons r t,s=>.cons r (Vals.append t s)
theorem Vals.take:∀{xs:List V} {us:List Value} (n:Nat),Vals xs us->Vals (xs.take n) (us.take n)
 |_,_,0,_=>.nil
 |_,_,_+1,.nil=>.nil
 |_,_,n+1,.cons r t=>.cons r (Vals.take n t)
theorem Vals.drop:∀{xs:List V} {us:List Value} (n:Nat),Vals xs us->Vals (xs.drop n) (us.drop n)
 |_,_,0,r=>r
 |_,_,_+1,.nil=>.nil
 |_,_,n+1,.cons _ t=>Vals.drop n t
def RelO:Option V->Option Value->Prop
 |some v,some u=>RelV v u
 |none,none=>True
 |_,_=>False
def KV{κ:Type}:List (κ×V)->List (κ×Value)->Prop:=Paired λ(p:κ×V) (q:κ×Value)=>p.1=q.1/\RelV p.2 q.2
def kV:Key->V
 |.inl i=>.int i
 |.inr x=>.str x
end
inductive HO where
 |lst (xs:List V)
 |tup (xs:List V)
 |dK (kvs:List (Key×V))|dT (kvs:List (List Key×V))
 |set (S:Int->Bool) (n:Nat)
 |ins (C dx:Addr) (fs:List (Str×V))
 |own (x:Addr)
 |xd (fs:List (Str×V))
 |xo (C:Addr) (d:Option Addr)
 |met (f x:Addr)
 |rng (lo hi:Int)
 |frz (o:Obj) (u:HO)
 |tbl (ps:Array Value)
 |ext (φ:Heap->Prop)
noncomputable abbrev Hp:=Addr->Option HO
noncomputable def upd(H:Hp)(a:Addr)(o:HO):Hp:=λb=>if b=a then some o else H b
variable{H:Hp}{a:Addr}{o:HO}
theorem bE :upd H a o a=some o:=by unfold upd;rw[aAI rfl]
variable{b:Addr}
theorem aX(h:b≠a):upd H a o b=H b:=by unfold upd;rw[aAL h]
variable{u:HO}
theorem aKr :upd (upd H a o) a u=upd H a u:=by
 funext b;unfold upd;split <;> rfl
theorem aRv(h:H a=some o)(h':H b=some u)(d:o≠u):a≠b:=by
 intro e;subst e;rw[h]at h';exact d (Option.some.inj h')
theorem bF(h:H a=some o)(h':H b=none):a≠b:=by
 intro e;subst e;rw[h]at h';cases h'
section
variable(P:Program)(w:World)
noncomputable def ObjOk(H:Hp)(h:Heap)(a:Addr):HO->Prop
 |.lst xs=>xs.length<=sizeLine/\∃(its:List Value) (n:Nat),Vals xs its/\h.get? a=some {cls:=.type "list",data:=.seq its.toArray n}
 |.tup xs=>xs.length<=sizeLine/\∃its:List Value,Vals xs its/\IsTup h a its.toArray
 |.dK kvs=>kvs.length<=sizeLine/\(a==sysModules)=false/\∃vs,KV kvs vs/\h.DictOf (mixKind P w) a vs
 |.dT kvs=>kvs.length<=sizeLine/\(a==sysModules)=false/\∃xs:List (List Key×Addr×Value),
   Paired (λ(p:List Key×V) (q:List Key×Addr×Value)=>p.1=q.1/\H q.2.1=some (.tup (p.1.map kV))/\RelV p.2 q.2.2) kvs xs /\
   ∃o es ep,h.get? a=some o/\o.ExactDict/\o.data=.dict es ep/\es.toList=xs.map (entryOfKey (tupleKind (mixKind P w)))/\(xs.map (·.1)).Nodup
 |.set S n=>h.SetOf (intKind P w) a S n
 |.ins C dx fs=>H dx=some (.own a)/\fs.length<=1000/\dx≠a/\h.get? a=some (PySem.W.instObj C dx) /\
   ∃mA,h.Ns1 dx mA/\(∀f,RelO (fs.lookup f) (mA f))/\PySem.Within mA (fs.map (·.1))
 |.own _=>∃o,h.get? a=some o
 |.xd fs=>∃mA,h.Ns1 a mA/\∀f,RelO (fs.lookup f) (mA f)
 |.xo C d=>∃vs sl,h.get? a=some ⟨.ref C,d,.fields vs,sl⟩/\vs[2]?=some .none
 |.rng lo hi=>∃t u v,h.get? a=some {cls:=.type "range",data:=.fields #[.int lo t,.int hi u,.int 1 v]}
 |.frz o u=>h.get? a=some o/\ObjOk H h a u
 |.tbl ps=>h.get? a=some {cls:=.none,data:=.fields ps}
 |.met f x=>h.get? a=some (PySem.W.methodObj (.ref f) (.ref x))
 |.ext φ=>φ h/\(∃o,h.get? a=some o)/\∀h1 h2:Heap,φ h1->(∀o,h1.get? a=some o->h2.get? a=some o)->φ h2
noncomputable def HOk(H:Hp)(h:Heap):Prop:=∀a o,H a=some o->ObjOk P w H h a o
end
variable{H':Hp}
theorem ObjOk.lt(x:ObjOk P w H h a o):a < h.objs.size:=by
 cases o with
 |lst xs=>obtain⟨_,_,_,_,e⟩:=x;exact aAF e
 |tup xs=>obtain⟨_,_,_,p⟩:=x;exact p.lt
 |dK kvs=>obtain⟨_,_,_,_,o,_,_,e,_⟩:=x;exact aAF e
 |dT kvs=>obtain⟨_,_,_,_,o,_,_,e,_⟩:=x;exact aAF e
 |set S n=>obtain⟨o,_,_,_,e,_⟩:=x;exact aAF e
 |ins C dx fs=>obtain⟨_,_,_,e,_⟩:=x;exact aAF e
 |own y=>obtain⟨_,e⟩:=x;exact aAF e
 |xd fs=>obtain⟨_,⟨_,_,_,e,_⟩,_⟩:=x;exact aAF e
 |xo C d=>obtain⟨_,_,e,_⟩:=x;exact aAF e
 |rng lo hi=>obtain⟨_,_,_,e⟩:=x;exact aAF e
 |frz ob u=>obtain⟨e,_⟩:=x;exact aAF e
 |tbl ps=>exact aAF (show h.get? a=some _ from x)
 |met f y=>exact aAF (show h.get? a=some _ from x)
 |ext φ=>obtain⟨_,⟨_,e⟩,_⟩:=x;exact aAF e
theorem Paired.mapP{α β:Type}{F G:α->β->Prop}:∀{l₁:List α} {l₂:List β},Paired F l₁ l₂->(∀a b,F a b->G a b)->Paired G l₁ l₂
 |_,_,.nil,_=>.nil
 |_,_,.cons r t,f=>.cons (f _ _ r) (Paired.mapP t f)
theorem ObjOk.stay(x:ObjOk P w H h a o)(k:∀b u,(b=a\/H b=some (.own a))->h.get? b=some u->h'.get? b=some u)
  (ho:∀b,H b=some (.own a)->H' b=some (.own a))(ht:∀b xs,H b=some (.tup xs)->H' b=some (.tup xs)):ObjOk P w H' h' a o:=by
 induction o with
 |lst xs=>obtain⟨z,its,n,r,e⟩:=x;exact⟨z,its,n,r,k _ _ (.inl rfl) e⟩
 |tup xs=>obtain⟨z,its,r,ob,e,c⟩:=x;exact⟨z,its,r,ob,k _ _ (.inl rfl) e,c⟩
 |dK kvs=>obtain⟨z,y,vs,r,ob,es,ep,e,c⟩:=x;exact⟨z,y,vs,r,ob,es,ep,k _ _ (.inl rfl) e,c⟩
 |dT kvs =>
  obtain⟨z,y,xs,r,ob,es,ep,e,c⟩:=x
  exact⟨z,y,xs,Paired.mapP r λp q z=>⟨z.1,ht _ _ z.2.1,z.2.2⟩,ob,es,ep,k _ _ (.inl rfl) e,c⟩
 |set S n=>obtain⟨ob,es,ep,t,e,c⟩:=x;exact⟨ob,es,ep,t,k _ _ (.inl rfl) e,c⟩
 |ins C dx fs =>
  obtain⟨d,z,ne,e,mA,⟨od,es,ep,e2,c⟩,r⟩:=x
  exact⟨ho _ d,z,ne,k _ _ (.inl rfl) e,mA,⟨od,es,ep,k _ _ (.inr d) e2,c⟩,r⟩
 |own y=>obtain⟨ob,e⟩:=x;exact⟨ob,k _ _ (.inl rfl) e⟩
 |xd fs=>obtain⟨mA,⟨od,es,ep,e,c⟩,r⟩:=x;exact⟨mA,⟨od,es,ep,k _ _ (.inl rfl) e,c⟩,r⟩
 |xo C d=>obtain⟨vs,sl,e,c⟩:=x;exact⟨vs,sl,k _ _ (.inl rfl) e,c⟩
 |rng lo hi=>obtain⟨t,u,v,e⟩:=x;exact⟨t,u,v,k _ _ (.inl rfl) e⟩
 |frz ob u ih=>obtain⟨e,q⟩:=x;exact⟨k _ _ (.inl rfl) e,ih q⟩
 |tbl ps =>
  have e:h.get? a=some {cls:=.none,data:=.fields ps}:=x
  show h'.get? a=some {cls:=.none,data:=.fields ps}
  exact k a _ (.inl rfl) e
 |met f y =>
  have e:h.get? a=some (PySem.W.methodObj (.ref f) (.ref y)):=x
  show h'.get? a=some (PySem.W.methodObj (.ref f) (.ref y))
  exact k a _ (.inl rfl) e
 |ext φ=>obtain⟨p,⟨o,e⟩,st⟩:=x;exact⟨st _ _ p λo q=>k _ _ (.inl rfl) q,⟨o,k _ _ (.inl rfl) e⟩,st⟩
theorem HOk.lt(x:HOk P w H h)(e:H a=some o):a < h.objs.size:=(x a o e).lt
theorem HOk.fresh(x:HOk P w H h)(e:h.objs.size<=a):H a=none:=by
 cases q:H a with
 |none=>rfl
 |some u=>exact absurd (aAO (x.lt q) e) (aEG _)
theorem HOk.kept(x:HOk P w H h)(k:∀b u,h.get? b=some u->h'.get? b=some u):HOk P w H h':=λa o e =>
 (x a o e).stay (λb u _ q=>k b u q) (λ_ q=>q) λ_ _ q=>q
theorem HOk.laid(x:HOk P w H h)(k:∀b u,h.get? b=some u->h'.get? b=some u)(hp:h.objs.size<=a)(new:ObjOk P w (upd H a o) h' a o):HOk P w (upd H a o) h':=λb u e=>by
 have hn:=x.fresh hp
 by_cases hb:b=a
 ·subst hb;rw[bE]at e;cases e;exact new
 ·rw[aX hb]at e
  exact(x b u e).stay (λc v _ q=>k c v q) (λc q=>by rw[aX (bF q hn)];exact q) λc xs q=>by rw[aX (bF q hn)];exact q
noncomputable def Rd(H:Hp)(a:Addr)(u:HO):Prop:=H a=some u\/∃o,H a=some (.frz o u)
theorem Rd.ok(r:Rd H a u)(x:HOk P w H h):ObjOk P w H h a u:=by
 rcases r with r|⟨o,r⟩
 ·exact x a u r
 ·obtain⟨_,q⟩:=x a _ r
  exact q
noncomputable def Mut:Option HO->Prop
 |some (.lst _)=>True
 |some (.dK _)=>True
 |some (.dT _)=>True
 |some (.set _ _)=>True
 |some (.ins _ _ _)=>True
 |some (.ext _)=>True
 |_=>False
variable{x e:Addr}{o':HO}
theorem HOk.write(ok:HOk P w H h)(mu:Mut (H x))(he:e=x\/H e=some (.own x))(k:∀b u,b≠e->h.get? b=some u->h'.get? b=some u)(heo:∃u,h'.get? e=some u)
  (new:ObjOk P w (upd H x o') h' x o'):HOk P w (upd H x o') h':=λb u q=>by
 have nown:∀c y,H c=some (.own y)->c≠x:=λc y r z=>by subst z;rw[r]at mu;exact mu
 have ntup:∀c xs,H c=some (.tup xs)->c≠x:=λc xs r z=>by subst z;rw[r]at mu;exact mu
 by_cases hb:b=x
 ·subst hb;rw[bE]at q;cases q;exact new
 ·rw[aX hb]at q
  by_cases hbe:b=e
  ·have q':H b=some (.own x):=by
    rcases he with z|z
    ·exact absurd (hbe.trans z) hb
    ·rw[hbe];exact z
   rw[q]at q';cases q'
   obtain⟨v,hv⟩:=heo
   exact⟨v,by rw[hbe];exact hv⟩
  ·refine(ok b u q).stay (λc v hc r=>k c v ?_ r) (λc r=>by rw[aX (nown c b r)];exact r) λc xs r=>by rw[aX (ntup c xs r)];exact r
   rcases hc with rfl|hc
   ·exact hbe
   ·rintro rfl
    rcases he with z|z
    ·exact nown c b hc z
    ·rw[hc]at z;cases z;exact hb rfl
structure Un(fs ex:List Addr)(H H':Hp)(h h':Heap):Prop where
 keep:∀b o,h.get? b=some o->H b=none->b∉fs->b∉ex->h'.get? b=some o
 slot:∀b o,h.get? b=some o->H b=none->b∈fs->b∉ex->∃sl,h'.get? b=some {o with slots:=sl}
 free:∀b o,h.get? b=some o->H b=none->b∉ex->H' b=none
 there:∀b o,h.get? b=some o->b∉ex->∃o',h'.get? b=some o'
 tups:∀b xs,H b=some (.tup xs)->H' b=some (.tup xs)
 frzs:∀b o u,H b=some (.frz o u)->H' b=some (.frz o u)
 tbls:∀b ps,H b=some (.tbl ps)->∃more,H' b=some (.tbl (ps++more))
 xos:∀b C d,H b=some (.xo C d)->H' b=some (.xo C d)
section
variable{fs fs' ex ex':List Addr}{H1 H2:Hp}{h1 h2:Heap}
theorem Un.any(u:Un fs ex H H1 h h1){ob:Obj}(q:h.get? b=some ob)(n:H b=none)(hx:b∉ex):∃sl,h1.get? b=some {ob with slots:=sl}:=by
 by_cases hb:b∈fs
 ·exact u.slot b ob q n hb hx
 ·exact⟨ob.slots,u.keep b ob q n hb hx⟩
theorem Un.trans(a:Un fs ex H H1 h h1)(b:Un fs ex H1 H2 h1 h2):Un fs ex H H2 h h2 where
 keep:=λc ob q n hc hx=>b.keep c ob (a.keep c ob q n hc hx) (a.free c ob q n hx) hc hx
 slot:=λc ob q n hc hx=>by
  obtain⟨sl,e1⟩:=a.slot c ob q n hc hx
  obtain⟨sl',e2⟩:=b.slot c _ e1 (a.free c ob q n hx) hc hx
  exact⟨sl',e2⟩
 free:=λc ob q n hx=>by
  obtain⟨o',e1⟩:=a.there c ob q hx
  exact b.free c o' e1 (a.free c ob q n hx) hx
 there:=λc ob q hx=>by
  obtain⟨o',e1⟩:=a.there c ob q hx
  exact b.there c o' e1 hx
 tups:=λc xs q=>b.tups c xs (a.tups c xs q)
 frzs:=λc ob xs q=>b.frzs c ob xs (a.frzs c ob xs q)
 tbls:=λc ps q=>by
  obtain⟨m1,e1⟩:=a.tbls c ps q
  obtain⟨m2,e2⟩:=b.tbls c _ e1
  exact⟨m1++m2,by rw[e2,Array.append_assoc]⟩
 xos:=λc C d q=>b.xos c C d (a.xos c C d q)
theorem Un.kept(k:∀b u,h.get? b=some u->h'.get? b=some u):Un fs ex H H h h' :=
 ⟨λb ob q _ _ _=>k b ob q,λb ob q _ _ _=>⟨ob.slots,k b ob q⟩,λ_ _ _ n _=>n,λb ob q _=>⟨ob,k b ob q⟩,λ_ _ q=>q,λ_ _ _ q=>q,λ_ ps q=>⟨#[],by rw[q];simp⟩,λ_ _ _ q=>q⟩
theorem Un.refl:Un fs ex H H h h:=Un.kept λ_ _ q=>q
theorem Un.laid(k:∀b u,h.get? b=some u->h'.get? b=some u)(hp:h.objs.size<=a)(hn:H a=none):Un fs ex H (upd H a o) h h' where
 keep:=λb u q _ _ _=>k b u q
 slot:=λb u q _ _ _=>⟨u.slots,k b u q⟩
 free:=λb u q n _=>by rw[aX (aAJ (aAO (aAF q) hp))];exact n
 there:=λb u q _=>⟨u,k b u q⟩
 tups:=λb xs q=>by rw[aX (bF q hn)];exact q
 frzs:=λb u xs q=>by rw[aX (bF q hn)];exact q
 tbls:=λb ps q=>⟨#[],by rw[aX (bF q hn),q];simp⟩
 xos:=λb C d q=>by rw[aX (bF q hn)];exact q
theorem Un.write(mu:Mut (H x))(he:e=x\/H e=some (.own x))(k:∀b u,b≠e->h.get? b=some u->h'.get? b=some u)(heo:∃u,h'.get? e=some u):Un fs ex H (upd H x o) h h':=by
 have hx:∀b,H b=none->b≠x:=λb n z=>by subst z;rw[n]at mu;exact mu
 have hb:∀b,H b=none->b≠e:=λb n z=>by
  subst z
  rcases he with r|r
  ·exact hx b n r
  ·rw[n]at r;cases r
 have hm:∀b u,H b=some u->¬Mut (some u)->b≠x:=λb u q nm z=>by subst z;rw[q]at mu;exact nm mu
 refine⟨λb u q n _ _=>k b u (hb b n) q,λb u q n _ _=>⟨u.slots,k b u (hb b n) q⟩,λb u q n _=>by rw[aX (hx b n)];exact n,λb u q _=>?_,
  λb xs q=>by rw[aX (hm b _ q λz=>z)];exact q,λb u xs q=>by rw[aX (hm b _ q λz=>z)];exact q,λb ps q=>⟨#[],by rw[aX (hm b _ q λz=>z),q];simp⟩,λb C d q=>by rw[aX (hm b _ q λz=>z)];exact q⟩
 by_cases hbe:b=e
 ·subst hbe;exact heo
 ·exact⟨u,k b u hbe q⟩
end
noncomputable def trk(h:Heap)(H:Hp):List Addr:=(List.range h.objs.size).filter λa=>(H a).isSome
noncomputable def hidT(h:Heap)(H:Hp):Heap:=PySem.W.hideAll h (trk h H)
theorem aFj(h:Heap)(H:Hp):(hidT h H).objs.size=h.objs.size:=PySem.W.hideAll_size _ _
variable{o:Obj}
theorem aIc(e:h.get? b=some o)(n:H b=none):(hidT h H).get? b=some o :=
 PySem.W.hideAll_get _ e λhm=>by
  have q:(H b).isSome=true:=(List.mem_filter.mp hm).2
  rw[n]at q;simp at q
theorem aKk(e:(hidT h H).get? b=some o):h.get? b=some o/\H b=none:=by
 have e':h.get? b=some o:=PySem.W.of_hideAll (trk h H) e
 refine⟨e',?_⟩
 cases q:H b with
 |none=>rfl
 |some x =>
  have hm:b∈trk h H:=List.mem_filter.mpr ⟨List.mem_range.mpr (aAF e'),by simp[q]⟩
  have z:(hidT h H).get? b=none:=PySem.W.hideAll_none (trk h H) hm
  rw[z]at e;cases e
noncomputable def allNews(g h:Heap)(L:Addr):List (Addr×Obj):=(List.range h.objs.size).filterMap λa=>if a=L\/(g.get? a).isSome=true then none else(h.get? a).map λo=>(a,o)
noncomputable def rest(g h:Heap)(L d:Addr):List (Addr×Obj):=(allNews g h L).filter λp=>decide (p.1≠d)
structure Mod(K:Frag)(mg:Str->Option Value)(base:Heap):Prop where
 kin:K.In base
 glob:base.Ns mainGlobals mg
 blt:∃mb,base.Ns builtinsNs mb/\∀x:Str,x≠"__name__"->mb x=bootBuiltins x
 nolimit:base.NoLimit
structure Cx where
 prog:Program
 w:World
 K:Frag
 mg:Str->Option Value
 base:Heap
 A:Around
 N:List Str
 s₀:Shared
 H₀:Hp
 env:Env
 outer:List Env
 stack:List Env
 ex:List Addr
 fn:Str->Bool
 calm:Bool
 pn:List (Addr×Obj)
 xe:Value->Shared->Prop
noncomputable section
def frs(l:List Env):List Addr:=l.filterMap (·.frame)
abbrev Cx.fs(X:Cx):List Addr:=frs X.outer
def Vis(sc:Scope)(x:Str):Prop:=sc.names.lookup x=some .local\/sc.names.lookup x=some .cell\/sc.names.lookup x=some .free
def Loc(sc:Scope)(x:Str):Prop:=sc.names.lookup x=some .local\/sc.names.lookup x=some .cell
def Look(env:Env)(h:Heap)(m:Str->Option Value)(x:Str)(u:Value):Prop :=
 (env.kindOf x=some .local/\m x=some u)\/((env.kindOf x=some .cell\/env.kindOf x=some .free)/\∃c,env.cells.lookup x=some c/\h.IsCell c (some u))
end
structure Cx.Ok(X:Cx):Prop where
 mod:Mod X.K X.mg X.base
 kind:X.env.scope.kind=.function
 glob:X.env.globals=mainGlobals
 blt:X.env.builtins=builtinsNs
 above:X.s₀.heap.objs.size<=X.env.locals
 inj:∀x y c,X.env.cells.lookup x=some c->X.env.cells.lookup y=some c->x=y
 has:∀x,(X.env.kindOf x=some .cell\/X.env.kindOf x=some .free)->∃c,X.env.cells.lookup x=some c
 cab:∀x c,X.fn x=true->X.env.cells.lookup x=some c->X.s₀.heap.objs.size<=c
 hd:X.calm=true->X.A.handled=none
 frames:X.A.frames=some X.stack
 stk:X.stack=X.outer\/(X.stack=X.env::X.outer/\X.env.frame=some X.env.locals)
 exf:∀b∈X.ex,b≠X.env.locals/\∀x c,X.env.cells.lookup x=some c->c≠b
 bs:∀b o,X.base.get? b=some o->X.s₀.heap.get? b=some o/\X.H₀ b=none
 bsz:X.base.objs.size<=X.s₀.heap.objs.size
 noex:∀b o,X.base.get? b=some o->b∉X.ex
 exfs:∀b∈X.ex,b∉X.fs
 funs:X.s₀.heap.FunFrames X.base X.outer
 frf:∀b∈X.fs,X.H₀ b=none
structure Inv(X:Cx)(pins:List (Addr×Obj))(σ:List (Option V))(H:Hp)(s:Shared):Prop where
 ok:X.Ok
 os:s.os=X.s₀.os
 bare:AllBare s.gens
 base:Un X.fs X.ex X.H₀ H X.s₀.heap s.heap
 loc:∃m,s.heap.Ns X.env.locals m/\∀(i:Nat) (x:Str) (v:V),X.N[i]?=some x->σ[i]?=some (some v)->Vis X.env.scope x->∃u,RelV v u/\Look X.env s.heap m x u
 cell:∀x c,X.env.cells.lookup x=some c->∃v,s.heap.IsCell c v
 free:H X.env.locals=none
 freeC:∀x c,X.env.cells.lookup x=some c->H c=none
 pin:∀p∈X.pn++pins,s.heap.get? p.1=some p.2/\H p.1=none/\p.1≠X.env.locals/\p.1∉X.fs/\∀v,p.2.data≠.cell v
 hok:HOk X.prog X.w H s.heap
 len:σ.length=X.N.length
 hx:X.calm=false->X.A.handled=none\/∃e C d,X.A.handled=some (.ref e)/\H e=some (.xo C d)
variable{X:Cx}{σ:List (Option V)}
theorem Cx.Ok.nofr(ok:X.Ok)(e:X.base.get? b=some o):b∉X.fs:=λhb=>by
 have:=(ok.funs.mem hb).1
 rw[e]at this;cases this
theorem Inv.bs(I:Inv X pins σ H s):∀b o,X.base.get? b=some o->s.heap.get? b=some o/\H b=none:=λb o e =>
 ⟨I.base.keep b o (I.ok.bs b o e).1 (I.ok.bs b o e).2 (I.ok.nofr e) (I.ok.noex b o e),I.base.free b o (I.ok.bs b o e).1 (I.ok.bs b o e).2 (I.ok.noex b o e)⟩
theorem Inv.bk(I:Inv X pins σ H s):∀b o,X.base.get? b=some o->s.heap.get? b=some o:=λb o e=>(I.bs b o e).1
theorem Inv.mod(I:Inv X pins σ H s):Mod X.K X.mg X.base:=I.ok.mod
theorem Inv.kIn(I:Inv X pins σ H s):X.K.In s.heap:=I.ok.mod.kin.keeps I.bk
theorem Inv.cm(I:Inv X pins σ H s):Calm X.A s.heap:=by
 cases q:X.calm with
 |true=>exact .inl (I.ok.hd q)
 |false =>
  rcases I.hx q with z|⟨e,C,d,h1,h2⟩
  ·exact .inl z
  ·obtain⟨vs,sl,h3,h4⟩:=I.hok e _ h2
   exact .inr ⟨e,_,_,vs,sl,h1,h3,h4⟩
theorem Inv.lt(I:Inv X pins σ H s):X.env.locals < s.heap.objs.size:=let⟨_,hn,_⟩:=I.loc;hn.lt
theorem Inv.sz(I:Inv X pins σ H s):X.s₀.heap.objs.size<=s.heap.objs.size:=aAV I.ok.above (aHB I.lt)
theorem Inv.nofs(I:Inv X pins σ H s)(h:s.heap.objs.size<=a):a∉X.fs:=λhb=>by
 obtain⟨_,o,ho,_⟩:=I.ok.funs.mem hb
 exact absurd (aAO (aAF ho) (aAV I.sz h)) (aEG _)
theorem Inv.cne(I:Inv X pins σ H s):∀x c,X.env.cells.lookup x=some c->c≠X.env.locals:=λx c e z=>by
 obtain⟨v,o,ho,hd⟩:=I.cell x c e
 obtain⟨m,⟨o',es,ep,ho',hd',_⟩,_⟩:=I.loc
 rw[z,ho']at ho;cases ho;rw[hd']at hd;cases hd
theorem Inv.funs(I:Inv X pins σ H s):s.heap.FunFrames X.base X.outer:=by
 have all:∀(l:List Env),(∀b∈frs l,b∈X.fs)->X.s₀.heap.FunFrames X.base l->s.heap.FunFrames X.base l:=by
  intro l
  induction l with
  |nil=>intro _ _;trivial
  |cons env r ih =>
   intro hs hl
   obtain⟨hk,⟨L,o,hf,hn,ho,hd⟩,hr⟩:=hl
   have hL:L∈X.fs:=hs L (by unfold frs;rw[aES,hf];exact aDX)
   obtain⟨sl,e⟩:=I.base.slot L o ho (I.ok.frf L hL) hL λz=>I.ok.exfs L z hL
   exact⟨hk,⟨L,_,hf,hn,e,hd⟩,ih (λb hb=>hs b (by unfold frs;rw[aES,hf];exact aCH _ hb)) hr⟩
 exact all X.outer (λ_ hb=>hb) I.ok.funs
theorem Inv.stack(I:Inv X pins σ H s):s.heap.FunFrames X.base X.stack:=by
 rcases I.ok.stk with e|⟨e,hf⟩
 ·rw[e];exact I.funs
 ·rw[e]
  obtain⟨m,hn,_⟩:=I.loc
  refine .cons (by rw[I.ok.kind];decide) hf hn ?_ I.funs
  exact aFR (aAV I.ok.bsz I.ok.above)
theorem Inv.stkSub(I:Inv X pins σ H s):∀b∈frs X.stack,b∈X.env.locals::X.fs:=λb hb=>by
 rcases I.ok.stk with e|⟨e,hf⟩
 ·rw[e]at hb;exact aCH _ hb
 ·rw[e]at hb
  unfold frs at hb
  rw[aES,hf]at hb
  exact hb
theorem Inv.stkFree(I:Inv X pins σ H s):∀b∈frs X.stack,H b=none:=λb hb=>by
 rcases aAY.mp (I.stkSub b hb)with e|hb
 ·rw[e];exact I.free
 ·obtain⟨_,o,ho,_⟩:=I.ok.funs.mem hb
  exact I.base.free b o ho (I.ok.frf b hb) λz=>I.ok.exfs b z hb
variable{g':Array GenState}{d':Drawn}
theorem Inv.step{ch:List Addr}(I:Inv X pins σ H s)
  (hch:∀b∈ch,(b∈X.ex\/X.s₀.heap.objs.size<=b)/\b≠X.env.locals/\(∀x c,X.env.cells.lookup x=some c->c≠b)/\∀p∈X.pn++pins,p.1≠b)
  (keep:∀b o,b≠X.env.locals->b∉X.fs->b∉ch->s.heap.get? b=some o->H b=none->h'.get? b=some o)
  (slot:∀b o,b≠X.env.locals->b∈X.fs->b∉ch->s.heap.get? b=some o->H b=none->∃sl,h'.get? b=some {o with slots:=sl})(free:∀b o,b∉ch->s.heap.get? b=some o->H b=none->H' b=none)
  (there:∀b o,b∉ch->s.heap.get? b=some o->∃o',h'.get? b=some o')
  (tups:∀b xs,H b=some (.tup xs)->H' b=some (.tup xs))(frzs:∀b o u,H b=some (.frz o u)->H' b=some (.frz o u))(tbls:∀b ps,H b=some (.tbl ps)->∃more,H' b=some (.tbl (ps++more)))(xos:∀b C d,H b=some (.xo C d)->H' b=some (.xo C d))
  (ns:∀m,s.heap.Ns X.env.locals m->h'.Ns X.env.locals m)(hok:HOk X.prog X.w H' h')(hg:AllBare g') :
  Inv X pins σ H' {s with heap:=h',gens:=g',drawn:=d',toks:=t'}:=by
 have neL:∀b o,X.s₀.heap.get? b=some o->b≠X.env.locals:=λb o e=>aAJ (aAO (aAF e) I.ok.above)
 have neC:∀b o,X.s₀.heap.get? b=some o->b∉X.ex->b∉ch:=λb o e hx hb=>by
  rcases(hch b hb).1 with z|z
  ·exact hx z
  ·exact absurd (aAO (aAF e) z) (aEG _)
 have cellK:∀x c,X.env.cells.lookup x=some c->∀v,s.heap.IsCell c v->h'.IsCell c v:=λx c e v ⟨o,ho,hd⟩=>by
  have nch:c∉ch:=λz=>(hch c z).2.2.1 x c e rfl
  by_cases hc:c∈X.fs
  ·obtain⟨sl,q⟩:=slot c o (I.cne x c e) hc nch ho (I.freeC x c e)
   exact⟨_,q,hd⟩
  ·exact⟨o,keep c o (I.cne x c e) hc nch ho (I.freeC x c e),hd⟩
 refine⟨I.ok,I.os,hg,⟨λb o e n hb hx=>?_,λb o e n hb hx=>?_,λb o e n hx=>?_,λb o e hx=>?_,λb xs e=>tups b xs (I.base.tups b xs e),λb o xs e=>frzs b o xs (I.base.frzs b o xs e),λb ps e=>?_,λb C d e=>xos b C d (I.base.xos b C d e)⟩,?_,λx c e=>?_,?_,λx c e=>?_,λp hp=>?_,hok,I.len,λz=>(I.hx z).imp id λ⟨e,C,d,q,y⟩=>⟨e,C,d,q,xos e C d y⟩⟩
 ·exact keep b o (neL b o e) hb (neC b o e hx) (I.base.keep b o e n hb hx) (I.base.free b o e n hx)
 ·obtain⟨sl,e1⟩:=I.base.slot b o e n hb hx
  obtain⟨sl',e2⟩:=slot b _ (neL b o e) hb (neC b o e hx) e1 (I.base.free b o e n hx)
  exact⟨sl',e2⟩
 ·obtain⟨o',e1⟩:=I.base.there b o e hx
  exact free b o' (neC b o e hx) e1 (I.base.free b o e n hx)
 ·obtain⟨o',e1⟩:=I.base.there b o e hx
  exact there b o' (neC b o e hx) e1
 ·obtain⟨m1,e1⟩:=I.base.tbls b ps e
  obtain⟨m2,e2⟩:=tbls b _ e1
  exact⟨m1++m2,by rw[e2,Array.append_assoc]⟩
 ·obtain⟨m,hn,hl⟩:=I.loc
  refine⟨m,ns m hn,λi x v e1 e2 e3=>?_⟩
  obtain⟨u,r,l⟩:=hl i x v e1 e2 e3
  refine⟨u,r,?_⟩
  rcases l with l|⟨k,c,e,z⟩
  ·exact .inl l
  ·exact .inr ⟨k,c,e,cellK x c e _ z⟩
 ·obtain⟨v,z⟩:=I.cell x c e
  exact⟨v,cellK x c e v z⟩
 ·obtain⟨m,⟨o,_,_,ho,_⟩,_⟩:=I.loc
  exact free _ o (λz=>(hch _ z).2.1 rfl) ho I.free
 ·obtain⟨v,o,ho,hd⟩:=I.cell x c e
  exact free c o (λz=>(hch c z).2.2.1 x c e rfl) ho (I.freeC x c e)
 ·obtain⟨e,n,ne,nf,d⟩:=I.pin p hp
  have nch:p.1∉ch:=λz=>(hch p.1 z).2.2.2 p hp rfl
  exact⟨keep p.1 p.2 ne nf nch e n,free p.1 p.2 nch e n,ne,nf,d⟩
theorem Inv.un(I:Inv X pins σ H s)(u:Un X.fs [] H H' s.heap h')(hok:HOk X.prog X.w H' h'):Inv X pins σ H' {s with heap:=h',toks:=t'}:=by
 obtain⟨m,⟨o,es,ep,ho,r⟩,_⟩:=id I.loc
 obtain⟨sl,hL⟩:=u.any ho I.free (by simp)
 exact I.step (g':=s.gens) (d':=s.drawn) (ch:=[]) (λ_ z=>nomatch z) (λb o _ hb _ e n=>u.keep b o e n hb (by simp)) (λb o _ hb _ e n=>u.slot b o e n hb (by simp)) (λb o _ e n=>u.free b o e n (by simp)) (λb o _ e=>u.there b o e (by simp)) u.tups u.frzs u.tbls u.xos (λm' hm=>by
  obtain⟨o',es',ep',ho',r'⟩:=hm
  rw[ho]at ho';cases ho'
  exact⟨_,es',ep',hL,r'⟩) hok I.bare
theorem Inv.call{ch:List Addr}(I:Inv X pins σ H s)(u:Un (frs X.stack) ch H H' s.heap h')(hok:HOk X.prog X.w H' h')(hg:AllBare g')
  (hch:∀b∈ch,(b∈X.ex\/X.s₀.heap.objs.size<=b)/\b≠X.env.locals/\(∀x c,X.env.cells.lookup x=some c->c≠b)/\∀p∈X.pn++pins,p.1≠b) :
  Inv X pins σ H' {s with heap:=h',gens:=g',drawn:=d',toks:=t'}:=by
 obtain⟨m,⟨o,es,ep,ho,r⟩,_⟩:=id I.loc
 obtain⟨sl,hL⟩:=u.any ho I.free λz=>(hch _ z).2.1 rfl
 exact I.step (ch:=ch) hch (λb o hL hb hc e n=>u.keep b o e n (λz=>(aAY.mp (I.stkSub b z)).elim hL hb) hc) (λb o _ _ hc e n=>u.any e n hc) (λb o hc e n=>u.free b o e n hc) (λb o hc e=>u.there b o e hc) u.tups u.frzs u.tbls u.xos (λm' hm=>by
  obtain⟨o',es',ep',ho',r'⟩:=hm
  rw[ho]at ho';cases ho'
  exact⟨_,es',ep',hL,r'⟩) hok hg
theorem Inv.turned(I:Inv X pins σ H s)(k:∀b o,b≠it->s.heap.get? b=some o->h'.get? b=some o)(hn:H it=none)(hL:it≠X.env.locals)
  (h1:it∈X.ex\/X.s₀.heap.objs.size<=it)(h2:∀x c,X.env.cells.lookup x=some c->c≠it)(h3:∀p∈X.pn++pins,p.1≠it):Inv X pins σ H {s with heap:=h',toks:=t'}:=by
 have nit:∀b u,H b=some u->b≠it:=λb u e z=>by rw[z,hn]at e;cases e
 refine I.step (g':=s.gens) (d':=s.drawn) (ch:=[it]) (λb hb=>?_) (λb o _ _ hc e _=>k b o (λz=>hc (by simp[z])) e) (λb o _ _ hc e _=>⟨o.slots,k b o (λz=>hc (by simp[z])) e⟩) (λ_ _ _ _ n=>n)
  (λb o hc e=>⟨o,k b o (λz=>hc (by simp[z])) e⟩) (λ_ _ e=>e) (λ_ _ _ e=>e) (λb ps e=>⟨#[],by rw[e];simp⟩) (λ_ _ _ e=>e) (λm hm=>?_) (λb u e=>?_) I.bare
 ·have e:b=it:=by simpa using hb
  subst e
  exact⟨h1,hL,h2,h3⟩
 ·obtain⟨o,es,ep,ho,r⟩:=hm
  exact⟨o,es,ep,k _ o (Ne.symm hL) ho,r⟩
 ·refine(I.hok b u e).stay (λc v hc q=>k c v ?_ q) (λ_ q=>q) λ_ _ q=>q
  rcases hc with z|z
  ·rw[z];exact nit b u e
  ·exact nit c _ z
theorem Inv.tok(I:Inv X pins σ H s)(t:Nat):Inv X pins σ H {s with toks:=t}:=I.un (h':=s.heap) (t':=t) Un.refl I.hok
theorem Inv.kept{t':Nat}(I:Inv X pins σ H s)(k:∀b u,s.heap.get? b=some u->h'.get? b=some u):Inv X pins σ H {s with heap:=h',toks:=t'}:=I.un (Un.kept k) (I.hok.kept k)
theorem Inv.laid{a:Addr}{o:HO}{t':Nat}(I:Inv X pins σ H s)(k:∀b u,s.heap.get? b=some u->h'.get? b=some u)(hp:s.heap.objs.size<=a)(new:ObjOk X.prog X.w (upd H a o) h' a o) :
  Inv X pins σ (upd H a o) {s with heap:=h',toks:=t'}:=I.un (Un.laid k hp (I.hok.fresh hp)) (I.hok.laid k hp new)
theorem Inv.write{x e:Addr}{o:HO}{t':Nat}(I:Inv X pins σ H s)(mu:Mut (H x))(he:e=x\/H e=some (.own x))(k:∀b u,b≠e->s.heap.get? b=some u->h'.get? b=some u)(heo:∃u,h'.get? e=some u)
  (new:ObjOk X.prog X.w (upd H x o) h' x o):Inv X pins σ (upd H x o) {s with heap:=h',toks:=t'}:=I.un (Un.write mu he k heo) (I.hok.write mu he k heo new)
theorem Inv.pins_of{pins':List (Addr×Obj)}(I:Inv X pins σ H s)(h:∀p∈pins',s.heap.get? p.1=some p.2/\H p.1=none/\p.1≠X.env.locals/\p.1∉X.fs/\∀v,p.2.data≠.cell v):Inv X pins' σ H s :=
 ⟨I.ok,I.os,I.bare,I.base,I.loc,I.cell,I.free,I.freeC,λp hp=>(aAX.mp hp).elim (λz=>I.pin p (List.mem_append_left _ z)) (h p),I.hok,I.len,I.hx⟩
variable{x:Str}
theorem sG(hN:N.Nodup)(a:N[i]?=some x)(b:N[j]?=some x):i=j:=by
 obtain⟨h1,e1⟩:=aAD.mp a
 obtain⟨h2,e2⟩:=aAD.mp b
 exact(List.getElem_inj hN).mp (e1.trans e2.symm)
variable{M:Model}{v:V}{u:Value}{Q:Unit->Shared->Prop}
theorem vM(I:Inv X pins σ H s)(hN:X.N.Nodup)(hi:X.N[i]?=some x)(hx:Loc X.env.scope x)(r:RelV v u)
  (h:∀s',Inv X pins (σ.set i (some v)) H s'->(∃a,Heap.SameBut a s.heap s'.heap/\(a=X.env.locals\/X.env.cells.lookup x=some a))->Q () s')(hf:X.fn x=true\/X.env.scope.names.lookup x=some .local:=by first|exact .inl rfl|exact .inr rfl|assumption):wpAny M A (storeName X.env x u) Q E s:=by
 obtain⟨m,hn,hl⟩:=id I.loc
 have hcls:(X.env.scope.kind==.class || (X.env.scope.kind==.module&&X.env.locals != X.env.globals))=false:=by rw[I.ok.kind];rfl
 have hiσ:i < σ.length:=by rw[I.len];exact(aAD.mp hi).1
 have cne:=I.cne
 have tracked:∀{a:Addr} {h':Heap},(∃o,s.heap.get? a=some o/\H a=none)->Heap.SameBut a s.heap h'->HOk X.prog X.w H h':=λ{a h'} ha hs b ob e=>by
  obtain⟨_,_,hfree⟩:=ha
  refine(I.hok b ob e).stay (λc w' hc q=>(hs.2 c ?_).trans q) (λ_ q=>q) λ_ _ q=>q
  rintro rfl
  rcases hc with rfl|hc
  ·rw[hfree]at e;cases e
  ·rw[hfree]at hc;cases hc
 rcases hx with hk|hk
 ·refine wpAny_storeName_local hk hn (λh' hn' hs=>?_) hcls
  obtain⟨oL,_,_,hoL,_⟩:=id hn
  refine h _ ⟨I.ok,I.os,I.bare,⟨λb o e n hb hx=>?_,λb o e n hb hx=>?_,I.base.free,λb o e hx=>?_,I.base.tups,I.base.frzs,I.base.tbls,I.base.xos⟩,⟨_,hn',λj y v' e1 e2 e3=>?_⟩,λy c e=>?_,I.free,I.freeC,λp hp=>?_,tracked ⟨oL,hoL,I.free⟩ hs,by simpa using I.len,I.hx⟩ ⟨_,hs,.inl rfl⟩
  ·exact(hs.2 b (aAJ (aAO (aAF e) I.ok.above))).trans (I.base.keep b o e n hb hx)
  ·obtain⟨sl,e1⟩:=I.base.slot b o e n hb hx
   exact⟨sl,(hs.2 b (aAJ (aAO (aAF e) I.ok.above))).trans e1⟩
  ·obtain⟨o',e1⟩:=I.base.there b o e hx
   exact⟨o',(hs.2 b (aAJ (aAO (aAF e) I.ok.above))).trans e1⟩
  ·by_cases hj:j=i
   ·subst hj
    rw[hi]at e1;cases e1
    rw[aCB hiσ]at e2
    cases e2
    exact⟨u,r,.inl ⟨hk,by simp⟩⟩
   ·rw[aCF (Ne.symm hj)]at e2
    obtain⟨u',r',q⟩:=hl j y v' e1 e2 e3
    refine⟨u',r',?_⟩
    rcases q with⟨k,e⟩|⟨k,c,e,z⟩
    ·refine .inl ⟨k,?_⟩
     have:y≠x:=λe=>hj (sG hN e1 (e▸hi))
     simp[this,e]
    ·exact .inr ⟨k,c,e,z.sameBut hs (cne y c e)⟩
  ·obtain⟨w',z⟩:=I.cell y c e
   exact⟨w',z.sameBut hs (cne y c e)⟩
  ·obtain⟨e,n,ne,nf,d⟩:=I.pin p hp
   exact⟨(hs.2 p.1 ne).trans e,n,ne,nf,d⟩
 ·have hfn:X.fn x=true:=by
   rcases hf with z|z
   ·exact z
   ·rw[z]at hk;cases hk
  obtain⟨c,hc⟩:=I.ok.has x (.inl hk)
  obtain⟨w',z⟩:=I.cell x c hc
  refine wpAny_storeName_cell I.ok.kind hk hc z (λh' hc' hs=>?_)
  obtain⟨oc,hoc,hocd⟩:=id z
  refine h {s with heap:=h'} ⟨I.ok,I.os,I.bare,⟨λb o e n hb hx=>?_,λb o e n hb hx=>?_,I.base.free,λb o e hx=>?_,I.base.tups,I.base.frzs,I.base.tbls,I.base.xos⟩,⟨m,hn.sameBut hs (Ne.symm (cne x c hc)),λj y v' e1 e2 e3=>?_⟩,λy c' e=>?_,I.free,I.freeC,λp hp=>?_,tracked ⟨oc,hoc,I.freeC x c hc⟩ hs,by simpa using I.len,I.hx⟩ ⟨c,hs,.inr hc⟩
  ·exact(hs.2 b (aAJ (aAO (aAF e) (I.ok.cab x c hfn hc)))).trans (I.base.keep b o e n hb hx)
  ·obtain⟨sl,e1⟩:=I.base.slot b o e n hb hx
   exact⟨sl,(hs.2 b (aAJ (aAO (aAF e) (I.ok.cab x c hfn hc)))).trans e1⟩
  ·obtain⟨o',e1⟩:=I.base.there b o e hx
   exact⟨o',(hs.2 b (aAJ (aAO (aAF e) (I.ok.cab x c hfn hc)))).trans e1⟩
  ·by_cases hj:j=i
   ·subst hj
    rw[hi]at e1;cases e1
    rw[aCB hiσ]at e2
    cases e2
    exact⟨u,r,.inr ⟨.inl hk,c,hc,hc'⟩⟩
   ·rw[aCF (Ne.symm hj)]at e2
    obtain⟨u',r',q⟩:=hl j y v' e1 e2 e3
    refine⟨u',r',?_⟩
    rcases q with q|⟨k,c',e,z'⟩
    ·exact .inl q
    ·refine .inr ⟨k,c',e,z'.sameBut hs ?_⟩
     rintro rfl
     exact hj (sG hN e1 (I.ok.inj _ _ _ e hc▸hi))
  ·by_cases hcc:c'=c
   ·subst hcc;exact⟨_,hc'⟩
   ·obtain⟨w2,z2⟩:=I.cell y c' e
    exact⟨w2,z2.sameBut hs hcc⟩
  ·obtain⟨e,n,ne,nf,d⟩:=I.pin p hp
   refine⟨(hs.2 p.1 ?_).trans e,n,ne,nf,d⟩
   intro q
   rw[q,hoc]at e
   have q':oc=p.2:=Option.some.inj e
   exact d w' (by rw[<- q'];exact hocd)
theorem eG(I:Inv X pins σ H s)(hN:X.N.Nodup)(hi:X.N[i]?=some x)(hx:Loc X.env.scope x)(r:RelV v u)
  (h:∀s',Inv X pins (σ.set i (some v)) H s'->Q () s')(hf:X.fn x=true\/X.env.scope.names.lookup x=some .local:=by first|exact .inl rfl|exact .inr rfl|assumption):wpAny M A (storeName X.env x u) Q E s :=
 vM I hN hi hx r (λs' I' _=>h s' I') hf
theorem Inv.call'{ch:List Addr}(I:Inv X pins σ H s)(ho:s'.os=s.os)(u:Un (frs X.stack) ch H H' s.heap s'.heap)(hok:HOk X.prog X.w H' s'.heap)(hg:AllBare s'.gens)
  (hch:∀b∈ch,(b∈X.ex\/X.s₀.heap.objs.size<=b)/\b≠X.env.locals/\(∀x c,X.env.cells.lookup x=some c->c≠b)/\∀p∈X.pn++pins,p.1≠b):Inv X pins σ H' s':=by
 obtain⟨h',g',d',t',o'⟩:=s'
 have e:o'=s.os:=ho
 subst e
 exact I.call (g':=g') (t':=t') (d':=d') u hok hg hch
noncomputable section
abbrev XK:=Value->Option Addr->Hp->Prop
abbrev St:=List (Option V)
abbrev VK:=V->Hp->Prop
abbrev TE:=St->Hp->VK->Prop
abbrev TT:=St->Hp->(Bool->Hp->Prop)->Prop
abbrev TA:=St->Hp->(List V->Hp->Prop)->Prop
end
structure Ends where
 nx:St->Hp->Prop
 rt:VK
 bk:St->Hp->Prop:=λ_ _=>False
 ct:St->Hp->Prop:=λ_ _=>False
noncomputable section
abbrev TS:=Ends->St->Hp->Prop
def EP(X:Cx)(pins:List (Addr×Obj))(σ:St)(Q:VK)(u:Value)(s':Shared):Prop:=∃v H',Inv X pins σ H' s'/\RelV v u/\Q v H'
def TP(X:Cx)(pins:List (Addr×Obj))(σ:St)(Q:Bool->Hp->Prop)(b:Bool)(s':Shared):Prop:=∃H',Inv X pins σ H' s'/\Q b H'
def AP(X:Cx)(pins:List (Addr×Obj))(σ:St)(Q:List V->Hp->Prop)(us:List Value)(s':Shared):Prop:=∃vs H',Inv X pins σ H' s'/\Vals vs us/\Q vs H'
def SP(X:Cx)(pins:List (Addr×Obj))(D:Ends)(f:Flow)(s':Shared):Prop :=
 match f with
 |.next=>∃σ' H',Inv X pins σ' H' s'/\D.nx σ' H'
 |.brk=>∃σ' H',Inv X pins σ' H' s'/\D.bk σ' H'
 |.cont=>∃σ' H',Inv X pins σ' H' s'/\D.ct σ' H'
 |.ret u=>∃v σ' H',Inv X pins σ' H' s'/\RelV v u/\D.rt v H'
def PE(X:Cx)(e:Expr)(t:TE):Prop :=
 ∀(pins:List (Addr×Obj)) (s:Shared) (σ:St) (H:Hp) (Q:VK),Inv X pins σ H s->t σ H Q->wpAny (model X.prog X.w) X.A (eval e X.env) (EP X pins σ Q) X.xe s
def PT(X:Cx)(e:Expr)(t:TT):Prop :=
 ∀(pins:List (Addr×Obj)) (s:Shared) (σ:St) (H:Hp) (Q:Bool->Hp->Prop),Inv X pins σ H s->t σ H Q->wpAny (model X.prog X.w) X.A (isTrue e X.env (eval e X.env)) (TP X pins σ Q) X.xe s
def PW(X:Cx)(e:Expr)(t:TT):Prop :=
 ∀(whole:Sem Value) (pins:List (Addr×Obj)) (s:Shared) (σ:St) (H:Hp) (Q:Bool->Hp->Prop),Inv X pins σ H s->t σ H Q->wpAny (model X.prog X.w) X.A (isTrue e X.env whole) (TP X pins σ Q) X.xe s
end
variable{e:Expr}
theorem PW.pt{t:TT}(h:PW X e t):PT X e t:=h _
noncomputable section
def PA(X:Cx)(es:List Expr)(t:TA):Prop :=
 ∀(pos:Pos) (pins:List (Addr×Obj)) (s:Shared) (σ:St) (H:Hp) (Q:List V->Hp->Prop),Inv X pins σ H s->t σ H Q->wpAny (model X.prog X.w) X.A (spliced (backTo pos (starEach es X.env))) (AP X pins σ Q) X.xe s
def PS(X:Cx)(st:Stmt)(t:TS):Prop :=
 ∀(pins:List (Addr×Obj)) (s:Shared) (σ:St) (H:Hp) (D:Ends),Inv X pins σ H s->t D σ H->wpAny (model X.prog X.w) X.A (exec st X.env) (SP X pins D) X.xe s
def PSs(X:Cx)(st:List Stmt)(t:TS):Prop :=
 ∀(pins:List (Addr×Obj)) (s:Shared) (σ:St) (H:Hp) (D:Ends),Inv X pins σ H s->t D σ H->wpAny (model X.prog X.w) X.A (execs st X.env) (SP X pins D) X.xe s
end
theorem thn{t:Sem α}{Q Q':α->Shared->Prop}{s:Shared}(h:wpAny M A t Q E s)(hQ:∀a s,Q a s->Q' a s):wpAny M A t Q' E s:=aCT h hQ λ_ _ x=>x
section
noncomputable section
def tVar(i:Nat):TE:=λσ H Q=>∃v,σ[i]?=some (some v)/\Q v H
def tC(v:V):TE:=λ_ H Q=>Q v H
theorem aIw(hN:X.N[i]?=some x)(hv:Vis X.env.scope x)(hd:(x==("__debug__":Str))=false:=by decide)(hcd:(x==("__classdict__":Str))=false:=by decide):PE X (.Name x pos) (tVar i):=by
 intro pins s σ H Q I h
 obtain⟨v,e,h⟩:=h
 obtain⟨m,hn,hl⟩:=I.loc
 obtain⟨u,r,l⟩:=hl i x v hN e hv
 have fin:EP X pins σ Q u s:=⟨v,H,I,r,h⟩
 rcases l with⟨hk,hm⟩|⟨hk,c,hc,hcell⟩
 ·exact wpAny_Name (wpAny_loadName_local I.ok.kind hk hn hm fin) hd
 ·rcases hk with hk|hk
  ·exact wpAny_Name (wpAny_loadName_cell I.ok.kind hk hc hcell fin) hd
  ·exact wpAny_Name (wpAny_loadName_free I.ok.kind hk hc hcell fin hcd) hd
theorem aHq{i j pos}:PE X (.Constant (.int i) j pos) (tC (.int i)):=λ_ _ _ H _ I h=>wpAny_Constant_int ⟨.int i,H,I.tok _,⟨_,rfl⟩,h⟩
theorem aQv{b j pos}:PE X (.Constant (.bool b) j pos) (tC (.bl b)):=λ_ _ _ H _ I h=>Constant_bool ⟨.bl b,H,I,rfl,h⟩
theorem aNs{j pos}:PE X (.Constant .none j pos) (tC .non):=λ_ _ _ H _ I h=>Constant_none ⟨.non,H,I,rfl,h⟩
theorem aGf{x j pos}:PE X (.Constant (.str x) j pos) (tC (.str x)):=λ_ _ _ H _ I h=>Calls.Constant_str ⟨.str x,H,I.tok _,⟨_,rfl⟩,h⟩
def Gl(X:Cx)(x:Str):Prop:=X.env.kindOf x=some .globalImplicit
end
variable{σ:St}{Q:Value->Shared->Prop}
theorem kG(I:Inv X pins σ H s)(hg:Gl X x)(hm:X.mg x=some u)(h:Q u s)
  (hd:(x==("__debug__":Str))=false:=by decide):wpAny (model X.prog X.w) X.A (eval (.Name x pos) X.env) Q E s :=
 Calls.Name_function_global I.ok.kind hg (Calls.loadGlobal_global (by rw[I.ok.glob];exact I.mod.glob.keeps I.bk) hm h) hd
theorem fN(I:Inv X pins σ H s)(hg:Gl X x)(hm:X.mg x=none)(hv:bootBuiltins x=some u)(h:Q u s)
  (hn:x≠"__name__":=by decide)(hd:(x==("__debug__":Str))=false:=by decide):wpAny (model X.prog X.w) X.A (eval (.Name x pos) X.env) Q E s:=by
 obtain⟨mb,h1,h2⟩:=I.mod.blt
 exact Calls.Name_function_global I.ok.kind hg (Calls.loadGlobal_builtin (by rw[I.ok.glob];exact I.mod.glob.keeps I.bk) hm (by rw[I.ok.blt];exact h1.keeps I.bk) ((h2 x hn).trans hv) h) hd
theorem aCk(hg:Gl X x)(hm:X.mg x=some u)(r:RelV v u)(hd:(x==("__debug__":Str))=false:=by decide):PE X (.Name x pos) (tC v) :=
 λ_ _ _ H _ I h=>kG I hg hm ⟨v,H,I,r,h⟩ hd
theorem aDw(hg:Gl X x)(hm:X.mg x=none)(hv:bootBuiltins x=some u)(r:RelV v u)(hn:x≠"__name__":=by decide)(hd:(x==("__debug__":Str))=false:=by decide):PE X (.Name x pos) (tC v) :=
 λ_ _ _ H _ I h=>fN I hg hm hv ⟨v,H,I,r,h⟩ hn hd
noncomputable def t2I(ta tb:TE)(k:Int->Int->Hp->Prop):St->Hp->Prop:=λσ H=>ta σ H λx H1=>tb σ H1 λy H2=>∃i j,x=.int i/\y=.int j/\k i j H2
variable{a b:Expr}{ta tb:TE}
noncomputable section
def tCmp(p:Int->Int->Bool)(ta tb:TE):TE:=λσ H Q=>t2I ta tb (λi j H2=>Q (.bl (p i j)) H2) σ H
abbrev tLt:TE->TE->TE:=tCmp λi j=>decide (i < j)
def tB(t:TE):TT:=λσ H Q=>t σ H λx H1=>∃c,x=.bl c/\Q c H1
end
variable{tA tB':TT}{rest:List Expr}
noncomputable section
def tAnd(t u:TT):TT:=λσ H Q=>t σ H λc H1=>if c=true then u σ H1 Q else Q false H1
def tOr(t u:TT):TT:=λσ H Q=>t σ H λc H1=>if c=true then Q true H1 else u σ H1 Q
def tNot(t:TT):TT:=λσ H Q=>t σ H λc H1=>Q (!c) H1
theorem aJn(ha:PT X a tA):PW X (.BoolOp .And [a] pos) tA:=by
 intro wh pins s σ H Q I h
 refine isTrue_and (thn (ha pins s σ H Q I h) λc s1 e=>?_)
 cases c with
 |true=>exact isTrue_and_nil e
 |false=>exact e
theorem aNf(ha:PT X a tA):PW X (.BoolOp .Or [a] pos) tA:=by
 intro wh pins s σ H Q I h
 refine isTrue_or (thn (ha pins s σ H Q I h) λc s1 e=>?_)
 cases c with
 |false=>exact isTrue_or_nil e
 |true=>exact e
theorem aPd(ha:PT X a tA)(hb:PW X (.BoolOp .And (b::rest) pos) tB'):PW X (.BoolOp .And (a::b::rest) pos) (tAnd tA tB'):=by
 intro wh pins s σ H Q I h
 refine isTrue_and (thn (ha pins s σ H _ I h) λc s1 ⟨H1,I1,q1⟩=>?_)
 cases c with
 |true=>exact hb wh pins s1 σ H1 Q I1 q1
 |false=>exact⟨H1,I1,q1⟩
theorem aRy(ha:PT X a tA)(hb:PW X (.BoolOp .Or (b::rest) pos) tB'):PW X (.BoolOp .Or (a::b::rest) pos) (tOr tA tB'):=by
 intro wh pins s σ H Q I h
 refine isTrue_or (thn (ha pins s σ H _ I h) λc s1 ⟨H1,I1,q1⟩=>?_)
 cases c with
 |true=>exact⟨H1,I1,q1⟩
 |false=>exact hb wh pins s1 σ H1 Q I1 q1
theorem aMz(ha:PT X a tA):PT X (.UnaryOp .Not a pos) (tNot tA):=by
 intro pins s σ H Q I h
 exact isTrue_not (ha pins s σ H (λc H1=>Q (!c) H1) I h)
def tIf(t:TT)(ta tb:TE):TE:=λσ H Q=>t σ H λc H1=>if c=true then ta σ H1 Q else tb σ H1 Q
end
theorem aGc{c:Expr}(hc:PT X c tA)(ha:PE X a ta)(hb:PE X b tb):PE X (.IfExp c a b pos) (tIf tA ta tb):=by
 intro pins s σ H Q I h
 refine wpAny_IfExp (thn (hc pins s σ H _ I h) λd s1 ⟨H1,I1,q1⟩=>?_)
 cases d with
 |true=>exact ha pins s1 σ H1 Q I1 q1
 |false=>exact hb pins s1 σ H1 Q I1 q1
end
noncomputable section
def SqL(K:Frag)(H:Hp)(a:Addr)(xs:List V):Prop :=
 Rd H a (.lst xs) \/
  ∃(o:Obj) (its:Array Value) (n:Nat),K.lookup a=some o/\o.cls=.type "list"/\o.dict=none/\o.data=.seq its n/\its.size<=sizeLine/\Vals xs its.toList
def SqT(K:Frag)(H:Hp)(a:Addr)(xs:List V):Prop :=
 Rd H a (.tup xs) \/
  ∃(o:Obj) (its:Array Value) (n:Nat),K.lookup a=some o/\o.cls=.type "tuple"/\o.data=.seq its n/\its.size<=sizeLine/\Vals xs its.toList
def absV:Value->Option V
 |.none=>some .non
 |.bool b=>some (.bl b)
 |.int i _=>some (.int i)
 |.str x _=>some (.str x)
 |.bytes b _=>some (.byt b)
 |.float b _=>some (.flt b)
 |.ref a=>some (.ref a)
 |.type n=>some (.ty n)
 |_=>none
end
theorem RelV.abs{x:V}(r:RelV x u):absV u=some x:=by
 cases x with
 |non=>cases r;rfl
 |bl _=>cases r;rfl
 |int _=>obtain⟨t,rfl⟩:=r;rfl
 |str _=>obtain⟨t,rfl⟩:=r;rfl
 |byt _=>obtain⟨t,rfl⟩:=r;rfl
 |flt _=>obtain⟨t,rfl⟩:=r;rfl
 |ref _=>cases r;rfl
 |ty _=>cases r;rfl
theorem RelV.inj{x y:V}{u:Value}(r:RelV x u)(q:RelV y u):x=y:=Option.some.inj (r.abs.symm.trans q.abs)
theorem Vals.inj:∀{xs ys:List V} {us:List Value},Vals xs us->Vals ys us->xs=ys
 |_,_,_,.nil,.nil=>rfl
 |_,_,_,.cons r t,.cons r' t'=>by rw[r.inj r',Vals.inj t t']
variable{σ:St}{xs ys:List V}
theorem SqL.of(h:H a=some (.lst xs)):SqL K H a xs:=.inl (.inl h)
theorem SqT.of(h:H a=some (.tup xs)):SqT K H a xs:=.inl (.inl h)
theorem Inv.list(I:Inv X pins σ H s)(h:SqL X.K H a xs):∃its:List Value,Vals xs its/\PlainL s.heap a its.toArray/\xs.length<=sizeLine:=by
 rcases h with h|⟨o,its,n,hk,hc,hd,hs,hz,r⟩
 ·obtain⟨z,its,n,r,e⟩:=h.ok I.hok
  exact⟨its,r,⟨_,n,e,rfl,rfl,rfl⟩,z⟩
 ·refine⟨its.toList,r,⟨o,n,I.kIn a o hk,hc,hd,by simpa using hs⟩,?_⟩
  have e:=r.length
  simp only[aDF]at e
  lia
theorem Inv.tuple(I:Inv X pins σ H s)(h:SqT X.K H a xs):∃its:List Value,Vals xs its/\IsTup s.heap a its.toArray/\xs.length<=sizeLine:=by
 rcases h with h|⟨o,its,n,hk,hc,hs,hz,r⟩
 ·obtain⟨z,its,r,p⟩:=h.ok I.hok
  exact⟨its,r,p,z⟩
 ·refine⟨its.toList,r,⟨o,I.kIn a o hk,hc,n,by simpa using hs⟩,?_⟩
  have e:=r.length
  simp only[aDF]at e
  lia
theorem Inv.list_inj(I:Inv X pins σ H s)(h:SqL X.K H a xs)(h':SqL X.K H a ys):xs=ys:=by
 obtain⟨its,r,⟨o,n,e,_,_,d⟩,_⟩:=I.list h
 obtain⟨its',r',⟨o',n',e',_,_,d'⟩,_⟩:=I.list h'
 rw[e]at e';cases e'
 rw[d]at d'
 injection d' with d1 _
 have:its=its':=by simpa using congrArg Array.toList d1
 subst this
 exact r.inj r'
theorem Inv.tuple_inj(I:Inv X pins σ H s)(h:SqT X.K H a xs)(h':SqT X.K H a ys):xs=ys:=by
 obtain⟨its,r,⟨o,e,_,n,d⟩,_⟩:=I.tuple h
 obtain⟨its',r',⟨o',e',_,n',d'⟩,_⟩:=I.tuple h'
 rw[e]at e';cases e'
 rw[d]at d'
 injection d' with d1 _
 have:its=its':=by simpa using congrArg Array.toList d1
 subst this
 exact r.inj r'
noncomputable abbrev Cx.wish(X:Cx)(E:Value->Shared->Prop):Cx:={X with xe:=E}
noncomputable abbrev Cx.nox(X:Cx):Cx:=X.wish λ_ _=>False
theorem Cx.Ok.wish{X:Cx}(ok:X.Ok)(E:Value->Shared->Prop):(X.wish E).Ok :=
 ⟨ok.mod,ok.kind,ok.glob,ok.blt,ok.above,ok.inj,ok.has,ok.cab,ok.hd,ok.frames,ok.stk,ok.exf,ok.bs,ok.bsz,ok.noex,ok.exfs,ok.funs,ok.frf⟩
theorem Cx.Ok.unwish(ok:(X.wish E).Ok):X.Ok :=
 ⟨ok.mod,ok.kind,ok.glob,ok.blt,ok.above,ok.inj,ok.has,ok.cab,ok.hd,ok.frames,ok.stk,ok.exf,ok.bs,ok.bsz,ok.noex,ok.exfs,ok.funs,ok.frf⟩
theorem Inv.wish(I:Inv X pins σ H s)(E:Value->Shared->Prop):Inv (X.wish E) pins σ H s:=⟨I.ok.wish E,I.os,I.bare,I.base,I.loc,I.cell,I.free,I.freeC,I.pin,I.hok,I.len,I.hx⟩
theorem Inv.unwish(I:Inv (X.wish E) pins σ H s):Inv X pins σ H s:=⟨I.ok.unwish,I.os,I.bare,I.base,I.loc,I.cell,I.free,I.freeC,I.pin,I.hok,I.len,I.hx⟩
theorem SP.unwish{D:Ends}{f:Flow}{s':Shared}(h:SP (X.wish E) pins D f s'):SP X pins D f s':=by
 cases f with
 |next=>obtain⟨σ',H',I,q⟩:=h;exact⟨σ',H',I.unwish,q⟩
 |brk=>obtain⟨σ',H',I,q⟩:=h;exact⟨σ',H',I.unwish,q⟩
 |cont=>obtain⟨σ',H',I,q⟩:=h;exact⟨σ',H',I.unwish,q⟩
 |ret u=>obtain⟨v,σ',H',I,r,q⟩:=h;exact⟨v,σ',H',I.unwish,r,q⟩
theorem PSs.nox{st:List Stmt}{t:TS}(h:PSs X.nox st t):PSs X st t:=λpins s σ H D I hw =>
 aCT (h pins s σ H D (I.wish _) hw) (λ_ _ q=>q.unwish) λ_ _ z=>False.elim z
section
variable{rest:List Stmt}{t u:TS}{te:TE}
noncomputable section
def tNext:TS:=λD σ H=>D.nx σ H
def tSeq(t u:TS):TS:=λD σ H=>t {D with nx:=u D} σ H
theorem aMg:PSs X [] tNext:=λ_ _ σ H _ I h=>aFZ ⟨σ,H,I,h⟩
theorem zX(h1:PS X st t)(h2:PSs X rest u):PSs X (st::rest) (tSeq t u):=by
 intro pins s σ H D I h
 refine wpAny_execs_cons (thn (h1 pins s σ H {D with nx:=u D} I h) λf s1 q=>?_)
 cases f with
 |next =>
  obtain⟨σ',H',I',q⟩:=q
  exact h2 pins s1 σ' H' D I' q
 |ret v=>exact q
 |brk=>exact q
 |cont=>exact q
theorem aDh(h1:PS X st t):PSs X [st] t:=by
 intro pins s σ H D I h
 refine wpAny_execs_cons (thn (h1 pins s σ H D I h) λf s1 q=>?_)
 cases f with
 |next=>exact aFZ q
 |ret v=>exact q
 |brk=>exact q
 |cont=>exact q
theorem Inv.quiet(I:Inv X pins σ H s):interactive X.env=false:=by simp[interactive,I.ok.kind]
def tDrop(te:TE):TS:=λD σ H=>te σ H λ_ H1=>D.nx σ H1
theorem aEc(he:PE X e te)(hs:swapsWith e none pos.line X.env=pure false:=by rfl):PS X (.Expr e pos) (tDrop te):=by
 intro pins s σ H D I h
 exact wpAny_Expr_any (thn (he pins s σ H _ I h) λv s1 ⟨x,H1,I1,r1,q1⟩=>⟨σ,H1,I1,q1⟩) I.quiet hs
def tRet(te:TE):TS:=λD σ H=>te σ H D.rt
theorem aNh(he:PE X e te):PS X (.Return (some e) pos) (tRet te):=by
 intro pins s σ H D I h
 exact wpAny_Return_some (thn (he pins s σ H _ I h) λv s1 ⟨x,H1,I1,r1,q1⟩=>⟨x,σ,H1,I1,r1,q1⟩)
def tIfS(c:TT)(t u:TS):TS:=λD σ H=>c σ H λb H1=>if b=true then t D σ H1 else u D σ H1
end
theorem aQy{c:Expr}{a b:List Stmt}{tc:TT}(hc:PT X c tc)(ha:PSs X a t)(hb:PSs X b u):PS X (.If c a b pos) (tIfS tc t u):=by
 intro pins s σ H D I h
 refine wpAny_If (thn (hc pins s σ H _ I h) λd s1 ⟨H1,I1,q1⟩=>?_)
 cases d with
 |true=>exact ha pins s1 σ H1 D I1 q1
 |false=>exact hb pins s1 σ H1 D I1 q1
end
noncomputable section
abbrev TG:=V->St->Hp->(St->Hp->Prop)->Prop
abbrev TGs:=List V->St->Hp->(St->Hp->Prop)->Prop
def PG(X:Cx)(target:Expr)(t:TG):Prop :=
 ∀(pins:List (Addr×Obj)) (s:Shared) (σ:St) (H:Hp) (v:V) (u:Value) (Q:St->Hp->Prop),Inv X pins σ H s->RelV v u->t v σ H Q ->
  wpAny (model X.prog X.w) X.A (assign target X.env u) (λ_ s'=>∃σ' H',Inv X pins σ' H' s'/\Q σ' H') X.xe s
def PGs(X:Cx)(ts:List Expr)(t:TGs):Prop :=
 ∀(pins:List (Addr×Obj)) (s:Shared) (σ:St) (H:Hp) (vs:List V) (us:List Value) (Q:St->Hp->Prop),Inv X pins σ H s->Vals vs us->t vs σ H Q ->
  wpAny (model X.prog X.w) X.A (assignInOrder ((assignEach ts X.env).map (·.2)) us) (λ_ s'=>∃σ' H',Inv X pins σ' H' s'/\Q σ' H') X.xe s
abbrev TSet:=V->V->V->Hp->(Hp->Prop)->Prop
def PSet(X:Cx)(t:TSet):Prop :=
 ∀(pins:List (Addr×Obj)) (s:Shared) (σ:St) (H:Hp) (o i v:V) (ov iv u:Value) (Q:Hp->Prop),Inv X pins σ H s->RelV o ov->RelV i iv->RelV v u->t o i v H Q ->
  wpAny (model X.prog X.w) X.A (setItem ov iv u) (λ_ s'=>∃H',Inv X pins σ H' s'/\Q H') X.xe s
abbrev TIp:=V->V->Hp->VK->Prop
def PIp(X:Cx)(op:Operator)(t:TIp):Prop :=
 ∀(pins:List (Addr×Obj)) (s:Shared) (σ:St) (H:Hp) (x y:V) (v u:Value) (Q:VK),Inv X pins σ H s->RelV x v->RelV y u->t x y H Q ->
  wpAny (model X.prog X.w) X.A (inplaceOp op v u) (EP X pins σ Q) X.xe s
def gName(i:Nat):TG:=λv σ H Q=>Q (σ.set i (some v)) H
theorem aLf(hN:X.N.Nodup)(hi:X.N[i]?=some x)(hx:Loc X.env.scope x)(hf:X.fn x=true\/X.env.scope.names.lookup x=some .local:=by first|exact .inl rfl|exact .inr rfl|assumption):PG X (.Name x pos) (gName i):=by
 intro pins s σ H v u Q I r h
 exact wpAny_assign_Name (eG I hN hi hx r (λs' I'=>⟨_,H,I',h⟩) hf)
def gNil:TGs:=λvs σ H Q=>vs=[]/\Q σ H
def gCons(t:TG)(u:TGs):TGs:=λvs σ H Q=>∃v r,vs=v::r/\t v σ H λσ' H'=>u r σ' H' Q
end
theorem aKz:PGs X [] gNil:=by
 intro pins s σ H vs us Q I r h
 obtain⟨e,h⟩:=h
 subst e
 cases r
 exact aIE ⟨σ,H,I,h⟩
variable{es:List Expr}
theorem aIi{t:TG}{u:TGs}(h1:PG X e t)(h2:PGs X es u)
  (hs:(assignEach (e::es) X.env).map (·.2)=assign e X.env::(assignEach es X.env).map (·.2):=by rfl):PGs X (e::es) (gCons t u):=by
 intro pins s σ H vs us Q I r h
 obtain⟨v,vr,e1,h⟩:=h
 subst e1
 cases r with
 |cons r rr =>
  rw[hs]
  refine aDY (thn (h1 pins s σ H _ _ _ I r h) λ_ s1 ⟨σ1,H1,I1,q1⟩=>?_)
  exact h2 pins s1 σ1 H1 _ _ Q I1 rr q1
noncomputable section
def gTup(K:Frag)(n:Nat)(t:TGs):TG:=λv σ H Q=>∃a xs,v=.ref a/\SqT K H a xs/\xs.length=n/\t xs σ H Q
theorem aOm{k:Nat}{t:TGs}{n:Nat}(hc:X.calm=true)(h:PGs X es t)
  (hn:(assignEach es X.env).length=n:=by rfl)(hst:(assignEach es X.env).findIdx? (·.1)=none:=by rfl):PG X (.Tuple es k pos) (gTup X.K n t):=by
 intro pins s σ H v u Q I r hw
 obtain⟨a,xs,e1,hq,hl,hw⟩:=hw
 subst e1
 cases r
 obtain⟨its,rv,ht,hz⟩:=I.tuple hq
 refine assign_Tuple_tuple (I.ok.hd hc) ht (by simp[hn,<- hl,rv.length]) hst λh' hx=>?_
 have I1:Inv X pins σ H {s with heap:=h'}:=I.kept (t':=s.toks) λb o e=>hx b o (aAJ (aAF e)) e
 exact h pins _ σ H xs _ Q I1 (by simpa using rv) hw
def gSub(to ti:TE)(t:TSet):TG:=λv σ H Q=>to σ H λo H1=>ti σ H1 λi H2=>t o i v H2 λH3=>Q σ H3
theorem aQi{o i:Expr}{to ti:TE}{t:TSet}(ho:PE X o to)(hi:PE X i ti)(hs:PSet X t)
  (ha:∀v,assign (.Subscript o i pos) X.env v=(do
   let ov <- holding [v] (eval o X.env)
   let iv <- holding [v,ov] (eval i X.env)
   standAt pos
   holding [v,ov,iv] (setItem ov iv v)
   release [v,ov,iv] []):=by intro _;rfl):PG X (.Subscript o i pos) (gSub to ti t):=by
 intro pins s σ H v u Q I r h
 rw[ha]
 refine aAA (aBL (thn (ho pins s σ H _ I h) λov s1 ⟨x,H1,I1,r1,q1⟩=>?_))
 refine aAA (aBL (thn (hi pins s1 σ H1 _ I1 q1) λiv s2 ⟨y,H2,I2,r2,q2⟩=>?_))
 refine aAA (aEX (aAA (aBL (thn (hs pins s2 σ H2 x y v ov iv u _ I2 r1 r2 r q2) λ_ s3 ⟨H3,I3,q3⟩=>?_))))
 exact wpAny_release ⟨σ,H3,I3,q3⟩
def tAsg(te:TE)(g:TG):TS:=λD σ H=>te σ H λx H1=>g x σ H1 D.nx
end
variable{tg:Expr}{te:TE}{g:TG}
theorem aMv(he:PE X e te)(hg:PG X tg g)(hs:swapsWithSole [tg] e pos.line X.env=pure false:=by rfl)(hw:swappedStores [tg] e X.env=pure none:=by rfl)
  (h1:(assignEach [tg] X.env).map (·.2)=[assign tg X.env]:=by rfl):PS X (.Assign [tg] e pos) (tAsg te g):=by
 intro pins s σ H D I h
 refine wpAny_Assign_stores (thn (he pins s σ H _ I h) λv s1 ⟨x,H1,I1,r1,q1⟩=>?_) hs hw
 rw[h1]
 exact thn (hg pins s1 σ H1 x v _ I1 r1 q1) λ_ s2 q=>q
theorem aOg(hN:X.N.Nodup)(hi:X.N[i]?=some x)(hx:Loc X.env.scope x)(he:PE X e te)(hs:swapsWith e (some (.Name x pos')) pos.line X.env=pure false:=by rfl)(hf:X.fn x=true\/X.env.scope.names.lookup x=some .local:=by first|exact .inl rfl|exact .inr rfl|assumption) :
  PS X (.Assign [.Name x pos'] e pos) (tAsg te (gName i)):=by
 intro pins s σ H D I h
 refine wpAny_Assign_Name (thn (he pins s σ H _ I h) λv s1 ⟨y,H1,I1,r1,q1⟩=>?_) hs
 exact eG I1 hN hi hx r1 (λs2 I2=>⟨_,H1,I2,q1⟩) hf
noncomputable def tPar(i j:Nat)(ta:TA):TS:=λD σ H=>ta σ H λvs H1=>∃v w,vs=[v,w]/\D.nx ((σ.set i (some v)).set j (some w)) H1
variable{a:Expr}{ta:TA}
theorem aQc{b:Expr}{px pt:Pos}{kt k2 pt2}(hc:cP)(hN:X.N.Nodup)(hi:X.N[i]?=some x)(hj:X.N[j]?=some y)(hij:i≠j)
  (hx:X.env.scope.names.lookup x=some .local)(hy:X.env.scope.names.lookup y=some .local)(ha:PA X [a,b] ta)
  (hw:swappedStores [.Tuple [.Name x px,.Name y py] kt pt] (.Tuple [a,b] k2 pt2) X.env=pure (some [x,y]))
  (hs:swapsWithSole [.Tuple [.Name x px,.Name y py] kt pt] (.Tuple [a,b] k2 pt2) pos.line X.env=pure false:=by rfl) :
  PS X (.Assign [.Tuple [.Name x px,.Name y py] kt pt] (.Tuple [a,b] k2 pt2) pos) (tPar i j ta):=by
 intro pins s σ H D I h
 rw[exec_Assign_arm]
 refine aAA (aEX ?_)
 rw[hs]
 refine aAA (aAC ?_)
 rw[aAL (by decide)]
 refine aAA (Tuple_ (thn (ha _ pins s σ H _ I h) λus s1 ⟨vs,H1,I1,r1,q1⟩=>?_))
 obtain⟨v,w,e1,q1⟩:=q1
 subst e1
 obtain⟨u1,u2,rfl,rv,rw'⟩:∃u1 u2,us=[u1,u2]/\RelV v u1/\RelV w u2:=by
  cases r1 with
  |cons p q =>
   cases q with
   |cons p' q' =>
    cases q'
    exact⟨_,_,rfl,p,p'⟩
 refine aBI ?_ (by show 2<=sizeLine;decide)
 have I2:Inv X pins σ H1 {s1 with heap:=s1.heap.push {cls:=.type "tuple",data:=.seq [u1,u2].toArray}}:=I1.kept (t':=s1.toks) λb o e=>aAB _ e
 rw[hw]
 refine aAA (aAC ?_)
 show wpAny (model X.prog X.w) X.A (do rule "assign.swapped-stores";let items <- unpackItems (.ref s1.heap.objs.size) 2 none;assignInOrder [λv=>bindName X.env y v,λv=>bindName X.env x v] items.reverse;pure Flow.next) _ _ _
 refine aAA (aCJ (aAA (aHr (items:=#[u1,u2]) I2.cm (IsTup.new s1.heap _) λh' hx'=>?_)))
 have I3:=I2.kept (h':=h') (t':=s1.toks) λb o e=>hx' b o (aAJ (aAF e)) e
 show wpAny _ _ (assignInOrder [λv=>bindName X.env y v,λv=>bindName X.env x v] [u2,u1] >>= λ_=>pure Flow.next) _ _ _
 refine aAA (aDY (aGE (eG I3 hN hj (.inl hy) rw' (λs2 I4=>?_) (.inr hy))))
 refine aDY (aGE (eG I4 hN hi (.inl hx) rv (λs3 I5=>aIE (aAC ?_)) (.inr hx)))
 rw[aHX _ _ (Ne.symm hij)]at I5
 exact⟨_,H1,I5,q1⟩
noncomputable section
def tAug(i:Nat)(te:TE)(ti:TIp):TS:=λD σ H=>∃x,σ[i]?=some (some x)/\te σ H λy H1=>ti x y H1 λz H2=>D.nx (σ.set i (some z)) H2
theorem aNr{ti:TIp}(hN:X.N.Nodup)(hi:X.N[i]?=some x)(hx:Loc X.env.scope x)(he:PE X e te)(ho:PIp X op ti)(hf:X.fn x=true\/X.env.scope.names.lookup x=some .local:=by first|exact .inl rfl|exact .inr rfl|assumption) :
  PS X (.AugAssign (.Name x pos') op e pos) (tAug i te ti):=by
 intro pins s σ H D I h
 obtain⟨v,e1,h⟩:=h
 obtain⟨m,hn,hl⟩:=I.loc
 have vis:Vis X.env.scope x:=by rcases hx with k|k;exact .inl k;exact .inr (.inl k)
 obtain⟨u,r,l⟩:=hl i x v hi e1 vis
 refine wpAny_AugAssign_Name ?_
 have go:wpAny (model X.prog X.w) X.A (eval e X.env) (λw s₂=>wpAny (model X.prog X.w) X.A (inplaceOp op u w) (λr s₃=>wpAny (model X.prog X.w) X.A (storeName X.env x r) (λ_=>SP X pins D .next) X.xe s₃) X.xe s₂) X.xe s:=by
  refine thn (he pins s σ H _ I h) λw s1 ⟨y,H1,I1,r1,q1⟩=>?_
  refine thn (ho pins s1 σ H1 v y u w _ I1 r r1 q1) λz s2 ⟨zv,H2,I2,r2,q2⟩=>?_
  exact eG I2 hN hi hx r2 (λs3 I3=>⟨_,H2,I3,q2⟩) hf
 rcases l with⟨hk,hm⟩|⟨hk,c,hc,hcell⟩
 ·exact wpAny_loadName_local I.ok.kind hk hn hm go
 ·rcases hk with hk|hk
  ·exact wpAny_loadName_cell I.ok.kind hk hc hcell go
  ·rcases hx with k|k
   ·have:X.env.scope.names.lookup x=some .free:=hk
    rw[k]at this;cases this
   ·have:X.env.scope.names.lookup x=some .free:=hk
    rw[k]at this;cases this
def ipI(f:Int->Int->Int):TIp:=λx y H Q=>∃i j,x=.int i/\y=.int j/\Q (.int (f i j)) H
theorem aOz:PIp X .Add (ipI λi j=>i+j):=by
 intro pins s σ H x y v u Q I r1 r2 h
 obtain⟨i,j,e1,e2,q⟩:=h
 subst e1;subst e2
 obtain⟨t,rfl⟩:=r1
 obtain⟨t',rfl⟩:=r2
 exact iadd_int ⟨.int _,H,I.tok _,⟨_,rfl⟩,q⟩
def tWhile(c:TT)(tb:TS):TS:=λD σ H=>∃W:Nat->St->Hp->Prop,(∃m,W m σ H)/\∀m σ H,W m σ H ->
 c σ H λb H1=>if b=true then ∃N:St->Hp->Prop,(∀σ' H',N σ' H'->∃m',m' < m/\W m' σ' H')/\tb {D with nx:=N,ct:=N,bk:=D.nx} σ H1 else D.nx σ H1
end
variable{c:Expr}{tb:TS}
theorem aGu{tc:TT}(hp:PassesOwn (model X.prog X.w) X.A X.env X.xe)(hc:PT X c tc)(hb:PSs X body tb):PS X (.While c body [] pos) (tWhile tc tb):=by
 intro pins s σ H D I h
 obtain⟨W,⟨m0,w0⟩,turn⟩:=h
 refine wpAny_While (codeAny_whileLoop (λn s'=>∃σ' H',Inv X pins σ' H' s'/\W n σ' H') ?_ m0 ⟨σ,H,I,w0⟩)
 rintro n s1 ⟨σ1,H1,I1,w1⟩
 refine aEC hp (thn (hc pins s1 σ1 H1 _ I1 (turn n σ1 H1 w1)) λb s2 ⟨H2,I2,q2⟩=>?_)
 cases b with
 |true =>
  obtain⟨N,hN,q2⟩:=q2
  rw[aAI rfl]
  refine aEC hp (thn (hb pins s2 σ1 H2 _ I2 q2) λf s3 q3=>?_)
  cases f with
  |next =>
   obtain⟨σ3,H3,I3,n3⟩:=q3
   obtain⟨m',hm,w3⟩:=hN σ3 H3 n3
   exact⟨m',hm,σ3,H3,I3,w3⟩
  |cont =>
   obtain⟨σ3,H3,I3,n3⟩:=q3
   obtain⟨m',hm,w3⟩:=hN σ3 H3 n3
   exact⟨m',hm,σ3,H3,I3,w3⟩
  |brk=>exact q3
  |ret v=>exact q3
 |false =>
  rw[aAL aBA]
  exact aFZ ⟨σ1,H2,I2,q2⟩
structure It where
 go:Nat->Hp->Prop
 yld:Nat->Hp->V->Hp->Prop
 stop:Nat->Hp->Prop
noncomputable def FpOk(X:Cx)(pins:List (Addr×Obj))(H:Hp)(b:Addr):Prop :=
 H b=none/\b≠X.env.locals/\b∉X.fs/\(b∈X.ex\/X.s₀.heap.objs.size<=b)/\(∀x c,X.env.cells.lookup x=some c->c≠b)/\∀p∈X.pn++pins,p.1≠b
theorem Inv.fpOk(I:Inv X pins σ H s)(hb:s.heap.objs.size<=b)(hn:H' b=none):FpOk X pins H' b:=by
 refine⟨hn,aBF (aAO I.lt hb),I.nofs hb,.inr (aAV I.sz hb),λx c e z=>?_,λp hp z=>?_⟩
 ·obtain⟨v,q⟩:=I.cell x c e
  exact absurd (aAO q.lt (by rw[z];exact hb)) (aEG _)
 ·exact absurd (aAO (aAF (I.pin p hp).1) (by rw[z];exact hb)) (aEG _)
structure Turn(P:Program)(w:World)(K:Frag)(tg:Expr)(J:It)(fp:List Addr)(it:Addr)(tn:Nat->Heap->Prop)(q:Prop:=False):Prop where
 mem:it∈fp
 obj:∀i h,tn i h->∀b∈fp,∃o,h.get? b=some o/\∀v,o.data≠.cell v
 keep:∀i h h',tn i h->(∀b∈fp,∀o,h.get? b=some o->h'.get? b=some o)->tn i h'
 item:∀(X:Cx),X.prog=P->X.w=w->X.K=K->(X.calm=true\/q)->∀(i:Nat) (pins:List (Addr×Obj)) (s:Shared) (σ:St) (H:Hp) (E:Value->Shared->Prop),Inv X pins σ H s->(∀b∈fp,FpOk X pins H b)->tn i s.heap->J.go i H ->
  wpAny (model P w) X.A (pyNext (.ref it)) (λr s1=>∃u,r=some u /\
   wpAny (model P w) X.A (letOwnedTupleGo tg (.ref it) u) (λ_ s2=>∃x H',Inv X pins σ H' s2/\RelV x u/\J.yld i H x H'/\tn (i+1) s2.heap/\∀b∈fp,H' b=none) E s1) E s
 done:∀(X:Cx),X.prog=P->X.w=w->X.K=K->(X.calm=true\/q)->∀(i:Nat) (pins:List (Addr×Obj)) (s:Shared) (σ:St) (H:Hp) (E:Value->Shared->Prop),Inv X pins σ H s->(∀b∈fp,FpOk X pins H b)->tn i s.heap->J.stop i H ->
  wpAny (model P w) X.A (pyNext (.ref it)) (λr s1=>r=none/\Inv X pins σ H s1) E s
 self:∀(A:Around) (i:Nat) (s:Shared) (Q:Value->Shared->Prop) (E:Value->Shared->Prop),tn i s.heap->Q (.ref it) s->wpAny (model P w) A (pyIter (.ref it)) Q E s
variable{q:Prop}
theorem Turn.weak{J:It}(T:Turn P w K tg J fp it tn True):Turn P w K tg J fp it tn q :=
 ⟨T.mem,T.obj,T.keep,λX a b c _=>T.item X a b c (.inr trivial),λX a b c _=>T.done X a b c (.inr trivial),T.self⟩
noncomputable section
abbrev TI:=St->Hp->(It->Hp->Prop)->Prop
def PIQ(q:Prop)(X:Cx)(pins:List (Addr×Obj))(σ:St)(tg:Expr)(R:It->Hp->Prop)(itv:Value)(s2:Shared):Prop :=
 ∃(it:Addr) (fp:List Addr) (tn:Nat->Heap->Prop) (J:It) (H':Hp),itv=.ref it/\Inv X pins σ H' s2/\Turn X.prog X.w X.K tg J fp it tn q/\tn 0 s2.heap/\(∀b∈fp,FpOk X pins H' b)/\R J H'
def PI(X:Cx)(tg iter:Expr)(wi:TI)(q:Prop:=False):Prop :=
 ∀(pins:List (Addr×Obj)) (s:Shared) (σ:St) (H:Hp) (R:It->Hp->Prop),Inv X pins σ H s->wi σ H R ->
  wpAny (model X.prog X.w) X.A (eval iter X.env) (λv s1=>wpAny (model X.prog X.w) X.A (pyIter v) (PIQ q X pins σ tg R) X.xe s1) X.xe s
theorem tZ{n:String}{vs:Array Value}(ho:s.heap.get? it=some o)(hc:o.cls=.type n)(hd:o.data=.fields vs)
  (hn:["enumerate","zip","dict_itemiterator","dict_reverseitemiterator","odict_iterator","itertools.zip_longest","itertools.pairwise"].contains n=false)(hQ:Q () s):wpAny M A (letOwnedTupleGo tg (.ref it) u) Q E s:=by
 unfold letOwnedTupleGo
 cases tg <;> first
  |exact aAC hQ
  |(cases u <;> first
    |exact aAC hQ
    |(refine aAA (wpAny_load ho ?_)
      rw[hc,hd]
      show wpAny M A (if(["enumerate","zip","dict_itemiterator","dict_reverseitemiterator","odict_iterator","itertools.zip_longest","itertools.pairwise"].contains n&&vs[0]?==some (rawInt _))=true then _ else _) Q E s
      rw[aAL (by intro h;rw[hn,Bool.false_and]at h;cases h)]
      exact aAC hQ))
def Itl(K:Frag)(a:Addr):It :=
 ⟨λi H=>∃xs x,SqL K H a xs/\xs[i]?=some x,λi H x H'=>H'=H/\∀xs,SqL K H a xs->xs[i]?=some x,λi H=>∃xs,SqL K H a xs/\xs.length<=i⟩
def Itt(K:Frag)(a:Addr):It :=
 ⟨λi H=>∃xs x,SqT K H a xs/\xs[i]?=some x,λi H x H'=>H'=H/\∀xs,SqT K H a xs->xs[i]?=some x,λi H=>∃xs,SqT K H a xs/\xs.length<=i⟩
def Itr(lo:Int)(n:Nat):It:=⟨λi _=>i < n,λi H x H'=>H'=H/\x=.int (lo+i),λi _=>n<=i⟩
theorem aEh(a it:Addr):Turn P w K tg (Itl K a) [it] it (λi h=>h.IsListIter it a i) True where
 mem:=by simp
 obj:=λi h st b hb=>by
  have e:b=it:=by simpa using hb
  subst e
  obtain⟨o,e,c,d⟩:=st
  exact⟨o,e,λv z=>by rw[d]at z;cases z⟩
 keep:=λi h h' st k=>st.at λo e=>k it (by simp) o e
 item:=by
  intro X hP hw hK hc i pins s σ H E I hf st hg
  subst hP hw hK
  obtain⟨xs,x,hq,hx⟩:=hg
  obtain⟨its,rv,p,hz⟩:=I.list hq
  obtain⟨u,hu,ru⟩:=rv.get hx
  obtain⟨f0,f1,f2,f3,f4,f5⟩:=hf it (by simp)
  refine wpAny_pyNext_list_item st p.isList (x:=u) (by simpa using hu) λh' st' sb=>?_
  have I1:Inv X pins σ H {s with heap:=h'}:=I.turned (t':=s.toks) (λb o hb e=>(sb.2 b hb).trans e) f0 f1 f3 f4 f5
  obtain⟨o,e,c,d⟩:=id st'
  exact⟨u,rfl,tZ (s:={s with heap:=h'}) e c d (by decide) ⟨x,H,I1,ru,⟨rfl,λys hy=>by rw[I.list_inj hy hq];exact hx⟩,st',λb hb=>(hf b hb).1⟩⟩
 done:=by
  intro X hP hw hK hc i pins s σ H E I hf st hg
  subst hP hw hK
  obtain⟨xs,hq,hx⟩:=hg
  obtain⟨its,rv,p,hz⟩:=I.list hq
  obtain⟨f0,f1,f2,f3,f4,f5⟩:=hf it (by simp)
  have hl:=rv.length
  exact pV I.cm st p.isList (by simp;lia) λh' eb=>⟨rfl,I.turned (t':=s.toks) (λb o hb e=>eb b o hb e) f0 f1 f3 f4 f5⟩
 self:=λ_ _ _ _ _ st h=>wpAny_pyIter_listiter st h
theorem aBd(a it:Addr):Turn P w K tg (Itt K a) [it] it (λi h=>h.IsTupleIter it a i) True where
 mem:=by simp
 obj:=λi h st b hb=>by
  have e:b=it:=by simpa using hb
  subst e
  obtain⟨o,e,c,d⟩:=st
  exact⟨o,e,λv z=>by rw[d]at z;cases z⟩
 keep:=λi h h' st k=>st.at λo e=>k it (by simp) o e
 item:=by
  intro X hP hw hK hc i pins s σ H E I hf st hg
  subst hP hw hK
  obtain⟨xs,x,hq,hx⟩:=hg
  obtain⟨its,rv,p,hz⟩:=I.tuple hq
  obtain⟨u,hu,ru⟩:=rv.get hx
  obtain⟨f0,f1,f2,f3,f4,f5⟩:=hf it (by simp)
  refine wpAny_pyNext_tuple_item st (show s.heap.IsTuple a its.toArray from p) (x:=u) (by simpa using hu) λh' st' sb=>?_
  have I1:Inv X pins σ H {s with heap:=h'}:=I.turned (t':=s.toks) (λb o hb e=>(sb.2 b hb).trans e) f0 f1 f3 f4 f5
  obtain⟨o,e,c,d⟩:=id st'
  exact⟨u,rfl,tZ (s:={s with heap:=h'}) e c d (by decide) ⟨x,H,I1,ru,⟨rfl,λys hy=>by rw[I.tuple_inj hy hq];exact hx⟩,st',λb hb=>(hf b hb).1⟩⟩
 done:=by
  intro X hP hw hK hc i pins s σ H E I hf st hg
  subst hP hw hK
  obtain⟨xs,hq,hx⟩:=hg
  obtain⟨its,rv,p,hz⟩:=I.tuple hq
  obtain⟨f0,f1,f2,f3,f4,f5⟩:=hf it (by simp)
  have hl:=rv.length
  exact hW I.cm st (show s.heap.IsTuple a its.toArray from p) (by simp;lia) λh' eb=>⟨rfl,I.turned (t':=s.toks) (λb o hb e=>eb b o hb e) f0 f1 f3 f4 f5⟩
 self:=λ_ _ _ _ _ st h=>wpAny_pyIter_tupleiter st h
theorem aBv(it:Addr)(lo:Int)(n:Nat):Turn P w K tg (Itr lo n) [it] it (λi h=>IsRangeIter h it (lo+(i:Nat)*1) ((n:Int) - (i:Nat)) 1) True where
 mem:=by simp
 obj:=λi h st b hb=>by
  have e:b=it:=by simpa using hb
  subst e
  exact⟨_,st,λv z=>by
   have z':Data.fields _=Data.cell v:=z
   cases z'⟩
 keep:=λi h h' st k=>k it (by simp) _ st
 item:=by
  intro X hP hw hK hc i pins s σ H E I hf st hg
  subst hP hw hK
  obtain⟨f0,f1,f2,f3,f4,f5⟩:=hf it (by simp)
  refine wpAny_pyNext_range_item st (by have:i < n:=hg;lia) λh' st' kk=>?_
  have I1:Inv X pins σ H {s with heap:=h',toks:=s.toks+1}:=I.turned (λb o hb e=>(kk.2 b hb).trans e) f0 f1 f3 f4 f5
  refine⟨_,rfl,tZ (s:={s with heap:=h',toks:=s.toks+1}) (n:="range_iterator") st' rfl rfl (by decide) ⟨.int (lo+i),H,I1,⟨s.toks,?_⟩,⟨rfl,rfl⟩,?_,λb hb=>(hf b hb).1⟩⟩
  ·rw[Int.mul_one]
  ·have e1:lo+(((i+1:Nat):Int))*1=lo+(i:Nat)*1+1:=by lia
   have e2:(n:Int) - ((i+1:Nat):Int)=(n:Int) - (i:Nat) - 1:=by lia
   show IsRangeIter _ _ (lo+(((i+1:Nat):Int))*1) ((n:Int) - ((i+1:Nat):Int)) 1
   rw[e1,e2];exact st'
 done:=by
  intro X hP hw hK hc i pins s σ H E I hf st hg
  subst hP hw hK
  obtain⟨f0,f1,f2,f3,f4,f5⟩:=hf it (by simp)
  exact xL I.cm st (by have:n<=i:=hg;lia) λh' eb=>⟨rfl,I.turned (t':=s.toks) (λb o hb e=>eb b o hb e) f0 f1 f3 f4 f5⟩
 self:=λ_ _ _ _ _ st h=>aGM st h
theorem aIe{R:It->Hp->Prop}{lo hi:Int}{t u v:Tok}{tk:Nat}(I:Inv X pins σ H s)(h1 : -(2 ^ 62)<=lo)(h2:lo < 2 ^ 62)(h3 : -(2 ^ 62)<=hi)(h4:hi < 2 ^ 62)
  (q:R (Itr lo (hi - lo).toNat) H):wpAny (model X.prog X.w) X.A (pyIter (.ref s.heap.objs.size)) (PIQ qq X pins σ tg R) E {s with heap:=s.heap.push {cls:=.type "range",data:=.fields #[.int lo t,.int hi u,.int 1 v]},toks:=tk}:=by
 refine wpAny_pyIter_range (IsRange.new ..) (small_one h1 h2 h3 h4) ?_
 have I1:Inv X pins σ H {s with heap:=s.heap.push {cls:=.type "range",data:=.fields #[.int lo t,.int hi u,.int 1 v]},toks:=tk}:=I.kept λb o e=>aAB _ e
 refine⟨(s.heap.push {cls:=.type "range",data:=.fields #[.int lo t,.int hi u,.int 1 v]}).objs.size,[(s.heap.push {cls:=.type "range",data:=.fields #[.int lo t,.int hi u,.int 1 v]}).objs.size],_,_,H,rfl,
  I1.kept (t':=tk) λb o e=>aAB _ e,(aBv _ lo (hi - lo).toNat).weak,?_,λb hb=>?_,q⟩
 ·have e1:lo+((0:Nat):Int)*1=lo:=by simp
  have e2:(((hi - lo).toNat:Nat):Int) - ((0:Nat):Int)=Builtin.Range.rangeSize lo hi 1:=by rw[rangeSize_one];split <;> lia
  show IsRangeIter _ _ (lo+((0:Nat):Int)*1) ((((hi - lo).toNat:Nat):Int) - ((0:Nat):Int)) 1
  rw[e1,e2]
  exact aAE _ rfl
 ·have e:b=(s.heap.push {cls:=.type "range",data:=.fields #[.int lo t,.int hi u,.int 1 v]}).objs.size:=by simpa using hb
  subst e
  exact I1.fpOk (aAG _) (I1.hok.fresh (aAG _))
def iRng1(ta:TA):TI:=λσ H R=>ta σ H λvs H1=>∃j:Int,vs=[.int j] /\ -(2 ^ 62)<=j/\j < 2 ^ 62/\R (Itr 0 j.toNat) H1
theorem aFc(hg:Gl X "range")(hm:X.mg "range"=none)(ha:PA X [a] ta)(hs:starEach [a] X.env=[(false,eval a X.env)]:=by rfl):PI X tg (.Call (.Name "range" p) [a] [] pos) (iRng1 ta) qq:=by
 intro pins s σ H R I h
 refine Call_ (fN I hg hm boot_range (aBQ (thn (ha pos pins s σ H _ I h) λus s1 ⟨vs,H1,I1,r1,q1⟩=>?_) hs rfl))
 obtain⟨j,e,q1,q2,q⟩:=q1
 subst e
 cases r1 with
 |cons r rr =>
  cases rr
  obtain⟨t,rfl⟩:=r
  exact call_range_1 (aIe I1 (by lia) (by lia) q1 q2 (by simpa using q))
def tFor(wi:TI)(g:TG)(tb:TS):TS:=λD σ H=>wi σ H λJ H1=>∃W:Nat->Nat->St->Hp->Prop,(∃m,W 0 m σ H1)/\∀i m σ H,W i m σ H ->
 (J.stop i H/\D.nx σ H)\/(J.go i H/\∃N:St->Hp->Prop,(∀σ' H',N σ' H'->∃m',m' < m/\W (i+1) m' σ' H')/\∀x H',J.yld i H x H'->g x σ H' λσ2 H2=>tb {D with nx:=N,ct:=N,bk:=D.nx} σ2 H2)
def pinsAt(fp:List Addr)(h:Heap):List (Addr×Obj):=fp.filterMap λb=>(h.get? b).map λo=>(b,o)
theorem hX(hb:b∈fp)(e:h.get? b=some o):(b,o)∈pinsAt fp h:=List.mem_filterMap.mpr ⟨b,hb,by rw[e];rfl⟩
theorem aFl{p:Addr×Obj}(hp:p∈pinsAt fp h):p.1∈fp/\h.get? p.1=some p.2:=by
 obtain⟨b,hb,e⟩:=List.mem_filterMap.mp hp
 cases q:h.get? b with
 |none=>rw[q]at e;cases e
 |some o =>
  rw[q]at e
  have e':(b,o)=p:=Option.some.inj e
  subst e'
  exact⟨hb,q⟩
theorem Inv.pinned{fp:List Addr}(I:Inv X pins σ H s)(hf:∀b∈fp,FpOk X pins H b)(ho:∀b∈fp,∃o,s.heap.get? b=some o/\∀v,o.data≠.cell v):Inv X (pins++pinsAt fp s.heap) σ H s :=
 I.pins_of λp hp=>(aAX.mp hp).elim (λz=>I.pin p (aBW _ z)) λz=>by
  obtain⟨hb,e⟩:=aFl z
  obtain⟨f0,f1,f2,_⟩:=hf p.1 hb
  obtain⟨o,e',d⟩:=ho p.1 hb
  rw[e]at e';cases e'
  exact⟨e,f0,f1,f2,d⟩
theorem Inv.unpinned{pl:List (Addr×Obj)}(I:Inv X (pins++pl) σ H s):Inv X pins σ H s:=I.pins_of λp hp=>I.pin p (aBW _ (List.mem_append_left _ hp))
theorem aLa{iter:Expr}{wi:TI}(hp:PassesOwn (model X.prog X.w) X.A X.env X.xe)(hc:X.calm=true\/q)(hi:PI X tg iter wi q)(hg:PG X tg g)(hb:PSs X body tb)
  (hs:∀x,foldedSetIterable iter X.env x=pure x:=by intro _;rfl):PS X (.For tg iter body [] pos) (tFor wi g tb):=by
 intro pins s σ H D I h
 refine wpAny_For (thn (hi pins s σ H _ I h) λv s1 h1=>thn h1 λitv s2 h2=>?_) hs
 obtain⟨it,fp,tn,J,H2,e,I2,T,st2,f2,W,⟨m0,w0⟩,turn⟩:=h2
 subst e
 have stat:∀{H':Hp},(∀b∈fp,H' b=none)->∀b∈fp,FpOk X pins H' b:=λhn b hb=>⟨hn b hb,(f2 b hb).2⟩
 refine codeAny_forLoop_any (λn s'=>∃i σ' H',Inv X pins σ' H' s'/\tn i s'.heap/\(∀b∈fp,H' b=none)/\W i n σ' H') ?_ m0 ⟨0,σ,H2,I2,st2,λb hb=>(f2 b hb).1,w0⟩
 rintro n s3 ⟨i,σ3,H3,I3,st3,fr3,w3⟩
 rcases turn i n σ3 H3 w3 with⟨stop,qn⟩|⟨go,N,hN,step⟩
 ·refine aEC hp (thn (T.done X rfl rfl rfl hc i pins s3 σ3 H3 X.xe I3 (stat fr3) st3 stop) λr s4 ⟨hr,I4⟩=>?_)
  subst hr
  exact aFZ ⟨σ3,H3,I4,qn⟩
 ·refine aEC hp (thn (T.item X rfl rfl rfl hc i pins s3 σ3 H3 X.xe I3 (stat fr3) st3 go) λr s4 ⟨u,hr,h4⟩=>?_)
  subst hr
  refine aEC hp (thn h4 λ_ s5 ⟨x,H5,I5,r5,y5,st5,fr5⟩=>?_)
  have I5':=I5.pinned (stat fr5) (T.obj _ _ st5)
  refine aEC hp (thn (hg _ s5 σ3 H5 x u _ I5' r5 (step x H5 y5)) λ_ s6 ⟨σ6,H6,I6,q6⟩=>?_)
  refine aEC hp (thn (hb _ s6 σ6 H6 _ I6 q6) λf s7 q7=>?_)
  have again:∀{σ7:St} {H7:Hp},Inv X (pins++pinsAt fp s5.heap) σ7 H7 s7->N σ7 H7->∃m,m < n/\∃i σ' H',Inv X pins σ' H' s7/\tn i s7.heap/\(∀b∈fp,H' b=none)/\W i m σ' H':=λ{σ7 H7} I7 n7=>by
   obtain⟨m',hm,w7⟩:=hN σ7 H7 n7
   refine⟨m',hm,i+1,σ7,H7,I7.unpinned,T.keep _ _ _ st5 λb hb o e=>(I7.pin (b,o) (aBW _ (aBW _ (hX hb e)))).1,λb hb=>?_,w7⟩
   obtain⟨o,e,d⟩:=T.obj _ _ st5 b hb
   exact(I7.pin (b,o) (aBW _ (aBW _ (hX hb e)))).2.1
  cases f with
  |next=>obtain⟨σ7,H7,I7,n7⟩:=q7;exact again I7 n7
  |cont=>obtain⟨σ7,H7,I7,n7⟩:=q7;exact again I7 n7
  |brk=>obtain⟨σ7,H7,I7,q7⟩:=q7;exact⟨σ7,H7,I7.unpinned,q7⟩
  |ret v=>obtain⟨x7,σ7,H7,I7,r7,q7⟩:=q7;exact⟨x7,σ7,H7,I7.unpinned,r7,q7⟩
abbrev R2:=V->V->Hp->VK->Prop
def OpR(X:Cx)(f:Value->Value->Sem Value)(r:R2):Prop :=
 ∀(pins:List (Addr×Obj)) (s:Shared) (σ:St) (H:Hp) (x y:V) (v u:Value) (Q:VK),Inv X pins σ H s->RelV x v->RelV y u->r x y H Q ->
  wpAny (model X.prog X.w) X.A (f v u) (EP X pins σ Q) X.xe s
def UnR(X:Cx)(f:Value->Sem Value)(r:V->Hp->VK->Prop):Prop :=
 ∀(pins:List (Addr×Obj)) (s:Shared) (σ:St) (H:Hp) (x:V) (v:Value) (Q:VK),Inv X pins σ H s->RelV x v->r x H Q ->
  wpAny (model X.prog X.w) X.A (f v) (EP X pins σ Q) X.xe s
def CallR(X:Cx)(f:Value)(r:List V->Hp->VK->Prop):Prop :=
 ∀(pins:List (Addr×Obj)) (s:Shared) (σ:St) (H:Hp) (xs:List V) (us:List Value) (Q:VK),Inv X pins σ H s->Vals xs us->r xs H Q ->
  wpAny (model X.prog X.w) X.A (call f us) (EP X pins σ Q) X.xe s
def TruR(X:Cx)(r:V->Hp->(Bool->Hp->Prop)->Prop):Prop :=
 ∀(pins:List (Addr×Obj)) (s:Shared) (σ:St) (H:Hp) (x:V) (v:Value) (Q:Bool->Hp->Prop),Inv X pins σ H s->RelV x v->r x H Q ->
  wpAny (model X.prog X.w) X.A (truthy v) (TP X pins σ Q) X.xe s
def tOp(r:R2)(ta tb:TE):TE:=λσ H Q=>ta σ H λx H1=>tb σ H1 λy H2=>r x y H2 Q
def tUn(r:V->Hp->VK->Prop)(ta:TE):TE:=λσ H Q=>ta σ H λx H1=>r x H1 Q
def rI(C:Int->Int->Prop)(g:Int->Int->V):R2:=λx y H Q=>∃i j,x=.int i/\y=.int j/\C i j/\Q (g i j) H
def rI0(g:Int->Int->V):R2:=λx y H Q=>∃i j,x=.int i/\y=.int j/\Q (g i j) H
def rU(g:Int->V):V->Hp->VK->Prop:=λx H Q=>∃i,x=.int i/\Q (g i) H
end
variable{b:Expr}{ta tb tc:TE}{f:Value->Value->Sem Value}
theorem binT(ha:PE X a ta)(hb:PE X b tb){R:V->V->Hp->Prop}(I:Inv X pins σ H s)
  (h:ta σ H λx H1=>tb σ H1 λy H2=>R x y H2){Q:Value->Shared->Prop}
  (hf:∀v u s2 x y H2,Inv X pins σ H2 s2->RelV x v->RelV y u->R x y H2->wpAny (model X.prog X.w) X.A (f v u) Q X.xe s2) :
  wpAny (model X.prog X.w) X.A (eval a X.env) (λv s₁=>wpAny (model X.prog X.w) X.A (eval b X.env) (λu s₂=>wpAny (model X.prog X.w) X.A (f v u) Q X.xe s₂) X.xe s₁) X.xe s:=by
 refine thn (ha pins s σ H _ I h) λv s1 ⟨x,H1,I1,r1,q1⟩=>?_
 refine thn (hb pins s1 σ H1 _ I1 q1) λu s2 ⟨y,H2,I2,r2,q2⟩=>?_
 exact hf v u s2 x y H2 I2 r1 r2 q2
theorem aQs{r:R2}(ho:OpR X (binaryOp op) r)(ha:PE X a ta)(hb:PE X b tb):PE X (.BinOp a op b pos) (tOp r ta tb):=by
 intro pins s σ H Q I h
 exact wpAny_BinOp (binT ha hb I h λv u s2 x y H2 I2 rx ry q=>ho pins s2 σ H2 x y v u Q I2 rx ry q)
theorem aRr{op:UnaryOp}{r:V->Hp->VK->Prop}(ho:UnR X (unaryOp op) r)(ha:PE X a ta):PE X (.UnaryOp op a pos) (tUn r ta):=by
 intro pins s σ H Q I h
 exact UnaryOp_ (thn (ha pins s σ H _ I h) λv s1 ⟨x,H1,I1,r1,q1⟩=>ho pins s1 σ H1 x v Q I1 r1 q1)
variable{g:Int->Int->Int}
theorem opI{C:Int->Int->Prop}
  (rule:∀(i j:Int) (t u:Tok) (s:Shared) (Q:Value->Shared->Prop) (E:Value->Shared->Prop),C i j->Q (.int (g i j) s.toks) {s with toks:=s.toks+1}->wpAny (model X.prog X.w) X.A (f (.int i t) (.int j u)) Q E s) :
  OpR X f (rI C λi j=>.int (g i j)):=by
 intro pins s σ H x y v u Q I rx ry h
 obtain⟨i,j,rfl,rfl,hc,q⟩:=h
 obtain⟨t,rfl⟩:=rx
 obtain⟨t',rfl⟩:=ry
 exact rule i j t t' s _ _ hc ⟨.int (g i j),H,I.tok _,⟨_,rfl⟩,q⟩
theorem opI0 
  (rule:∀(i j:Int) (t u:Tok) (s:Shared) (Q:Value->Shared->Prop) (E:Value->Shared->Prop),Q (.int (g i j) s.toks) {s with toks:=s.toks+1}->wpAny (model X.prog X.w) X.A (f (.int i t) (.int j u)) Q E s) :
  OpR X f (rI0 λi j=>.int (g i j)):=by
 intro pins s σ H x y v u Q I rx ry h
 obtain⟨i,j,rfl,rfl,q⟩:=h
 obtain⟨t,rfl⟩:=rx
 obtain⟨t',rfl⟩:=ry
 exact rule i j t t' s _ _ ⟨.int (g i j),H,I.tok _,⟨_,rfl⟩,q⟩
theorem opB0{g:Int->Int->Bool}
  (rule:∀(i j:Int) (t u:Tok) (s:Shared) (Q:Value->Shared->Prop) (E:Value->Shared->Prop),Q (.bool (g i j)) s->wpAny (model X.prog X.w) X.A (f (.int i t) (.int j u)) Q E s) :
  OpR X f (rI0 λi j=>.bl (g i j)):=by
 intro pins s σ H x y v u Q I rx ry h
 obtain⟨i,j,rfl,rfl,q⟩:=h
 obtain⟨t,rfl⟩:=rx
 obtain⟨t',rfl⟩:=ry
 exact rule i j t t' s _ _ ⟨.bl (g i j),H,I,rfl,q⟩
noncomputable def CPow(i j:Int):Prop:=0<=j/\j<=1000000/\i.natAbs < 2 ^ 64
noncomputable def CMul(i j:Int):Prop:=(-(2 ^ 64) < i/\i < 2 ^ 64)\/(-(2 ^ 64) < j/\j < 2 ^ 64)
theorem CMul.ok{i j:Int}(h:CMul i j):IntMulOk i j:=by
 rcases h with⟨h1,h2⟩|⟨h1,h2⟩
 ·exact .of_left (intBits_le_64 h1 h2)
 ·exact .of_right (intBits_le_64 h1 h2)
theorem aMw:OpR X (binaryOp .Add) (rI0 λi j=>.int (i+j)):=opI0 λ_ _ _ _ _ _ _ q=>add_int q
theorem aQo:OpR X (binaryOp .Sub) (rI0 λi j=>.int (i - j)):=opI0 λ_ _ _ _ _ _ _ q=>sub_int q
theorem aOn:OpR X (binaryOp .Mod) (rI (λ_ j=>0 < j) λi j=>.int (i % j)):=opI λi j _ _ _ _ _ hc q=>by
 have h1:(0:Int) < j:=hc
 exact mod_int' (by lia) (by rw[Int.fmod_eq_emod_of_nonneg i (by lia)];exact q)
theorem aNz:OpR X (binaryOp .Pow) (rI CPow λi j=>.int (i ^ j.toNat)):=opI λ_ _ _ _ _ _ _ hc q=>pow_int_small hc.1 hc.2.1 hc.2.2 q
theorem unI{f:Value->Sem Value}{g:Int->Int}
  (rule:∀(i:Int) (t:Tok) (s:Shared) (Q:Value->Shared->Prop) (E:Value->Shared->Prop),Q (.int (g i) s.toks) {s with toks:=s.toks+1}->wpAny (model X.prog X.w) X.A (f (.int i t)) Q E s) :
  UnR X f (rU λi=>.int (g i)):=by
 intro pins s σ H x v Q I rx h
 obtain⟨i,rfl,q⟩:=h
 obtain⟨t,rfl⟩:=rx
 exact rule i t s _ _ ⟨.int (g i),H,I.tok _,⟨_,rfl⟩,q⟩
theorem aPc:UnR X (unaryOp .USub) (rU λi=>.int (-i)):=unI λ_ _ _ _ _ q=>neg_int q
theorem aNt{Q:VK}{k k':Bool}(I:Inv X pins σ H s)(q:Q (.bl k) H)(e:k=k'):EP X pins σ Q (.bool k') s:=by
 subst e
 exact⟨.bl k,H,I,rfl,q⟩
theorem aRi:OpR X (compareOp .Lt) (rI0 λi j=>.bl (decide (i < j))):=opB0 λ_ _ _ _ _ _ _ q=>lt_int q
theorem aSc:OpR X (compareOp .Gt) (rI0 λi j=>.bl (decide (j < i))):=opB0 λ_ _ _ _ _ _ _ q=>gt_int q
theorem aQz:OpR X (compareOp .GtE) (rI0 λi j=>.bl (decide (j<=i))):=opB0 λ_ _ _ _ _ _ _ q=>ge_int q
theorem aPi:OpR X (compareOp .Is) (λx y H Q=>y=.non/\Q (.bl (decide (x=.non))) H):=by
 intro pins s σ H x y v u Q I rx ry h
 obtain⟨rfl,q⟩:=h
 cases ry
 refine is_none_gen (aNt I q ?_)
 cases x <;> first
  |(cases rx;rfl)
  |(obtain⟨t,rfl⟩:=rx;rfl)
variable{op:CmpOp}
theorem nomark(b:Expr)(h:op≠.In:=by decide)(h2:op≠.NotIn:=by decide):behindInMarks op b=false:=by
 have e1:(op==CmpOp.In)=false:=by cases op <;> first|rfl|exact absurd rfl h
 have e2:(op==CmpOp.NotIn)=false:=by cases op <;> first|rfl|exact absurd rfl h2
 cases b <;> simp[behindInMarks,e1,e2]
variable{r:R2}
theorem aLi(ho:OpR X (compareOp op) r)(ha:PE X a ta)(hb:PE X b tb)(hm:behindInMarks op b=false):PE X (.Compare a [op] [b] pos) (tOp r ta tb):=by
 intro pins s σ H Q I h
 exact wpAny_Compare1 (binT ha hb I h λv u s2 x y H2 I2 rx ry q=>ho pins s2 σ H2 x y v u Q I2 rx ry q) hm
noncomputable def tTest(t:TE):TT:=λσ H Q=>t σ H λx H'=>∃k,x=.bl k/\Q k H'
theorem aKl(ho:OpR X (compareOp op) r)(ha:PE X a ta)(hb:PE X b tb)(hm:behindInMarks op b=false):PT X (.Compare a [op] [b] pos) (tTest (tOp r ta tb)):=by
 intro pins s σ H Q I h
 refine wpAny_isTrue_Compare1 (thn (ha pins s σ H _ I h) λv s1 ⟨x,H1,I1,r1,q1⟩=>thn (hb pins s1 σ H1 _ I1 q1) λu s2 ⟨y,H2,I2,r2,q2⟩ =>
  thn (ho pins s2 σ H2 x y v u _ I2 r1 r2 q2) λc s3 ⟨z,H3,I3,r3,k,e,q3⟩=>?_) hm
 subst e
 cases r3
 exact wpAny_truthy_bool ⟨H3,I3,q3⟩
noncomputable def TruV(K:Frag)(x:V)(H:Hp)(k:Bool):Prop :=
 match x with
 |.non=>k=false
 |.bl b=>k=b
 |.int i=>k=(i != 0)
 |.str y=>y.length<=sizeLine/\k=((y.length:Int) != 0)
 |.byt y=>y.size<=sizeLine/\k=((y.size:Int) != 0)
 |.ref p=>(∃xs,SqL K H p xs/\k=!xs.isEmpty)\/(∃xs,SqT K H p xs/\k=!xs.isEmpty)\/∃kvs,H p=some (.dK kvs)/\k=!kvs.isEmpty
 |_=>False
theorem aAg{κ:Type}{kvs:List (κ×V)}{vs:List (κ×Value)}(r:KV kvs vs):(!vs.isEmpty)=!kvs.isEmpty:=by
 cases r <;> rfl
theorem rV(r:Vals xs its):(!its.toArray.isEmpty)=!xs.isEmpty:=by
 cases r <;> simp
theorem line63:(sizeLine:Nat) < 2 ^ 63:=by rw[aBC];decide
theorem aOq:TruR X (λx H Q=>∃k,TruV X.K x H k/\Q k H):=by
 intro pins s σ H x v Q I rx h
 obtain⟨k,e,q⟩:=h
 have hl:=line63
 have hs:sizeLine=16777216:=aBC
 cases x with
 |non =>
  cases rx
  have e':k=false:=e
  subst e'
  exact truthy_none ⟨H,I,q⟩
 |bl b =>
  cases rx
  have e':k=b:=e
  subst e'
  exact wpAny_truthy_bool ⟨H,I,q⟩
 |int i =>
  obtain⟨t,rfl⟩:=rx
  have e':k=(i != 0):=e
  subst e'
  exact PySem.P.truthy_int ⟨H,I,q⟩
 |str y =>
  obtain⟨t,rfl⟩:=rx
  obtain⟨hy,e'⟩:y.length<=sizeLine/\k=((y.length:Int) != 0):=e
  subst e'
  exact PySem.P.truthy_str (by lia) ⟨H,I.tok _,q⟩
 |byt y =>
  obtain⟨t,rfl⟩:=rx
  obtain⟨hy,e'⟩:y.size<=sizeLine/\k=((y.size:Int) != 0):=e
  subst e'
  exact PySem.W.truthy_bytes (by lia) ⟨H,I.tok _,q⟩
 |ref p =>
  cases rx
  have e':(∃xs,SqL X.K H p xs/\k=!xs.isEmpty)\/(∃xs,SqT X.K H p xs/\k=!xs.isEmpty)\/∃kvs,H p=some (.dK kvs)/\k=!kvs.isEmpty:=e
  rcases e' with⟨xs,hx,e'⟩|⟨xs,hx,e'⟩|⟨kvs,hx,e'⟩
  ·subst e'
   obtain⟨its,r,pl,hz⟩:=I.list hx
   have hlen:=r.length
   exact wpAny_truthy_list pl.isList (by simp only[aAH];lia) ⟨H,I.tok _,by rw[rV r];exact q⟩
  ·subst e'
   obtain⟨its,r,pl,hz⟩:=I.tuple hx
   have hlen:=r.length
   exact truthy_tuple pl (by simp only[aAH];lia) ⟨H,I.tok _,by rw[rV r];exact q⟩
  ·subst e'
   obtain⟨hz,hS,vs,r,m⟩:kvs.length<=sizeLine/\(p==sysModules)=false/\∃vs,KV kvs vs/\s.heap.DictOf (mixKind X.prog X.w) p vs:=I.hok p _ hx
   have hlen:kvs.length=vs.length:=Paired.length r
   exact wpAny_truthy_dict hS m (by lia) ⟨H,I.tok _,by rw[aAg r];exact q⟩
 |_=>exact(show False from e).elim
theorem aHz(ha:PE X a ta)(he:∀whole,isTrue a X.env whole=(do let v <- whole;standAt a.pos;holding [v] (truthy v))) :
  PT X a (λσ H Q=>ta σ H λx H'=>∃k,TruV X.K x H' k/\Q k H'):=by
 intro pins s σ H Q I h
 exact isTrue_plain (thn (ha pins s σ H _ I h) λv s1 ⟨x,H1,I1,r1,q1⟩=>aOq pins s1 σ H1 x v Q I1 r1 q1) (he _)
theorem aAt:OpR X (binaryOp .Add) (λx y H Q=>∃i j,x=.str i/\y=.str j/\i.length+j.length<=sizeLine/\Q (.str (i++j)) H):=by
 intro pins s σ H x y v u Q I rx ry h
 obtain⟨i,j,rfl,rfl,hz,q⟩:=h
 obtain⟨t,rfl⟩:=rx
 obtain⟨t',rfl⟩:=ry
 exact add_str (λt' tk=>⟨.str (i++j),H,I.tok _,⟨_,rfl⟩,q⟩) hz
variable{x:V}
theorem vals1(r:Vals [x] us):∃u,us=[u]/\RelV x u:=by
 cases r with
 |cons r1 r2=>cases r2;exact⟨_,rfl,r1⟩
theorem vals2{y:V}(r:Vals [x,y] us):∃u w',us=[u,w']/\RelV x u/\RelV y w':=by
 cases r with
 |cons r1 r2 =>
  cases r2 with
  |cons r3 r4=>cases r4;exact⟨_,_,rfl,r1,r3⟩
theorem aFg(hc:X.calm=true):CallR X (.builtin "max") (λxs H Q=>∃i j,xs=[.int i,.int j]/\Q (.int (if j > i then j else i)) H):=by
 intro pins s σ H xs us Q I r h
 obtain⟨i,j,rfl,q⟩:=h
 obtain⟨u,w',rfl,⟨t,rfl⟩,⟨t',rfl⟩⟩:=vals2 r
 refine max_two_ints (I.ok.hd hc) λh' tk k=>⟨_,H,I.kept k,?_,q⟩
 by_cases hj:j > i
 ·rw[aAI hj,aAI hj];exact⟨_,rfl⟩
 ·rw[aAL hj,aAL hj];exact⟨_,rfl⟩
theorem aEt(hc:X.calm=true):CallR X (.builtin "min") (λxs H Q=>∃i j,xs=[.int i,.int j]/\Q (.int (if j < i then j else i)) H):=by
 intro pins s σ H xs us Q I r h
 obtain⟨i,j,rfl,q⟩:=h
 obtain⟨u,w',rfl,⟨t,rfl⟩,⟨t',rfl⟩⟩:=vals2 r
 refine min_two_ints (I.ok.hd hc) λh' tk k=>⟨_,H,I.kept k,?_,q⟩
 by_cases hj:j < i
 ·rw[aAI hj,aAI hj];exact⟨_,rfl⟩
 ·rw[aAL hj,aAL hj];exact⟨_,rfl⟩
theorem aFa:CallR X (.type "int") (λxs H Q=>(∃i,xs=[.int i]/\Q (.int i) H)\/∃k,xs=[.bl k]/\Q (.int (if k then 1 else 0)) H):=by
 intro pins s σ H xs us Q I r h
 rcases h with⟨i,rfl,q⟩|⟨k,rfl,q⟩
 ·obtain⟨u,rfl,t,rfl⟩:=vals1 r
  exact call_int_int ⟨.int i,H,I,⟨_,rfl⟩,q⟩
 ·obtain⟨u,rfl,r1⟩:=vals1 r
  cases r1
  exact call_int_bool ⟨.int (if k then 1 else 0),H,I.tok _,⟨_,rfl⟩,q⟩
structure ObjM(h:Heap)(x dx C:Addr)(mA:Str->Option Value):Prop where
 obj:h.get? x=some (PySem.W.instObj C dx)
 ns:h.Ns1 dx mA
 ne:dx≠x
theorem pC(n:h.Ns1 dx mA):∃od,h.get? dx=some od/\∀name,PySem.W.lookIn name od=some (mA name):=by
 obtain⟨o,es,ep,ho,hd,hk,_,hm⟩:=n
 refine⟨o,ho,λname=>?_⟩
 have e:=hm name
 unfold nsFind findBy at e
 rw[<- Array.find?_toList]at e
 unfold PySem.W.lookIn
 rw[hd]
 dsimp only
 split
 ·rename_i y q
  rw[q]at e
  exact congrArg some e
 ·rename_i q
  rw[q]at e
  have a:es.toList.any (·.refKey)=false:=by
   rw[List.any_eq_false]
   intro y hy
   obtain⟨z,t,hkey⟩:=hk y (Array.mem_toList_iff.mp hy)
   simp[DictEntry.refKey,hkey]
  have a':¬es.toList.any (·.refKey)=true:=by rw[a];exact aBA
  rw[aAL a']
  exact congrArg some e
theorem ObjM.look{x:Addr}(I:ObjM h x dx C mA):∃od,PySem.W.InstAt h x (PySem.W.instObj C dx) C (some od)/\∀name,PySem.W.lookIn name od=some (mA name) :=
 let⟨od,ho,hl⟩:=pC I.ns
 ⟨od,⟨I.obj,rfl,rfl,ho⟩,hl⟩
variable{K:Frag}{x f:Addr}{v:Value}
section
variable{a:Addr}{fs fs':List (Str×V)}
theorem aKb(hok:HOk P w H h)(e:H a=some (.ins C dx fs)):∃mA,ObjM h a dx C mA/\(∀f,RelO (fs.lookup f) (mA f))/\PySem.Within mA (fs.map (·.1))/\fs.length<=1000/\H dx=some (.own a):=by
 obtain⟨d,z,ne,ob,mA,n,r,q⟩:=(show ObjOk P w H h a (.ins C dx fs)from hok a _ e)
 exact⟨mA,⟨ob,n,ne⟩,r,q,z,d⟩
end
structure Cls(K:Frag)(C:Addr):Prop where
 pg:PySem.W.plainGet K C Str.empty=true
 hd:PySem.W.hasDictIn K C=true
 po:PySem.W.plainOver K C=true
 sa:PySem.W.findIn K (.ref C) "__setattr__"=some (some (.builtin "object.__setattr__"))
theorem Cls.get{K:Frag}{C:Addr}(c:Cls K C)(f:Str):PySem.W.plainGet K C f=true:=c.pg
structure Con(K:Frag)(C:Addr)(f:Str)(v:V)(u:Value):Prop where
 at_:PySem.W.findIn K (.ref C) f=some (some u)
 rel:RelV v u
 get:PySem.W.specialIn K u "__get__"=some none
 cp:PySem.W.copiedNames.contains f=false
structure Meth(K:Frag)(C:Addr)(m:Str)(f:Addr):Prop where
 at_:PySem.W.findIn K (.ref C) m=some (some (.ref f))
 fn:PySem.W.isFn K (.ref f)=true
 kp:keepIn K (.ref f)=true
section
variable{a:Addr}{fs:List (Str×V)}{f:Str}{v:V}
theorem aLj{Q:Value->Shared->Prop}(hb:attributeBase e f env (eval e env)=eval e env)
  (h:wpAny (model prog w) A (eval e env) (λo s₁=>wpAny (model prog w) A (getAttr o f true) Q E s₁) E s):wpAny (model prog w) A (eval (.Attribute e f pos) env) Q E s :=
 Attribute_any_ h (by rw[arm_eval_Attribute,hb])
end
variable{o value:Expr}{f:Str}{tv:TE}{Q:Value->Shared->Prop}{c:Value}{b:Bool}
inductive TyOf(K:Frag)(H:Hp):V->Value->Prop where
 |non:TyOf K H .non (.type "NoneType")
 |bl (x:Bool):TyOf K H (.bl x) (.type "bool")
 |int (i:Int):TyOf K H (.int i) (.type "int")
 |str (x:Str):TyOf K H (.str x) (.type "str")
 |flt (x:UInt64):TyOf K H (.flt x) (.type "float")
 |lst {a:Addr} {xs:List V} (e:H a=some (.lst xs)):TyOf K H (.ref a) (.type "list")
 |frz {a:Addr} {o:Obj} {xs:List V} (e:H a=some (.frz o (.lst xs))):TyOf K H (.ref a) (.type "list")
 |tup {a:Addr} {xs:List V} (e:H a=some (.tup xs)):TyOf K H (.ref a) (.type "tuple")
 |dK {a:Addr} {kvs:List (Key×V)} (e:H a=some (.dK kvs)):TyOf K H (.ref a) (.type "dict")
 |dT {a:Addr} {kvs:List (List Key×V)} (e:H a=some (.dT kvs)):TyOf K H (.ref a) (.type "dict")
 |ins {a C dx:Addr} {fs:List (Str×V)} (e:H a=some (.ins C dx fs)) (cl:Cls K C) (ha:PySem.W.findIn K (.ref C) "__class__"=some (some (.builtin "object.__class__")))
   (hn:PySem.W.specialIn K (.builtin "object.__class__") "__get__"=some (some (.builtin "getset_descriptor.__get__"))) (htk:PySem.W.takesIn K (.builtin "object.__class__")=some true)
   (hm:PySem.W.mroIn K C (.type "object")=some true):TyOf K H (.ref a) (.ref C)
theorem aEi{x:V}{t:Value}(I:Inv X pins σ H s)(rx:RelV x u)(ty:TyOf X.K H x t)(e:PySem.W.kitOne X.K t c=some b)(h:∀tk,Q (.bool b) {s with toks:=tk}) :
  wpAny (model X.prog X.w) A (call (.builtin "isinstance") [u,c]) Q E s:=by
 cases ty with
 |non=>cases(show u=Value.none from rx);exact aCN PySem.W.kitx_none I.kIn True.intro e (λz=>nomatch z) h
 |bl y=>cases(show u=Value.bool y from rx);exact aCN PySem.W.kitx_bool I.kIn True.intro e (λz=>nomatch z) h
 |int i=>obtain⟨t,q⟩:=(show ∃t,u=Value.int i t from rx);cases q;exact aCN PySem.W.kitx_int I.kIn True.intro e (λz=>nomatch z) h
 |str y=>obtain⟨t,q⟩:=(show ∃t,u=Value.str y t from rx);cases q;exact aCN PySem.W.kitx_str I.kIn True.intro e (λz=>nomatch z) h
 |flt y=>obtain⟨t,q⟩:=(show ∃t,u=Value.float y t from rx);cases q;exact aCN PySem.W.kitx_float I.kIn True.intro e (λz=>nomatch z) h
 |@lst a xs ea =>
  cases(show u=Value.ref a from rx)
  obtain⟨_,_,n,_,h1⟩:=(show ObjOk X.prog X.w H s.heap a (.lst xs)from I.hok a _ ea)
  exact aCN PySem.W.kitx_list I.kIn ⟨_,h1,rfl⟩ e (λz=>nomatch z) h
 |@frz a ob xs ea =>
  cases(show u=Value.ref a from rx)
  obtain⟨_,_,_,n,_,h1⟩:=(show ObjOk X.prog X.w H s.heap a (.frz ob (.lst xs))from I.hok a _ ea)
  exact aCN PySem.W.kitx_list I.kIn ⟨_,h1,rfl⟩ e (λz=>nomatch z) h
 |@tup a xs ea =>
  cases(show u=Value.ref a from rx)
  obtain⟨_,_,_,p⟩:=(show ObjOk X.prog X.w H s.heap a (.tup xs)from I.hok a _ ea)
  obtain⟨o,h1,h2,_⟩:=p
  exact aCN PySem.W.kitx_tuple I.kIn ⟨o,h1,h2⟩ e (λz=>nomatch z) h
 |@dK a kvs ea =>
  cases(show u=Value.ref a from rx)
  obtain⟨_,_,vs,_,p⟩:=(show ObjOk X.prog X.w H s.heap a (.dK kvs)from I.hok a _ ea)
  obtain⟨o,es,ep,h1,h2,_⟩:=p
  exact aCN PySem.W.kitx_dict I.kIn ⟨o,h1,h2.1⟩ e (λz=>nomatch z) h
 |@dT a kvs ea =>
  cases(show u=Value.ref a from rx)
  obtain⟨_,_,xs,_,o,es,ep,h1,h2,_⟩:=(show ObjOk X.prog X.w H s.heap a (.dT kvs)from I.hok a _ ea)
  exact aCN PySem.W.kitx_dict I.kIn ⟨o,h1,h2.1⟩ e (λz=>nomatch z) h
 |@ins a C dx fs ea cl ha hn htk hm =>
  cases(show u=Value.ref a from rx)
  obtain⟨mA,O,_⟩:=aKb I.hok ea
  obtain⟨od,J,_⟩:=O.look
  exact aCN (PySem.W.kitx_own (cl.get _) cl.hd ha hn htk hm) I.kIn J e (λz=>nomatch z) h
structure Room(k:Nat)(A:Around):Prop where
 hd:A.handled=none
 dp:A.depth+3*k+5 < recursionLimit
 un:A.units+16*k+200 < cLine
theorem Room.mono{k:Nat}(r:Room k A)(h:j<=k):Room j A:=⟨r.hd,by have:=r.dp;lia,by have:=r.un;lia⟩
theorem Room.deeper{k:Nat}{A:Around}(r:Room (k+1) A)(env:Env):Room k (A.deeper env) :=
 ⟨r.hd,by have:=r.dp;show A.depth+1+3*k+5 < _;lia,by have:=r.un;show A.units+3+16*k+200 < _;lia⟩
theorem aBe :(A.under (.builtin "type.__call__" ⟨.ref C::us,kw⟩)).depth=A.depth+1:=by
 first|rfl|simp[Around.under,Code.weight,Code.isCreation,Code.isGuard,Code.isCaller,Code.frames,Code.isFrame,guardIds]
theorem aAo :(A.under (.builtin "type.__call__" ⟨.ref C::us,kw⟩)).units=A.units+1:=by
 first|rfl|simp[Around.under,Code.cUnits,Code.frames,Code.isFrame]
theorem Room.make{k:Nat}(r:Room (k+1) A)(C:Addr)(us:List Value)(kw:List (Str×Value)):Room k (A.under (.builtin "type.__call__" ⟨.ref C::us,kw⟩)) :=
 ⟨r.hd,by have:=r.dp;rw[aBe];lia,by have:=r.un;rw[aAo];lia⟩
theorem Room.depth{k:Nat}{A:Around}(r:Room k A):A.depth < recursionLimit:=by have:=r.dp;lia
noncomputable def tNil:TA:=λ_ H Q=>Q [] H
noncomputable def tCons(ta:TE)(tr:TA):TA:=λσ H Q=>ta σ H λx H1=>tr σ H1 λxs H2=>Q (x::xs) H2
section
variable{t:TA}
theorem cH:PA X [] tNil:=λ_ _ _ _ H Q I h=>aGH ⟨[],H,I,.nil,h⟩
theorem bM(ha:PE X e te)(hr:PA X es t)(hs:starEach (e::es) X.env=(false,eval e X.env)::starEach es X.env:=by rfl):PA X (e::es) (tCons te t):=by
 intro pos pins s σ H Q I h
 rw[hs]
 show wpAny _ _ (spliced ((false,eval e X.env)::backTo pos (starEach es X.env))) _ _ s
 refine aEZ (thn (ha pins s σ H _ I h) λu s1 ⟨x,H1,I1,r1,q1⟩=>?_)
 exact thn (hr pos pins s1 σ H1 _ I1 q1) λus s2 ⟨xs,H2,I2,r2,q2⟩=>⟨x::xs,H2,I2,.cons r1 r2,q2⟩
noncomputable def tTup(t:TA):TE:=λσ H Q=>t σ H λxs H1=>xs.length<=sizeLine/\∀p,H1 p=none->Q (.ref p) (upd H1 p (.tup xs))
noncomputable def tLst(t:TA):TE:=λσ H Q=>t σ H λxs H1=>xs.length<=sizeLine/\∀p,H1 p=none->Q (.ref p) (upd H1 p (.lst xs))
theorem aIj{x1}(h:PA X es t):PE X (.Tuple es x1 pos) (tTup t):=by
 intro pins s σ H Q I hq
 refine wpAny_Tuple_spliced (thn (h pos pins s σ H _ I hq) λus s1 ⟨xs,H1,I1,r,z,q⟩=>⟨by rw[<- r.length];exact z,?_⟩)
 have hf:H1 s1.heap.objs.size=none:=I1.hok.fresh (aAG _)
 refine⟨.ref s1.heap.objs.size,upd H1 s1.heap.objs.size (.tup xs),I1.laid (t':=s1.toks) (λb u e=>aAB _ e) (aAG _) ?_,rfl,q _ hf⟩
 exact⟨z,us,r,⟨_,aAE _ rfl,rfl,_,rfl⟩⟩
theorem aBo(h:PA X es t):PE X (.List es pos) (tLst t):=by
 intro pins s σ H Q I hq
 refine wpAny_List_spliced (thn (h pos pins s σ H _ I hq) λus s1 ⟨xs,H1,I1,r,z,q⟩=>⟨by rw[<- r.length];exact z,?_⟩)
 have hf:H1 s1.heap.objs.size=none:=I1.hok.fresh (aAG _)
 refine⟨.ref s1.heap.objs.size,upd H1 s1.heap.objs.size (.lst xs),I1.laid (t':=s1.toks) (λb u e=>aAB _ e) (aAG _) ?_,rfl,q _ hf⟩
 exact⟨z,us,0,r,aAE _ rfl⟩
end
noncomputable abbrev Sp:=List V->Hp->VK->XK->Prop
noncomputable abbrev CXT:=List Env->Hp->Shared->XK->Value->Shared->Prop
structure Env0(P:Program)(w:World)(K:Frag)(mg:Str->Option Value)(base:Heap)(A:Around)(outer:List Env)(s:Shared)(H:Hp):Prop where
 frames:A.frames=some outer
 mod:Mod K mg base
 bs:∀b o,base.get? b=some o->s.heap.get? b=some o/\H b=none
 bsz:base.objs.size<=s.heap.objs.size
 funs:s.heap.FunFrames base outer
 frf:∀b∈frs outer,H b=none
 hok:HOk P w H s.heap
 bare:AllBare s.gens
noncomputable def CE(outer:List Env)(P:Program)(w:World)(H:Hp)(s:Shared)(Q:VK)(u:Value)(s':Shared):Prop :=
 ∃v H',s'.os=s.os/\AllBare s'.gens/\Un (frs outer) [] H H' s.heap s'.heap/\HOk P w H' s'.heap/\RelV v u/\Q v H'
noncomputable def CR(CX:CXT)(outer:List Env)(P:Program)(w:World)(H:Hp)(s:Shared)(Q:VK)(E:XK)(r:Result)(s':Shared):Prop :=
 match r with
 |.ok (.ret u)=>CE outer P w H s Q u s'
 |.ok _=>False
 |.error e=>CX outer H s E e s'
structure FnOk(P:Program)(w:World)(K:Frag)(mg:Str->Option Value)(base:Heap)(CX:CXT)(k:Nat)(f:Addr)(fd:FuncData)(ps:List Str)(sp:Sp):Prop where
 len:∀vs H Q E,sp vs H Q E->vs.length=ps.length
 run:∀(A:Around) (outer:List Env) (s:Shared) (H:Hp) (args:Args) (us:List Value) (vs:List V) (Q:VK) (E:XK),Room k A->Env0 P w K mg base A outer s H->BindsTo s fd args (ps.zip us)->Vals vs us->sp vs H Q E ->
  codeAny (model P w) A (.call (.ref f) args) (CR CX outer P w H s Q E) s
theorem FnOk.mono{P:Program}{w:World}{K:Frag}{mg:Str->Option Value}{base:Heap}{CX:CXT}{j k:Nat}{f:Addr}{fd:FuncData}{ps:List Str}{sp:Sp}(F:FnOk P w K mg base CX j f fd ps sp)(h:j<=k) :
  FnOk P w K mg base CX k f fd ps sp:=⟨F.len,λA outer s H args us vs Q E hr=>F.run A outer s H args us vs Q E (hr.mono h)⟩
theorem Env0.make(e:Env0 P w K mg base A outer s H)(C:Addr)(us:List Value)(kw:List (Str×Value)) :
  Env0 P w K mg base (A.under (.builtin "type.__call__" ⟨.ref C::us,kw⟩)) outer s H:=⟨by first|exact e.frames|(simpa[Around.under,Code.envs,Code.isFrame,pushEnvs]using e.frames),e.mod,e.bs,e.bsz,e.funs,e.frf,e.hok,e.bare⟩
theorem Inv.env0(I:Inv X pins σ H s):Env0 X.prog X.w X.K X.mg X.base X.A X.stack s H :=
 ⟨I.ok.frames,I.ok.mod,I.bs,aAV I.ok.bsz I.sz,I.stack,I.stkFree,I.hok,I.bare⟩
variable{Q:VK}
theorem Inv.after(I:Inv X pins σ H s)(h:CE X.stack X.prog X.w H s Q u s'):EP X pins σ Q u s':=by
 obtain⟨v,H',os,bare,un,hok,r,q⟩:=h
 obtain⟨hh,g,d,t,os'⟩:=s'
 obtain rfl:os'=s.os:=os
 exact⟨v,H',I.call (h':=hh) (g':=g) (d':=d) (t':=t) (ch:=[]) un hok bare (λb z=>absurd z (by simp)),r,q⟩
noncomputable section
def tCall(sp:Sp)(dvs:List V)(E:XK)(t:TA):TE:=λσ H Q=>t σ H λvs H1=>sp (vs++dvs) H1 Q E
def Binds(K:Frag)(fd:FuncData)(ps:List Str)(ds:List Value):Prop :=
 ∀(s:Shared) (us:List Value),K.In s.heap->(us++ds).length=ps.length->BindsTo s fd ⟨us,[]⟩ (ps.zip (us++ds))
theorem Binds.all(h:∀us:List Value,us.length=ps.length->bindArgs fd ⟨us,[]⟩=pure (ps.zip us)):Binds K fd ps []:=λs us _ hl=>by
 rw[aEE]at hl ⊢
 exact .of_eq (h us hl)
def Passes(CX:CXT)(X:Cx)(E:XK):Prop:=∀(pins:List (Addr×Obj)) (σ:St) (H:Hp) (s:Shared) (e:Value) (s':Shared),Inv X pins σ H s->CX X.stack H s E e s'->X.xe e s'
end
section
variable{CX:CXT}{k:Nat}{f:Addr}{sp:Sp}{dvs:List V}{ds:List Value}{E:XK}{x m:Str}{t:TA}
theorem aOa{vs:List V}(F:FnOk X.prog X.w X.K X.mg X.base CX k f fd ps sp)(hr:Room k X.A)(hb:Binds X.K fd ps ds)(hd:Vals dvs ds)(hx:Passes CX X E)
  (I:Inv X pins σ H s)(r:Vals vs us)(h:sp (vs++dvs) H Q E):wpAny (model X.prog X.w) X.A (call (.ref f) us) (EP X pins σ Q) X.xe s:=by
 have r2:Vals (vs++dvs) (us++ds):=r.append hd
 have hl:(us++ds).length=ps.length:=by rw[<- r2.length];exact F.len _ _ _ _ h
 refine aFQ (aHO (F.run X.A X.stack s H ⟨us,[]⟩ (us++ds) (vs++dvs) Q E hr I.env0 (hb s us I.kIn hl) r2 h) λr s' hq=>?_)
 cases r with
 |error e=>exact hx pins σ H s e s' I hq
 |ok fl =>
  cases fl with
  |ret u=>exact I.after hq
  |next=>exact False.elim hq
  |brk=>exact False.elim hq
  |cont=>exact False.elim hq
theorem wY(F:FnOk X.prog X.w X.K X.mg X.base CX k f fd ps sp)(hr:Room k X.A)(hg:Gl X x)(hm:X.mg x=some (.ref f))(hk:keepIn X.K (.ref f)=true)(hb:Binds X.K fd ps ds)(hd:Vals dvs ds)(hx:Passes CX X E)
  (ha:PA X (e::es) t)(hdb:(x==("__debug__":Str))=false:=by decide)(he:starEach (e::es) X.env=(false,eval e X.env)::starEach es X.env:=by rfl)(hpl:(backTo pos (starEach es X.env)).any (·.1)=false:=by rfl) :
  PE X (.Call (.Name x p) (e::es) [] pos) (tCall sp dvs E t):=by
 intro pins s σ H Q I h
 refine aCY (kG I hg hm ?_ hdb)
 refine aHV (h₀:=X.base) I.ok.mod.kin hk (thn (ha pos pins s σ H _ I h) λus s1 ⟨vs,H1,I1,r,q⟩=>⟨I1.kIn,?_⟩) he hpl
 exact aOa F hr hb hd hx I1 r q
structure Mk(K:Frag)(C f:Addr):Prop where
 makes:PySem.W.makesIn K C=true
 init:PySem.W.findIn K (.ref C) "__init__"=some (some (.ref f))
 fn:PySem.W.isFn K (.ref f)=true
 kp:keepIn K (.ref C)=true
end
section
variable{CX:CXT}{k:Nat}{f:Addr}{ks:List Str}{sp:Sp}{E:XK}{x m:Str}{kpos:Pos}{kws:List Keyword}{t tk:TA}{nm:Option Str}
structure KBinds(K:Frag)(fd:FuncData)(ps ks:List Str)(g:List Value->List Value->List Value)(gV:List V->List V->List V):Prop where
 to:∀(s:Shared) (us ws:List Value),K.In s.heap->(g us ws).length=ps.length->BindsTo s fd ⟨us,ks.zip ws⟩ (ps.zip (g us ws))
 rel:∀{vs:List V} {us:List Value} {zs:List V} {ws:List Value},Vals vs us->Vals zs ws->Vals (gV vs zs) (g us ws)
variable{g:List Value->List Value->List Value}{gV:List V->List V->List V}
end
structure FnScope(N P:List Str)(sc:Scope):Prop where
 kind:sc.kind=.function
 co:sc.isCoroutine=false
 gen:sc.isGenerator=false
 nd:N.Nodup
 pre:N.take P.length=P
 par:∀x∈P,sc.names.lookup x=some .local\/sc.names.lookup x=some .cell
 nofree:∀y∈sc.names,y.2≠.free
theorem uL{kindOf:Str->Option NameKind}{x:Str}:∀{binds:List (Str×Value)} {m:Str->Option Value},(∀v,(x,v)∉binds)->bindL kindOf binds m x=m x
 |[],_,_=>rfl
 |(n,v)::r,m,h=>by
  unfold bindL
  rw[uL λw hw=>h w (aCH _ hw)]
  split
  ·have:x≠n:=by rintro rfl;exact h v aDX
   simp[this]
  ·rfl
theorem vB{kindOf:Str->Option NameKind}{x:Str}:∀{binds:List (Str×Value)} {m:Str->Option Value},(∀v,(x,v)∉binds)->bindC kindOf binds m x=m x
 |[],_,_=>rfl
 |(n,v)::r,m,h=>by
  unfold bindC
  rw[vB λw hw=>h w (aCH _ hw)]
  split
  ·rfl
  ·have:x≠n:=by rintro rfl;exact h v aDX
   simp[this]
theorem vE{kindOf:Str->Option NameKind}{x:Str}{v:Value}:∀{P:List Str} {vs:List Value} {i:Nat} {m:Str->Option Value},P.Nodup->P[i]?=some x->vs[i]?=some v->kindOf x=some .local ->
  bindL kindOf (P.zip vs) m x=some v
 |[],_,_,_,_,h,_,_=>by simp at h
 |_::_,[],_,_,_,_,h,_=>by simp at h
 |p::P,w::vs,0,m,nd,h1,h2,hk=>by
  simp at h1 h2;subst h1;subst h2
  show bindL kindOf ((p,w)::P.zip vs) m p=_
  unfold bindL
  rw[uL λv hv=>(aHC.mp nd).1 (List.of_mem_zip hv).1,aAI hk]
  simp
 |p::P,w::vs,i+1,m,nd,h1,h2,hk=>by
  show bindL kindOf ((p,w)::P.zip vs) m x=_
  unfold bindL
  exact vE (i:=i) (aHC.mp nd).2 (by simpa using h1) (by simpa using h2) hk
theorem vD{kindOf:Str->Option NameKind}{x:Str}{v:Value}:∀{P:List Str} {vs:List Value} {i:Nat} {m:Str->Option Value},P.Nodup->P[i]?=some x->vs[i]?=some v->kindOf x≠some .local ->
  bindC kindOf (P.zip vs) m x=some v
 |[],_,_,_,_,h,_,_=>by simp at h
 |_::_,[],_,_,_,_,h,_=>by simp at h
 |p::P,w::vs,0,m,nd,h1,h2,hk=>by
  simp at h1 h2;subst h1;subst h2
  show bindC kindOf ((p,w)::P.zip vs) m p=_
  unfold bindC
  rw[vB λv hv=>(aHC.mp nd).1 (List.of_mem_zip hv).1,aAL hk]
  simp
 |p::P,w::vs,i+1,m,nd,h1,h2,hk=>by
  show bindC kindOf ((p,w)::P.zip vs) m x=_
  unfold bindC
  exact vD (i:=i) (aHC.mp nd).2 (by simpa using h1) (by simpa using h2) hk
noncomputable def start(N:List Str)(vs:List V):St:=vs.map some++List.replicate (N.length - vs.length) none
noncomputable def cxOf(CX:CXT)(P:Program)(w:World)(K:Frag)(mg:Str->Option Value)(base:Heap)(N:List Str)(qual:Str)(scope:Scope)(f:Addr)(cd:Value)(A:Around)(outer:List Env)(s:Shared)(H:Hp)(E:XK):Cx where
 prog:=P
 w:=w
 K:=K
 mg:=mg
 base:=base
 A:=A.deeper (envOfC qual scope s.heap.objs.size f cd)
 N:=N
 s₀:=s
 H₀:=H
 env:=envOfC qual scope s.heap.objs.size f cd
 outer:=outer
 stack:=envOfC qual scope s.heap.objs.size f cd::outer
 ex:=[]
 calm:=true
 fn:=λ_=>true
 pn:=[]
 xe:=λe s'=>wpAny (model P w) (A.deeper (envOfC qual scope s.heap.objs.size f cd)) (leaving (envOfC qual scope s.heap.objs.size f cd) e) (λ_ s''=>CX outer H s E e s'') (λe' s''=>CX outer H s E e' s'') s'
variable{x:Str}
theorem zI{sc:Scope}{n:Nat}(h:sc.names.lookup x=some .cell):∃c,(cellsFrom n sc.names []).lookup x=some c:=by
 have q:=PySem.W.cellsFrom_some sc.names n [] (.inl h)
 exact aDK.mp q
variable{CX:CXT}{scope:Scope}{f:Addr}
theorem aFh{cd:Value}{s1:Shared}{E:XK}{vs:List V}
  (S:FnScope N ps scope)(hd:A.handled=none)(e0:Env0 P w K mg base A outer s H)(hl:vs.length=ps.length)(r:Vals vs us)
  (x:InCallC s s.heap.objs.size (bindL (envOfC qual scope s.heap.objs.size f cd).kindOf (ps.zip us) λ_=>none) (cellsFrom (s.heap.objs.size+1) scope.names []) (bindC (envOfC qual scope s.heap.objs.size f cd).kindOf (ps.zip us) λ_=>none) s1) :
  Inv (cxOf CX P w K mg base N qual scope f cd A outer s H E) [] (start N vs) H s1:=by
 have hpl:ps.length<=N.length:=by have:=congrArg List.length S.pre;rw[aCC]at this;lia
 obtain⟨h1,tk,rfl,hk⟩:=x.done
 have noA:∀b:Addr,b∉(cxOf CX P w K mg base N qual scope f cd A outer s H E).ex:=λb z=>absurd (show b∈([]:List Addr)from z) (by simp)
 refine⟨⟨e0.mod,S.kind,rfl,rfl,aAG _,λy z c h1 h2=>?_,λy hy=>?_,λy c _ h=>?_,λ_=>hd,Around.frames_deeper e0.frames,.inr ⟨rfl,rfl⟩,λb z=>absurd z (noA b),e0.bs,e0.bsz,λb _ _=>noA b,λb z=>absurd z (noA b),e0.funs,e0.frf⟩,
  rfl,e0.bare,Un.kept hk,⟨_,x.toInCall.ns,λi y v h1 h2 h3=>?_⟩,λy c h=>⟨_,x.cell y c h⟩,e0.hok.fresh (aAG _),λy c h=>?_,λp hp=>absurd (show p∈([]:List (Addr×Obj))from hp) (by simp),e0.hok.kept hk,?_,λz=>nomatch (show true=false from z)⟩
 ·exact name_of_addr x.apart (aER h1) (aER h2)
 ·have hy:scope.names.lookup y=some .cell\/scope.names.lookup y=some .free:=hy
  rcases hy with hy|hy
  ·exact zI hy
  ·exact absurd rfl (S.nofree _ (aER hy))
 ·exact aHB (x.above y c (aER h))
 ·have hi:i < vs.length:=by
   unfold start at h2
   by_cases hi:i < vs.length
   ·exact hi
   ·rw[aBK (by simpa using hi)]at h2
    rw[List.getElem?_replicate]at h2
    split at h2 <;> cases h2
  have ha:vs[i]?=some v:=by
   unfold start at h2
   rw[aAT (by simpa using hi),aBJ]at h2
   cases e:vs[i]? with
   |none=>rw[e]at h2;cases h2
   |some a=>rw[e]at h2;cases h2;rfl
  obtain⟨u,hu,rv⟩:=r.get ha
  have hp:ps[i]?=some y:=by
   rw[<- S.pre,aGC (by lia)];exact h1
  have ndP:ps.Nodup:=by rw[<- S.pre];exact S.nd.sublist (List.take_sublist _ _)
  refine⟨u,rv,?_⟩
  rcases S.par y (aBM hp)with k|k
  ·exact .inl ⟨k,vE ndP hp hu k⟩
  ·obtain⟨c,e⟩:=zI (n:=s.heap.objs.size+1) k
   refine .inr ⟨.inl k,c,e,?_⟩
   have q:=x.cell y c e
   rw[vD ndP hp hu (by show scope.names.lookup y≠_;rw[k];decide)]at q
   exact q
 ·exact e0.hok.fresh (aHB (x.above y c (aER h)))
 ·unfold start
  show _=N.length
  rw[aAP,aAK,aGU]
  lia
theorem aCl{k:Nat}{params:Arguments}{dV kV:Value}
  {sp:Sp}(lk:K.lookup f=some ⟨oc,od,.func (fnOf name qual params body scope dV kV doc pm an cdv ct),osl⟩)(hcd:codeIn K cdv qual=true)(S:FnScope N ps scope)
  (len:∀vs H Q E,sp vs H Q E->vs.length=ps.length)
  (hbody:∀(A:Around) (outer:List Env) (s:Shared) (H:Hp) (vs:List V) (Q:VK) (E:XK),Room k (A.deeper (envOfC qual scope s.heap.objs.size f cdv))->sp vs H Q E ->
   ∃t,PSs (cxOf CX P w K mg base N qual scope f cdv A outer s H E) body t/\t {nx:=λ_ H'=>Q .non H',rt:=Q} (start N vs) H) :
  FnOk P w K mg base CX (k+1) f (fnOf name qual params body scope dV kV doc pm an cdv ct) ps sp:=by
 refine⟨len,λA outer s H args us vs Q E hr e0 hb r hsp=>?_⟩
 have hl:=len _ _ _ _ hsp
 have KX:K.In s.heap:=e0.mod.kin.keeps λb o e=>(e0.bs b o e).1
 have lim:s.heap.NoLimit:=e0.mod.nolimit.keeps λb o e=>(e0.bs b o e).1
 have hkind:∀y∈ps.zip us,scope.names.lookup y.1=some .local\/(scope.names.lookup y.1=some .cell/\((cellsFrom (s.heap.objs.size+1) scope.names []).lookup y.1).isSome=true):=λ⟨n,v⟩ hy=>by
  rcases S.par n (List.of_mem_zip hy).1 with q|q
  ·exact .inl q
  ·exact .inr ⟨q,PySem.W.cellsFrom_some _ _ _ (.inl q)⟩
 refine codeAny_call_function hr.depth (KX _ _ lk) rfl S.co S.gen rfl (PySem.W.codeRec_of KX hcd) (hb _ _ _ _ ?_)
 refine wpAny_newFunctionEnv_cells S.kind hkind λenv he s1 x=>?_
 subst he
 refine⟨lim.keeps x.toInCall.keep,codeAny_func ?_⟩
 obtain⟨t,ht,hq⟩:=hbody A outer s H vs Q E (hr.deeper _) hsp
 have I:Inv (cxOf CX P w K mg base N qual scope f cdv A outer s H E) [] (start N vs) H s1:=aFh S hr.hd e0 hl r x
 refine aCT (ht [] s1 (start N vs) H _ I hq) (λfl s' hs=>?_) λe s' hs=>hs
 have fin:∀{σ':St} {H':Hp} {v:V} {u:Value},Inv (cxOf CX P w K mg base N qual scope f cdv A outer s H E) [] σ' H' s'->RelV v u->Q v H'->CE outer P w H s Q u s' :=
  λ{σ' H' v u} J rv q=>⟨v,H',J.os,J.bare,J.base,J.hok,rv,q⟩
 cases fl with
 |ret u =>
  obtain⟨v,σ',H',J,rv,q⟩:=hs
  exact fin J rv q
 |next =>
  obtain⟨σ',H',J,q⟩:=hs
  exact fin (v:=V.non) (u:=Value.none) J rfl q
 |brk =>
  obtain⟨_,_,_,q⟩:=hs
  exact False.elim q
 |cont =>
  obtain⟨_,_,_,q⟩:=hs
  exact False.elim q
section
variable{t:TA}{id T:String}{r:List V->Hp->VK->Prop}
noncomputable def tCB(r:List V->Hp->VK->Prop)(t:TA):TE:=λσ H Q=>t σ H λvs H1=>r vs H1 Q
theorem nF(hc:CallR X (.builtin id) r)(hg:Gl X x)(hm:X.mg x=none)(hv:bootBuiltins x=some (.builtin id))(ha:PA X (e::es) t)(hn:x≠"__name__":=by decide)(hdb:(x==("__debug__":Str))=false:=by decide)
  (he:starEach (e::es) X.env=(false,eval e X.env)::starEach es X.env:=by rfl)(hpl:(backTo pos (starEach es X.env)).any (·.1)=false:=by rfl):PE X (.Call (.Name x p) (e::es) [] pos) (tCB r t):=by
 intro pins s σ H Q I h
 refine aCY (fN I hg hm hv ?_ hn hdb)
 exact PyProof.Rows.callWith_builtin1 (thn (ha pos pins s σ H _ I h) λus s1 ⟨vs,H1,I1,r1,q1⟩=>hc pins s1 σ H1 vs us Q I1 r1 q1) he hpl
theorem jX(hc:CallR X (.type T) r)(hg:Gl X x)(hm:X.mg x=none)(hv:bootBuiltins x=some (.type T))(ha:PA X (e::es) t)(hn:x≠"__name__":=by decide)(hdb:(x==("__debug__":Str))=false:=by decide)
  (he:starEach (e::es) X.env=(false,eval e X.env)::starEach es X.env:=by rfl)(hpl:(backTo pos (starEach es X.env)).any (·.1)=false:=by rfl):PE X (.Call (.Name x p) (e::es) [] pos) (tCB r t):=by
 intro pins s σ H Q I h
 refine aCY (fN I hg hm hv ?_ hn hdb)
 exact aBQ (thn (ha pos pins s σ H _ I h) λus s1 ⟨vs,H1,I1,r1,q1⟩=>hc pins s1 σ H1 vs us Q I1 r1 q1) he hpl
end
end L2
end
variable{H H' H1 H2:L2.Hp}{X:L2.Cx}{v:L2.V}{ta tb te:L2.TE}{vs:List L2.V}{R:PySem.Addr->L2.Hp->Prop}{r:List L2.V->L2.Hp->L2.VK->Prop}{CX:L2.CXT}{sp:L2.Sp}{kvs:List (L2.Key×L2.V)}
section
open PySem PySem.Spec PyProof.Rows
end
namespace HT
open PySem PyProof.Rows
noncomputable def lexLt:List Int->List Int->Bool
 |[],[]=>false
 |[],_::_=>true
 |_::_,[]=>false
 |x::xs,y::ys=>if x=y then lexLt xs ys else decide (x < y)
section
open PySem.SeqAt
open PySem.AutoSeq1 (wpAny_loadPart')
open PySem.MeetsSeq PySem.MeetsSeq2 PySem.MeetsSeq3
end
variable{prog:Program}{E:Value->Shared->Prop}
theorem cat_tup{t b:Addr}{vs ws:List Value}(ht:IsTup s.heap t vs.toArray)(hb:IsTup s.heap b ws.toArray)(hv:vs≠[])
  (h1:ws=[]->Q (.ref t) s)(h2:ws≠[]->Q (.ref s.heap.objs.size) {s with heap:=s.heap.push {cls:=.type "tuple",data:=.seq (vs++ws).toArray}})
  (hsz:vs.length+ws.length<=sizeLine):wpAny (model prog w) A (binaryOp .Add (.ref t) (.ref b)) Q E s:=by
 obtain⟨⟨cls,dd,data,sl⟩,ho,hc,n,hd⟩:=id ht
 obtain⟨⟨cls2,dd2,data2,sl2⟩,ho2,hc2,n2,hd2⟩:=id hb
 simp only at hc hd hc2 hd2
 subst hc hd hc2 hd2
 have e:vs.toArray++ws.toArray=(vs++ws).toArray:=by simp
 by_cases hw:ws=[]
 ·exact concat_meets ⟨_,ho,rfl⟩ ⟨_,ho2,rfl⟩ noFill_tuple_add seq_tuple_add aGN aGF (aGD _ _)
   (tuple_addW1 t b vs.toArray ws.toArray n n2 dd dd2 sl sl2 (by simpa using hv) (by simp[hw])) ⟨ho,ho2,h1 hw⟩
 ·refine concat_meets ⟨_,ho,rfl⟩ ⟨_,ho2,rfl⟩ noFill_tuple_add seq_tuple_add aGN aGF (aGD _ _)
   (tuple_addW2 t b vs.toArray ws.toArray n n2 dd dd2 sl sl2 (by simpa using hv) (by simpa using hw) (by rw[aAH,aAH];exact hsz)) ⟨ho,ho2,?_⟩
  rw[e]
  exact h2 hw
noncomputable def sIx(n d:Nat):Option Int->Nat
 |none=>d
 |some v=>if v < 0 then(v+(n:Int)).toNat else min v.toNat n
theorem sIx_nat(n d k:Nat):sIx n d (some (k:Int))=min k n:=by
 show(if(k:Int) < 0 then((k:Int)+(n:Int)).toNat else min (k:Int).toNat n)=min k n
 rw[aAL (by lia),aDP]
theorem aPy(n d:Nat)(hd:d<=n)(o:Option Int):sIx n d o<=n:=by
 cases o with
 |none=>exact hd
 |some v =>
  show(if v < 0 then(v+(n:Int)).toNat else min v.toNat n)<=n
  by_cases hv:v < 0
  ·rw[aAI hv];lia
  ·rw[aAL hv];exact Nat.min_le_right _ _
theorem aEb(v:Int)(n d:Nat):(if v < 0 then max (v+(n:Int)) 0 else min v (n:Int))=((sIx n d (some v):Nat):Int):=by
 show(if v < 0 then max (v+(n:Int)) 0 else min v (n:Int))=(((if v < 0 then(v+(n:Int)).toNat else min v.toNat n):Nat):Int)
 by_cases hv:v < 0
 ·simp only[aAI hv];lia
 ·simp only[aAL hv];lia
theorem aBr(lo hi:Option Int)(n:Nat):Builtin.Slice.sliceAdjust lo hi 1 (n:Int)=(((sIx n 0 lo:Nat):Int),((sIx n n hi:Nat):Int)):=by
 have h1:¬((1:Int) < 0):=by lia
 unfold Builtin.Slice.sliceAdjust
 simp only[h1,aEF]
 refine Prod.ext ?_ ?_
 ·cases lo with
  |none=>rfl
  |some v=>exact aEb v n 0
 ·cases hi with
  |none=>rfl
  |some v=>exact aEb v n n
theorem zY(i j:Nat):Builtin.Slice.slicePlaces (i:Int) (j:Int) 1=j - i:=by
 unfold Builtin.Slice.slicePlaces
 have h1:(1:Int) > 0:=by lia
 simp only[h1,aEA,Int.ediv_one]
 split <;> lia
theorem rR{v:Value}{o:Option Int}{Q:Option Int->Shared->Prop}(p:IsPart v o)(h:Q o s):wpAny (model prog w) A (Builtin.Slice.slicePartIndex v) Q E s:=by
 cases p with
 |none=>exact slicePart_none h
 |int i t=>exact slicePart_int h
variable{sl:Addr}
theorem gP{vl vu:Value}{n:Nat}{Q:Int×Int×Nat->Shared->Prop}(hs:s.heap.IsSliceOf sl vl vu .none)(pl:IsPart vl lo)(pu:IsPart vu hi)
  (h:Q (((sIx n 0 lo:Nat):Int),1,sIx n n hi - sIx n 0 lo) s):wpAny (model prog w) A (Builtin.Slice.sliceApplied (.ref sl) (pure (n:Int))) Q E s:=by
 obtain⟨os,hos,hcs,hds⟩:=id hs
 unfold Builtin.Slice.sliceApplied Builtin.Slice.sliceFields
 refine aAA (aAA (aAN hos hds (x:=vl) rfl (aAA (aAN hos hds (x:=vu) rfl (aAA (aAN hos hds (x:=.none) rfl (aAC ?_)))))))
 refine aAA (slicePart_none ?_)
 show wpAny _ _ (if((1:Int)==0)=true then _ else _) _ _ s
 rw[aAL (by decide)]
 refine aAA (rR pl (aAA (rR pu (aAA (aAC ?_)))))
 show wpAny _ _ (match Builtin.Slice.sliceAdjust lo hi 1 (n:Int)with|(lo,hi)=>pure (lo,(1:Int),Builtin.Slice.slicePlaces lo hi 1)) _ _ s
 rw[aBr lo hi n]
 show wpAny _ _ (pure (((sIx n 0 lo:Nat):Int),(1:Int),Builtin.Slice.slicePlaces ((sIx n 0 lo:Nat):Int) ((sIx n n hi:Nat):Int) 1)) _ _ s
 rw[zY]
 exact aAC h
theorem aFy(xs:Array Value)(i k:Nat):((List.range k).filterMap λ(m:Nat)=>xs[((i:Int)+(m:Int)*1).toNat]?).toArray=((xs.toList.drop i).take k).toArray:=by
 have e:(λ(m:Nat)=>xs[((i:Int)+(m:Int)*1).toNat]?)=λm=>xs[i+m]?:=by
  funext m
  have:((i:Int)+(m:Int)*1).toNat=i+m:=by lia
  rw[this]
 rw[e]
 have:=pick_run xs i k
 rw[List.filterMap_map]at this
 have e2:((λx=>xs[x]?) ∘ λx=>i+x)=λm=>xs[i+m]?:=rfl
 rw[e2]at this
 rw[this]
theorem getItem_tuple_cut{t:Addr}{vl vu:Value}(ht:IsTup s.heap t items)(hs:s.heap.IsSliceOf sl vl vu .none)(pl:IsPart vl lo)(pu:IsPart vu hi)
  (hw:¬(sIx items.size 0 lo=0/\sIx items.size items.size hi=items.size))
  (h:Q (.ref s.heap.objs.size) {s with heap:=s.heap.push {cls:=.type "tuple",data:=.seq ((items.toList.drop (sIx items.size 0 lo)).take (sIx items.size items.size hi - sIx items.size 0 lo)).toArray}})
  (hsz:items.size<=sizeLine):wpAny (model prog w) A (getItem (.ref t) (.ref sl)) Q E s:=by
 have htake:sizeOk (.seq ((items.toList.drop (sIx items.size 0 lo)).take (sIx items.size items.size hi - sIx items.size 0 lo)).toArray):=by
  show((items.toList.drop (sIx items.size 0 lo)).take (sIx items.size items.size hi - sIx items.size 0 lo)).toArray.size<=sizeLine
  rw[aAH,aCC,aDV,aDF]
  lia
 have hj:sIx items.size items.size hi<=items.size:=aPy _ _ (aAG _) hi
 obtain⟨os,hos,hcs,hds⟩:=id hs
 have hTs:s.TypeIs (.ref sl) "slice":=⟨os,hos,hcs⟩
 unfold getItem
 try with_reducible refine aBL ?_
 first|refine aAA (aAC ?_)|skip
 refine aAA (wpAny_sequenceKey ht.typeIs (by decide) ?_)
 refine aAA (aAU (name:=Str.ofString "__getitem__") ht.typeIs aCD
  (aAZ aCD ht.typeIs entry_tuple_getitem ?_ (args_tuple_getitem _ _)))
 show wpAny _ _ (Builtin.Tuple.tupleItemsOf (.ref t) >>= _) _ _ s
 refine aAA (tupleItemsOf_ ht ?_)
 refine aAA (aEO hTs ?_)
 rw[aAI (by decide)]
 refine aAA (gP hs pl pu ?_)
 have hno:¬((((sIx items.size 0 lo:Nat):Int)==0&&(1:Int)==1&&(sIx items.size items.size hi - sIx items.size 0 lo)==items.size)=true):=by
  intro q
  rw[aBN,aBN]at q
  have q1:((sIx items.size 0 lo:Nat):Int)=0:=eq_of_beq q.1.1
  have q2:sIx items.size items.size hi - sIx items.size 0 lo=items.size:=eq_of_beq q.2
  exact hw ⟨by lia,by lia⟩
 show wpAny _ _ (if(((sIx items.size 0 lo:Nat):Int)==0&&(1:Int)==1&&(sIx items.size items.size hi - sIx items.size 0 lo)==items.size)=true then _ else _) _ _ s
 rw[aAL hno,aFy]
 first
  |exact aAA (m:=Builtin.Tuple.tupleExact _) (aBI (aAC ⟨_,rfl,aAC h⟩) htake)
  |exact aAA (m:=Builtin.Tuple.tupleExact _) (aBI (aAA (aAC (aAC ⟨_,rfl,aAC h⟩))) htake)
  |exact aAA (aAA (m:=Builtin.Tuple.tupleExact _) (aBI (aAC (aAC ⟨_,rfl,aAC h⟩)) htake))
  |exact aAA (aAA (m:=Builtin.Tuple.tupleExact _) (aBI (aAC ⟨_,rfl,aAC h⟩) htake))
end HT
section
open PySem PySem.Spec PyProof.Rows
namespace L2
noncomputable section
abbrev TO:=St->Hp->(Option Int->Hp->Prop)->Prop
def PO(X:Cx)(e:Option Expr)(t:TO):Prop :=
 ∀(pins:List (Addr×Obj)) (s:Shared) (σ:St) (H:Hp) (Q:Option Int->Hp->Prop),Inv X pins σ H s->t σ H Q ->
  wpAny (model X.prog X.w) X.A (evalPart e X.env) (λu s'=>∃o H',Inv X pins σ H' s'/\IsPart u o/\Q o H') X.xe s
def tNoPart:TO:=λ_ H Q=>Q none H
def tPart(t:TE):TO:=λσ H Q=>t σ H λx H1=>∃i,x=.int i/\Q (some i) H1
end
variable{e:Expr}{lo hi:Option Expr}{tl th:TO}
theorem aKe:PO X none tNoPart:=by
 intro pins s σ H Q I h
 rw[evalPart_none]
 exact aAC ⟨none,H,I,.none,h⟩
theorem aMc(h:PE X e te):PO X (some e) (tPart te):=by
 intro pins s σ H Q I hw
 rw[evalPart_some]
 refine thn (h pins s σ H _ I hw) λu s1 ⟨x,H1,I1,r1,q1⟩=>?_
 obtain⟨i,rfl,q⟩:=q1
 obtain⟨t,rfl⟩:=r1
 exact⟨some i,H1,I1,.int i t,q⟩
noncomputable def SlR(X:Cx)(r:V->Option Int->Option Int->Hp->VK->Prop):Prop :=
 ∀(pins:List (Addr×Obj)) (s:Shared) (σ:St) (H:Hp) (x:V) (v vl vu:Value) (lo hi:Option Int) (sl:Addr) (Q:VK),Inv X pins σ H s->RelV x v->s.heap.IsSliceOf sl vl vu .none->IsPart vl lo->IsPart vu hi->r x lo hi H Q ->
  ∃T id,typeLookup (.type T) "__getitem__"=pure (some (.builtin id))/\s.TypeIs v T/\wpAny (model X.prog X.w) X.A (getItem v (.ref sl)) (EP X pins σ Q) X.xe s
variable{r:V->Option Int->Option Int->Hp->VK->Prop}
theorem SlR.or{r':V->Option Int->Option Int->Hp->VK->Prop}(h:SlR X r)(h':SlR X r'):SlR X (λx lo hi H Q=>r x lo hi H Q\/r' x lo hi H Q):=by
 intro pins s σ H x v vl vu lo hi sl Q I rx hs pl pu q
 rcases q with q|q
 ·exact h pins s σ H x v vl vu lo hi sl Q I rx hs pl pu q
 ·exact h' pins s σ H x v vl vu lo hi sl Q I rx hs pl pu q
noncomputable section
def tSl(r:V->Option Int->Option Int->Hp->VK->Prop)(te:TE)(tl th:TO):TE:=λσ H Q=>te σ H λx H1=>tl σ H1 λl H2=>th σ H2 λu H3=>r x l u H3 Q
theorem aGt(hr:SlR X r)(he:PE X e te)(hl:PO X lo tl)(hu:PO X hi th):PE X (.Subscript e (.Slice lo hi none p2) pos) (tSl r te tl th):=by
 intro pins s σ H Q I h
 refine Subscript_ (thn (he pins s σ H _ I h) λv s1 ⟨x,H1,I1,r1,q1⟩=>?_)
 refine wpAny_Slice (thn (hl pins s1 σ H1 _ I1 q1) λvl s2 ⟨l,H2,I2,pl,q2⟩=>thn (hu pins s2 σ H2 _ I2 q2) λvu s3 ⟨u,H3,I3,pu,q3⟩=>?_)
 rw[evalPart_none]
 refine aAC ?_
 have I4:Inv X pins σ H3 {s3 with heap:=s3.heap.push {cls:=.type "slice",data:=.fields #[vl,vu,.none]}}:=I3.kept (t':=s3.toks) λb ob q=>aAB _ q
 obtain⟨T,id,hT,ht,hg⟩:=hr pins {s3 with heap:=s3.heap.push {cls:=.type "slice",data:=.fields #[vl,vu,.none]}} σ H3 x v vl vu l u s3.heap.objs.size Q I4 r1 (Heap.IsSliceOf.new ..) pl pu q3
 show wpAny (model X.prog X.w) X.A (subscriptTail e (.Slice lo hi none p2) v (.ref s3.heap.objs.size)) (EP X pins σ Q) X.xe {s3 with heap:=s3.heap.push {cls:=.type "slice",data:=.fields #[vl,vu,.none]}}
 exact tail_any (ops:=[.ref s3.heap.objs.size,v]) ht hT hg (by with_unfolding_all rfl)
def cutV(xs:List V)(lo hi:Option Int):List V:=(xs.drop (HT.sIx xs.length 0 lo)).take (HT.sIx xs.length xs.length hi - HT.sIx xs.length 0 lo)
theorem qA(xs:List V)(lo hi:Option Int):(cutV xs lo hi).length<=xs.length:=by
 unfold cutV
 rw[aCC,aDV]
 lia
def rSlT(K:Frag):V->Option Int->Option Int->Hp->VK->Prop:=λx lo hi H Q=>∃a xs,x=.ref a/\SqT K H a xs /\
 ¬(HT.sIx xs.length 0 lo=0/\HT.sIx xs.length xs.length hi=xs.length)/\∀p,H p=none->Q (.ref p) (upd H p (.tup (cutV xs lo hi)))
theorem aOd:SlR X (rSlT X.K):=by
 intro pins s σ H x v vl vu lo hi sl Q I rx hs pl pu h
 obtain⟨a,xs,rfl,hx,hw,q⟩:=h
 cases rx
 obtain⟨its,r,ht,hz⟩:=I.tuple hx
 have hlen:its.toArray.size=xs.length:=by rw[aAH];exact r.length.symm
 refine⟨"tuple",_,aCD.lookup,ht.typeIs,?_⟩
 refine HT.getItem_tuple_cut ht hs pl pu (by rw[hlen];exact hw) ?_ (by rw[hlen];exact hz)
 rw[hlen]
 refine⟨.ref s.heap.objs.size,_,I.laid (t':=s.toks) (o:=.tup (cutV xs lo hi)) (λb ob q=>aAB _ q) (aAG _) ?_,rfl,q _ (I.hok.fresh (aAG _))⟩
 exact⟨aAV (qA xs lo hi) hz,_,(r.drop (HT.sIx xs.length 0 lo)).take (HT.sIx xs.length xs.length hi - HT.sIx xs.length 0 lo),IsTup.new _ _⟩
def rCatT(K:Frag):R2:=λx y H Q=>∃a b xs ys,x=.ref a/\y=.ref b/\SqT K H a xs/\SqT K H b ys/\xs≠[]/\xs.length+ys.length<=sizeLine /\
 (ys=[]->Q (.ref a) H)/\(ys≠[]->∀p,H p=none->Q (.ref p) (upd H p (.tup (xs++ys))))
end
variable{xs:List V}
theorem Vals.nil_iff(r:Vals xs us):us=[] ↔ xs=[]:=by
 cases r with
 |nil=>simp
 |cons _ _=>simp
theorem aLv:OpR X (binaryOp .Add) (rCatT X.K):=by
 intro pins s σ H x y v u Q I rx ry h
 obtain⟨a,b,xs,ys,rfl,rfl,ha,hb,hx,hz,q1,q2⟩:=h
 cases rx
 cases ry
 obtain⟨its,r1,p1,_⟩:=I.tuple ha
 obtain⟨its2,r2,p2,_⟩:=I.tuple hb
 refine HT.cat_tup p1 p2 (λz=>hx (r1.nil_iff.mp z)) (λz=>⟨.ref a,H,I,rfl,q1 (r2.nil_iff.mp z)⟩) (λz=>?_) (by rw[<- r1.length,<- r2.length];exact hz)
 refine⟨.ref s.heap.objs.size,_,I.laid (t':=s.toks) (o:=.tup (xs++ys)) (λb ob q=>aAB _ q) (aAG _) ?_,rfl,q2 (λw=>z (r2.nil_iff.mpr w)) _ (I.hok.fresh (aAG _))⟩
 exact⟨by rw[aAP];exact hz,_,r1.append r2,IsTup.new _ _⟩
noncomputable def ixN(n:Nat)(i:Int):Option Nat:=if 0<=i then(if i < n then some i.toNat else none)else if -(n:Int)<=i then some (i+n).toNat else none
noncomputable def atI(xs:List α)(i:Int):Option α:=(ixN xs.length i).bind λj=>xs[j]?
variable{n:Nat}{i:Int}
theorem aCm(h:ixN n i=some j):seqIndex? i n=some j/\j < n /\ -(n:Int)<=i/\i < n:=by
 unfold ixN at h
 by_cases h0:0<=i
 ·rw[aAI h0]at h
  by_cases h1:i < n
  ·rw[aAI h1]at h
   have e:i.toNat=j:=Option.some.inj h
   exact⟨by rw[aGL h0 h1,e],by lia,by lia,h1⟩
  ·rw[aAL h1]at h;cases h
 ·rw[aAL h0]at h
  by_cases h1 : -(n:Int)<=i
  ·rw[aAI h1]at h
   have e:(i+n).toNat=j:=Option.some.inj h
   exact⟨by rw[seqIndex_neg (by lia) h1,e],by lia,h1,by lia⟩
  ·rw[aAL h1]at h;cases h
theorem wL{xs:List α}{v:α}(h:atI xs i=some v):∃j,seqIndex? i xs.length=some j/\xs[j]?=some v/\j < xs.length /\ -(xs.length:Int)<=i/\i < xs.length:=by
 unfold atI at h
 cases e:ixN xs.length i with
 |none=>rw[e]at h;cases h
 |some j =>
  rw[e]at h
  obtain⟨h1,h2,h3,h4⟩:=aCm e
  exact⟨j,h1,h,h2,h3,h4⟩
noncomputable section
def PlainIx(b:Expr):Prop:=∀o i,subscripted b false o i=operate [o,i] (getItem o i)
def IxR(X:Cx)(r:R2):Prop :=
 ∀(value slice:Expr) (pins:List (Addr×Obj)) (s:Shared) (σ:St) (H:Hp) (x y:V) (v u:Value) (Q:VK),Inv X pins σ H s->RelV x v->RelV y u->r x y H Q ->
  subscripted slice false v u=operate [v,u] (getItem v u)->wpAny (model X.prog X.w) X.A (subscriptTail value slice v u) (EP X pins σ Q) X.xe s
def MtR(X:Cx)(id:String)(r:V->List V->Hp->VK->Prop):Prop :=
 ∀(pins:List (Addr×Obj)) (s:Shared) (σ:St) (H:Hp) (x:V) (xs:List V) (v:Value) (us:List Value) (Q:VK),Inv X pins σ H s->RelV x v->Vals xs us->r x xs H Q ->
  wpAny (model X.prog X.w) X.A (call (.builtin id) (v::us)) (EP X pins σ Q) X.xe s
end
section
variable{a b:Expr}{r:R2}
theorem IxR.or{r':R2}(h:IxR X r)(h':IxR X r'):IxR X (λx y H Q=>r x y H Q\/r' x y H Q):=by
 intro value slice pins s σ H x y v u Q I rx ry q hs
 rcases q with q|q
 ·exact h value slice pins s σ H x y v u Q I rx ry q hs
 ·exact h' value slice pins s σ H x y v u Q I rx ry q hs
theorem aRb(hr:IxR X r)(ha:PE X a ta)(hb:PE X b tb)(hs:PlainIx b):PE X (.Subscript a b pos) (tOp r ta tb):=by
 intro pins s σ H Q I h
 exact Subscript_ (binT ha hb I h λv u s2 x y H2 I2 rx ry q=>hr a b pins s2 σ H2 x y v u Q I2 rx ry q (hs _ _))
noncomputable section
def rIxL(K:Frag):R2:=λx y H Q=>∃p xs i v,x=.ref p/\y=.int i/\SqL K H p xs/\atI xs i=some v/\Q v H
def rIxT(K:Frag):R2:=λx y H Q=>∃p xs i v,x=.ref p/\y=.int i/\SqT K H p xs/\atI xs i=some v/\Q v H
def rIxS:R2:=λx y H Q=>∃z i c,x=.str z/\y=.int i/\z.length<=sizeLine/\atI z.cps.toList i=some c/\Q (.str ⟨#[c]⟩) H
theorem aJs:IxR X (rIxL X.K):=by
 intro value slice pins s σ H x y v u Q I rx ry h hs
 obtain⟨p,xs,i,z,rfl,rfl,hq,he,q⟩:=h
 cases rx
 obtain⟨t,rfl⟩:=ry
 obtain⟨its,r,pl,hz⟩:=I.list hq
 obtain⟨j,h1,h2,h3,h4,h5⟩:=wL he
 obtain⟨w,ew,rw'⟩:=r.get h2
 have hl:=r.length
 have hn:=line63
 have fin:EP X pins σ Q w s:=⟨z,H,I,rw',q⟩
 by_cases h0:0<=i
 ·have hj:i.toNat=j:=by
   rw[aGL h0 h5]at h1
   exact Option.some.inj h1
  exact item_listR pl.isList h0 (by lia) (by rw[hj];simpa using ew) fin hs
 ·have hj:(i+(its.toArray.size:Int)).toNat=j:=by
   rw[seqIndex_neg (by lia) h4]at h1
   rw[aAH,<- hl]
   exact Option.some.inj h1
  exact subscriptTail_builtinR (x:=w) pl.isList.typeIs slot_list_getitem.lookup
   (wpAny_getItem_list_neg (Q:=λr s'=>r=w/\EP X pins σ Q r s') pl.isList (by lia) (by rw[aAH] <;> lia) (by lia) (by rw[hj];simpa using ew) ⟨rfl,fin⟩) hs
theorem aPf:IxR X (rIxT X.K):=by
 intro value slice pins s σ H x y v u Q I rx ry h hs
 obtain⟨p,xs,i,z,rfl,rfl,hq,he,q⟩:=h
 cases rx
 obtain⟨t,rfl⟩:=ry
 obtain⟨its,r,pl,hz⟩:=I.tuple hq
 obtain⟨j,h1,h2,h3,h4,h5⟩:=wL he
 obtain⟨w,ew,rw'⟩:=r.get h2
 have hl:=r.length
 have hn:=line63
 have fin:EP X pins σ Q w s:=⟨z,H,I,rw',q⟩
 exact subscriptTail_builtinR (x:=w) pl.typeIs slot_tuple_getitem.lookup
  (getItem_tuple (j:=j) (Q:=λr s'=>r=w/\EP X pins σ Q r s') pl (by lia) (by lia) (by rw[aAH,<- hl];exact h1) (by simpa using ew) ⟨rfl,fin⟩) hs
theorem aOb:IxR X rIxS:=by
 intro value slice pins s σ H x y v u Q I rx ry h hs
 obtain⟨z,i,c,rfl,rfl,hz,he,q⟩:=h
 obtain⟨t,rfl⟩:=rx
 obtain⟨t',rfl⟩:=ry
 obtain⟨j,h1,h2,h3,h4,h5⟩:=wL he
 have hl:z.cps.toList.length=z.length:=by simp[Str.length]
 rw[hl]at h1 h4 h5
 have hn:=line63
 exact tail_any (typeIs_str s z t) slot_str_getitem.lookup (getItem_str (c:=c) (by
  have e1:decide (i < -(2 ^ 63:Int))=false:=aCE (by lia)
  have e2:decide (i>=2 ^ 63)=false:=aCE (by lia)
  rw[e1,e2,aHZ]) (by rw[h1];simpa using h2) ⟨.str ⟨#[c]⟩,H,I.tok _,⟨_,rfl⟩,q⟩) hs
def rIx(K:Frag):R2:=λx y H Q=>rIxL K x y H Q\/rIxT K x y H Q\/rIxS x y H Q
end
theorem aQm:IxR X (rIx X.K):=aJs.or (aPf.or aOb)
theorem aBt(its:List Value)(n j:Nat)(u:Value):Obj.mapSeq (·.setIfInBounds j u) {cls:=.type "list",data:=.seq its.toArray n}={cls:=.type "list",data:=.seq (its.set j u).toArray n}:=by
 simp[Obj.mapSeq]
theorem Inv.lst{pins:List (Addr×Obj)}{σ:St}{H:Hp}{s:Shared}{p:Addr}{xs:List V}(I:Inv X pins σ H s)(h:H p=some (.lst xs)) :
  ∃(its:List Value) (n:Nat),Vals xs its/\s.heap.get? p=some {cls:=.type "list",data:=.seq its.toArray n}/\xs.length<=sizeLine:=by
 obtain⟨z,its,n,r,e⟩:=I.hok p _ h
 exact⟨its,n,r,e,z⟩
variable{σ:St}
theorem Inv.lstUpd{p:Addr}{ys:List V}{its':List Value}{n':Nat}{f:Obj->Obj}(I:Inv X pins σ H s)(h:H p=some (.lst xs))
  (ho:s.heap.get? p=some {cls:=.type "list",data:=.seq its.toArray n})(hf:f {cls:=.type "list",data:=.seq its.toArray n}={cls:=.type "list",data:=.seq its'.toArray n'})(r:Vals ys its')(hz:ys.length<=sizeLine)(t:Nat) :
  Inv X pins σ (upd H p (.lst ys)) {s with heap:=s.heap.update p f,toks:=t}:=by
 have e:(s.heap.update p f).get? p=some {cls:=.type "list",data:=.seq its'.toArray n'}:=by
  rw[aBG f ho (by rw[hf] <;> rfl),hf]
 refine I.write (x:=p) (e:=p) (by rw[h];trivial) (.inl rfl) (λb u hb q=>(aCA _ _ (Ne.symm hb)).trans q) ⟨_,e⟩ ?_
 exact⟨hz,its',n',r,e⟩
noncomputable section
def rSetL:V->V->V->Hp->(Hp->Prop)->Prop:=λo i v H Q=>∃p xs k j,o=.ref p/\i=.int k/\H p=some (.lst xs)/\ixN xs.length k=some j/\Q (upd H p (.lst (xs.set j v)))
theorem aGi:PSet X rSetL:=by
 intro pins s σ H o i v ov iv u Q I ro ri rv h
 obtain⟨p,xs,k,j,rfl,rfl,hp,hj,q⟩:=h
 cases ro
 obtain⟨t,rfl⟩:=ri
 obtain⟨its,n,r,ho,hz⟩:=I.lst hp
 obtain⟨h1,h2,h3,h4⟩:=aCm hj
 have hl:=r.length
 have hn:=line63
 have I':Inv X pins σ (upd H p (.lst (xs.set j v))) {s with heap:=s.heap.update p (Obj.mapSeq (·.setIfInBounds j u))} :=
  I.lstUpd hp ho (aBt its n j u) (r.set rv j) (by rw[List.length_set];exact hz) s.toks
 by_cases h0:0<=k
 ·have hk:k.toNat=j:=by
   rw[aGL h0 h4]at h1
   exact Option.some.inj h1
  exact PySem.W.ki_setAt ho h0 (by lia) (by rw[aAH,<- hl];exact h4) (by rw[hk];exact⟨_,I',q⟩)
 ·have hk:(k+(its.toArray.size:Int)).toNat=j:=by
   rw[seqIndex_neg (by lia) h3]at h1
   rw[aAH,<- hl]
   exact Option.some.inj h1
  exact PySem.W.ki_setBack ho (by lia) (by rw[aAH,<- hl];exact h3) (by lia) (by rw[hk];exact⟨_,I',q⟩)
theorem wB(lo hi:Option Int)(n:Nat):(sliceBounds lo hi none n).1=((HT.sIx n 0 lo:Nat):Int)/\(sliceBounds lo hi none n).2.1=((HT.sIx n n hi:Nat):Int)/\(sliceBounds lo hi none n).2.2=1:=by
 refine⟨?_,?_,rfl⟩
 ·cases lo with
  |none=>simp[sliceBounds,HT.sIx]
  |some i =>
   simp only[sliceBounds,HT.sIx,Option.getD_none,show(1:Int) > 0 by decide,aEA]
   by_cases h:i < 0
   ·simp only[h,aEA] <;> lia
   ·simp only[h,aEF] <;> lia
 ·cases hi with
  |none=>simp[sliceBounds,HT.sIx]
  |some i =>
   simp only[sliceBounds,HT.sIx,Option.getD_none,show(1:Int) > 0 by decide,aEA]
   by_cases h:i < 0
   ·simp only[h,aEA] <;> lia
   ·simp only[h,aEF] <;> lia
theorem tM(its:List Value)(lo hi:Option Int):slicePick its.toArray lo hi none=((its.drop (HT.sIx its.length 0 lo)).take (HT.sIx its.length its.length hi - HT.sIx its.length 0 lo)).toArray:=by
 obtain⟨h1,h2,h3⟩:=wB lo hi its.toArray.size
 unfold slicePick
 rw[h1,h2,h3]
 simp only[sliceRange_one,pick_run,aAH] <;> rfl
def rSlL(K:Frag):V->Option Int->Option Int->Hp->VK->Prop:=λx lo hi H Q=>∃a xs,x=.ref a/\SqL K H a xs/\∀p,H p=none->Q (.ref p) (upd H p (.lst (cutV xs lo hi)))
theorem aLn:SlR X (rSlL X.K):=by
 intro pins s σ H x v vl vu lo hi sl Q I rx hs pl pu h
 obtain⟨a,xs,rfl,hx,q⟩:=h
 cases rx
 obtain⟨its,r,ht,hz⟩:=I.list hx
 have hlen:=r.length
 refine⟨"list",_,slot_list_getitem.lookup,ht.isList.typeIs,?_⟩
 refine wpAny_getItem_list_slice ht.isList hs pl pu .none (by simp) ?_ (by rw[aAH] <;> lia)
 rw[tM,<- hlen]
 refine⟨.ref s.heap.objs.size,_,I.laid (t':=s.toks) (o:=.lst (cutV xs lo hi)) (λb ob q=>aAB _ q) (aAG _) ?_,rfl,q _ (I.hok.fresh (aAG _))⟩
 exact⟨aAV (qA xs lo hi) hz,_,0,(r.drop (HT.sIx xs.length 0 lo)).take (HT.sIx xs.length xs.length hi - HT.sIx xs.length 0 lo),aAE _ rfl⟩
def flatV:V->Bool
 |.non=>true
 |.bl _=>true
 |.int _=>true
 |.str _=>true
 |_=>false
def eqV:V->V->Bool
 |.non,.non=>true
 |.bl a,.bl b=>a==b
 |.bl a,.int b=>(if a then 1 else 0)==b
 |.int a,.bl b=>a==(if b then 1 else 0)
 |.int a,.int b=>a==b
 |.str a,.str b=>a==b
 |_,_=>false
end
variable{x:V}{v:Value}
theorem aIb{y:V}(ry:RelV y u)(rx:RelV x v)(fy:flatV y=true)(fx:flatV x=true):SeqAt.EqAt A s u v (eqV y x):=by
 cases y with
 |non =>
  cases ry
  cases x with
  |non=>cases rx;exact SeqAt.EqAt.same _
  |bl b=>cases rx;exact SeqAt.EqAt.none_bool b
  |int b=>obtain⟨t,rfl⟩:=rx;exact SeqAt.EqAt.none_int b t
  |str b=>obtain⟨t,rfl⟩:=rx;exact SeqAt.EqAt.none_str b t
  |_=>exact absurd (show false=true from fx) aBA
 |bl a =>
  cases ry
  cases x with
  |non=>cases rx;exact SeqAt.EqAt.bool_none a
  |bl b=>cases rx;exact SeqAt.EqAt.bool_bool a b
  |int b=>obtain⟨t,rfl⟩:=rx;exact SeqAt.EqAt.bool_int a b t
  |str b=>obtain⟨t,rfl⟩:=rx;exact SeqAt.EqAt.bool_str a b t
  |_=>exact absurd (show false=true from fx) aBA
 |int a =>
  obtain⟨t',rfl⟩:=ry
  cases x with
  |non=>cases rx;exact SeqAt.EqAt.int_none a t'
  |bl b=>cases rx;exact SeqAt.EqAt.int_bool a t' b
  |int b=>obtain⟨t,rfl⟩:=rx;exact SeqAt.EqAt.int_int a t' b t
  |str b=>obtain⟨t,rfl⟩:=rx;exact SeqAt.EqAt.int_str a t' b t
  |_=>exact absurd (show false=true from fx) aBA
 |str a =>
  obtain⟨t',rfl⟩:=ry
  cases x with
  |non=>cases rx;exact SeqAt.EqAt.str_none a t'
  |bl b=>cases rx;exact SeqAt.EqAt.str_bool a t' b
  |int b=>obtain⟨t,rfl⟩:=rx;exact SeqAt.EqAt.str_int a t' b t
  |str b=>obtain⟨t,rfl⟩:=rx;exact SeqAt.EqAt.str_str a t' b t
  |_=>exact absurd (show false=true from fx) aBA
 |_=>exact absurd (show false=true from fy) aBA
noncomputable section
def eqU(x:V)(u:Value):Bool:=match u with
 |.none=>eqV .non x
 |.bool b=>eqV (.bl b) x
 |.int i _=>eqV (.int i) x
 |.str z _=>eqV (.str z) x
 |_=>false
theorem aGr{y:V}(r:RelV y u)(f:flatV y=true):eqU x u=eqV y x:=by
 cases y with
 |non=>cases r;rfl
 |bl b=>cases r;rfl
 |int i=>obtain⟨t,rfl⟩:=r;rfl
 |str z=>obtain⟨t,rfl⟩:=r;rfl
 |_=>exact absurd (show false=true from f) aBA
theorem oB{x:V}:∀{xs:List V} {us:List Value},Vals xs us->xs.all flatV=true->us.any (eqU x)=xs.any λy=>eqV y x
 |_,_,.nil,_=>rfl
 |y::xs,u::us,.cons r t,f=>by
  rw[aFU,aBN]at f
  rw[aEW,aEW,aGr r f.1,oB t f.2]
theorem jR{A:Around}{s:Shared}{x:V}{v:Value}(rx:RelV x v)(fx:flatV x=true):∀{xs:List V} {us:List Value},Vals xs us->xs.all flatV=true->∀u∈us,SeqAt.EqAt A s u v (eqU x u)
 |_,_,.nil,_=>λu hu=>by cases hu
 |y::xs,u::us,.cons r t,f=>λu' hu=>by
  rw[aFU,aBN]at f
  rcases aAY.mp hu with rfl|hu
  ·rw[aGr r f.1];exact aIb r rx f.1 fx
  ·exact jR rx fx t f.2 u' hu
def inV(x:V)(xs:List V):Bool:=xs.any λy=>eqV y x
def rIn(K:Frag)(neg:Bool):R2:=λx y H Q=>∃p xs,y=.ref p/\(SqL K H p xs\/SqT K H p xs)/\flatV x=true/\xs.all flatV=true/\Q (.bl (if neg then !inV x xs else inV x xs)) H
theorem aFk:OpR X (compareOp .In) (rIn X.K false):=by
 intro pins s σ H x y v u Q I rx ry h
 obtain⟨p,xs,rfl,hq,fx,fs,q⟩:=h
 cases ry
 rcases hq with hq|hq
 ·obtain⟨its,r,pl,hz⟩:=I.list hq
  refine SeqAt.in_listAt (eqU x) pl.isList (λw hw=>jR rx fx r fs w (by simpa using hw)) ⟨.bl _,H,I,rfl,?_⟩
  rw[show its.toArray.any (eqU x)=its.any (eqU x) by simp,oB r fs]
  exact q
 ·obtain⟨its,r,pl,hz⟩:=I.tuple hq
  refine SeqAt.in_tupleAt (eqU x) pl (λw hw=>jR rx fx r fs w (by simpa using hw)) ⟨.bl _,H,I,rfl,?_⟩
  rw[show its.toArray.any (eqU x)=its.any (eqU x) by simp,oB r fs]
  exact q
theorem wI:OpR X (compareOp .NotIn) (rIn X.K true):=by
 intro pins s σ H x y v u Q I rx ry h
 obtain⟨p,xs,rfl,hq,fx,fs,q⟩:=h
 cases ry
 rcases hq with hq|hq
 ·obtain⟨its,r,pl,hz⟩:=I.list hq
  refine SeqAt.notIn_listAt (eqU x) pl.isList (λw hw=>jR rx fx r fs w (by simpa using hw)) ⟨.bl _,H,I,rfl,?_⟩
  rw[show its.toArray.any (eqU x)=its.any (eqU x) by simp,oB r fs]
  exact q
 ·obtain⟨its,r,pl,hz⟩:=I.tuple hq
  refine SeqAt.notIn_tupleAt (eqU x) pl (λw hw=>jR rx fx r fs w (by simpa using hw)) ⟨.bl _,H,I,rfl,?_⟩
  rw[show its.toArray.any (eqU x)=its.any (eqU x) by simp,oB r fs]
  exact q
theorem wD:CallR X (.builtin "len") (λxs H Q=>∃p ys,xs=[.ref p]/\(SqL X.K H p ys\/SqT X.K H p ys)/\Q (.int ys.length) H):=by
 intro pins s σ H xs us Q I r h
 obtain⟨p,ys,rfl,hq,q⟩:=h
 obtain⟨u,rfl,rx⟩:=vals1 r
 cases rx
 have hn:=line63
 rcases hq with hq|hq
 ·obtain⟨its,r',pl,hz⟩:=I.list hq
  have hlen:=r'.length
  exact Calls.call_len_list pl.isList (by simp only[aAH] <;> lia) ⟨.int ys.length,H,I.tok _,⟨s.toks+1,by rw[aAH,hlen]⟩,q⟩
 ·obtain⟨its,r',pl,hz⟩:=I.tuple hq
  have hlen:=r'.length
  exact len_tuple pl (by simp only[aAH] <;> lia) ⟨.int ys.length,H,I.tok _,⟨s.toks+1,by rw[aAH,hlen]⟩,q⟩
theorem xC:CallR X (.builtin "len") (λxs H Q=>∃z,xs=[.str z]/\z.length<=sizeLine/\Q (.int z.length) H):=by
 intro pins s σ H xs us Q I r h
 obtain⟨z,rfl,hz,q⟩:=h
 obtain⟨u,rfl,t,rfl⟩:=vals1 r
 have hn:=line63
 exact len_str (by lia) ⟨.int z.length,H,I.tok _,⟨_,rfl⟩,q⟩
theorem CallR.or{f:Value}{r r':List V->Hp->VK->Prop}(h:CallR X f r)(h':CallR X f r'):CallR X f (λxs H Q=>r xs H Q\/r' xs H Q):=by
 intro pins s σ H xs us Q I rs q
 rcases q with q|q
 ·exact h pins s σ H xs us Q I rs q
 ·exact h' pins s σ H xs us Q I rs q
theorem tI:CallR X (.type "tuple") (λxs H Q=>∃p ys,xs=[.ref p]/\((SqL X.K H p ys/\∀l,H l=none->Q (.ref l) (upd H l (.tup ys)))\/(SqT X.K H p ys/\Q (.ref p) H))):=by
 intro pins s σ H xs us Q I r h
 obtain⟨p,ys,rfl,h⟩:=h
 obtain⟨u,rfl,rx⟩:=vals1 r
 cases rx
 rcases h with⟨hq,q⟩|⟨hq,q⟩
 ·obtain⟨its,r',pl,hz⟩:=I.list hq
  have hlen:=r'.length
  refine call_tuple_list pl.isList (λh' kp=>?_) (by simp only[aAH] <;> lia)
  have I1:Inv X pins σ H {s with heap:=h'}:=I.kept (t':=s.toks) kp
  have I2:Inv X pins σ (upd H h'.objs.size (.tup ys)) {s with heap:=h'.push {cls:=.type "tuple",data:=.seq its.toArray}} :=
   I1.laid (t':=s.toks) (λb o e=>aAB _ e) (aAG _) (show ObjOk X.prog X.w _ _ _ (.tup ys)from⟨hz,its,r',IsTup.new _ _⟩)
  exact⟨.ref h'.objs.size,_,I2,rfl,q _ (I1.hok.fresh (aAG _))⟩
 ·obtain⟨its,r',pl,hz⟩:=I.tuple hq
  exact call_tuple_same pl ⟨.ref p,H,I,rfl,q⟩
def tyV(K:Frag)(T:String)(x:V)(H:Hp):Prop:=match x with
 |.str _=>T="str"
 |.int _=>T="int"
 |.ref p=>(T="list"/\∃xs,SqL K H p xs)\/(T="tuple"/\∃o,K.lookup p=some o/\o.cls=.type "tuple"/\o.dict=none) \/
   (T="dict"/\((∃kvs,H p=some (.dK kvs))\/∃kvs,H p=some (.dT kvs)))\/(T="set"/\∃S n,H p=some (.set S n))
 |_=>False
end
variable{T:String}
theorem aIu(I:Inv X pins σ H s)(r:RelV x v)(ty:tyV X.K T x H) :
  s.TypeIs v T/\∀a,v=.ref a->∃ob,s.heap.get? a=some ob/\ob.dict=none:=by
 cases x with
 |str z =>
  obtain⟨t,rfl⟩:=r
  cases(show T="str"from ty)
  exact⟨typeIs_str s z t,λ_ e=>nomatch e⟩
 |int i =>
  obtain⟨t,rfl⟩:=r
  cases(show T="int"from ty)
  exact⟨aII s i t,λ_ e=>nomatch e⟩
 |ref p =>
  cases r
  rcases ty with⟨rfl,xs,hq⟩|⟨rfl,o,hk,hc,hd⟩|⟨rfl,hk⟩|⟨rfl,S,n,hk⟩
  ·obtain⟨its,_,pl,_⟩:=I.list hq
   refine⟨pl.isList.typeIs,λa e=>?_⟩
   cases e
   obtain⟨o,n,e,c,hd,_⟩:=pl
   exact⟨o,e,hd⟩
  ·refine⟨⟨o,I.kIn p o hk,hc⟩,λa e=>?_⟩
   cases e
   exact⟨o,I.kIn _ o hk,hd⟩
  ·have z:∃o,s.heap.get? p=some o/\o.ExactDict:=by
    rcases hk with⟨kvs,hk⟩|⟨kvs,hk⟩
    ·obtain⟨_,_,_,_,o,_,_,e,ex,_⟩:=I.hok p _ hk
     exact⟨o,e,ex⟩
    ·obtain⟨_,_,_,_,o,_,_,e,ex,_⟩:=I.hok p _ hk
     exact⟨o,e,ex⟩
   obtain⟨o,e,ex⟩:=z
   refine⟨⟨o,e,ex.1⟩,λa e2=>?_⟩
   cases e2
   exact⟨o,e,ex.2.1⟩
  ·obtain⟨o,_,_,_,e,ex,_⟩:=I.hok p _ hk
   refine⟨⟨o,e,ex.1⟩,λa e2=>?_⟩
   cases e2
   exact⟨o,e,ex.2.1⟩
 |_=>exact False.elim ty
noncomputable def tBM0(K:Frag)(T:String)(r:V->List V->Hp->VK->Prop)(to:TE):TE:=λσ H Q=>to σ H λx H1=>tyV K T x H1/\r x [] H1 Q
noncomputable def tBM(K:Frag)(T:String)(r:V->List V->Hp->VK->Prop)(to:TE)(t:TA):TE:=λσ H Q=>to σ H λx H1=>tyV K T x H1/\t σ H1 λxs H2=>r x xs H2 Q
variable{o:Expr}{es:List Expr}{to:TE}{t:TA}{id:String}{r:V->List V->Hp->VK->Prop}
theorem aPx(pa:PlainAttrs T)(slot:Slot T name id)(hty:typeOf (.builtin id)=pure (.type "method_descriptor"))(hm:MtR X id r)(ho:PE X o to)
  (hbase:attributeBase o name X.env (eval o X.env)=eval o X.env:=by rfl)(hline:(apos.endLine==cpos.line)=true:=by rfl):PE X (.Call (.Attribute o name apos) [] [] cpos) (tBM0 X.K T r to):=by
 intro pins s σ H Q I h
 refine wpAny_Call_method0_late hbase hline (thn (ho pins s σ H _ I h) λv s1 ⟨x,H1,I1,r1,ty,q1⟩=>?_)
 obtain⟨h1,h2⟩:=aIu I1 r1 ty
 exact⟨T,id,pa,slot,hty,h1,h2,aGK rfl (PySem.evalArgs_none (hm pins s1 σ H1 x [] v [] Q I1 r1 .nil q1))⟩
theorem aHv(pa:PlainAttrs T)(slot:Slot T name id)(hty:typeOf (.builtin id)=pure (.type "method_descriptor"))(hm:MtR X id r)(ho:PE X o to)(ha:PA X (e::es) t)
  (hbase:attributeBase o name X.env (eval o X.env)=eval o X.env:=by rfl)
  (hfew:((backTo cpos (starEach (e::es) X.env)).all (λx=>!x.1)&&(backToKw cpos (keywordEach [] X.env)).all (λx=>x.1.isSome)
   && decide ((e::es).length+([]:List Keyword).length+(if([]:List Keyword).isEmpty then 0 else 1) < 30))=true:=by rfl)
  (hline:(apos.endLine==cpos.line)=true:=by rfl)(hs:starEach (e::es) X.env=(false,eval e X.env)::starEach es X.env:=by rfl)(hplain:(backTo cpos (starEach es X.env)).any (·.1)=false:=by rfl) :
  PE X (.Call (.Attribute o name apos) (e::es) [] cpos) (tBM X.K T r to t):=by
 intro pins s σ H Q I h
 refine wpAny_Call_method_late hbase hfew hline rfl (thn (ho pins s σ H _ I h) λv s1 ⟨x,H1,I1,r1,ty,q1⟩=>?_)
 obtain⟨h1,h2⟩:=aIu I1 r1 ty
 refine⟨T,id,pa,slot,hty,h1,h2,?_⟩
 have hA:=ha cpos pins s1 σ H1 _ I1 q1
 rw[hs]at hA ⊢
 refine aGK (by show(false || (backTo cpos (starEach es X.env)).any (·.1))=false;rw[hplain] <;> rfl) (Calls.evalArgs_plain ?_)
 exact thn hA λus s2 ⟨vs,H2,I2,r2,q2⟩=>hm pins s2 σ H2 x vs v us Q I2 r1 r2 q2
end
noncomputable def MtM(X:Cx)(id:String)(r:V->List V->Hp->VK->Prop):Prop :=
 ∀(pins:List (Addr×Obj)) (s:Shared) (σ:St) (H:Hp) (x:V) (xs:List V) (v:Value) (us:List Value) (Q:VK),Inv X pins σ H s->RelV x v->Vals xs us->r x xs H Q ->
  wpAny (model X.prog X.w) X.A (call (.builtin id) (v::us)) (EP X pins σ Q) X.xe s
theorem Vals.one:∀{x:V} {us:List Value},Vals [x] us->∃u,us=[u]/\RelV x u
 |_,_,.cons r .nil=>⟨_,rfl,r⟩
theorem Vals.two:∀{x y:V} {us:List Value},Vals [x,y] us->∃u v,us=[u,v]/\RelV x u/\RelV y v
 |_,_,_,.cons r (.cons q .nil)=>⟨_,_,rfl,r,q⟩
theorem Vals.zero:∀{us:List Value},Vals [] us->us=[]
 |_,.nil=>rfl
theorem Vals.dropLast{xs:List V}{us:List Value}(h:Vals xs us):Vals xs.dropLast us.dropLast:=by
 induction h with
 |nil=>exact .nil
 |cons r t ih =>
  cases t with
  |nil=>exact .nil
  |cons q t'=>exact .cons r ih
theorem Vals.eraseIdx:∀{xs:List V} {us:List Value} (i:Nat),Vals xs us->Vals (xs.eraseIdx i) (us.eraseIdx i)
 |_,_,_,.nil=>.nil
 |_,_,0,.cons _ t=>t
 |_,_,i+1,.cons r t=>.cons r (Vals.eraseIdx i t)
theorem Vals.reverse{xs:List V}{us:List Value}(h:Vals xs us):Vals xs.reverse us.reverse:=by
 induction h with
 |nil=>exact .nil
 |cons r t ih=>rw[List.reverse_cons,List.reverse_cons];exact Vals.append ih (.cons r .nil)
theorem Vals.rep{xs:List V}{us:List Value}(h:Vals xs us):∀k:Nat,Vals (List.replicate k xs).flatten (List.replicate k us).flatten
 |0=>.nil
 |k+1=>by
  rw[aDQ,aDQ,aGI,aGI]
  exact Vals.append h (Vals.rep h k)
theorem aAh(l:List α):l.eraseIdx (l.length - 1)=l.dropLast:=by
 induction l with
 |nil=>rfl
 |cons a r ih =>
  cases r with
  |nil=>rfl
  |cons b r =>
   have e:(a::b::r).length - 1=((b::r).length - 1)+1:=by
    have h1:(a::b::r).length=r.length+2:=rfl
    have h2:(b::r).length=r.length+1:=rfl
    lia
   rw[e,List.eraseIdx_cons_succ,ih]
   all_goals rfl
theorem vJ{α:Type}:∀(l:List α) (i:Nat),(l.eraseIdx i).length<=l.length
 |[],_=>aAG _
 |_::_,0=>aEL _
 |_::r,i+1=>Nat.succ_le_succ (vJ r i)
theorem oQ(its:List Value):∀(k:Nat) (acc:List Value),
  List.foldl (λx1 x2=>x1++x2) acc.toArray (List.replicate k its.toArray)=(acc++(List.replicate k its).flatten).toArray
 |0,acc=>by simp
 |k+1,acc=>by
  have e:acc.toArray++its.toArray=(acc++its).toArray:=by simp
  have e2:(acc++its)++(List.replicate k its).flatten=acc++(List.replicate (k+1) its).flatten:=by
   rw[aDQ,aGI,aEJ]
  rw[<- e2,<- oQ its k (acc++its),<- e,aDQ,List.foldl_cons]
variable{σ:St}{b:Addr}{ys zs:List V}
theorem Inv.lset{its':List Value}{f:Array Value->Array Value}(I:Inv X pins σ H s)(hH:H l=some (.lst xs))
  (e:s.heap.get? l=some {cls:=.type "list",data:=.seq its.toArray n})(hf:f its.toArray=its'.toArray)(hv:Vals ys its')(hz:ys.length<=sizeLine) :
  Inv X pins σ (upd H l (.lst ys)) {s with heap:=s.heap.update l (Obj.mapSeq f),toks:=t'}:=by
 have q:=PySem.IsL.update e f
 rw[hf]at q
 refine I.write (x:=l) (e:=l) (by rw[hH];exact trivial) (.inl rfl) (λb' u hb hu=>(aCA s.heap (Obj.mapSeq f) (Ne.symm hb)).trans hu) ⟨_,q⟩ ?_
 exact⟨hz,its',_,hv,q⟩
theorem Inv.lnew(I:Inv X pins σ H s)(hv:Vals ys its)(hz:ys.length<=sizeLine) :
  Inv X pins σ (upd H s.heap.objs.size (.lst ys)) {s with heap:=s.heap.push {cls:=.type "list",data:=.seq its.toArray},toks:=t'} :=
 I.laid (λ_ _ q=>aAB _ q) (aAG _) ⟨hz,its,0,hv,aAE _ rfl⟩
theorem Inv.fresh(I:Inv X pins σ H s):H s.heap.objs.size=none:=I.hok.fresh (aAG _)
theorem Inv.lstM(I:Inv X pins σ H s)(hH:H l=some (.lst xs)):xs.length<=sizeLine/\∃(its:List Value) (n:Nat),Vals xs its/\xs.length=its.length/\s.heap.get? l=some {cls:=.type "list",data:=.seq its.toArray n}:=by
 obtain⟨z,its,n,r,e⟩:=I.hok l _ hH
 exact⟨z,its,n,r,r.length,e⟩
theorem notLongL(h:n<=sizeLine):Builtin.List.listTooLong n=false:=by
 unfold Builtin.List.listTooLong
 exact aCE (by lia)
noncomputable section
def rAppend:V->List V->Hp->VK->Prop:=λx vs H Q=>∃l xs y,x=.ref l/\vs=[y]/\H l=some (.lst xs)/\xs.length < sizeLine/\Q .non (upd H l (.lst (xs++[y])))
theorem tY:MtM X "list.append" rAppend:=by
 intro pins s σ H x vs v us Q I rx rv h
 obtain⟨l,xs,y,rfl,rfl,hH,hz,q⟩:=h
 cases rx
 obtain⟨u,rfl,ru⟩:=rv.one
 obtain⟨z,its,n,r,hl,e⟩:=I.lstM hH
 refine aDM F.slot_list_append ⟨_,e,rfl⟩ F.entry_list_append (F.args_list_append_2 _ _) (PySem.list_append l its.toArray n u (by rw[aAH];lia)) ⟨e,?_⟩
 refine⟨.non,_,I.lset (its':=its++[u]) hH e (by simp) (r.append (.cons ru .nil)) ?_,rfl,q⟩
 rw[aAP,List.length_singleton]
 lia
def rExtend:V->List V->Hp->VK->Prop:=λx vs H Q=>∃l b xs zs,x=.ref l/\vs=[.ref b]/\H l=some (.lst xs)/\H b=some (.lst zs)/\xs.length+zs.length<=sizeLine/\Q .non (upd H l (.lst (xs++zs)))
theorem aFp:MtM X "list.extend" rExtend:=by
 intro pins s σ H x vs v us Q I rx rv h
 obtain⟨l,b,xs,zs,rfl,rfl,hH,hB,hz,q⟩:=h
 cases rx
 obtain⟨u,rfl,ru⟩:=rv.one
 cases ru
 obtain⟨z,its,n,r,hl,e⟩:=I.lstM hH
 obtain⟨z2,its2,n2,r2,hl2,e2⟩:=I.lstM hB
 have hsz:its.toArray.size+its2.toArray.size<=sizeLine:=by rw[aAH,aAH];lia
 have hlong:¬(!its.toArray.isEmpty&&Builtin.List.listTooLong (its.toArray.size+its2.toArray.size))=true:=by
  rw[notLongL hsz,aFG]
  exact aBA
 refine aDM F.slot_list_extend ⟨_,e,rfl⟩ F.entry_list_extend (F.args_list_extend_2 _ _)
  (AutoSeq1.list_extend_list_list_0 l its.toArray n b its2.toArray n2 hlong (by rw[aAH];lia) (by lia)) ⟨e,e2,?_⟩
 refine⟨.non,_,I.lset (its':=its++its2) hH e (by simp) (r.append r2) ?_,rfl,q⟩
 rw[aAP]
 lia
def rPop:V->List V->Hp->VK->Prop:=λx vs H Q=>∃l xs y,x=.ref l/\vs=[]/\H l=some (.lst xs)/\xs[xs.length - 1]?=some y/\Q y (upd H l (.lst xs.dropLast))
theorem aOc:MtM X "list.pop" rPop:=by
 intro pins s σ H x vs v us Q I rx rv h
 obtain⟨l,xs,y,rfl,rfl,hH,hy,q⟩:=h
 cases rx
 have hus:=rv.zero
 subst hus
 obtain⟨z,its,n,r,hl,e⟩:=I.lstM hH
 obtain⟨u,hu,ru⟩:=r.get hy
 have hy':its.toArray[its.toArray.size - 1]?=some u:=by
  show its.toArray[its.length - 1]?=some u
  rw[<- aFI,<- hl]
  exact hu
 refine aDM F.slot_list_pop ⟨_,e,rfl⟩ F.entry_list_pop (F.args_list_pop_1 _) (MeetsSeq.list_pop_last l its.toArray n u hy' (by rw[aAH];lia)) ⟨e,?_⟩
 refine⟨y,_,I.lset (its':=its.dropLast) hH e ?_ r.dropLast ?_,ru,q⟩
 ·show its.toArray.eraseIdxIfInBounds (its.toArray.size - 1)=its.dropLast.toArray
  rw[aAH,aGW,aAh]
 ·rw[List.length_dropLast]
  lia
def rPopAt:V->List V->Hp->VK->Prop:=λx vs H Q=>∃l xs i k y,x=.ref l/\vs=[.int i]/\H l=some (.lst xs) /\ -(2 ^ 63)<=i/\i < 2 ^ 63/\seqIndex? i xs.length=some k/\xs[k]?=some y/\Q y (upd H l (.lst (xs.eraseIdx k)))
theorem aHk:MtM X "list.pop" rPopAt:=by
 intro pins s σ H x vs v us Q I rx rv h
 obtain⟨l,xs,i,k,y,rfl,rfl,hH,h1,h2,hk,hy,q⟩:=h
 cases rx
 obtain⟨u,rfl,ru⟩:=rv.one
 obtain⟨t,rfl⟩:=ru
 obtain⟨z,its,n,r,hl,e⟩:=I.lstM hH
 obtain⟨w,hw,rw'⟩:=r.get hy
 refine aDM F.slot_list_pop ⟨_,e,rfl⟩ F.entry_list_pop (F.args_list_pop_2 _ _)
  (MeetsSeq.list_pop_at l its.toArray n i t k w (fitsIndex_both h1 h2) (by rw[aAH,<- hl];exact hk) (by rw[<- aFI];exact hw) (by rw[aAH];lia)) ⟨e,?_⟩
 refine⟨y,_,I.lset (its':=its.eraseIdx k) hH e ?_ (r.eraseIdx k) ?_,rw',q⟩
 ·show its.toArray.eraseIdxIfInBounds k=(its.eraseIdx k).toArray
  rw[aGW]
 ·have:=vJ xs k
  lia
def rCat:R2:=λx y H Q=>∃l b xs zs,x=.ref l/\y=.ref b/\H l=some (.lst xs)/\H b=some (.lst zs)/\xs.length+zs.length<=sizeLine/\∀p,H p=none->Q (.ref p) (upd H p (.lst (xs++zs)))
theorem aOk:OpR X (binaryOp .Add) rCat:=by
 intro pins s σ H x y v u Q I rx ry h
 obtain⟨l,b,xs,zs,rfl,rfl,hH,hB,hz,q⟩:=h
 cases rx
 cases ry
 obtain⟨z,its,n,r,hl,e⟩:=I.lstM hH
 obtain⟨z2,its2,n2,r2,hl2,e2⟩:=I.lstM hB
 refine PySem.P.add_list e e2 ?_ (by rw[aAH,aAH];lia)
 have ea:its.toArray++its2.toArray=(its++its2).toArray:=by simp
 rw[ea]
 exact⟨.ref _,_,I.lnew (t':=s.toks) (r.append r2) (by rw[aAP];lia),rfl,q _ I.fresh⟩
def rRep:R2:=λx y H Q=>∃l k xs,x=.ref l/\y=.int k/\H l=some (.lst xs) /\ -(2 ^ 63)<=k/\k < 2 ^ 63/\xs.length*k.toNat<=sizeLine /\
 ∀p,H p=none->Q (.ref p) (upd H p (.lst (List.replicate k.toNat xs).flatten))
end
theorem wM(xs:List α)(k:Nat):(List.replicate k xs).flatten.length=k*xs.length:=by
 induction k with
 |zero=>simp
 |succ k ih=>rw[aDQ,aGI,aAP,ih,Nat.succ_mul,Nat.add_comm]
theorem aQk:OpR X (binaryOp .Mult) rRep:=by
 intro pins s σ H x y v u Q I rx ry h
 obtain⟨l,k,xs,rfl,rfl,hH,h1,h2,hz,q⟩:=h
 cases rx
 obtain⟨t,rfl⟩:=ry
 obtain⟨z,its,n,r,hl,e⟩:=I.lstM hH
 have hlen:its.toArray.size*k.toNat<=sizeLine:=by rw[aAH,<- hl];exact hz
 have hcap:¬its.toArray.size*k.toNat > (2 ^ 63 - 1) / 8:=by
  have:(sizeLine:Nat)<=(2 ^ 63 - 1) / 8:=by decide
  lia
 have hfit:¬(!Builtin.List.listFitsIndex k)=true:=by
  rw[fitsIndex_both h1 h2]
  exact aBA
 have hlong:¬Builtin.List.listTooLong (its.toArray.size*k.toNat)=true:=by
  rw[notLongL hlen]
  exact aBA
 have hnew:List.foldl (λx1 x2=>x1++x2) #[] (List.replicate (if its.toArray.isEmpty=true then 0 else k.toNat) its.toArray)=(List.replicate k.toNat its).flatten.toArray:=by
  have f0:∀m:Nat,List.foldl (λx1 x2=>x1++x2) #[] (List.replicate m its.toArray)=(List.replicate m its).flatten.toArray:=λm=>by
   have:=oQ its m []
   rw[aHF]at this
   exact this
  rw[f0]
  cases its with
  |nil=>simp
  |cons a r'=>rw[aAL (by simp)]
 refine wpAny_binaryOp_repeat_ref (T:="list") (U:="int") (by decide) ⟨_,e,rfl⟩ (λs'=>aII s' k t) noFill_list_mul F.fills_int_mul aHD repeat_list F.slot_int_index.lookup
  (aDM aHD (aII s k t) F.entry_int_rmul (F.args_int_rmul_2 _ _) (int___rmul___int_list k t l its.toArray n)
   ⟨e,rfl,⟨_,e,rfl⟩,aDM F.slot_list_mul ⟨_,e,rfl⟩ F.entry_list_mul (F.args_list_mul_2 _ _) (AutoListH.list___mul___list_int_3 l its.toArray n k t hfit hcap hlong) ⟨e,?_⟩⟩)
 rw[hnew]
 exact⟨.ref _,_,I.lnew (t':=s.toks) (r.rep k.toNat) (by rw[wM,Nat.mul_comm];exact hz),rfl,q _ I.fresh⟩
variable{prog:Program}{E:Value->Shared->Prop}
end L2
end
namespace Att
open PySem PySem.W PySem.Calls PyProof.Rows
variable{P:Params}
theorem qH :∀(ns:List Int) (vs:List Value),WellAll P h vs (ns.map WData.int)->IntsAre vs ns:=by
 intro ns
 induction ns with
 |nil =>
  intro vs w
  rw[aDW]at w
  cases w
  exact .nil
 |cons n ns ih =>
  intro vs w
  rw[aBP]at w
  cases w with
  |cons a b =>
   cases a
   exact .cons _ _ (ih _ b)
variable{l:OpenLaw}{n:Nat}
theorem aFe(hn:l.most=some n){args:List WData}{vals:List Value}
  (hpre:l.row.toRowW.claim.pre args=true)(hwl:WellAll P h vals args) :
  ∃a vs ns,vals=[Value.ref a]/\args=[WData.list (ns.map WData.int)]/\h.get? a=some {cls:=.type "list",data:=.seq vs.toArray}/\IntsAre vs ns/\ns.length<=n:=by
 have hsh:WShape.hasAll [] args [.list .int]=true:=(pre_splitW hpre).1
 have hc:l.pre.holds [] {args:=args}=true:=(pre_splitW hpre).2
 obtain⟨d,r,rfl,h1,h2⟩:=hasAllW_cons hsh
 obtain rfl:=hasAllW_nil h2
 obtain⟨xs,rfl,h3⟩:=hasW_list h1
 obtain⟨ns,rfl⟩:=items_int h3
 have hlen:ns.length<=n:=by
  unfold OpenLaw.pre at hc
  have h4:(WTm.not (.lt (.lit (.int (n:Int))) (.len (.arg 0)))).holds [] {args:=[.list (ns.map .int)]}=true:=by
   have h4:=(holds_andW hc).1
   rw[hn]at h4
   exact h4
  have h5:=condW_of h4 (w_not (w_lt w_lit (w_len_list (w_arg rfl))))
  rw[aAK]at h5
  refine Nat.le_of_not_lt λq=>?_
  have q':(n:Int) < ((ns.length:Nat):Int):=by lia
  first
   |(rw[decide_eq_true q']at h5;exact absurd h5 (by decide))
   |(simp at h5;lia)
 cases hwl with
 |cons w1 w2 =>
  cases w2
  cases w1 with
  |list ho hall=>exact⟨_,_,ns,rfl,rfl,ho,qH ns _ hall,hlen⟩
theorem aEq(l:OpenLaw)(args:List WData):l.row.toRowW.claim.post args (.bool true) args=true :=
 postW_of (r:=l.row.toRowW) (X:=(true==true))
  (show WShape.has [] (.bool true) .bool=true by first|rfl|decide|simp[WShape.has,WShape.arms,WShape.armsAll])
  (show(WTm.eq .res (.lit (.bool true))).value [] {args:=args,res:=some (.bool true),after:=args}=some (.bool (true==true))from w_eq_bool (w_res rfl) w_lit) rfl
theorem attach_call{q:Program}{d:DefRec}
  (hn:l.most=some n)(hdf:d.params.defaults=[])
  (call:∀(w:World) (s₀ s₁:Shared) (mg mb:Str->Option Value) (fa:Addr) (o:Obj) (pm cd doc:Value) (a:Addr) (vs:List Value) (ns:List Int),
   Ground q loose [] XP w s₀ mg mb s₁.heap->YP w s₁.heap ->
   s₁.heap.get? fa=some o->o.data=.func (docDef d.name d.params d.body d.scope pm cd doc)->s₁.heap.CodeRec cd d.name->mg d.name=some (.ref fa) ->
   s₁.heap.get? a=some {cls:=.type "list",data:=.seq vs.toArray}->IntsAre vs ns->ns.length<=n->s₁.gens=#[] ->
   codeAny (model l.prog w) callerA (.call (.ref fa) ⟨[.ref a],[]⟩) (λr s'=>r=.ok (.ret (.bool true))/\OldK s₁.heap s'.heap/\s'.os=s₁.os/\AllBare s'.gens) s₁) :
  WalkO q loose XP YP l.row.toRowW d [] (λf vs=>PySem.call f vs):=by
 intro w s₀ s₁ mg mb G Y fa o pm cd doc dV kV ho hd hcd hD hmg hg args vals as hpre hlay hrd hwl hlo
 obtain rfl:dV=.none:=Dflts.none hD hdf
 obtain rfl:kV=.none:=Dflts.noKw hD
 obtain⟨a,vs,ns,rfl,rfl,hobj,hints,hlen⟩:=aFe hn hpre hwl
 refine enter_call (aHO (call w s₀ s₁ mg mb fa o pm cd doc a vs ns G Y ho (fd_plain hd) hcd hmg hobj hints hlen hg) λr s' hq=>?_)
 obtain⟨rfl,h2,h3,h4⟩:=hq
 exact⟨.inl ⟨.bool true,.bool true,[],rfl,λ_=>rfl,.bool true,aEq l _,λ_=>⟨List.Pairwise.nil,λ_ hm=>(nomatch hm)⟩⟩,h2,h3,h4⟩
variable{prog:Program}{E:Value->Shared->Prop}{K:Frag}
noncomputable def ledger(h:Heap)(L d:Addr):List (Addr×Obj):=(List.range h.objs.size).filterMap λa=>if a=L\/a=d then none else(h.get? a).map λo=>(a,o)
end Att
section
open PySem PySem.Spec PyProof.Rows
namespace L2
theorem kN:∀{vs:List Value} {ns:List Int},IntsAre vs ns->Vals (ns.map V.int) vs
 |_,_,.nil=>.nil
 |_,_,.cons n t h=>.cons ⟨t,rfl⟩ (kN h)
noncomputable def Only(H:Hp):Prop:=∀b,H b=none\/∃o xs,H b=some (.frz o (.lst xs))
variable{a:Addr}
theorem aGv{mb:Str->Option Value}{k:Nat}{fa:Addr}{x:Str}{s₁:Shared}{vs:List Value}
  (KX:K.In s₁.heap)(hns:s₁.heap.Ns mainGlobals mg)(hb:s₁.heap.Ns builtinsNs mb)(hbb:∀x:Str,x≠"__name__"->mb x=bootBuiltins x)(hlim:s₁.heap.NoLimit)(hg:s₁.gens=#[])
  (ha:s₁.heap.get? a=some {cls:=.type "list",data:=.seq vs.toArray})(hi:IntsAre vs ns)(hl:ns.length<=sizeLine)(hr:Room k callerA)
  (F:∀base:Heap,K.In base->base.Ns mainGlobals mg->FnOk P w K mg base CX k fa fd [x] sp)(hbind:∀(s:Shared) (u:Value),BindsTo s fd ⟨[u],[]⟩ [(x,u)])
  (hsp:∀H:Hp,Only H->SqL K H a (ns.map V.int)->sp [.ref a] H (λv _=>v=.bl true) λ_ _ _=>False)
  (hCX:∀H e s',CX [] H s₁ (λ_ _ _=>False) e s'->False) :
  codeAny (model P w) callerA (.call (.ref fa) ⟨[.ref a],[]⟩) (λr s'=>r=.ok (.ret (.bool true))/\OldK s₁.heap s'.heap/\s'.os=s₁.os/\AllBare s'.gens) s₁:=by
 have rv:=kN hi
 have lenV:=hi.length
 have core:∀H:Hp,Only H->SqL K H a (ns.map V.int)->HOk P w H s₁.heap->(∀b,H b≠none->b=a)->(H a≠none->K.lookup a=none) ->
   codeAny (model P w) callerA (.call (.ref fa) ⟨[.ref a],[]⟩) (λr s'=>r=.ok (.ret (.bool true))/\OldK s₁.heap s'.heap/\s'.os=s₁.os/\AllBare s'.gens) s₁:=by
  intro H hO hS hok hA hK
  have base_of:∀{b:Addr} {o:Obj},s₁.heap.get? b=some o->H b=none->(hidT s₁.heap H).get? b=some o:=λe n=>aIc e n
  have noA:∀{b:Addr} {o:Obj} {es:Array DictEntry} {ep:Nat},s₁.heap.get? b=some o->o.data=.dict es ep->H b=none:=λ{b o es ep} e d=>by
   cases q:H b with
   |none=>rfl
   |some u =>
    have e':b=a:=hA b (by rw[q];simp)
    subst e'
    rw[ha]at e;cases e
    have d':Data.seq vs.toArray _=Data.dict es ep:=d
    cases d'
  have nsK:∀{b:Addr} {m:Str->Option Value},s₁.heap.Ns b m->(hidT s₁.heap H).Ns b m:=λ{b m} ⟨o,es,ep,e,d,r⟩=>⟨o,es,ep,base_of e (noA e d),d,r⟩
  have hKb:K.In (hidT s₁.heap H):=λb o e=>base_of (KX b o e) (by
   cases q:H b with
   |none=>rfl
   |some u =>
    have e':b=a:=hA b (by rw[q];simp)
    subst e'
    rw[hK (by rw[q];simp)]at e;cases e)
  have hM:Mod K mg (hidT s₁.heap H):=⟨hKb,nsK hns,⟨mb,nsK hb,hbb⟩,let⟨mc,h1,h2⟩:=hlim;⟨mc,nsK h1,h2⟩⟩
  have e0:Env0 P w K mg (hidT s₁.heap H) callerA [] s₁ H:=⟨rfl,hM,λb o e=>aKk e,Nat.le_of_eq (aFj _ _),trivial,λb hb=>absurd (show b∈([]:List Addr)from hb) (by simp),hok,.of_eq hg⟩
  refine aHO ((F _ hKb (nsK hns)).run callerA [] s₁ H ⟨[.ref a],[]⟩ [.ref a] [.ref a] _ _ hr e0 (hbind s₁ (.ref a)) (.cons rfl .nil) (hsp H hO hS)) λr s' h=>?_
  cases r with
  |error e=>exact(hCX H e s' h).elim
  |ok fl =>
   cases fl with
   |next=>exact False.elim h
   |brk=>exact False.elim h
   |cont=>exact False.elim h
   |ret u =>
    obtain⟨v,H',os,bare,un,hok',r',q⟩:=h
    have q':v=.bl true:=q
    subst q'
    obtain rfl:u=Value.bool true:=r'
    refine⟨rfl,OldK.of_keep λb o e=>?_,os,bare⟩
    cases q:H b with
    |none=>exact un.keep b o e q (by intro z;exact absurd (show b∈([]:List Addr)from z) (by simp)) (by simp)
    |some u =>
     rcases hO b with z|⟨ob,xs,z⟩
     ·rw[q]at z;cases z
     ·have z2:=un.frzs b ob _ z
      obtain⟨e1,_⟩:=hok b _ z
      obtain⟨e2,_⟩:=hok' b _ z2
      rw[e]at e1;cases e1
      exact e2
 cases hk:K.lookup a with
 |some o =>
  have e:=KX a o hk
  rw[ha]at e
  cases e
  refine core (λ_=>none) (λ_=>.inl rfl) (.inr ⟨_,vs.toArray,_,hk,rfl,rfl,rfl,by rw[aAH,lenV];exact hl,by simpa using rv⟩) (λb u z=>by have z':(none:Option HO)=some u:=z;cases z') (λb z=>absurd rfl z) λz=>absurd rfl z
 |none =>
  refine core (λb=>if b=a then some (.frz {cls:=.type "list",data:=.seq vs.toArray} (.lst (ns.map V.int)))else none) (λb=>?_) (.inl (.inr ⟨{cls:=.type "list",data:=.seq vs.toArray},aAI rfl⟩)) (λb u z=>?_) (λb z=>?_) λ_=>hk
  ·by_cases hb:b=a
   ·exact .inr ⟨_,_,aAI hb⟩
   ·exact .inl (aAL hb)
  ·by_cases hb:b=a
   ·have z':=(aAI hb).symm.trans z
    cases z'
    subst hb
    exact⟨ha,by rw[aAK];exact hl,vs,_,rv,ha⟩
   ·have z':=(aAL hb).symm.trans z
    cases z'
  ·by_cases hb:b=a
   ·exact hb
   ·exact absurd (aAL hb) z
noncomputable section
abbrev KOf(_:K.In h):Frag:=K
theorem aCq{l:PySem.W.OpenLaw}{n k:Nat}{q:Program}{d:DefRec}{K:Params->Frag}{CX:World->CXT}{sp:World->Sp}
  (hn:l.most=some n)(hn2:n<=sizeLine)(hdf:d.params.defaults=[])(hr:Room k callerA)
  (hY:∀(w:World) (h:Heap),YP w h->(K w.params).In h)
  (F:∀(w:World) (mg:Str->Option Value) (fa:Addr) (h:Heap),(K w.params).In h->h.Ns mainGlobals mg->mg d.name=some (.ref fa) ->
   ∃fd:FuncData,(∀(s:Shared) (u:Value),BindsTo s fd ⟨[u],[]⟩ [(x,u)]) /\
    ∀base:Heap,(K w.params).In base->base.Ns mainGlobals mg->FnOk l.prog w (K w.params) mg base (CX w) k fa fd [x] (sp w))
  (hsp:∀(w:World) (H:Hp) (a:Addr) (ns:List Int),ns.length<=n->Only H->SqL (K w.params) H a (ns.map V.int)->sp w [.ref a] H (λv _=>v=.bl true) λ_ _ _=>False)
  (hCX:∀(w:World) (H:Hp) (s:Shared) (e:Value) (s':Shared),CX w [] H s (λ_ _ _=>False) e s'->False) :
  PySem.W.WalkO q loose XP YP l.row.toRowW d [] (λf vs=>PySem.call f vs):=by
 refine Att.attach_call hn hdf λw s₀ s₁ mg mb fa o pm cd doc a vs ns G Y ho hd hcd hmg hobj hints hlen hg=>?_
 have KX:=hY w _ Y
 obtain⟨fd,hb,hF⟩:=F w mg fa _ KX G.T.g hmg
 exact aGv KX G.T.g G.T.b G.T.builtins G.T.nolimit hg hobj hints (aAV hlen hn2) hr hF hb (λH hO hS=>hsp w H a ns hlen hO hS) λH e s'=>hCX w H s₁ e s'
def inClass(s:Stmt)(j:Nat):Stmt:=match s with
 |.ClassDef _ _ _ body _ _ _ _ _ _ _=>body.getD j (.Pass ⟨0,0,0,0⟩)
 |_=>.Pass ⟨0,0,0,0⟩
def defArgs(s:Stmt):Arguments:=match s with
 |.FunctionDef _ a _ _ _ _ _ _ _ _=>a
 |_=>{posonlyargs:=[],args:=[],vararg:=none,kwonlyargs:=[],kw_defaults:=[],kwarg:=none,defaults:=[]}
def defBody(s:Stmt):List Stmt:=match s with
 |.FunctionDef _ _ b _ _ _ _ _ _ _=>b
 |_=>[]
def defScope(s:Stmt):Scope:=match s with
 |.FunctionDef _ _ _ _ _ _ sc _ _ _=>sc
 |_=>{kind:=.function,names:=[],isGenerator:=false,isCoroutine:=false}
abbrev CX0:CXT:=λ_ _ _ _ _ _=>False
abbrev E0:XK:=λ_ _ _=>False
end
theorem pass0:Passes CX0 X E0:=λ_ _ _ _ _ _ _ h=>h.elim
structure Fun(K:Frag)(x qual:Str)(st:Stmt)(f:Addr)(fd:FuncData):Prop where
 ex:∃(oc:Value) (od:Option Addr) (kV doc pm:Value) (an:Option Addr) (cdv ct:Value) (osl:Array (Option Value)),
  fd=fnOf x qual (defArgs st) (defBody st) (defScope st) .none kV doc pm an cdv ct/\K.lookup f=some ⟨oc,od,.func fd,osl⟩/\codeIn K cdv qual=true
 kp:keepIn K (.ref f)=true
variable{K:Frag}{f:Addr}
theorem Fun.ok{k:Nat}(F:Fun K x qual st f fd)(S:FnScope N ps (defScope st))(len:∀vs H Q E,sp vs H Q E->vs.length=ps.length)
  (hbody:∀(cdv:Value) (A:Around) (outer:List Env) (s:Shared) (H:Hp) (vs:List V) (Q:VK) (E:XK),Room k (A.deeper (envOfC qual (defScope st) s.heap.objs.size f cdv))->sp vs H Q E ->
   ∃t,PSs (cxOf CX0 P w K mg base N qual (defScope st) f cdv A outer s H E).nox (defBody st) t/\t {nx:=λ_ H'=>Q .non H',rt:=Q} (start N vs) H):FnOk P w K mg base CX0 (k+1) f fd ps sp:=by
 obtain⟨oc,od,kV,doc,pm,an,cdv,ct,osl,rfl,lk,hcd⟩:=F.ex
 refine aCl lk hcd S len λA outer s H vs Q E hr hsp=>?_
 obtain⟨t,h,q⟩:=hbody cdv A outer s H vs Q E hr hsp
 exact⟨t,h.nox,q⟩
theorem Fun.binds(F:Fun K x qual st f fd)
  (h:∀(kV doc pm:Value) (an:Option Addr) (cdv ct:Value) (us:List Value),us.length=ps.length->bindArgs (fnOf x qual (defArgs st) (defBody st) (defScope st) .none kV doc pm an cdv ct) ⟨us,[]⟩=pure (ps.zip us)):Binds K fd ps []:=by
 obtain⟨oc,od,kV,doc,pm,an,cdv,ct,osl,rfl,lk,hcd⟩:=F.ex
 exact .all (h kV doc pm an cdv ct)
theorem aBi{kV:Value}(l:K.lookup f=some ⟨oc,od,.func (fnOf x qual (defArgs st) (defBody st) (defScope st) .none kV doc pm an cdv ct),osl⟩)
  (c:codeIn K cdv qual=true)(k:keepIn K (.ref f)=true):Fun K x qual st f (fnOf x qual (defArgs st) (defBody st) (defScope st) .none kV doc pm an cdv ct):=⟨⟨oc,od,kV,doc,pm,an,cdv,ct,osl,rfl,l,c⟩,k⟩
theorem pv(i:Nat)(hN:X.N[i]?=some x:=by rfl)(hv:Vis X.env.scope x:=by first|exact Or.inl rfl|exact Or.inr (Or.inl rfl)|exact Or.inr (Or.inr rfl))(hd:(x==("__debug__":Str))=false:=by decide)
  (hcd:(x==("__classdict__":Str))=false:=by decide):PE X (.Name x pos) (tVar i):=aIw hN hv hd hcd
noncomputable def Same(H H':Hp):Prop:=∀b o,H b=some o->H' b=some o
theorem Same.trans(a:Same H H1)(b:Same H1 H2):Same H H2:=λc o h=>b c o (a c o h)
theorem Same.free(e:Same H H')(h:H' l=Option.none):H l=Option.none:=by
 cases q:H l with
 |none=>rfl
 |some o =>
  rw[e l o q]at h
  cases h
theorem Same.seq{xs:List V}(e:Same H H')(h:SqL K H a xs):SqL K H' a xs:=by
 rcases h with(h|⟨o,h⟩)|h
 ·exact .inl (.inl (e _ _ h))
 ·exact .inl (.inr ⟨o,e _ _ h⟩)
 ·exact .inr h
end L2
set_option maxHeartbeats 4000000
namespace L2
variable{tg:Expr}
noncomputable def CDivW(_ j:Int):Prop:=0 < j/\j < 18446744073709551616
variable{n:Nat}
theorem aFd(h:n < 18446744073709551616):n.log2 < 9000:=by
 by_cases h0:n=0
 ·subst h0;decide
 ·have:n.log2 < 64:=(Nat.log2_lt h0).2 (by simpa using h)
  lia
theorem aHy:OpR X (binaryOp .FloorDiv) (rI CDivW λi j=>.int (i / j)):=opI λi j _ _ _ _ _ hc q=>by
 have h1:(0:Int) < j:=hc.1
 have h2:j < 18446744073709551616:=hc.2
 exact floordiv_int (by lia) (by rw[Int.fdiv_eq_ediv_of_nonneg i (by lia)];exact q) (.inl (PyProof.noPylong_of_log2 (aFd (by lia))))
noncomputable def rIsT(K:Frag):List V->Hp->VK->Prop:=λxs H Q=>∃x T t b,xs=[x,.ty T]/\TyOf K H x t/\PySem.W.kitOne K t (.type T)=some b/\Q (.bl b) H
theorem yC:CallR X (.builtin "isinstance") (rIsT X.K):=by
 intro pins s σ H xs us Q I r h
 obtain⟨x,T,t,b,e,ty,ek,q⟩:=h
 subst e
 obtain⟨u,w',rfl,r1,r2⟩:=vals2 r
 obtain rfl:w'=Value.type T:=r2
 exact aEi I r1 ty ek λtk=>⟨.bl b,H,I.tok tk,rfl,q⟩
noncomputable def Itv(K:Frag)(a:Addr)(xs:List V):It :=
 ⟨λi H=>SqL K H a xs/\i < xs.length,λi H x H'=>H'=H/\xs[xs.length - 1 - i]?=some x,λi _=>xs.length<=i⟩
theorem aIl(a it:Addr)(xs:List V):Turn P w K tg (Itv K a xs) [it] it (λi h=>i<=xs.length/\h.IsRevIter it a ((xs.length:Int) - 1 - (i:Int)))where
 mem:=by simp
 obj:=λi h st b hb=>by
  have e:b=it:=by simpa using hb
  subst e
  obtain⟨o,e,c,d⟩:=st.2
  exact⟨o,e,λv z=>by rw[d]at z;cases z⟩
 keep:=λi h h' st k=>⟨st.1,st.2.at λo e=>k it (by simp) o e⟩
 item:=by
  intro X hP hw hK hc i pins s σ H E I hf st hg
  subst hP hw hK
  obtain⟨hq,hx⟩:=hg
  obtain⟨its,rv,p,hz⟩:=I.list hq
  have hlt:xs.length - 1 - i < xs.length:=by lia
  have hx':xs[xs.length - 1 - i]?=some xs[xs.length - 1 - i]:=aAR hlt
  obtain⟨u,hu,ru⟩:=rv.get hx'
  obtain⟨f0,f1,f2,f3,f4,f5⟩:=hf it (by simp)
  have st2:=st.2
  have e1:(xs.length:Int) - 1 - (i:Int)=((xs.length - 1 - i:Nat):Int):=by lia
  rw[e1]at st2
  refine wpAny_pyNext_rev_item st2 p.isList (x:=u) (by simpa using hu) λh' st' sb=>?_
  have I1:Inv X pins σ H {s with heap:=h'}:=I.turned (t':=s.toks) (λb o hb e=>(sb.2 b hb).trans e) f0 f1 f3 f4 f5
  have e2:((xs.length - 1 - i:Nat):Int) - 1=(xs.length:Int) - 1 - ((i+1:Nat):Int):=by lia
  rw[e2]at st'
  obtain⟨o,e,c,d⟩:=id st'
  exact⟨u,rfl,tZ (s:={s with heap:=h'}) e c d (by decide) ⟨_,H,I1,ru,⟨rfl,hx'⟩,⟨hx,st'⟩,λb hb=>(hf b hb).1⟩⟩
 done:=by
  intro X hP hw hK hc i pins s σ H E I hf st hg
  subst hP hw hK
  have hx:xs.length<=i:=hg
  obtain⟨f0,f1,f2,f3,f4,f5⟩:=hf it (by simp)
  have st2:=st.2
  have h1:=st.1
  have e1:(xs.length:Int) - 1 - (i:Int) = -1:=by lia
  rw[e1]at st2
  exact wpAny_pyNext_rev_end (I.ok.hd (hc.resolve_right id)) st2 λh' eb=>⟨rfl,I.turned (t':=s.toks) (λb o hb e=>eb b o hb e) f0 f1 f3 f4 f5⟩
 self:=λ_ _ _ _ _ st h=>wpAny_pyIter_revIter st.2 h
theorem rA:bootBuiltins "reversed"=some (.type "reversed"):=by first|rfl|kernel_rfl
inductive IntsE:List Expr->List Int->Prop where
 |nil:IntsE [] []
 |cons {i:Int} {j:Nat} {p:Pos} {r:List Expr} {ns:List Int} (h:IntsE r ns):IntsE (.Constant (.int i) j p::r) (i::ns)
theorem aMi{es:List Expr}(h:IntsE es ns):PA X es (λ_ H Q=>Q (ns.map V.int) H):=by
 induction h with
 |nil=>exact cH
 |cons h ih=>exact bM aHq ih
structure JE(X:Cx)(e:Expr)(t:TE):Prop where
 h:PE X e t
structure JS(X:Cx)(st:Stmt)(t:TS):Prop where
 h:PS X st t
structure JSs(X:Cx)(sts:List Stmt)(t:TS):Prop where
 h:PSs X sts t
theorem jK{env:Env}{f:Str×NameKind->List (Str×Addr)->Sem (ForInStep (List (Str×Addr)))}
  (hf:∀y acc c,y.2=NameKind.free->env.cells.lookup y.1=some c->f y acc=pure (.yield ((y.1,c)::acc)))(hf':∀y acc,y.2≠NameKind.free->f y acc=pure (.yield acc)) :
  ∀(names:List (Str×NameKind)) (acc:List (Str×Addr)),(∀y∈names,y.2=NameKind.free->∃c,env.cells.lookup y.1=some c)->(∀x c,acc.lookup x=some c->env.cells.lookup x=some c) ->
   ∃cl,forIn names acc f=(pure cl:Sem (List (Str×Addr)))/\(∀x c,cl.lookup x=some c->env.cells.lookup x=some c)/\(∀y∈names,y.2=NameKind.free->∃c,cl.lookup y.1=some c)/\(∀x c,acc.lookup x=some c->∃c',cl.lookup x=some c')
 |[],acc,_,ha=>⟨acc,rfl,ha,(λ_ h=>nomatch h),λx c h=>⟨c,h⟩⟩
 |y::r,acc,hn,ha=>by
  by_cases hy:y.2=NameKind.free
  ·obtain⟨c,hc⟩:=hn y aDX hy
   have ha':∀x d,((y.1,c)::acc).lookup x=some d->env.cells.lookup x=some d:=λx d h=>by
    rw[aCZ]at h
    cases e:x==y.1 with
    |true =>
     rw[e]at h
     have:x=y.1:=by simpa using e
     subst this
     cases h
     exact hc
    |false=>rw[e]at h;exact ha x d h
   obtain⟨cl,h1,h2,h3,h4⟩:=jK hf hf' r _ (λz hz=>hn z (aCH _ hz)) ha'
   have hyl:∃c',cl.lookup y.1=some c':=h4 y.1 c (by rw[aCZ];simp)
   refine⟨cl,?_,h2,λz hz hzf=>?_,λx d hx=>?_⟩
   ·rw[aFA,hf y acc c hy hc]
    exact h1
   ·rcases aAY.mp hz with rfl|hz
    ·exact hyl
    ·exact h3 z hz hzf
   ·by_cases e:x=y.1
    ·rw[e];exact hyl
    ·have e':(x==y.1)=false:=by simpa using e
     exact h4 x d (by rw[aCZ,e'];exact hx)
  ·obtain⟨cl,h1,h2,h3,h4⟩:=jK hf hf' r acc (λz hz=>hn z (aCH _ hz)) ha
   refine⟨cl,?_,h2,λz hz hzf=>?_,h4⟩
   ·rw[aFA,hf' y acc hy]
    exact h1
   ·rcases aAY.mp hz with rfl|hz
    ·exact absurd hzf hy
    ·exact h3 z hz hzf
theorem lM{scope:Scope}(h:∀y∈scope.names,y.2=NameKind.free->∃c,env.cells.lookup y.1=some c) :
  ∃cl,closureFor scope env=pure cl/\(∀x c,cl.lookup x=some c->env.cells.lookup x=some c)/\(∀y∈scope.names,y.2=NameKind.free->∃c,cl.lookup y.1=some c):=by
 obtain⟨cl,h1,h2,h3,_⟩:=jK (env:=env) (f:=λx cs=>match x with
   |(name,kind)=>if(kind==NameKind.free)=true then do
     let a <- cellOf env name
     pure (ForInStep.yield ((name,a)::cs))
     else pure (ForInStep.yield cs)) (λy acc c hy hc=>by
    obtain⟨n,k⟩:=y
    simp only at hy hc
    subst hy
    simp only[beq_self_eq_true,aEA,cellOf,hc]
    rfl) (λy acc hy=>by
    obtain⟨n,k⟩:=y
    simp only at hy
    have:(k==NameKind.free)=false:=by simpa using hy
    simp only[this,aCP,aEF]) scope.names [] h (λ_ _ z=>by simp at z)
 refine⟨cl,?_,h2,h3⟩
 show(forIn scope.names [] _ >>= λcs=>pure cs)=pure cl
 exact(congrArg (· >>= λcs=>(pure cs:Sem (List (Str×Addr)))) h1).trans rfl
theorem fG{env:Env}(hk:env.scope.kind=.function):∀{names:List (Str×NameKind)} {x:Str},names.lookup x=some .free->env.kindOf x=some .cell ->
  (names.map λ(n,k)=>if(k==NameKind.free&&env.scope.kind==.function&&env.kindOf n==some .cell)then(n,NameKind.cell)else(n,k)).lookup x=some .cell
 |[],_,h,_=>by simp at h
 |(n,k)::r,x,h,hx=>by
  rw[aBP]
  rw[aCZ]at h
  cases e:x==n with
  |true =>
   rw[e]at h
   have:x=n:=by simpa using e
   subst this
   cases h
   simp[hk,hx,aCZ]
  |false =>
   rw[e]at h
   have ih:=fG hk h hx
   simp only
   split <;> (rw[aCZ,e];exact ih)
theorem eM{env:Env}:∀{names:List (Str×NameKind)} {x:Str} {k':NameKind},
  (names.map λ(n,k)=>if(k==NameKind.free&&env.scope.kind==.function&&env.kindOf n==some .cell)then(n,NameKind.cell)else(n,k)).lookup x=some k'->k'=.cell\/k'=.free ->
  ∃k,(x,k)∈names/\(k=.cell\/k=.free)
 |[],_,_,h,_=>by simp at h
 |(n,k)::r,x,k',h,hk=>by
  rw[aBP]at h
  simp only at h
  cases e:x==n with
  |true =>
   have:x=n:=by simpa using e
   subst this
   refine⟨k,aDX,?_⟩
   split at h
   ·rename_i hc
    simp only[aBN]at hc
    exact .inr (by simpa using hc.1.1)
   ·rw[aCZ,e]at h
    cases h
    exact hk
  |false =>
   have h':(r.map λ(n,k)=>if(k==NameKind.free&&env.scope.kind==.function&&env.kindOf n==some .cell)then(n,NameKind.cell)else(n,k)).lookup x=some k':=by
    split at h <;> (rw[aCZ,e]at h;exact h)
   obtain⟨k1,h1,h2⟩:=eM h' hk
   exact⟨k1,aCH _ h1,h2⟩
noncomputable def compCx(X:Cx)(Nc:List Str)(scope:Scope)(cl:List (Str×Addr))(C:Addr)(fp:List Addr)(pins:List (Addr×Obj))(s₂:Shared)(H₂:Hp):Cx where
 prog:=X.prog
 w:=X.w
 K:=X.K
 mg:=X.mg
 base:=X.base
 A:=X.A
 N:=Nc
 s₀:=s₂
 H₀:=H₂
 env:=compEnvC scope cl C X.env
 outer:=X.stack
 stack:=X.stack
 ex:=fp
 fn:=λ_=>false
 calm:=X.calm
 pn:=X.pn++pins
 xe:=λ_ _=>False
structure CompOk(N0:List Str)(sc0:Scope)(scope:Scope)(Nc:List Str)(js:List (Option Nat)):Prop where
 kind:scope.kind=.function
 nocell:∀y∈scope.names,y.2≠.cell
 names:∀y∈scope.names,y.2=.local->scope.names.lookup y.1=some .local
 free:∀y∈scope.names,y.2=.free->sc0.names.lookup y.1=some .cell
 len:js.length=Nc.length
 slots:∀p∈Nc.zip js,∀j∈p.2,N0[j]?=some p.1/\scope.names.lookup p.1=some .free/\sc0.names.lookup p.1=some .cell
noncomputable def outσ(js:List (Option Nat))(σ:St):St:=js.map λo=>o.bind λj=>(σ[j]?).join
variable{σ:St}{H₂:Hp}{scope:Scope}{js:List (Option Nat)}
theorem aKm(I:Inv X pins σ H₂ s₂)(hc:cP)(T:CompOk X.N X.env.scope scope Nc js)(hcl:∀x c,cl.lookup x=some c->X.env.cells.lookup x=some c)(hfr:∀y∈scope.names,y.2=.free->∃c,cl.lookup y.1=some c)
  (hC:s₂.heap.objs.size<=C)(hf:∀b∈fp,FpOk X pins H₂ b)(ho:∀b∈fp,∃o,s₂.heap.get? b=some o):(compCx X Nc scope cl C fp pins s₂ H₂).Ok where
 mod:=I.ok.mod
 kind:=T.kind
 glob:=I.ok.glob
 blt:=I.ok.blt
 above:=hC
 inj:=λx y c h1 h2=>I.ok.inj x y c (hcl x c h1) (hcl y c h2)
 has:=λx hx=>by
  have hx':∃k',(relabel scope X.env).names.lookup x=some k'/\(k'=.cell\/k'=.free):=by
   rcases hx with h|h
   ·exact⟨_,h,.inl rfl⟩
   ·exact⟨_,h,.inr rfl⟩
  obtain⟨k',h1,h2⟩:=hx'
  obtain⟨k,h3,h4⟩:=eM h1 h2
  rcases h4 with rfl|rfl
  ·exact absurd rfl (T.nocell _ h3)
  ·exact hfr _ h3 rfl
 cab:=λx c h=>by cases h
 hd:=λh=>I.ok.hd h
 frames:=I.ok.frames
 stk:=.inl rfl
 exf:=λb hb=>by
  obtain⟨f0,f1,f2,f3,f4,f5⟩:=hf b hb
  obtain⟨o,e⟩:=ho b hb
  exact⟨aAJ (aAO (aAF e) hC),λx c h=>f4 x c (hcl x c h)⟩
 bs:=λb o e=>I.bs b o e
 bsz:=aAV I.ok.bsz I.sz
 noex:=λb o e hb=>by
  obtain⟨f0,f1,f2,f3,f4,f5⟩:=hf b hb
  rcases f3 with z|z
  ·exact I.ok.noex b o e z
  ·exact absurd (aAO (aAF (I.ok.bs b o e).1) z) (aEG _)
 exfs:=λb hb z=>by
  obtain⟨f0,f1,f2,f3,f4,f5⟩:=hf b hb
  rcases aAY.mp (I.stkSub b z)with q|q
  ·exact f1 q
  ·exact f2 q
 funs:=I.stack
 frf:=I.stkFree
theorem aAe(I:Inv X pins σ H₂ s₂)(hc:cP)(T:CompOk X.N X.env.scope scope Nc js)(hcl:∀x c,cl.lookup x=some c->X.env.cells.lookup x=some c)(hfr:∀y∈scope.names,y.2=.free->∃c,cl.lookup y.1=some c)
  (hf:∀b∈fp,FpOk X pins H₂ b)(ho:∀b∈fp,∃o,s₂.heap.get? b=some o){h₁:Heap}{m:Str->Option Value}{tk:Nat}(hC:C=s₂.heap.objs.size+1)(old:∀b u,s₂.heap.get? b=some u->h₁.get? b=some u)
  (hns:h₁.Ns C m)(hD:h₁.get? s₂.heap.objs.size=some {cls:=.type "list",data:=.seq #[] n}) :
  Inv (compCx X Nc scope cl C fp pins s₂ H₂) [] (outσ js σ) (upd H₂ s₂.heap.objs.size (.lst [])) {s₂ with heap:=h₁,toks:=tk}:=by
 have lt:∀b o,s₂.heap.get? b=some o->b < s₂.heap.objs.size:=λb o e=>aAF e
 have hle:s₂.heap.objs.size<=C:=by rw[hC];exact aEL _
 have cellc:∀x c,cl.lookup x=some c->c < s₂.heap.objs.size:=λx c h=>by
  obtain⟨v,o,e,_⟩:=I.cell x c (hcl x c h)
  exact lt c o e
 have new:ObjOk X.prog X.w (upd H₂ s₂.heap.objs.size (.lst [])) h₁ s₂.heap.objs.size (.lst []):=⟨aDB _,[],n,.nil,hD⟩
 refine⟨aKm I hc T hcl hfr hle hf ho,rfl,I.bare,?_,⟨m,hns,λi x v e1 e2 e3=>?_⟩,λx c h=>?_,?_,λx c h=>?_,λp hp=>?_,I.hok.laid old (aAG _) new,?_,λz=>(I.hx z).imp id λ⟨e,C',d,q,y⟩=>⟨e,C',d,q,by rw[aX (bF y (I.hok.fresh (aAG _)))];exact y⟩⟩
 ·exact Un.laid old (aAG _) (I.hok.fresh (aAG _))
 ·have e1:Nc[i]?=some x:=e1
  have e2':∃j,js[i]?=some (some j)/\σ[j]?=some (some v):=by
   unfold outσ at e2
   rw[aBJ]at e2
   cases hj:js[i]? with
   |none=>rw[hj]at e2;cases e2
   |some o =>
    rw[hj]at e2
    cases o with
    |none=>cases e2
    |some j =>
     refine⟨j,rfl,?_⟩
     have e2:(σ[j]?).join=some v:=Option.some.inj e2
     cases hq:σ[j]? with
     |none=>rw[hq]at e2;cases e2
     |some o=>rw[hq]at e2;exact congrArg some e2
  obtain⟨j,hj,hv⟩:=e2'
  have hz:(x,some j)∈Nc.zip js:=by
   refine aBM (i:=i) ?_
   rw[List.getElem?_zip_eq_some]
   exact⟨e1,hj⟩
  obtain⟨t1,t2,t3⟩:=T.slots _ hz j rfl
  obtain⟨m0,hn0,hl0⟩:=I.loc
  obtain⟨u,ru,lk⟩:=hl0 j x v t1 hv (.inr (.inl t3))
  refine⟨u,ru,.inr ⟨.inl (fG I.ok.kind t2 t3),?_⟩⟩
  rcases lk with⟨k,_⟩|⟨_,c,hcc,hcell⟩
  ·have k:X.env.scope.names.lookup x=some .local:=k
   rw[t3]at k;cases k
  ·have hm:(x,NameKind.free)∈scope.names:=by
    have:∀(l:List (Str×NameKind)),l.lookup x=some .free->(x,NameKind.free)∈l:=λl=>by
     induction l with
     |nil=>intro h;simp at h
     |cons y r ih =>
      obtain⟨n',k'⟩:=y
      intro h
      rw[aCZ]at h
      cases e:x==n' with
      |true =>
       rw[e]at h
       have:x=n':=by simpa using e
       subst this
       cases h
       exact aDX
      |false=>rw[e]at h;exact aCH _ (ih h)
    exact this _ t2
   obtain⟨c',hc'⟩:=hfr _ hm rfl
   have hc'':=hcl x c' hc'
   rw[hcc]at hc''
   cases hc''
   obtain⟨o,ho,hd⟩:=hcell
   exact⟨c,hc',o,old c o ho,hd⟩
 ·obtain⟨v,o,e,d⟩:=I.cell x c (hcl x c h)
  exact⟨v,o,old c o e,d⟩
 ·show upd H₂ _ _ C=none
  rw[aX (by rw[hC];exact aBF (aFO _))]
  exact I.hok.fresh hle
 ·show upd H₂ _ _ c=none
  rw[aX (aAJ (cellc x c h))]
  exact I.freeC x c (hcl x c h)
 ·have hp:p∈X.pn++pins:=by
   have hp:p∈(X.pn++pins)++[]:=hp
   rwa[aEE]at hp
  obtain⟨e,n0,ne,nf,d⟩:=I.pin p hp
  have hlt:=lt _ _ e
  refine⟨old _ _ e,?_,?_,λz=>?_,d⟩
  ·show upd H₂ _ _ p.1=none
   rw[aX (aAJ hlt)];exact n0
  ·show p.1≠C
   exact aAJ (aAO hlt hle)
  ·rcases aAY.mp (I.stkSub _ z)with q|q
   ·exact ne q
   ·exact nf q
 ·show(outσ js σ).length=Nc.length
  unfold outσ
  rw[aAK]
  exact T.len
noncomputable section
def tTurns(J:It)(g:TG)(ti:TT)(te:TE)(D:Addr)(σ0:St)(H0:Hp)(Q:Hp->Prop):Prop :=
 ∃W:Nat->Nat->St->Hp->Prop,(∃m,W 0 m σ0 H0)/\∀i m σ' H',W i m σ' H' ->
  (J.stop i H'/\Q H')\/(J.go i H'/\∃Nn:St->Hp->Prop,(∀σ'' H'',Nn σ'' H''->∃m',m' < m/\W (i+1) m' σ'' H'') /\
   ∀x H'',J.yld i H' x H''->g x σ' H'' λσ2 H2=>ti σ2 H2 λok H3=>if ok=true then te σ2 H3 λy H4=>∃ys,H4 D=some (.lst ys)/\ys.length < sizeLine/\Nn σ2 (upd H4 D (.lst (ys++[y])))else Nn σ2 H3)
def tComp(js:List (Option Nat))(wi:TI)(g:TG)(ti:TT)(te:TE):TE:=λσ H Q=>wi σ H λJ H1=>∀D,H1 D=none->tTurns J g ti te D (outσ js σ) (upd H1 D (.lst [])) λH'=>Q (.ref D) H'
def PIf(X:Cx)(ifs:List Expr)(ti:TT):Prop :=
 ∀(pins:List (Addr×Obj)) (s:Shared) (σ:St) (H:Hp) (Q:Bool->Hp->Prop),Inv X pins σ H s->ti σ H Q ->
  wpAny (model X.prog X.w) X.A (forIn ifs true λc r=>if r=true then do let ok <- isTrue c X.env (eval c X.env);pure (ForInStep.yield ok)else pure (ForInStep.yield r)) (TP X pins σ Q) X.xe s
def tYes:TT:=λ_ H Q=>Q true H
end
theorem aJz:PIf X [] tYes:=λ_ _ _ H _ I h=>wpAny_tests_nil ⟨H,I,h⟩
theorem aJr{c:Expr}{tc:TT}(h:PT X c tc):PIf X [c] tc:=λpins s σ H Q I hq=>wpAny_tests_one (h pins s σ H Q I hq)
variable{E:Value->Shared->Prop}
theorem thnE{t:Sem α}{Q Q':α->Shared->Prop}{M:Model}{E0:Value->Shared->Prop}{s:Shared}(hE:∀e s,¬E0 e s)(h:wpAny M A t Q E0 s)(hQ:∀a s,Q a s->Q' a s):wpAny M A t Q' E s:=aCT h hQ λe s z=>(hE e s z).elim
variable{ifs:List Expr}{J:It}{g:TG}{ti:TT}{D:Addr}{σ0:St}{H0:Hp}{Q:Hp->Prop}
theorem aEj{q:Prop}{Y:Cx}{iter elt:Expr}{fp:List Addr}{R:Result->Shared->Prop}{s:Shared}
  (hc:Y.calm=true\/q)(hx:∀e s,¬Y.xe e s)(T:Turn Y.prog Y.w Y.K tg J fp it tn q)(hg:PG Y tg g)(hi:PIf Y ifs ti)(he:PE Y elt te)
  (stat:∀H',(∀b∈fp,H' b=none)->∀b∈fp,FpOk Y [] H' b)(I0:Inv Y [] σ0 H0 s)(st0:tn 0 s.heap)(fr0:∀b∈fp,H0 b=none)(h:tTurns J g ti te D σ0 H0 Q)
  (hR:∀σ' H' s',Inv Y [] σ' H' s'->Q H'->R (.ok .next) s') :
  codeAny (model Y.prog Y.w) Y.A (.compLoop (.ListComp elt [⟨tg,iter,ifs,0⟩] scope pos) 0 (.ref it) (.ref D) Y.env) R s:=by
 obtain⟨W,⟨m0,w0⟩,turn⟩:=h
 refine codeAny_loop rfl (λn s'=>∃i σ' H',Inv Y [] σ' H' s'/\tn i s'.heap/\(∀b∈fp,H' b=none)/\W i n σ' H') (λn s' hI=>?_) m0 ⟨0,σ0,H0,I0,st0,fr0,w0⟩
 show wpAny _ Y.A ((compTurn (.ListComp elt [⟨tg,iter,ifs,0⟩] scope pos) 0 (.ref it) (.ref D) Y.env).onRaise (λx=>do noteFrame x Y.env;theTreesLotGoes x)) _ _ s'
 refine wpAny_noted ?_
 rw[compTurn_list]
 obtain⟨i,σ3,H3,I3,st3,fr3,w3⟩:=hI
 refine aAA (aEX (aAA ?_))
 rcases turn i n σ3 H3 w3 with⟨stop,qn⟩|⟨go,Nn,hN,step⟩
 ·refine aCT (T.done Y rfl rfl rfl hc i [] s' σ3 H3 _ I3 (stat H3 fr3) st3 stop) (λr s4 ⟨hr,I4⟩=>?_) (λ_ _ h=>h)
  subst hr
  exact aAC (hR σ3 H3 s4 I4 qn)
 ·refine aCT (T.item Y rfl rfl rfl hc i [] s' σ3 H3 _ I3 (stat H3 fr3) st3 go) (λr s4 ⟨u,hr,h4⟩=>?_) (λ_ _ h=>h)
  subst hr
  refine aAA (aCT h4 (λ_ s5 ⟨x,H5,I5,r5,y5,st5,fr5⟩=>?_) λ_ _ h=>h)
  have I5':=I5.pinned (stat H5 fr5) (T.obj _ _ st5)
  refine aAA (thnE hx (hg _ s5 σ3 H5 x u _ I5' r5 (step x H5 y5)) λ_ s6 ⟨σ6,H6,I6,q6⟩=>?_)
  refine aAA (thnE hx (hi _ s6 σ6 H6 _ I6 q6) λok s7 ⟨H7,I7,q7⟩=>?_)
  have again:∀{σ7:St} {H7:Hp} {s7:Shared},Inv Y ([]++pinsAt fp s5.heap) σ7 H7 s7->Nn σ7 H7->∃m,m < n/\∃i σ' H',Inv Y [] σ' H' s7/\tn i s7.heap/\(∀b∈fp,H' b=none)/\W i m σ' H':=λ{σ7 H7 s7} I7 n7=>by
   obtain⟨m',hm,w7⟩:=hN σ7 H7 n7
   refine⟨m',hm,i+1,σ7,H7,I7.unpinned,T.keep _ _ _ st5 λb hb o e=>(I7.pin (b,o) (aBW _ (aBW _ (hX hb e)))).1,λb hb=>?_,w7⟩
   obtain⟨o,e,d⟩:=T.obj _ _ st5 b hb
   exact(I7.pin (b,o) (aBW _ (aBW _ (hX hb e)))).2.1
  cases ok with
  |false=>exact aAC ⟨rfl,again I7 q7⟩
  |true =>
   refine aAA (aAA (thnE hx (he _ s7 σ6 H7 _ I7 q7) λy s8 ⟨yv,H8,I8,r8,ys,hD,hz,n8⟩=>aAA ?_))
   refine thnE hx (tY _ s8 σ6 H8 (.ref D) [yv] (.ref D) [y] (λ_ H9=>Nn σ6 H9) I8 rfl (.cons r8 .nil) ⟨D,ys,yv,rfl,rfl,hD,hz,n8⟩) λ_ s9 ⟨_,H9,I9,_,q9⟩=>?_
   exact aAC (aAC ⟨rfl,again I9 q9⟩)
variable{iter elt:Expr}{js:List (Option Nat)}{wi:TI}
structure CompEnd(X:Cx)(pins:List (Addr×Obj))(σ:St)(H':Hp)(C:Addr)(s':Shared):Prop where
 inv:Inv X pins σ H' s'
 ns:∃m,s'.heap.Ns C m
 no:H' C=none
 ne:C≠X.env.locals
 ge:X.s₀.heap.objs.size<=C
 nc:∀x c,X.env.cells.lookup x=some c->c≠C
 np:∀p∈X.pn++pins,p.1≠C
theorem CompEnd.go{σ':St}{t:Shared}(e:CompEnd X pins σ H' C s')(I:Inv X pins σ' H' t)(hs:Heap.SameBut C t.heap h'):Inv X pins σ' H' {t with heap:=h'} :=
 I.turned (t':=t.toks) (it:=C) (λb o hb q=>(hs.2 b hb).trans q) e.no e.ne (.inr e.ge) e.nc e.np
theorem rD{pins:List (Addr×Obj)}{H₂:Hp}{s₂:Shared}{fp:List Addr}{cl:List (Str×Addr)}{RR:Value->Addr->Result->Shared->Prop}{Q':Addr->Hp->Prop}
  (hc:X.calm=true\/qq)(T:CompOk X.N X.env.scope scope Nc js)(hcl:∀x c,cl.lookup x=some c->X.env.cells.lookup x=some c)(hfr:∀y∈scope.names,y.2=.free->∃c,cl.lookup y.1=some c)
  (hg:∀cl C fp pins s₂ H₂,PG (compCx X Nc scope cl C fp pins s₂ H₂) tg g)(hi:∀cl C fp pins s₂ H₂,PIf (compCx X Nc scope cl C fp pins s₂ H₂) ifs ti)(he:∀cl C fp pins s₂ H₂,PE (compCx X Nc scope cl C fp pins s₂ H₂) elt te)
  (I2:Inv X pins σ H₂ s₂)(Tn:Turn X.prog X.w X.K tg J fp it tn qq)(st2:tn 0 s₂.heap)(f2:∀b∈fp,FpOk X pins H₂ b)
  (q:∀D,H₂ D=none->tTurns J g ti te D (outσ js σ) (upd H₂ D (.lst [])) (Q' D))
  (hRR:∀D C H' s',CompEnd X pins σ H' C s'->Q' D H'->RR (.ref D) C (.ok .next) s') :
  wpAny (model X.prog X.w) X.A (newList []) (λacc s₃=>wpAny (model X.prog X.w) X.A (newFunctionEnv scope X.env.globals cl [] X.env.qual none .none (some X.env)) (λcenv s₄ =>
   codeAny (model X.prog X.w) X.A (.compStart (.ListComp elt [⟨tg,iter,ifs,0⟩] scope pos) 0 (.ref it) acc {cenv with scope:=relabel scope X.env}) (RR acc cenv.locals) s₄) E s₃) E s₂:=by
 refine aBI (wpAny_newFunctionEnv T.nocell (by intro y hy;simp at hy) (λh₁ hns₁ hsb₁=>?_) T.kind)
 dsimp only at hns₁ hsb₁ ⊢
 generalize hH2:s₂.heap.push {cls:=.type "list",dict:=none,data:=.seq ([]:List Value).toArray}=Hx at hns₁ hsb₁ ⊢
 have hC:Hx.objs.size=s₂.heap.objs.size+1:=by rw[<- hH2,aAW]
 have below:∀b,b < s₂.heap.objs.size->b≠Hx.objs.size:=λb hb=>by rw[hC];exact aAJ (aEI hb)
 have old:∀b o,s₂.heap.get? b=some o->h₁.get? b=some o:=λb o e=>hsb₁.extBut b o (below b (aAF e)) (aAB _ (hH2▸aAB _ e))
 have hD:h₁.get? s₂.heap.objs.size=some {cls:=.type "list",data:=.seq #[]}:=hsb₁.extBut _ _ (by rw[hC];exact aAJ (aFO _)) (aAB _ (hH2▸aAE _ rfl))
 have ho:∀b∈fp,∃o,s₂.heap.get? b=some o:=λb hb=>let⟨o,e,_⟩:=Tn.obj _ _ st2 b hb;⟨o,e⟩
 have hDn:H₂ s₂.heap.objs.size=none:=I2.hok.fresh (aAG _)
 have hle:s₂.heap.objs.size<=Hx.objs.size:=by rw[hC];exact aEL _
 have st1:tn 0 h₁:=Tn.keep _ _ _ st2 λb _ o e=>old b o e
 have fr1:∀b∈fp,upd H₂ s₂.heap.objs.size (.lst []) b=none:=λb hb=>by
  obtain⟨o,e⟩:=ho b hb
  rw[aX (aAJ (aAF e))]
  exact(f2 b hb).1
 have stat:∀H',(∀b∈fp,H' b=none)->∀b∈fp,FpOk (compCx X Nc scope cl Hx.objs.size fp pins s₂ H₂) [] H' b:=λH' hn b hb=>by
  obtain⟨g0,g1,g2,g3,g4,g5⟩:=f2 b hb
  obtain⟨o,e⟩:=ho b hb
  refine⟨hn b hb,below b (aAF e),λz=>?_,.inl hb,λx c h=>g4 x c (hcl x c h),λp hp=>g5 p ?_⟩
  ·rcases aAY.mp (I2.stkSub b z)with y|y
   ·exact g1 y
   ·exact g2 y
  ·have hp:p∈(X.pn++pins)++[]:=hp
   rwa[aEE]at hp
 have loop:∀tk,codeAny (model X.prog X.w) X.A (.compLoop (.ListComp elt [⟨tg,iter,ifs,0⟩] scope pos) 0 (.ref it) (.ref s₂.heap.objs.size) (compEnvC scope cl Hx.objs.size X.env)) (RR (.ref s₂.heap.objs.size) Hx.objs.size) {s₂ with heap:=h₁,toks:=tk}:=λtk=>by
  refine aEj (Y:=compCx X Nc scope cl Hx.objs.size fp pins s₂ H₂) hc (λ_ _ z=>z) Tn (hg _ _ _ _ _ _) (hi _ _ _ _ _ _) (he _ _ _ _ _ _) stat
   (aAe (tk:=tk) I2 hc T hcl hfr f2 ho hC old hns₁ hD) st1 fr1 (q _ hDn) λσ' H' s' I' qQ=>?_
  obtain⟨m,hm,_⟩:=I'.loc
  refine hRR _ _ H' s' ⟨?_,⟨m,hm⟩,I'.free,aBF (aAO I2.lt hle),aAV I2.sz hle,λx c h=>?_,λp hp=>?_⟩ qQ
  ·exact I2.call' (ch:=fp) I'.os I'.base I'.hok I'.bare λb hb=>let⟨g0,g1,g2,g3,g4,g5⟩:=f2 b hb;⟨g3,g1,g4,g5⟩
  ·obtain⟨v,o,e,_⟩:=I2.cell x c h
   exact below c (aAF e)
  ·exact below _ (aAF (I2.pin p hp).1)
 exact codeAny_compStart_list (loop _) (Tn.self _ _ _ _ _ st1 (loop _))
theorem aGg(hc:X.calm=true\/qq)(T:CompOk X.N X.env.scope scope Nc js)(hit:PI X tg iter wi qq)
  (hg:∀cl C fp pins s₂ H₂,PG (compCx X Nc scope cl C fp pins s₂ H₂) tg g)(hi:∀cl C fp pins s₂ H₂,PIf (compCx X Nc scope cl C fp pins s₂ H₂) ifs ti)(he:∀cl C fp pins s₂ H₂,PE (compCx X Nc scope cl C fp pins s₂ H₂) elt te)
  (hs:∀x,foldedSetIterable iter X.env x=pure x:=by intro _;rfl):PE X (.ListComp elt [⟨tg,iter,ifs,0⟩] scope pos) (tComp js wi g ti te):=by
 intro pins s σ H Q I h
 rw[eval_ListComp]
 obtain⟨cl,hcl0,hcl,hfr⟩:=lM (scope:=scope) (env:=X.env) (λy hy hf=>I.ok.has y.1 (.inl (T.free y hy hf)))
 refine wpAny_comprehension_free (use:=none) rfl hs hcl0 T.kind T.names (thn (hit pins s σ H _ I h) λxv s1 h1=>thn h1 λitv s2 h2=>?_)
 obtain⟨it,fp,tn,J,H2,e,I2,Tn,st2,f2,q⟩:=h2
 subst e
 refine rD (RR:=λacc C=>compPost (model X.prog X.w) X.A X.xe none (EP X pins σ Q) acc C) hc T hcl hfr hg hi he I2 Tn st2 f2 q λD C H' s' ce qD=>?_
 obtain⟨m,hm⟩:=ce.ns
 exact⟨m,hm,λh' hs'=>⟨.ref D,H',ce.go ce.inv hs',rfl,qD⟩⟩
theorem aGo{spos:Pos}(hN:X.N.Nodup)(hyi:X.N[i]?=some y)(hy:X.env.scope.names.lookup y=some .local)(hc:X.calm=true\/qq)(T:CompOk X.N X.env.scope scope Nc js)(hit:PI X tg iter wi qq)
  (hg:∀cl C fp pins s₂ H₂,PG (compCx X Nc scope cl C fp pins s₂ H₂) tg g)(hi:∀cl C fp pins s₂ H₂,PIf (compCx X Nc scope cl C fp pins s₂ H₂) ifs ti)(he:∀cl C fp pins s₂ H₂,PE (compCx X Nc scope cl C fp pins s₂ H₂) elt te)
  (hsw:swapsWith (.ListComp elt [⟨tg,iter,ifs,0⟩] scope pos) (some (.Name y py)) spos.line X.env=pure true:=by rfl)
  (hs:∀x,foldedSetIterable iter X.env x=pure x:=by intro _;rfl):PS X (.Assign [.Name y py] (.ListComp elt [⟨tg,iter,ifs,0⟩] scope pos) spos) (tAsg (tComp js wi g ti te) (gName i)):=by
 intro pins s σ H D0 I h
 rw[exec_Assign_Name_used _ _ _ _ hsw]
 obtain⟨cl,hcl0,hcl,hfr⟩:=lM (scope:=scope) (env:=X.env) (λy hy hf=>I.ok.has y.1 (.inl (T.free y hy hf)))
 refine aAA (aEX (aAA ?_))
 show wpAny _ X.A (do let _ <- comprehension (.ListComp elt [⟨tg,iter,ifs,0⟩] scope pos) scope X.env _ (newList []) false (eval iter X.env) (some (assign (.Name y py) X.env))) _ _ s
 refine aAA (aCT (wpAny_comprehension_free (use:=some (assign (.Name y py) X.env)) (Q:=λ_ s'=>SP X pins D0 .next s') rfl hs hcl0 T.kind T.names
  (thn (hit pins s σ H _ I h) λxv s1 h1=>thn h1 λitv s2 h2=>?_)) (λ_ s' hq=>aAC (aAC hq)) λ_ _ e=>e)
 obtain⟨it,fp,tn,J,H2,e,I2,Tn,st2,f2,q⟩:=h2
 subst e
 refine rD (RR:=λacc C=>compPost (model X.prog X.w) X.A X.xe (some (assign (.Name y py) X.env)) (λ_ s'=>SP X pins D0 .next s') acc C) hc T hcl hfr hg hi he I2 Tn st2 f2 q λD C H' s' ce qD=>?_
 obtain⟨m,hm⟩:=ce.ns
 show wpAny _ _ (assign (.Name y py) X.env (.ref D)) _ _ _
 refine wpAny_assign_Name (vM (v:=.ref D) ce.inv hN hyi (.inl hy) rfl (λs'' I'' ⟨a,sb,ha⟩=>?_) (.inr hy))
 have hCa:C≠a:=by
  rcases ha with rfl|ha
  ·exact ce.ne
  ·exact λz=>ce.nc y a ha z.symm
 exact⟨m,hm.sameBut sb hCa,λh' hs'=>⟨_,H',ce.go I'' hs',qD⟩⟩
theorem aLd{spos:Pos}(hN:X.N.Nodup)(hyi:X.N[i]?=some y)(hy:X.env.scope.names.lookup y=some .local)(hc:X.calm=true)(T:CompOk X.N X.env.scope scope Nc js)(hit:PI X tg iter wi)
  (hg:∀cl C fp pins s₂ H₂,PG (compCx X Nc scope cl C fp pins s₂ H₂) tg g)(hi:∀cl C fp pins s₂ H₂,PIf (compCx X Nc scope cl C fp pins s₂ H₂) ifs ti)(he:∀cl C fp pins s₂ H₂,PE (compCx X Nc scope cl C fp pins s₂ H₂) elt te)
  (hsw:swapsWith (.ListComp elt [⟨tg,iter,ifs,0⟩] scope pos) (some (.Name y py)) spos.line X.env=pure true:=by rfl)
  (hs:∀x,foldedSetIterable iter X.env x=pure x:=by intro _;rfl):PS X (.Assign [.Name y py] (.ListComp elt [⟨tg,iter,ifs,0⟩] scope pos) spos) (tAsg (tComp js wi g ti te) (gName i)):=aGo hN hyi hy (.inl hc) T hit hg hi he hsw hs
noncomputable def compOkB(N0:List Str)(sc0 scope:Scope)(Nc:List Str)(js:List (Option Nat)):Bool :=
 decide (scope.kind=.function)&&scope.names.all (λy=>y.2 != .cell)&&scope.names.all (λy=>y.2 != .local || scope.names.lookup y.1==some .local)&&scope.names.all (λy=>y.2 != .free || sc0.names.lookup y.1==some .cell) &&
  (js.length==Nc.length)&&(Nc.zip js).all (λp=>match p.2 with|none=>true|some j=>N0[j]?==some p.1&&scope.names.lookup p.1==some .free&&sc0.names.lookup p.1==some .cell)
theorem CompOk.of{N0:List Str}{sc0:Scope}(h:compOkB N0 sc0 scope Nc js=true):CompOk N0 sc0 scope Nc js:=by
 unfold compOkB at h
 simp only[aBN,List.all_eq_true,aEY,aBH]at h
 obtain⟨⟨⟨⟨⟨h1,h2⟩,h3⟩,h4⟩,h5⟩,h6⟩:=h
 refine⟨h1,λy hy=>by simpa using h2 y hy,λy hy e=>?_,λy hy e=>?_,h5,λp hp j hj=>?_⟩
 ·have:=h3 y hy
  simpa[e]using this
 ·have:=h4 y hy
  simpa[e]using this
 ·have:=h6 p hp
  have hj:p.2=some j:=hj
  rw[hj]at this
  simpa[and_assoc]using this
section
variable{a b:Expr}{rest:List Expr}
theorem iS(r:Addr)(a b c:Int)(t u v:Tok)
  (hc0:¬(!(Builtin.Range.rangeFitsLong a&&Builtin.Range.rangeFitsLong b&&Builtin.Range.rangeFitsLong c&&Builtin.Range.rangeFitsLong (-c)&&Builtin.Range.rangeFitsLong (a - c)&&Builtin.Range.rangeFitsLong (Builtin.Range.rangeSize a b c)))=true) :
  Meets (Builtin.«range.__reversed__» ⟨[.ref r],[]⟩) (λ_ R s=>s.heap.get? r=some {cls:=.type "range",dict:=none,data:=.fields #[.int a t,.int b u,.int c v],slots:=#[]} /\
   R (.ok (.ret (Value.ref s.heap.objs.size))) {s with heap:=s.heap.push {cls:=Value.type "range_iterator",data:=Data.fields #[rawInt (a+(Builtin.Range.rangeSize a b c - 1)*c),rawInt (Builtin.Range.rangeSize a b c),rawInt (-c)]},toks:=s.toks}) :=
 .of_wp λprog w A R s h=>by
  obtain⟨hp,g,d,tk,os⟩:=s
  obtain⟨hl,h⟩:=h
  have e:(Builtin.Range.rangeFitsLong a&&Builtin.Range.rangeFitsLong b&&Builtin.Range.rangeFitsLong c&&Builtin.Range.rangeFitsLong (-c)&&Builtin.Range.rangeFitsLong (a - c)&&Builtin.Range.rangeFitsLong (Builtin.Range.rangeSize a b c))=true:=by
   cases z:(Builtin.Range.rangeFitsLong a&&Builtin.Range.rangeFitsLong b&&Builtin.Range.rangeFitsLong c&&Builtin.Range.rangeFitsLong (-c)&&Builtin.Range.rangeFitsLong (a - c)&&Builtin.Range.rangeFitsLong (Builtin.Range.rangeSize a b c))with
   |true=>rfl
   |false=>rw[z]at hc0;exact absurd rfl hc0
  wp_walk
  simp only[e,aEA]
  exact⟨_,rfl,h⟩
end
theorem qE:isSubtype (.type "range_iterator") (.type "reversed")=pure false:=by rw[aDU];kernel_rfl
variable{prog:Program}
theorem fits62{a:Int}(h1 : -(2 ^ 62)<=a)(h2:a < 2 ^ 62):Builtin.Range.rangeFitsLong a=true:=by
 unfold Builtin.Range.rangeFitsLong
 simp only[aBN,aBH]
 lia
theorem yZ:CallR X (.type "range") (λxs H Q=>∃j,xs=[.int j]/\∀p,H p=none->Q (.ref p) (upd H p (.rng 0 j))):=by
 intro pins s σ H xs us Q I r h
 obtain⟨j,e,q⟩:=h
 subst e
 obtain⟨u,rfl,r1⟩:=vals1 r
 obtain⟨t,rfl⟩:=r1
 refine call_range_1 ⟨.ref s.heap.objs.size,upd H s.heap.objs.size (.rng 0 j),?_,rfl,q _ (I.hok.fresh (aAG _))⟩
 exact I.laid (λb u e=>aAB _ e) (aAG _) ⟨_,_,_,aAE _ rfl⟩
section
variable{rest:List Stmt}{t u:TS}
end
theorem fF:bootBuiltins "int"=some (.type "int"):=by decide +kernel
theorem aDa:bootBuiltins "bool"=some (.type "bool"):=by decide +kernel
theorem fZ:bootBuiltins "isinstance"=some (.builtin "isinstance"):=by decide +kernel
theorem aAw:bootBuiltins "max"=some (.builtin "max"):=by decide +kernel
theorem aIq:bootBuiltins "min"=some (.builtin "min"):=by decide +kernel
theorem dR:bootBuiltins "tuple"=some (.type "tuple"):=by decide +kernel
theorem aLy:bootBuiltins "list"=some (.type "list"):=by decide +kernel
theorem aQb:bootBuiltins "zip"=some (.type "zip"):=by decide +kernel
theorem wP:bootBuiltins "enumerate"=some (.type "enumerate"):=by decide +kernel
theorem jW:bootBuiltins "sorted"=some (.builtin "sorted"):=by decide +kernel
end L2
end
namespace L2
open PySem
noncomputable def Scr(K:Frag)(H:Hp)(a:Addr)(xs:List V):Prop:=(∃o,H a=some (.frz o (.lst xs)))\/∀H',SqL K H' a xs
noncomputable def SB(l:Addr)(H H':Hp):Prop:=∀x o,x≠l->H x=some o->H' x=some o
theorem Scr.sb{a:Addr}{xs ys:List V}(h:Scr K H a xs)(hl:H l=some (.lst ys))(s:SB l H H'):Scr K H' a xs:=by
 rcases h with⟨o,h⟩|h
 ·exact .inl ⟨o,s _ _ (aRv h hl (by intro z;cases z)) h⟩
 ·exact .inr h
theorem SB.trans(s:SB l H H1)(t:SB l H1 H2):SB l H H2:=λx u n e=>t x u n (s x u n e)
open PySem.Spec PyProof.Rows
end L2
namespace Com
open PySem L2
structure IW(n k high low past now:Int):Prop where
 h0:0<=high
 hb:high<=1000000
 l0:0<=low
 lb:low<=1000000
 g:Int.gcd high low=Int.gcd n (k % n)
 d1:n ∣ k*past - high
 d2:n ∣ k*now - low
structure PV(n k e told square left:Int):Prop where
 t0:0<=told
 t1:told < n
 s0:0<=square
 s1:square < n
 l0:0<=left
 eq:told*square ^ left.toNat % n=k ^ e.toNat % n
noncomputable def bitsN:List Int->Nat
 |[]=>0
 |b::r=>b.toNat+2*bitsN r
structure DG(e0 e:Int)(ds:List Int):Prop where
 nn:0<=e
 bit:∀d∈ds,d=0\/d=1
 len:∃m:Nat,e.toNat < 2 ^ m/\ds.length+m=62
 val:∀r,bitsN r=e.toNat->bitsN (ds++r)=e0.toNat
noncomputable def BoxAt(H:Hp)(b:Addr):Prop:=∃c s t:Int,H b=some (.lst [.int c,.int s,.int t])
noncomputable def Keep(b:Addr)(H H':Hp):Prop:=(∀a o,a≠b->H a=some o->H' a=some o)/\BoxAt H' b
theorem Keep.trans{b:Addr}(x:Keep b H H1)(y:Keep b H1 H2):Keep b H H2:=⟨λa o n e=>y.1 a o n (x.1 a o n e),y.2⟩
end Com
section
open PySem PySem.Spec PyProof.Rows
namespace L2
variable{K:Frag}
section
variable{W:World}{Ar:Around}{Ex:Value->Shared->Prop}{hp:Heap}{gn:Array GenState}{dr:Drawn}{tk:Nat}{oz:OsState}{nm qn:Str}{N:Addr}{bs bmB:List Value}{hdct:Bool}{sn:List Str}{sub:List Value}{ab:Bool}{col:Option Bool}{dd:Option Addr}{k0 k1 k2 k3 k5:Option Value}{B newId initId:String}{rs:List Value}{oI:Obj}
theorem xN(F:ExcBaseFacts B newId initId bmB)(T:OwnTail hp bmB bm){Q:Fin->Shared->Prop}
  (hC:hp.get? C=some (excClassObj nm qn C N bs bm hdct sn sub ab col dd k0 k1 k2 k3 k5 newId))(nsN:hp.Ns N mN)(iN:mN "__init__"=some (.ref fI))(gI:hp.get? fI=some oI)(cI:oI.cls=.type "function")
  (go:∀h' e,Heap.MadeExcOf hp h' e (.ref C) rs->wpAny (model P W) Ar (call (.ref fI) (.ref e::rs)) (λr s'=>r=.none/\Q (.done (.ret (.ref e))) s') Ex ⟨h',gn,dr,tk,oz⟩)(few:rs.length<=sizeLine:=by size_fits) :
  wpAny (model P W) Ar (Builtin.«type.__call__» ⟨.ref C::rs,[]⟩) Q Ex ⟨hp,gn,dr,tk,oz⟩:=by
 repeat(first|with_reducible refine aDN hC ?_ |with_reducible refine wpAny_madeBy_exc hC ?_ |wp_step)
 refine codeAny_call_builtin_code (aHW _ F.quiet) (wpAny_check_new_subT F T hC (codeAny_exc_new_subT F T hC ?_ few))
 show wpAny _ _ _ _ _ _
 generalize eO1:({cls:=.type "tuple",data:=.seq rs.toArray}:Obj)=O1
 generalize eO2:({cls:=.ref C,data:=.fields #[.ref hp.objs.size,.none,.none,.none,.bool false,.none]}:Obj)=O2
 have keep:∀b o,hp.get? b=some o->((hp.push O1).push O2).get? b=some o:=λb o e=>aAB _ (aAB _ e)
 have at2:((hp.push O1).push O2).get? (hp.objs.size+1)=some O2:=by subst eO1 eO2;heap_get
 have own:(Value.ref C::bm).contains (.ref C)=true:=by simp
 have C1:=keep _ _ hC
 unfold isInstance
 have c2:O2.cls=.ref C:=by subst eO2;rfl
 repeat(first|(with_reducible refine aDN at2 ?_;rw[c2])|(with_reducible refine aFY C1 ?_;rw[own])|wp_step)
 refine wpAny_typeLookup_tail C1 (nsN.keeps keep) (T.keeps keep) F.mroIs F.init.lookup ?_
 rw[iN]
 unfold bindSpecial
 refine aBL (aAA (aAA (aEO (T:="function") ⟨_,keep _ _ gI,cI⟩ ?_)))
 rw[aAI (by decide)]
 have made:Heap.MadeExcOf hp ((hp.push O1).push O2) (hp.objs.size+1) (.ref C) rs :=
  ⟨keep,aFR (aEL _),hp.objs.size,by rw[at2,<- eO2],aFR (aAG _),by subst eO1;exact aAB _ (Heap.get?_push_at rfl rfl)⟩
 refine aAC (aAA (aCT (go _ _ made) (λr s' z=>?_) λ_ _ x=>x))
 obtain⟨rfl,z⟩:=z
 wp_walk
 exact z
theorem aBz(F:ExcBaseFacts B newId initId bmB)(T:OwnTail hp bmB bm) 
  (hC:hp.get? C=some (excClassObj nm qn C N bs bm hdct sn sub ab col dd k0 k1 k2 k3 k5 newId))(nsN:hp.Ns N mN)(iN:mN "__init__"=some (.ref fI))(gI:hp.get? fI=some oI)(cI:oI.cls=.type "function")
  (go:∀h' e,Heap.MadeExcOf hp h' e (.ref C) rs->wpAny (model P W) (Ar.under (.builtin "type.__call__" ⟨.ref C::rs,[]⟩)) (call (.ref fI) (.ref e::rs)) (λr s'=>r=.none/\Q (.ref e) s') Ex ⟨h',gn,dr,tk,oz⟩)(few:rs.length<=sizeLine:=by size_fits) :
  wpAny (model P W) Ar (call (.ref C) rs) Q Ex ⟨hp,gn,dr,tk,oz⟩:=by
 have f1:=tc_lookup
 have f2:=tc_bind (.ref C)
 have ty:(⟨hp,gn,dr,tk,oz⟩:Shared).TypeIs (.ref C) "type":=⟨_,hC,rfl⟩
 refine aFQ (codeAny_of_tree (show wpAny _ _ (callAny (.ref C) _) _ _ _ from ?_))
 repeat(any_goals (first|assumption|with_reducible refine aDN hC ?_ |wp_step))
 exact⟨rfl,codeAny_call_builtin_at (aHW _ (by decide +kernel)) entry_typeCall (wpAny_check_type_call_sub hC (xN (few:=few) F T hC nsN iN gI cI go))⟩
end
noncomputable def Sz(vs:Array Value):Prop:=1 < vs.size/\vs[2]?=some .none
variable{vs:Array Value}{x:Value}
theorem Sz.set(h:Sz vs):Sz (vs.setIfInBounds 1 x):=⟨by simpa using h.1,by rw[Array.getElem?_setIfInBounds,aAL (by lia)];exact h.2⟩
noncomputable def XRec(P:Addr->Prop)(H:Hp)(h:Heap)(e C:Addr)(d:Option Addr):Prop :=
 ∃vs sl,h.get? e=some ⟨.ref C,d,.fields vs,sl⟩/\Sz vs /\
  (vs[1]?=some .none\/∃T cT dT ts sT,vs[1]?=some (.ref T)/\P T/\H T=none/\h.get? T=some ⟨cT,dT,.fields ts,sT⟩/\3 < ts.size)
variable{e:Addr}
theorem XRec.imp{P P':Addr->Prop}(x:XRec P H h e C d)(i:∀T,P T->P' T):XRec P' H h e C d:=by
 obtain⟨vs,sl,h1,h2,h3|⟨T,cT,dT,ts,sT,a1,a2,a3⟩⟩:=x
 ·exact⟨vs,sl,h1,h2,.inl h3⟩
 ·exact⟨vs,sl,h1,h2,.inr ⟨T,cT,dT,ts,sT,a1,i T a2,a3⟩⟩
variable{M:Model}{E:Value->Shared->Prop}{L:Addr}{P:Addr->Prop}{Q:Unit->Shared->Prop}{a:Addr}
theorem dF{c:Value}(ha:h.get? a=some ⟨c,d,.fields vs,sl⟩) :
  (h.update a (Obj.mapFields (·.setIfInBounds i x))).get? a=some ⟨c,d,.fields (vs.setIfInBounds i x),sl⟩:=aBG _ ha rfl
theorem bP{b:Addr}{f:Obj->Obj}(n:b≠a):(h.update a f).get? b=h.get? b:=aCA _ _ (Ne.symm n)
theorem rF{sl:Array (Option Value)}{head:Value}{hb:Bool}(hfr:A.frames=some (env::outer))(hl:s.heap.FunFrames base (env::outer))(hf:env.frame=some L)
  (he:s.heap.get? e=some ⟨.ref C,d,.fields vs,sl⟩)(hz:Sz vs)(hP:∀T,s.heap.objs.size<=T->P T)(hN:∀T,s.heap.objs.size<=T->H T=none)
  (hQ:∀h',(∀b o,b≠e->b∉frs (env::outer)->s.heap.get? b=some o->h'.get? b=some o)->(∀b o,b∈frs (env::outer)->s.heap.get? b=some o->∃sl,h'.get? b=some {o with slots:=sl}) ->
   XRec P H h' e C d->Q () {s with heap:=h'}) :
  wpAny M A (do let a <- frameOf env;let pl <- entryPlaceOf L hb;let t <- EntryCells.newEntry head a .none (rawInt L) .none pl;setField (.ref e) 1 t) (λ_ s₂=>wpAny M A' (setFlight (.ref e) none) Q E s₂) E s:=by
 have nfr:e∉frs (env::outer):=λz=>by
  obtain⟨_,o,q,n⟩:=hl.mem z
  rw[he]at q;cases q;exact n vs rfl
 refine aAA (wpAny_frameOf_fun hfr hl hf λh1 so=>?_)
 refine aAA (wpAny_entryPlaceOf λpl isp=>aAA ?_)
 unfold EntryCells.newEntry newFields
 refine aBI ?_ (isp.sizeOk5 _ _ _ _ _)
 generalize eT:([head,Value.ref L,.none,rawInt L,.none]++(if pl.isEmpty then List.replicate 6 Value.none else pl)).toArray=tv
 have hsz:3 < tv.size:=by rw[<- eT];simp only[aAH,aAP,aEN];lia
 have e1:h1.get? e=some ⟨.ref C,d,.fields vs,sl⟩:=(so.2.1 e nfr).trans he
 have ne:e≠h1.objs.size:=aAJ (aAF e1)
 generalize eo:({cls:=.type "traceback",dict:=none,data:=.fields tv}:Obj)=oT
 have e2:(h1.push oT).get? e=some ⟨.ref C,d,.fields vs,sl⟩:=aAB _ e1
 refine aBX e2 rfl hz.1 ?_
 have e3:=dF (i:=1) (x:=.ref h1.objs.size) e2
 have t3:((h1.push oT).update e (Obj.mapFields (·.setIfInBounds 1 (.ref h1.objs.size)))).get? h1.objs.size=some ⟨.type "traceback",none,.fields tv,#[]⟩:=by
  rw[bP (Ne.symm ne),<- eo];exact aAE h1 rfl
 unfold setFlight
 refine aAA (aAN e3 rfl (x:=.ref h1.objs.size) (by simp[hz.1]) ?_)
 rw[aAI (by simp)]
 refine aBX t3 rfl hsz (hQ _ (λb o nb nf q=>?_) (λb o bf q=>?_) ?_)
 ·have q1:=(so.2.1 b nf).trans q
  rw[bP (aAJ (aAF q1)),bP nb]
  exact aAB _ q1
 ·obtain⟨sl',q1⟩:=so.2.2 b o q
  have nb:b≠e:=λz=>nfr (z▸bf)
  exact⟨sl',by rw[bP (aAJ (aAF q1)),bP nb];exact aAB _ q1⟩
 ·refine⟨_,sl,by rw[bP ne];exact e3,hz.set,.inr ⟨h1.objs.size,_,_,_,_,by simp[hz.1],hP _ (by rw[so.1];exact aAG _),hN _ (by rw[so.1];exact aAG _),dF t3,?_⟩⟩
  simp[hsz]
theorem flight(hfr:A.frames=some (env::outer))(hl:s.heap.FunFrames base (env::outer))(hf:env.frame=some L)(x:XRec P H s.heap e C d)(he:H e≠none)
  (hP:∀T,s.heap.objs.size<=T->P T)(hN:∀T,s.heap.objs.size<=T->H T=none)
  (hQ:∀(h':Heap) (ch:List Addr),(∀b∈ch,P b/\H b=none/\b∉frs (env::outer))->(∀b o,b≠e->b∉frs (env::outer)->b∉ch->s.heap.get? b=some o->h'.get? b=some o)->(∀b o,b∈frs (env::outer)->s.heap.get? b=some o->∃sl,h'.get? b=some {o with slots:=sl}) ->
   (∀b o,s.heap.get? b=some o->∃o',h'.get? b=some o')->XRec P H h' e C d->Q () {s with heap:=h'}) :
  wpAny M A (noteFrame (.ref e) env) (λ_ s₂=>wpAny M A' (setFlight (.ref e) none) Q E s₂) E s:=by
 obtain⟨vs,sl,h1,h2,h3|⟨T,cT,dT,ts,sT,a1,a2,a3,a4,a5⟩⟩:=x
 ·unfold noteFrame
  simp only[hf]
  refine aAA (aAN h1 rfl h3 ?_)
  rw[aAL (by decide)]
  refine rF (P:=P) (H:=H) hfr hl hf h1 h2 hP hN λh' k1 k2 r=>hQ h' [] (λ_ z=>nomatch z) (λb o n nf _ q=>k1 b o n nf q) k2 (λb o q=>?_) r
  by_cases hb:b∈frs (env::outer)
  ·obtain⟨sl,q⟩:=k2 b o hb q;exact⟨_,q⟩
  ·by_cases hbe:b=e
   ·subst hbe;obtain⟨_,_,r,_⟩:=r;exact⟨_,r⟩
   ·exact⟨_,k1 b o hbe hb q⟩
 ·have ne:e≠T:=λz=>he (z▸a3)
  have nfr:T∉frs (env::outer):=λz=>by
   obtain⟨_,o,q,n⟩:=hl.mem z
   rw[a4]at q;cases q;exact n ts rfl
  unfold noteFrame
  simp only[hf]
  refine aAA (aAN h1 rfl a1 ?_)
  rw[aAI (show(Value.ref T != Value.none)=true by simp)]
  refine aAA (aAN a4 rfl (aBU a5) ?_)
  by_cases here:(ts[3]==rawInt L)=true
  ·rw[aAI here]
   refine aAC ?_
   unfold setFlight
   refine aAA (aAN h1 rfl a1 ?_)
   rw[aAI (show(Value.ref T != Value.none)=true by simp)]
   refine aBX a4 rfl a5 (hQ _ [T] (λb hb=>?_) (λb o _ _ nb q=>(bP λz=>nb (by simp[z])).trans q) (λb o hb q=>⟨o.slots,(bP (a:=T) (λ(z:b=T)=>nfr (z▸hb))).trans q⟩) (λb o q=>?_) ⟨vs,sl,(bP ne).trans h1,h2,.inr ⟨T,cT,dT,_,sT,a1,a2,a3,dF a4,by simpa using a5⟩⟩)
   ·rw[aAM]at hb;subst hb;exact⟨a2,a3,nfr⟩
   ·by_cases z:b=T
    ·subst z;exact⟨_,dF a4⟩
    ·exact⟨o,(bP z).trans q⟩
  rw[aAL here]
  refine aAA (aBX a4 rfl a5 ?_)
  have hsz:(s.heap.update T (Obj.mapFields (·.setIfInBounds 3 Value.none))).objs.size=s.heap.objs.size:=Heap.size_after_update ..
  refine rF (P:=P) (H:=H) hfr (hl.of_keeps λb o q n=>⟨o,(bP λz=>?_).trans q,rfl⟩) hf ((bP ne).trans h1) h2 (λU hU=>hP U (by rw[<- hsz];exact hU)) (λU hU=>hN U (by rw[<- hsz];exact hU)) λh' k1 k2 r=>hQ h' [T] (λb hb=>?_) (λb o n nf nc q=>k1 b o n nf ((bP λz=>nc (by simp[z])).trans q)) (λb o bf q=>k2 b o bf ((bP (a:=T) (λ(z:b=T)=>nfr (z▸bf))).trans q)) (λb o q=>?_) r
  ·subst z;rw[a4]at q;cases q;exact n ts rfl
  ·rw[aAM]at hb;subst hb;exact⟨a2,a3,nfr⟩
  ·have:∃o1,(s.heap.update T (Obj.mapFields (·.setIfInBounds 3 Value.none))).get? b=some o1:=by
    by_cases z:b=T
    ·subst z;exact⟨_,dF a4⟩
    ·exact⟨o,(bP z).trans q⟩
   obtain⟨o1,q⟩:=this
   by_cases hb:b∈frs (env::outer)
   ·obtain⟨sl,q⟩:=k2 b o1 hb q;exact⟨_,q⟩
   ·by_cases hbe:b=e
    ·subst hbe;obtain⟨_,_,r,_⟩:=r;exact⟨_,r⟩
    ·exact⟨_,k1 b o1 hbe hb q⟩
theorem aAd(x:XRec P H s.heap e C d)(he:H e≠none) 
  (hQ:∀(h':Heap) (ch:List Addr),(∀b∈ch,P b/\H b=none)->(∀b o,b∉ch->s.heap.get? b=some o->h'.get? b=some o)->(∀b o,s.heap.get? b=some o->∃o',h'.get? b=some o')->XRec P H h' e C d->Q () {s with heap:=h'}) :
  wpAny M A (setFlight (.ref e) none) Q E s:=by
 obtain⟨vs,sl,h1,h2,h3|⟨T,cT,dT,ts,sT,a1,a2,a3,a4,a5⟩⟩:=x
 ·unfold setFlight
  refine aAA (aAN h1 rfl h3 ?_)
  rw[aAL (by decide)]
  exact aAC (hQ s.heap [] (λ_ z=>nomatch z) (λ_ _ _ q=>q) (λb o q=>⟨o,q⟩) ⟨vs,sl,h1,h2,.inl h3⟩)
 ·have ne:e≠T:=λz=>he (z▸a3)
  have hz3:=a5
  unfold setFlight
  refine aAA (aAN h1 rfl a1 ?_)
  rw[aAI (show(Value.ref T != Value.none)=true by simp)]
  refine aBX a4 rfl hz3 (hQ _ [T] (λb hb=>?_) (λb o nb q=>(bP λz=>nb (by simp[z])).trans q) (λb o q=>?_) ⟨vs,sl,(bP ne).trans h1,h2,.inr ⟨T,cT,dT,_,sT,a1,a2,a3,dF a4,?_⟩⟩)
  ·rw[aAM]at hb;subst hb;exact⟨a2,a3⟩
  ·by_cases z:b=T
   ·subst z;exact⟨_,dF a4⟩
   ·exact⟨o,(bP z).trans q⟩
  ·simp[hz3]
noncomputable def XO(_e C:Addr)(d:Option Addr):HO:=.xo C d
variable{P:Program}
theorem XO.ok(q:h.get? e=some ⟨.ref C,d,.fields vs,sl⟩)(z:vs[2]?=some .none):ObjOk P w H h e (XO e C d) :=
 ⟨vs,sl,q,z⟩
theorem XO.at(x:HOk P w H h)(q:H e=some (XO e C d)):∃vs sl,h.get? e=some ⟨.ref C,d,.fields vs,sl⟩:=let⟨vs,sl,h,_⟩:=x e _ q;⟨vs,sl,h⟩
noncomputable def Free(X:Cx)(pins:List (Addr×Obj))(T:Addr):Prop:=X.s₀.heap.objs.size<=T/\T≠X.env.locals/\(∀x c,X.env.cells.lookup x=some c->c≠T)/\∀p∈X.pn++pins,p.1≠T
variable{σ:List (Option V)}
theorem Inv.freeNew(I:Inv X pins σ H s){T:Addr}(h:s.heap.objs.size<=T):Free X pins T:=by
 refine⟨aAV I.sz h,aBF (aAO I.lt h),λx c q=>?_,λp hp=>?_⟩
 ·obtain⟨v,o,ho,_⟩:=I.cell x c q
  exact aAJ (aAO (aAF ho) h)
 ·exact aAJ (aAO (aAF (I.pin p hp).1) h)
theorem Inv.moved{ch:List Addr}(I:Inv X pins σ H s)(he:H e=some (XO e C d))(hst:X.stack=X.env::X.outer)(hfm:X.env.frame=some X.env.locals)
  (hc:∀b∈ch,Free X pins b/\H b=none)(k1:∀b o,b≠e->b∉frs (X.env::X.outer)->b∉ch->s.heap.get? b=some o->h'.get? b=some o)
  (k2:∀b o,b∈frs (X.env::X.outer)->s.heap.get? b=some o->∃sl,h'.get? b=some {o with slots:=sl})(k3:∀b o,s.heap.get? b=some o->∃o',h'.get? b=some o')
  {sl:Array (Option Value)}(new:h'.get? e=some ⟨.ref C,d,.fields vs,sl⟩)(nz:Sz vs):Inv X pins σ H {s with heap:=h'}:=by
 have hfr:∀b,b∈frs (X.env::X.outer) ↔ b=X.env.locals\/b∈X.fs:=λb=>by
  unfold frs;rw[aES,hfm];exact aAY
 have ne:∀b,H b=none->b≠e:=λb n z=>by subst z;rw[he]at n;cases n
 have hsf:=I.stkFree
 rw[hst]at hsf
 refine I.step (g':=s.gens) (d':=s.drawn) (t':=s.toks) (ch:=ch) (λb hb=>⟨.inr (hc b hb).1.1,(hc b hb).1.2⟩) (λb o nL nf nc q n=>k1 b o (ne b n) (λz=>((hfr b).mp z).elim nL nf) nc q)
  (λb o nL bf nc q n=>k2 b o ((hfr b).mpr (.inr bf)) q) (λ_ _ _ _ n=>n) (λb o _ q=>k3 b o q) (λ_ _ q=>q) (λ_ _ _ q=>q) (λb ps q=>⟨#[],by rw[q];simp⟩) (λ_ _ _ q=>q) (λm hm=>?_) (λa o q=>?_) I.bare
 ·obtain⟨o,es,ep,ho,r⟩:=hm
  obtain⟨sl,q⟩:=k2 _ o ((hfr _).mpr (.inl rfl)) ho
  exact⟨_,es,ep,q,r⟩
 ·by_cases ha:a=e
  ·subst ha;rw[he]at q;cases q;exact XO.ok new nz.2
  ·refine(I.hok a o q).stay (λb u hb q'=>k1 b u ?_ ?_ ?_ q') (λ_ z=>z) λ_ _ z=>z
   ·rcases hb with rfl|hb
    ·exact ha
    ·rintro rfl;rw[he]at hb;cases hb
   ·intro z
    have n:=hsf b z
    rcases hb with rfl|hb
    ·rw[q]at n;cases n
    ·rw[hb]at n;cases n
   ·intro z
    have n:=(hc b z).2
    rcases hb with rfl|hb
    ·rw[q]at n;cases n
    ·rw[hb]at n;cases n
theorem Inv.flight(I:Inv X pins σ H s)(hst:X.stack=X.env::X.outer)(hfm:X.env.frame=some X.env.locals)(hA:A.frames=some X.stack)(x:XRec (Free X pins) H s.heap e C d)(he:H e=some (XO e C d))
  (hQ:∀h',Inv X pins σ H {s with heap:=h'}->XRec (Free X pins) H h' e C d->Q () {s with heap:=h'}) :
  wpAny M A (noteFrame (.ref e) X.env) (λ_ s₂=>wpAny M A' (setFlight (.ref e) none) Q E s₂) E s:=by
 have hl:=I.stack
 rw[hst]at hl hA
 refine L2.flight hA hl hfm x (by rw[he];simp) (λT hT=>I.freeNew hT) (λT hT=>I.hok.fresh hT) λh' ch hc k1 k2 k3 r=>?_
 obtain⟨vs,sl,q,nz,_⟩:=id r
 exact hQ h' (I.moved he hst hfm (λb hb=>⟨(hc b hb).1,(hc b hb).2.1⟩) k1 k2 k3 q nz) r
theorem Inv.again(I:Inv X pins σ H s)(hst:X.stack=X.env::X.outer)(hfm:X.env.frame=some X.env.locals)(x:XRec (Free X pins) H s.heap e C d)(he:H e=some (XO e C d))
  (hQ:∀h',Inv X pins σ H {s with heap:=h'}->XRec (Free X pins) H h' e C d->Q () {s with heap:=h'}) :
  wpAny M A (setFlight (.ref e) none) Q E s:=by
 refine aAd x (by rw[he];simp) λh' ch hc k1 k3 r=>?_
 obtain⟨vs,sl,q,nz,_⟩:=id r
 have k2:∀b o,b∈frs (X.env::X.outer)->s.heap.get? b=some o->∃sl,h'.get? b=some {o with slots:=sl}:=λb o hb q=>by
  refine⟨o.slots,k1 b o (λz=>?_) q⟩
  have hl:=I.stack
  rw[hst]at hl
  rcases aAY.mp (show b∈X.env.locals::X.fs by unfold frs at hb;rw[aES,hfm]at hb;exact hb)with rfl|hb'
  ·exact(hc _ z).1.2.1 rfl
  ·obtain⟨_,o',ho',_⟩:=I.ok.funs.mem hb'
   exact absurd (aAF ho') (Nat.not_lt.mpr (hc b z).1.1)
 exact hQ h' (I.moved he hst hfm hc (λb o _ _ nc q=>k1 b o nc q) k2 k3 q nz) r
noncomputable def CX1(P:Program)(w:World):CXT:=λouter H s E ev s'=>∃a H' C d,ev=.ref a/\s'.os=s.os/\AllBare s'.gens/\Un (frs outer) [] H H' s.heap s'.heap/\HOk P w H' s'.heap /\
 XRec (λT=>s.heap.objs.size<=T) H' s'.heap a C d/\H' a=some (XO a C d)/\E (.ref a) none H'
noncomputable def XE(X:Cx)(pins:List (Addr×Obj))(σ:List (Option V))(R:Addr->Hp->Prop)(ev:Value)(s':Shared):Prop :=
 ∃a H' C d,ev=.ref a/\Inv X pins σ H' s'/\XRec (Free X pins) H' s'.heap a C d/\H' a=some (XO a C d)/\R a H'
structure Xz(X:Cx)(R:Addr->Hp->Prop):Prop where
 go:∀pins σ ev s',XE X pins σ R ev s'->X.xe ev s'
variable{ev:Value}
theorem XE.imp{R':Addr->Hp->Prop}(x:XE X pins σ R ev s')(h:∀a H,R a H->R' a H):XE X pins σ R' ev s' :=
 let⟨a,H',C,d,x1,x2,x3,x4,x5⟩:=x
 ⟨a,H',C,d,x1,x2,x3,x4,h _ _ x5⟩
variable{E:XK}
theorem XE.call(I:Inv X pins σ H s)(h:CX1 X.prog X.w X.stack H s E ev s'):XE X pins σ (λa H'=>E (.ref a) none H') ev s':=by
 obtain⟨a,H',C,d,rfl,os,ba,un,hok,x,he,q⟩:=h
 exact⟨a,H',C,d,rfl,I.call' os un hok ba (λb z=>nomatch z),x.imp λT hT=>I.freeNew hT,he,q⟩
theorem aHx(h:∀a H,¬R a H):Xz X R:=⟨λ_ _ _ _ ⟨_,_,_,_,_,_,_,_,q⟩=>(h _ _ q).elim⟩
theorem aRz{scope:Scope}{f:Addr}{cd:Value} :
  Xz (cxOf (CX1 P w) P w K mg base N qual scope f cd A outer s H E) (λa H'=>E (.ref a) none H'):=by
 refine⟨λpins σ ev s' ⟨a,H',C,d,e1,I,x,he,q⟩=>?_⟩
 subst e1
 refine aAA (I.flight rfl rfl I.ok.frames x he λh' I' x'=>?_)
 exact⟨a,H',C,d,rfl,I'.os,I'.bare,I'.base,I'.hok,x'.imp λT hT=>hT.1,he,q⟩
theorem tX(hP:X.prog=P)(hw:X.w=w)(z:Xz X (λa H'=>E (.ref a) none H')):Passes (CX1 P w) X E:=λpins σ H s e s' I h=>by
 subst hP hw
 exact z.go pins σ e s' (XE.call I h)
end L2
namespace L2
open PySem.W PySem.Calls Builtin Builtin.ObjectAttr
noncomputable abbrev vb:List Value:=[.type "ValueError",.type "Exception",.type "BaseException",.type "object"]
variable{prog:Program}{E:Value->Shared->Prop}{K:Frag}{x:Addr}{vs:Array Value}{v:Value}{M:Model}
theorem oY(X:K.In h)(hc:clsIn K C=some cd)(hm:cd.mro=.ref C::.ref LE::vb)(b:Value):Looks M h (isSubtype (.ref C) b) ((Value.ref C::.ref LE::vb).contains b):=by
 refine looks_mroIn X ?_
 unfold mroIn
 rw[hc,aDT,hm]
 rfl
theorem xset{Q:Unit->Shared->Prop}(X:K.In s.heap)(hx:s.heap.get? x=some ⟨.ref C,none,.fields vs,sl⟩)(hc:clsIn K C=some cd)(hm:cd.mro=.ref C::.ref LE::vb)(hd:cd.hasDict=true)
  (hs:findIn K (.ref C) "__setattr__"=some (some (.builtin "object.__setattr__")))(hn:findIn K (.ref C) name=some none)
  (hq:∀h' tk',h'.get? x=some ⟨.ref C,some s.heap.objs.size,.fields vs,sl⟩->h'.Ns1 s.heap.objs.size (λy=>if y=name then some v else none)->(∀b o,b≠x->s.heap.get? b=some o->h'.get? b=some o) ->
   Q () {s with heap:=h',toks:=tk'}):wpAny (model prog w) A (setAttr (.ref x) name v) Q E s:=by
 obtain⟨hp,gn,dr,tk,oz⟩:=s
 dsimp only at X hx hq
 have I:InstAt hp x ⟨.ref C,none,.fields vs,sl⟩ C none:=⟨hx,rfl,rfl,trivial⟩
 have SF:=PySem.F.store_object
 have hsub:Looks (model prog w) hp (isInstance (.ref x) (.type "object")) true:=I.type.andThen (oY X hc hm _)
 refine set_plain X I hs (aFT SF.slot.plain SF.entry (@check_slot (model prog w) _ _ ⟨hp,gn,dr,tk+1,oz⟩ "object.__setattr__" "object" "__setattr__" (.ref x) [.str name tk,v] [] _ SF.kind SF.split hsub (SF.args (.ref x) (.str name tk) v) ?_))
 have hmro:Looks (model prog w) hp (mroOf (.ref C)) (.ref C::.ref LE::vb):=hm▸(looks_clsIn X hc).andThen .now
 rw[osa_eq,refuse_eq]
 refine aAA (aAA (I.type.at (aAA (hmro.at ?_))))
 rw[refuseLoop_ref,refuseLoop_ref,PySem.F.store_ValueError.passes (.ref x)]
 refine aAC (aAA (I.type.at (aAA ((looks_findIn X hn).at (aAA (aAC ?_))))))
 show wpAny _ _ (storeInOwnDict (.ref x) (.ref C) (.str name tk) name v false) _ _ _
 unfold storeInOwnDict ownDictForStores instanceDict
 refine aAA (aAC ?_)
 refine aAA (aAA (wpAny_loadPart hx ?_))
 dsimp only
 refine aAA ((looks_clsIn X hc).at ?_)
 rw[hd]
 simp only[aIA,aCP,aEF,Bool.false_or,typeHasDict]
 have hne:x≠hp.objs.size:=aAJ (aAF hx)
 refine aAA (wpAny_alloc' (aAA (wpAny_update' (aAB _ hx) (aAA (aAC (aAC ?_))))))
 generalize eh:(hp.push {cls:=Value.type "dict",data:=Data.dict #[]}).update x (λo=>{o with dict:=some hp.objs.size})=h1
 have hd1:h1.get? hp.objs.size=some {cls:=.type "dict",data:=.dict #[]}:=by
  rw[<- eh,bP (Ne.symm hne)];exact Heap.get?_push_at rfl rfl
 have hx1:h1.get? x=some ⟨.ref C,some hp.objs.size,.fields vs,sl⟩:=by
  rw[<- eh];exact aBG _ (aAB _ hx) rfl
 have k1:∀b o,b≠x->hp.get? b=some o->h1.get? b=some o:=λb o nb q=>by
  rw[<- eh,bP nb];exact aAB _ q
 have n1:h1.Ns1 hp.objs.size (λ_=>none):=Heap.Ns1.of_empty ⟨_,#[],_,hd1,rfl,λe he=>absurd he (by simp),λ_=>rfl⟩
 show wpAny _ _ (storeInDict hp.objs.size (.str name tk) name v) _ _ _
 unfold storeInDict newKeyGuard
 refine aAA (aAC (aAA (wpAny_nsSet1 n1 λh2 n2 same=>?_)))
 obtain⟨oD,es,ep,q1,q2,q3⟩:=n2.count (Within.cons name v Within.nil)
 refine aAA (wpAny_lookBehind q1 (by rw[q2];exact pastItsLine_dict (aAV q3 (by rw[aEN,aHJ,aBC];lia))) ?_)
 refine aAC (hq h2 _ ((same.2 x hne).trans hx1) n2 λb o nb q=>(same.2 b (aAJ (aAF q))).trans (k1 b o nb q))
variable{K:Frag}
theorem zK:builtinKind "BaseException.__getattribute__"=some .slot:=by decide +kernel
theorem uF:splitId "BaseException.__getattribute__"=some ("BaseException","__getattribute__"):=by decide +kernel
theorem xget{expr:Bool}(X:K.In s.heap)(hx:s.heap.get? x=some ⟨.ref C,some dx,.fields vs,sl⟩)(n:s.heap.Ns1 dx mA)(hc:clsIn K C=some cd)(hm:cd.mro=.ref C::.ref LE::vb)(hd:hasDictIn K C=true)
  (hg:findIn K (.ref C) "__getattribute__"=some (some (.builtin "BaseException.__getattribute__")))(hh:findIn K (.ref C) "__getattr__"=some none)(hn:findIn K (.ref C) name=some none)(hv:mA name=some v)(hv':handedIn v=true)
  (hq:Q v {s with toks:=s.toks+1}):wpAny (model prog w) A (getAttr (.ref x) name expr) Q E s:=by
 obtain⟨hp,gn,dr,tk,oz⟩:=s
 dsimp only at X hx n hq
 obtain⟨od,ho,hl⟩:=pC n
 have I:InstAt hp x ⟨.ref C,some dx,.fields vs,sl⟩ C (some od):=⟨hx,rfl,rfl,ho⟩
 have hf:findObj K C (some od) name=some (.value v):=findObj_own hd hn rfl (by rw[hl,hv])
 have GA:=PySem.F.attr_ValueError.ga
 have hsub:Looks (model prog w) hp (isInstance (.ref x) (.type "BaseException")) true:=I.type.andThen (oY X hc hm _)
 unfold getAttr getAttrBy
 refine aAA (wpAny_mkText (aBL (aAA (I.type.at (aAA ((looks_findIn X hg).at ?_))))))
 dsimp only
 rw[show(onTheHeap (Value.ref C)&&Value.builtin "BaseException.__getattribute__"==Value.builtin "object.__getattribute__")=false from by rw[show(Value.builtin "BaseException.__getattribute__"==Value.builtin "object.__getattribute__")=false from by decide +kernel,aFG],aAL (by decide)]
 unfold getAttrByItsOwn
 have hk:Looks (model prog w) hp (hookBefore (.ref C)) none:=looks_hook X (by rw[aAI (show onTheHeap (Value.ref C)=true from rfl)];exact hh)
 refine aAA (hk.at (aAA (aBT (aBL ?_))))
 unfold callGetattribute
 rw[show(expr&&onTheHeap (Value.builtin "BaseException.__getattribute__"))=false from aFG _,aAL (by decide)]
 unfold boundAndCalled
 rw[GA.bind]
 refine aAA (aAC ?_)
 show wpAny _ _ (call (.builtin "BaseException.__getattribute__") [.ref x,.str name tk]) _ _ _
 refine aFQ (aFT GA.plain PySem.F.entry_bexc_ga (@check_slot (model prog w) _ _ ⟨hp,gn,dr,tk+1,oz⟩ "BaseException.__getattribute__" "BaseException" "__getattribute__" (.ref x) [.str name tk] [] _ zK uF hsub (PySem.F.args_bexc_ga (.ref x) (.str name tk)) ?_))
 unfold Builtin.«object.__getattribute__»
 refine aAA (aAC (aAA (aAC (aAA (I.type.at (aAA ((looks_find X I hf).at (aAC ?_)))))))) 
 show wpAny _ _ (handedOut v) _ _ _
 rw[handedOut_of hv']
 exact aAC hq
variable{dr:Drawn}{e N t0:Addr}
theorem xinit{hp:Heap}{gn:Array GenState}{tk:Nat}{oz:OsState}{nm qn:Str}{bs:List Value}{hdct:Bool}{sn:List Str}{sub:List Value}{ab:Bool}{col:Option Bool}{dd:Option Addr}{k0 k1 k2 k3 k5:Option Value}
  (T:OwnTail hp vb bm)(hC:hp.get? C=some (excClassObj nm qn C N bs bm hdct sn sub ab col dd k0 k1 k2 k3 k5 "ValueError.__new__"))
  (he:hp.get? e=some ⟨.ref C,none,.fields vs,sl⟩)(h0:vs[0]?=some (.ref t0))
  (hq:∀h',h'.get? e=some ⟨.ref C,none,.fields (vs.setIfInBounds 0 (.ref hp.objs.size)),sl⟩->(∀b o,b≠e->hp.get? b=some o->h'.get? b=some o)->Q .none ⟨h',gn,dr,tk,oz⟩) :
  wpAny (model prog w) A (call (.builtin "ValueError.__init__") [.ref e,u]) Q E ⟨hp,gn,dr,tk,oz⟩:=by
 have F:=PySem.F.excBase_ValueError
 refine aFQ (aFT F.init.plain F.initEntry (wpAny_check_init_subT F T hC he rfl ?_))
 have ne:e≠hp.objs.size:=aAJ (aAF he)
 have he2:(hp.push {cls:=.type "tuple",data:=.seq #[u]}).get? e=some ⟨.ref C,none,.fields vs,sl⟩:=aAB _ he
 have key:=hq ((hp.push {cls:=.type "tuple",data:=.seq #[u]}).update e (Obj.mapFields (·.setIfInBounds 0 (.ref hp.objs.size)))) (dF he2) λb o nb q=>(bP nb).trans (aAB _ q)
 wp_walk
 rw[h0]
 refine aAC (aAA (aBX he2 rfl (aFV.mp h0).1 ?_))
 wp_walk
 exact key
noncomputable def xcB(K:Frag)(C:Addr)(bm0:List Value)(ini:Option Value):Bool:=match K.lookup C with
 |some ⟨.type "type",_,.cls cd,sl⟩=>(match cd.mro,sl.toList with
  |.ref C'::bm,[_,_,_,_,some (.builtin n),_]=>C'==C&&bm==bm0&&n=="ValueError.__new__"&&!cd.hasDel&&nsOkIn K cd.ns&&nsIn K cd.ns "__init__"==some ini
  |_,_=>false)
 |_=>false
structure Xc(K:Frag)(c:Str)(C LE:Addr):Prop where
 nm:nsIn K mainGlobals c=some (some (.ref C))
 cd:∃cd,clsIn K C=some cd/\cd.name=c/\cd.mro=.ref C::.ref LE::vb
 le:∃cl,clsIn K LE=some cl/\cl.name="LentError"
 leN:nsIn K mainGlobals "LentError"=some (some (.ref LE))
 ne:c≠"LentError"
 hd:hasDictIn K C=true
 ga:findIn K (.ref C) "__getattribute__"=some (some (.builtin "BaseException.__getattribute__"))
 gh:findIn K (.ref C) "__getattr__"=some none
 cl:findIn K (.ref C) "__class__"=some (some (.builtin "object.__class__"))
 ob:∃ini,xcB K C (.ref LE::vb) ini=true
 leO:xcB K LE vb none=true
structure XcO(h:Heap)(C:Addr)(bm:List Value)(ini:Option Value):Prop where
 ex:∃nm q N bs hdct sn sub ab col dd k0 k1 k2 k3 k5,h.get? C=some (excClassObj nm q C N bs bm hdct sn sub ab col dd k0 k1 k2 k3 k5 "ValueError.__new__")/\∃mN,h.Ns N mN/\mN "__init__"=ini
theorem zD{x:Str}{r:Option Value}(X:K.In h)(e:nsOkIn K N=true)(q:nsIn K N x=some r):h.nsMap N x=r:=by
 cases r with
 |none=>exact nsMap_none_of_in X e q
 |some v =>
  obtain⟨o,es,ep,ho,hd,_,hf⟩:=Heap.Ns.of_isNs (isNs_of_in X e)
  unfold nsIn at q
  split at q
  ·rename_i c d es' n' sl z
   have:=X _ _ z
   rw[ho]at this
   cases this
   cases hd
   split at q
   ·rename_i en he
    cases q
    rw[<- hf]
    unfold nsFind findBy
    rw[<- Array.find?_toList,he]
    rfl
   ·split at q <;> cases q
  ·cases q
theorem rO(X:K.In h)(q:xcB K C bm ini=true):XcO h C bm ini:=by
 unfold xcB at q
 split at q
 ·rename_i dd cd sl ho
  split at q
  ·rename_i C' bm k0 k1 k2 k3 n k5 hm hs
   simp only[aBN,aEY,Bool.not_eq_true']at q
   obtain⟨⟨⟨⟨⟨rfl,rfl⟩,rfl⟩,hdel⟩,hok⟩,hni⟩:=q
   obtain⟨nm,bs,mro,ns,qn,hd,sn,sub,ab,col,del⟩:=cd
   dsimp only at hm hdel hok hni
   subst hm hdel
   have hsl:sl=#[k0,k1,k2,k3,some (.builtin "ValueError.__new__"),k5]:=by
    obtain⟨l⟩:=sl
    simp only at hs
    rw[hs]
   subst hsl
   exact⟨nm,qn,ns,bs,hd,sn,sub,ab,col,dd,k0,k1,k2,k3,k5,X _ _ ho,_,.of_isNs (isNs_of_in X hok),zD X hok hni⟩
  ·cases q
 ·cases q
variable{Q:Flow->Shared->Prop}
theorem aJk{x:Sem Value}(hB:bm.contains (.type "BaseException")=true)(hh:A.handled=none)
  (h:wpAny M A x (λv s₁=>∃e d vs sl,v=.ref e/\XcO s₁.heap C bm ini/\s₁.heap.get? e=some ⟨.ref C,d,.fields vs,sl⟩/\vs[1]?=some .none/\E (.ref e) s₁) E s):wpAny M A (raiseStmt env (some x) none) Q E s:=by
 unfold raiseStmt
 refine aAA (aCT h (λv s₁ h₁=>?_) λ_ _ z=>z)
 obtain⟨e,d,vs,sl,rfl,⟨nm,q,N,bs,hdct,sn,sub,ab,col,dd,k0,k1,k2,k3,k5,hC,_⟩,he,h1,hE⟩:=h₁
 have hcB:(Value.ref C::bm).contains (.type "BaseException")=true:=by rw[List.contains_cons,hB,Bool.or_true]
 obtain⟨hp,g,dr,tk,os⟩:=s₁
 dsimp only at hC he
 repeat(first|with_reducible refine aDN he ?_ |with_reducible refine aDN hC ?_ |(with_reducible refine aFY hC ?_;rw[hcB])|wp_step)
 rw[h1]
 refine aAC ?_
 rw[aAL (by decide)]
 exact aAC (wpAny_raiseNew_none hh hE)
noncomputable def XN(e C:Addr)(d:Option Addr):HO:=.ext λh=>∃vs sl t0,h.get? e=some ⟨.ref C,d,.fields vs,sl⟩/\vs[1]?=some .none/\vs[0]?=some (.ref t0)/\vs[2]?=some .none
variable{a:Addr}{o:HO}
theorem XN.ok(q:h.get? e=some ⟨.ref C,d,.fields vs,sl⟩)(q1:vs[1]?=some .none)(q0:vs[0]?=some (.ref t0))(q2:vs[2]?=some .none):ObjOk P w H h e (XN e C d) :=
 ⟨⟨vs,sl,t0,q,q1,q0,q2⟩,⟨_,q⟩,λh1 h2 ⟨vs,sl,t0,z,z'⟩ k=>⟨vs,sl,t0,k _ z,z'⟩⟩
theorem XN.at(x:HOk P w H h)(q:H e=some (XN e C d)):∃vs sl t0,h.get? e=some ⟨.ref C,d,.fields vs,sl⟩/\vs[1]?=some .none/\vs[0]?=some (.ref t0)/\vs[2]?=some .none:=(x e _ q).1
theorem aHm(q:H a=some o):upd H a o=H:=by
 funext b
 by_cases z:b=a
 ·subst z;rw[bE,q]
 ·rw[aX z]
theorem ObjOk.here(x:ObjOk P w H h a o):∃u,h.get? a=some u:=by
 cases o with
 |lst xs=>obtain⟨_,_,_,_,e⟩:=x;exact⟨_,e⟩
 |tup xs=>obtain⟨_,_,_,p⟩:=x;obtain⟨u,e,_⟩:=p;exact⟨_,e⟩
 |dK kvs=>obtain⟨_,_,_,_,o,_,_,e,_⟩:=x;exact⟨_,e⟩
 |dT kvs=>obtain⟨_,_,_,_,o,_,_,e,_⟩:=x;exact⟨_,e⟩
 |set S n=>obtain⟨o,_,_,_,e,_⟩:=x;exact⟨_,e⟩
 |ins C dx fs=>obtain⟨_,_,_,e,_⟩:=x;exact⟨_,e⟩
 |own y=>exact x
 |xd fs=>obtain⟨_,⟨_,_,_,e,_⟩,_⟩:=x;exact⟨_,e⟩
 |xo C d=>obtain⟨_,_,e,_⟩:=x;exact⟨_,e⟩
 |rng lo hi=>obtain⟨_,_,_,e⟩:=x;exact⟨_,e⟩
 |frz ob u=>obtain⟨e,_⟩:=x;exact⟨_,e⟩
 |tbl ps=>exact⟨_,(show h.get? a=some _ from x)⟩
 |met f y=>exact⟨_,(show h.get? a=some _ from x)⟩
 |ext φ=>exact x.2.1
theorem HOk.none_of(x:HOk P w H h)(n:h.get? a=none):H a=none:=by
 cases q:H a with
 |none=>rfl
 |some o=>obtain⟨u,z⟩:=(x a o q).here;rw[n]at z;cases z
variable{σ:List (Option V)}
theorem Inv.laid0(I:Inv X pins σ H s)(k:∀b u,s.heap.get? b=some u->h'.get? b=some u)(hn:s.heap.get? a=none)(new:ObjOk X.prog X.w (upd H a o) h' a o):Inv X pins σ (upd H a o) {s with heap:=h',toks:=t'}:=by
 have hH:=I.hok.none_of hn
 have ne:∀b u,s.heap.get? b=some u->b≠a:=λb u q z=>by subst z;rw[hn]at q;cases q
 refine I.un ⟨λb u q _ _ _=>k b u q,λb u q _ _ _=>⟨u.slots,k b u q⟩,λb u q n _=>by rw[aX (ne b u q)];exact n,λb u q _=>⟨u,k b u q⟩,λb xs q=>by rw[aX (bF q hH)];exact q,λb u xs q=>by rw[aX (bF q hH)];exact q,λb ps q=>⟨#[],by rw[aX (bF q hH),q];simp⟩,λb C d q=>by rw[aX (bF q hH)];exact q⟩ λb u q=>?_
 by_cases z:b=a
 ·subst z;rw[bE]at q;cases q;exact new
 ·rw[aX z]at q
  exact(I.hok b u q).stay (λc v _ q=>k c v q) (λc q=>by rw[aX (bF q hH)];exact q) λc xs q=>by rw[aX (bF q hH)];exact q
variable{f:Str}
theorem Inv.gotDict{y:V}{u:Value}(I:Inv X pins σ H s)(he:H e=some (XN e C none))(hn:s.heap.get? dx=none)(k:∀b u,b≠e->s.heap.get? b=some u->h'.get? b=some u)
  (q:h'.get? e=some ⟨.ref C,some dx,.fields vs,sl⟩)(q1:vs[1]?=some .none)(q0:vs[0]?=some (.ref t0))(q2:vs[2]?=some .none)(ns:h'.Ns1 dx (λz=>if z=f then some u else none))(r:RelV y u) :
  Inv X pins σ (upd (upd H dx (.xd [(f,y)])) e (XN e C (some dx))) {s with heap:=h',toks:=t'}:=by
 have hH:=I.hok.none_of hn
 have ned:dx≠e:=λz=>by subst z;rw[hH]at he;cases he
 have nd:∀b u,s.heap.get? b=some u->b≠dx:=λb u qq z=>by subst z;rw[hn]at qq;cases qq
 have ne:∀b,H b=none->b≠e:=λb n z=>by subst z;rw[he]at n;cases n
 have old:∀b o,H b=some o->b≠e->upd (upd H dx (.xd [(f,y)])) e (XN e C (some dx)) b=some o:=λb o q z=>by rw[aX z,aX (bF q hH)];exact q
 have hx:∀b u,H b=some u->(∀φ,u≠.ext φ)->b≠e:=λb u qq n z=>by subst z;rw[he]at qq;cases qq;exact n _ rfl
 refine I.un ⟨λb u q n _ _=>k b u (ne b n) q,λb u q n _ _=>⟨u.slots,k b u (ne b n) q⟩,λb u q n _=>by rw[aX (ne b n),aX (nd b u q)];exact n,λb u q _=>?_,λb xs q=>old b _ q (hx b _ q λ_ z=>nomatch z),λb u xs q=>old b _ q (hx b _ q λ_ z=>nomatch z),λb ps q=>⟨#[],by rw[old b _ q (hx b _ q λ_ z=>nomatch z)];simp⟩,λb C d q=>old b _ q (hx b _ q λ_ z=>nomatch z)⟩ λb u z=>?_
 ·by_cases z:b=e
  ·subst z;exact⟨_,‹h'.get? b=some _›⟩
  ·exact⟨u,k b u z q⟩
 ·by_cases hb:b=e
  ·subst hb;rw[bE]at z;cases z;exact XN.ok q q1 q0 q2
  ·rw[aX hb]at z
   by_cases hd:b=dx
   ·subst hd;rw[bE]at z;cases z
    refine⟨_,ns,λg=>?_⟩
    by_cases hg:g=f
    ·subst hg;simp[List.lookup,RelO,r]
    ·have:(g==f)=false:=by simpa using hg
     simp[List.lookup,RelO,hg,this]
   ·rw[aX hd]at z
    refine(I.hok b u z).stay (λc v hc q'=>k c v ?_ q') (λc q'=>old c _ q' (hx c _ q' λ_ z=>nomatch z)) λc xs q'=>old c _ q' (hx c _ q' λ_ z=>nomatch z)
    rcases hc with rfl|hc
    ·exact hb
    ·exact hx c _ hc λ_ z=>nomatch z
theorem Inv.flies(I:Inv X pins σ (upd H e (XN e C d)) s):Inv X pins σ (upd H e (XO e C d)) s/\XRec (Free X pins) (upd H e (XO e C d)) s.heap e C d:=by
 obtain⟨vs,sl,t0,q,q1,q0,q2⟩:=XN.at I.hok bE
 refine⟨?_,vs,sl,q,⟨(aFV.mp q1).1,q2⟩,.inl q1⟩
 have:=I.write (x:=e) (e:=e) (o:=XO e C d) (h':=s.heap) (t':=s.toks) (by rw[bE];trivial) (.inl rfl) (λ_ _ _ q=>q) ⟨_,q⟩ (XO.ok q q2)
 rw[aKr]at this
 exact this
structure LeF(K:Frag)(LE:Addr):Prop where
 rd:readsIn K LE (.type "type")=true
 ga:specialIn K (.ref LE) "__getattribute__"=some (some (.builtin "type.__getattribute__"))
 ini:findCls K (.ref LE) (.type "type") "__init__"=some (.val (.builtin "ValueError.__init__"))
 tl:tailIn K vb (.ref LE::vb)=true
section
variable{e1 e2 o v:Expr}{t:TA}{to tv:TE}{p1 ap cp:Pos}
noncomputable def tBinit(C:Addr)(t:TA):TE:=λσ H Q=>t σ H λvs H1=>∃e u,vs=[.ref e,u]/\H1 e=some (XN e C none)/\Q .non H1
theorem aHd{pl:Sem Bool}(F:LeF X.K LE)(hm:X.mg "LentError"=some (.ref LE))(hC:xcB X.K C (.ref LE::vb) ini=true)(ha:PA X [e1,e2] t)(hg:Gl X "LentError":=by rfl)
  (hs:starEach [e1,e2] X.env=[(false,eval e1 X.env),(false,eval e2 X.env)]:=by rfl)
  (hev:eval (.Call (.Attribute (.Name "LentError" p1) "__init__" ap) [e1,e2] [] cp) X.env=(do
   let ov <- eval (.Name "LentError" p1) X.env
   standAt ap.atName
   let(f,first) <- holding [ov] (getMethod ov "__init__" pl)
   callWith cp f first (backTo cp (starEach [e1,e2] X.env)) (backToKw cp (keywordEach [] X.env))):=by rfl) :
  PE X (.Call (.Attribute (.Name "LentError" p1) "__init__" ap) [e1,e2] [] cp) (tBinit C t):=by
 intro pins s σ H Q I h
 refine methodCall_KW (pl:=pl) (kG I hg hm ?_) hev
 refine method_cls I.kIn F.ga (cls_value I.kIn F.rd F.ini rfl ?_)
 have hA:=ha cp pins _ σ H _ (I.tok (s.toks+1)) h
 rw[hs]at hA ⊢
 refine aGK rfl (Calls.evalArgs_plain (thn hA λus s1 ⟨vs,H1,I1,r,e,u,ev,he,q⟩=>?_))
 subst ev
 obtain⟨a,b,rfl,ra,rb⟩:=Vals.two r
 cases(show a=Value.ref e from ra)
 obtain⟨vs',sl,t0,z,z1,z0,z2⟩:=XN.at I1.hok he
 obtain⟨nm,qn,N,bs,hdct,sn,sub,ab,col,dd,k0,k1,k2,k3,k5,oC,_⟩:=rO I1.kIn hC
 obtain⟨hp,gn,dr,tk,oz⟩:=s1
 refine xinit (tail_of_in I1.kIn F.tl) oC z z0 λh' zn k=>?_
 have J:=I1.write (x:=e) (e:=e) (o:=XN e C none) (h':=h') (t':=tk) (by rw[he];trivial) (.inl rfl) (λb u n q=>k b u n q) ⟨_,zn⟩ (XN.ok (t0:=hp.objs.size) zn (by rw[aGX (by decide)];exact z1) (by simp[(aFV.mp z0).1]) (by rw[aGX (by decide)];exact z2))
 rw[aHm he]at J
 exact⟨.non,H1,J,rfl,q⟩
noncomputable def sXfld(K:Frag)(C:Addr)(to tv:TE)(f:Str):TS:=λD σ H=>tv σ H λy H1=>to σ H1 λx H2=>∃e,x=.ref e/\H2 e=some (XN e C none)/\∀dx,H2 dx=none->dx≠e->D.nx σ (upd (upd H2 dx (.xd [(f,y)])) e (XN e C (some dx)))
theorem aLu(hc:clsIn X.K C=some cd)(hm:cd.mro=.ref C::.ref LE::vb)(hd:cd.hasDict=true)(hsa:findIn X.K (.ref C) "__setattr__"=some (some (.builtin "object.__setattr__")))(hn:findIn X.K (.ref C) f=some none)
  (ho:PE X o to)(hv:PE X v tv)(hs:swapsWith v (some (.Attribute o f pos')) pos.line X.env=pure false:=by rfl):PS X (.Assign [.Attribute o f pos'] v pos) (sXfld X.K C to tv f):=by
 intro pins s σ H D I h
 refine plainObj_wpAny_Assign_Attribute (thn (hv pins s σ H _ I h) λu s1 ⟨y,H1,I1,ry,q⟩=>thn (ho pins s1 σ H1 _ I1 q) λov s2 ⟨x,H2,I2,rx,e,ex,he,q2⟩=>?_) hs
 subst ex
 cases(show ov=Value.ref e from rx)
 obtain⟨vs,sl,t0,z,z1,z0,z2⟩:=XN.at I2.hok he
 have fresh:s2.heap.get? s2.heap.objs.size=none:=aFR (aAG _)
 refine xset I2.kIn z hc hm hd hsa hn λh' tk' w1 w2 w3=>?_
 exact⟨σ,_,I2.gotDict (t':=tk') he fresh w3 w1 z1 z0 z2 w2 ry,q2 _ (I2.hok.none_of fresh) (aBF (aAF z))⟩
end
theorem aKv{p o':HO}(n:dx≠e):upd (upd (upd H e o) dx p) e o'=upd (upd H dx p) e o':=by
 funext b
 unfold upd
 by_cases h1:b=e
 ·simp[h1]
 ·by_cases h2:b=dx
  ·simp[h2,n]
  ·simp[h1,h2]
noncomputable def spXI(C:Addr)(f:Str):Sp:=λvs H Q _=>∃e y,vs=[.ref e,y]/\H e=some (XN e C none)/\∀dx,H dx=none->dx≠e->Q .non (upd (upd H dx (.xd [(f,y)])) e (XN e C (some dx)))
theorem Fun.okN{x:Str}{f:Addr}{N:List Str}{k:Nat}(F:Fun K x qual st f fd)(S:FnScope N ps (defScope st))(len:∀vs H Q E,sp vs H Q E->vs.length=ps.length)
  (hbody:∀(cdv:Value) (A:Around) (outer:List Env) (s:Shared) (H:Hp) (vs:List V) (Q:VK) (E:XK),Room k (A.deeper (envOfC qual (defScope st) s.heap.objs.size f cdv))->sp vs H Q E ->
   ∃t,PSs (cxOf CX P w K mg base N qual (defScope st) f cdv A outer s H E).nox (defBody st) t/\t {nx:=λ_ H'=>Q .non H',rt:=Q} (start N vs) H):FnOk P w K mg base CX (k+1) f fd ps sp:=by
 obtain⟨oc,od,kV,doc,pm,an,cdv,ct,osl,rfl,lk,hcd⟩:=F.ex
 refine aCl lk hcd S len λA outer s H vs Q E hr hsp=>?_
 obtain⟨t,h,q⟩:=hbody cdv A outer s H vs Q E hr hsp
 exact⟨t,h.nox,q⟩
theorem aKu{p txt:Str}(F:Fun K "__init__" qual st fI fd)(S:FnScope ["self",p] ["self",p] (defScope st))
  (hb:∀(cdv:Value) (A:Around) (outer:List Env) (s:Shared) (H:Hp) (E:XK),PSs (cxOf CX P w K mg base ["self",p] qual (defScope st) fI cdv A outer s H E).nox (defBody st) (tSeq (tDrop (tBinit C (tCons (tVar 0) (tCons (tC (.str txt)) tNil)))) (sXfld K C (tVar 0) (tVar 1) f))) :
  FnOk P w K mg base CX 1 fI fd ["self",p] (spXI C f):=by
 refine F.okN (k:=0) S (λvs H Q E ⟨e,y,h,_⟩=>by rw[h];rfl) λcdv A outer s H vs Q E _ ⟨e,y,hv,he,hq⟩=>⟨_,hb cdv A outer s H E,?_⟩
 subst hv
 exact⟨.ref e,rfl,e,.str txt,rfl,he,y,rfl,.ref e,rfl,e,rfl,he,hq⟩
section
variable{k:Nat}{E:XK}{x:Str}{e:Expr}{es:List Expr}{t:TA}{σ:St}{Q:VK}{vs:List V}
theorem aFr(hxo:xcB X.K C (.ref LE::vb) (some (.ref fI))=true)(F:LeF X.K LE)(hf:typeIn X.K (.ref fI)=some (.type "function"))(G:FnOk X.prog X.w X.K X.mg X.base CX k fI fd ps (spXI C f))(hr:Room (k+1) X.A)(hb:Binds X.K fd ps [])(hx:Passes CX X E)
  (I:Inv X pins σ H s)(r:Vals vs us)(h:∃y,vs=[y]/\∀e dx,H e=none->H dx=none->dx≠e->Q (.ref e) (upd (upd H dx (.xd [(f,y)])) e (XN e C (some dx)))) :
  wpAny (model X.prog X.w) X.A (call (.ref C) us) (EP X pins σ Q) X.xe s:=by
 obtain⟨y,rfl,h⟩:=h
 obtain⟨u,rfl,ru⟩:=Vals.one r
 obtain⟨nm,qn,N,bs,hdct,sn,sub,ab,col,dd,k0,k1,k2,k3,k5,oC,mN,nsN,iN⟩:=rO I.kIn hxo
 have gI:∃oI,s.heap.get? fI=some oI/\oI.cls=.type "function":=by
  obtain⟨o,z,zc⟩:=aBE.mp hf
  exact⟨o,I.kIn _ _ z,zc⟩
 obtain⟨oI,gI,cI⟩:=gI
 obtain⟨hp,gn,dr,tk,oz⟩:=s
 refine aBz (few:=by show 1<=sizeLine;decide) PySem.F.excBase_ValueError (tail_of_in I.kIn F.tl) oC nsN iN gI cI λh' a mk=>?_
 obtain⟨t0,ea,_,_⟩:=mk.there
 have hn:=I.hok.none_of mk.new
 have I2:Inv X pins σ (upd H a (XN a C none)) ⟨h',gn,dr,tk,oz⟩:=I.laid0 (t':=tk) mk.keeps mk.new (XN.ok (t0:=t0) ea rfl rfl rfl)
 have sp:spXI C f [.ref a,y] (upd H a (XN a C none)) (λv H2=>v=.non/\Q (.ref a) H2) E:=⟨a,y,rfl,bE,λdx hd ne=>⟨rfl,by rw[aKv ne];exact h a dx hn (by rw[aX ne]at hd;exact hd) ne⟩⟩
 have r2:Vals [V.ref a,y] [Value.ref a,u]:=.cons rfl (.cons ru .nil)
 have hl:([Value.ref a,u]++[]).length=ps.length:=by have:=G.len _ _ _ _ sp;simpa using this
 refine aFQ (aHO (G.run _ X.stack _ _ ⟨[.ref a,u],[]⟩ [.ref a,u] _ _ E (hr.make C [u] []) (I2.env0.make C [u] []) (hb _ [.ref a,u] I2.kIn hl) r2 sp) λr s' hq'=>?_)
 cases r with
 |error e=>exact hx pins σ _ _ e s' I2 hq'
 |ok fl =>
  cases fl with
  |ret u =>
   obtain⟨v,H',I3,rv,ev,q3⟩:=I2.after hq'
   subst ev
   exact⟨rv,⟨V.ref a,H',I3,rfl,q3⟩⟩
  |next=>exact False.elim hq'
  |brk=>exact False.elim hq'
  |cont=>exact False.elim hq'
noncomputable def tXmake(C:Addr)(f:Str)(t:TA):TE:=λσ H Q=>t σ H λvs H1=>∃y,vs=[y]/\∀e dx,H1 e=none->H1 dx=none->dx≠e->Q (.ref e) (upd (upd H1 dx (.xd [(f,y)])) e (XN e C (some dx)))
theorem aIt(hxo:xcB X.K C (.ref LE::vb) (some (.ref fI))=true)(F:LeF X.K LE)(hf:typeIn X.K (.ref fI)=some (.type "function"))(G:FnOk X.prog X.w X.K X.mg X.base CX k fI fd ps (spXI C f))(hr:Room (k+1) X.A)(hb:Binds X.K fd ps [])(hx:Passes CX X E)
  (hm:X.mg x=some (.ref C))(hk:keepIn X.K (.ref C)=true)(ha:PA X (e::es) t)(hg:Gl X x:=by rfl)(hdb:(x==("__debug__":Str))=false:=by decide)(he:starEach (e::es) X.env=(false,eval e X.env)::starEach es X.env:=by rfl)(hpl:(backTo pos (starEach es X.env)).any (·.1)=false:=by rfl) :
  PE X (.Call (.Name x p) (e::es) [] pos) (tXmake C f t):=by
 intro pins s σ H Q I h
 refine aCY (kG I hg hm ?_ hdb)
 refine aHV (h₀:=X.base) I.ok.mod.kin hk (thn (ha pos pins s σ H _ I h) λus s1 ⟨vs,H1,I1,r,q⟩=>⟨I1.kIn,?_⟩) he hpl
 exact aFr hxo F hf G hr hb hx I1 r q
noncomputable def tRaise(C:Addr)(R:Addr->Hp->Prop)(te:TE):TS:=λ_ σ H=>te σ H λv H1=>∃e d H0,v=.ref e/\H1=upd H0 e (XN e C d)/\R e (upd H0 e (XO e C d))
theorem aGk(hxo:xcB X.K C (.ref LE::vb) ini=true)(hc:X.calm=true)(hz:Xz X R)(he:PE X e te):PS X (.Raise (some e) none pos) (tRaise C R te):=by
 intro pins s σ H D I h
 rw[arm_exec_Raise]
 refine aAA (aEX ?_)
 show wpAny _ _ (raiseStmt X.env (some (do let v <- eval e X.env;standAt pos;pure v)) none) _ _ s
 refine aJk (C:=C) (bm:=.ref LE::vb) (ini:=ini) rfl (I.ok.hd hc) (aAA (thn (he pins s σ H _ I h) λv s1 ⟨x,H1,I1,rx,a,d,H0,ex,eH,q⟩=>aAA (aEX (aAC ?_))))
 subst ex eH
 cases(show v=Value.ref a from rx)
 obtain⟨vs,sl,t0,z,z1,z0⟩:=XN.at I1.hok bE
 obtain⟨I2,x2⟩:=I1.flies
 exact⟨a,d,vs,sl,rfl,rO I1.kIn hxo,z,z1,hz.go pins σ _ _ ⟨a,_,C,d,rfl,I2,x2,bE,q⟩⟩
end
section
variable{g:Array GenState}{t:Nat}{os:OsState}{D:Addr}{oe:Obj}{bmD:List Value}{iniD:Option Value}{Q:Bool->Shared->Prop}
theorem excM(hC:XcO h C bm ini)(he:h.get? e=some oe)(hcls:oe.cls=.ref C)(hD:XcO h D bmD iniD)(hB:bmD.contains (.type "BaseException")=true)(hsub:(Value.ref C::bm).contains (.ref D)=true)(hq:Q true ⟨h,g,dr,t,os⟩) :
  wpAny M A (excMatches (.ref e) (.ref D)) Q E ⟨h,g,dr,t,os⟩:=by
 obtain⟨nm,qn,N,bs,hdct,sn,sub,ab,col,dd,k0,k1,k2,k3,k5,oC,_⟩:=hC
 obtain⟨nm',qn',N',bs',hdct',sn',sub',ab',col',dd',k0',k1',k2',k3',k5',oD,_⟩:=hD
 have hcB:(Value.ref D::bmD).contains (.type "BaseException")=true:=by rw[List.contains_cons,hB,Bool.or_true]
 have f:=tc_notTuple
 unfold excMatches
 repeat(first|(with_reducible refine aDN he ?_;rw[hcls])|with_reducible refine aDN oD ?_ |(with_reducible refine aFY oD ?_;rw[hcB])|(with_reducible refine aFY oC ?_;rw[hsub])|wp_step)
 exact hq
end
noncomputable section
def PEx(X:Cx)(e:Expr)(t:St->Hp->VK->(Addr->Hp->Prop)->Prop):Prop :=
 ∀(pins:List (Addr×Obj)) (s:Shared) (σ:St) (H:Hp) (Q:VK) (R:Addr->Hp->Prop),Inv X pins σ H s->t σ H Q R->wpAny (model X.prog X.w) X.A (eval e X.env) (EP X pins σ Q) (XE X pins σ R) s
def PBx(X:Cx)(b:List Stmt)(t:Ends->(Addr->Hp->Prop)->St->Hp->Prop):Prop :=
 ∀(pins:List (Addr×Obj)) (s:Shared) (σ:St) (H:Hp) (D:Ends) (R:Addr->Hp->Prop),Inv X pins σ H s->t D R σ H->wpAny (model X.prog X.w) X.A (execs b X.env) (SP X pins D) (XE X pins σ R) s
abbrev Cx.hnd(X:Cx)(e:Addr):Cx:={X with A:=X.A.mark (some (.ref e)),calm:=false,xe:=λ_ _=>False}
end
theorem Cx.Ok.hnd{X:Cx}(ok:X.Ok)(e:Addr):(X.hnd e).Ok :=
 ⟨ok.mod,ok.kind,ok.glob,ok.blt,ok.above,ok.inj,ok.has,ok.cab,(λz=>nomatch z),ok.frames,ok.stk,ok.exf,ok.bs,ok.bsz,ok.noex,ok.exfs,ok.funs,ok.frf⟩
variable{σ:St}
theorem Inv.hnd{C:Addr}{d:Option Addr}(I:Inv X pins σ H s)(he:H e=some (XO e C d)):Inv (X.hnd e) pins σ H s:=⟨I.ok.hnd e,I.os,I.bare,I.base,I.loc,I.cell,I.free,I.freeC,I.pin,I.hok,I.len,λ_=>.inr ⟨e,C,d,rfl,he⟩⟩
theorem Inv.unhnd(hc:X.calm=true)(ok:X.Ok)(I:Inv (X.hnd e) pins σ H s):Inv X pins σ H s:=⟨ok,I.os,I.bare,I.base,I.loc,I.cell,I.free,I.freeC,I.pin,I.hok,I.len,λz=>nomatch hc.symm.trans z⟩
theorem SP.unhnd{D:Ends}{f:Flow}{s':Shared}(hc:X.calm=true)(ok:X.Ok)(h:SP (X.hnd e) pins D f s'):SP X pins D f s':=by
 cases f with
 |next=>obtain⟨σ',H',I,q⟩:=h;exact⟨σ',H',I.unhnd hc ok,q⟩
 |brk=>obtain⟨σ',H',I,q⟩:=h;exact⟨σ',H',I.unhnd hc ok,q⟩
 |cont=>obtain⟨σ',H',I,q⟩:=h;exact⟨σ',H',I.unhnd hc ok,q⟩
 |ret u=>obtain⟨v,σ',H',I,r,q⟩:=h;exact⟨v,σ',H',I.unhnd hc ok,r,q⟩
variable{n:Str}
theorem kD{Q:Unit->Shared->Prop}(I:Inv X pins σ H s)(hi:X.N[i]?=some n)(hN:X.N.Nodup)(hl:X.env.scope.names.lookup n=some .local)
  (h:∀s',Inv X pins (σ.set i none) H s'->Q () s'):wpAny M A (do bindName X.env n .none;unbindBehindTheSuite X.env n pos) Q E s:=by
 obtain⟨m,hn,hv⟩:=id I.loc
 have hcls:(X.env.scope.kind==.class || (X.env.scope.kind==.module&&X.env.locals != X.env.globals))=false:=by rw[I.ok.kind];rfl
 refine wpAny_nameGoes_keeps hl hn hcls λh' v nn same=>h _ ?_
 have nL:∀b o,X.s₀.heap.get? b=some o->b≠X.env.locals:=λb o q=>aAJ (aAO (aAF q) I.ok.above)
 refine⟨I.ok,I.os,I.bare,⟨λb o q n hb hx=>(same.2 b (nL b o q)).trans (I.base.keep b o q n hb hx),λb o q n hb hx=>?_,I.base.free,λb o q hx=>?_,I.base.tups,I.base.frzs,I.base.tbls,I.base.xos⟩,⟨_,nn,λj y u e1 e2 e3=>?_⟩,λy c q=>?_,I.free,I.freeC,λp hp=>?_,λb o q=>?_,by simpa using I.len,I.hx⟩
 ·obtain⟨sl,z⟩:=I.base.slot b o q n hb hx
  exact⟨sl,(same.2 b (nL b o q)).trans z⟩
 ·obtain⟨o',z⟩:=I.base.there b o q hx
  exact⟨o',(same.2 b (nL b o q)).trans z⟩
 ·by_cases hj:j=i
  ·subst hj
   rw[List.getElem?_set_self' ]at e2
   cases z:σ[j]? <;> rw[z]at e2 <;> cases e2
  ·rw[aCF (Ne.symm hj)]at e2
   obtain⟨u',r',q⟩:=hv j y u e1 e2 e3
   refine⟨u',r',?_⟩
   rcases q with⟨k,z⟩|⟨k,c,z,w⟩
   ·have:y≠n:=λz=>hj (sG hN e1 (z▸hi))
    exact .inl ⟨k,by simp[this,z]⟩
   ·exact .inr ⟨k,c,z,w.sameBut same (I.cne y c z)⟩
 ·obtain⟨w',z⟩:=I.cell y c q
  exact⟨w',z.sameBut same (I.cne y c q)⟩
 ·obtain⟨z,n,ne,nf,dd⟩:=I.pin p hp
  exact⟨(same.2 p.1 ne).trans z,n,ne,nf,dd⟩
 ·refine(I.hok b o q).stay (λc u hc z=>(same.2 c ?_).trans z) (λ_ z=>z) λ_ _ z=>z
  rintro rfl
  rcases hc with rfl|hc
  ·have:=I.free;rw[q]at this;cases this
  ·have:=I.free;rw[hc]at this;cases this
structure XM(K:Frag)(C D:Addr):Prop where
 c:∃bm ini,xcB K C bm ini=true/\(Value.ref C::bm).contains (.ref D)=true
 d:∃bm ini,xcB K D bm ini=true/\bm.contains (.type "BaseException")=true
variable{b₀:Stmt}{suite:List Stmt}{np hpos:Pos}{tb:Ends->(Addr->Hp->Prop)->St->Hp->Prop}{ts:TS}
noncomputable def tTryAs(K:Frag)(Dc:Addr)(i:Nat)(tb:Ends->(Addr->Hp->Prop)->St->Hp->Prop)(ts:TS):TS:=λD σ H=>tb D (λa H'=>(∃C d,H' a=some (XO a C d)/\XM K C Dc) /\
 ts {nx:=λσ' H''=>D.nx (σ'.set i none) H'',rt:=D.rt,bk:=λσ' H''=>D.bk (σ'.set i none) H'',ct:=λσ' H''=>D.ct (σ'.set i none) H''} (σ.set i (some (.ref a))) H') σ H
theorem aMe{C':Addr}{d':Option Addr}(ok:HOk P w H h)(q:H a=some (XO a C d))(q':H a=some (XO a C' d')):C=C'/\d=d':=by
 obtain⟨_,_,z⟩:=XO.at ok q
 obtain⟨_,_,z'⟩:=XO.at ok q'
 rw[z]at z';cases z';exact⟨rfl,rfl⟩
theorem aIn(hN:X.N.Nodup)(hb:PBx X body tb)(hs:∀a,PSs (X.hnd a) (b₀::suite) ts)(hm:X.mg cn=some (.ref Dc))(hi:X.N[i]?=some n:=by rfl)(hl:X.env.scope.names.lookup n=some .local:=by rfl)(hg:Gl X cn:=by rfl)(hst:X.stack=X.env::X.outer:=by rfl)(hfm:X.env.frame=some X.env.locals:=by rfl)(hdb:(cn==("__debug__":Str))=false:=by decide)(hc:X.calm=true:=by rfl) :
  PS X (.Try body [.ExceptHandler (some (.Name cn np)) (some n) (b₀::suite) hpos] [] [] pos) (tTryAs X.K Dc i tb ts):=by
 intro pins s σ H D I h
 refine wpAny_Try_except (aCT (hb pins s σ H D _ I h) (λf s1 q=>?_) λev s1 ⟨a,H1,C,d,ee,I1,x1,hx,⟨C',d',hx',xm⟩,q⟩=>?_)
 ·cases f with
  |next=>exact aFZ q
  |brk=>exact q
  |cont=>exact q
  |ret u=>exact q
 ·subst ee
  obtain⟨rfl,rfl⟩:=aMe I1.hok hx hx'
  refine I1.flight hst hfm I1.ok.frames x1 hx λh2 I2 x2=>?_
  refine wpAny_handleBy_cons (codeAny_handlers_test (kG (X:=X.hnd a) (I2.hnd hx) hg hm ?_ hdb)) (by intro q;cases q)
  obtain⟨bm,ini,c1,c2⟩:=xm.c
  obtain⟨bmD,iniD,d1,d2⟩:=xm.d
  obtain⟨vs,sl,z⟩:=XO.at I2.hok hx
  refine excM (rO I2.kIn c1) z rfl (rO I2.kIn d1) d2 c2 ?_
  refine codeAny_handlers_suite_as (I2.again hst hfm x2 hx λh3 I3 x3=>?_)
  refine eG I3 hN hi (.inl hl) (v:=.ref a) rfl (λs4 I4=>?_) (.inr hl)
  refine aCT ((hs a) pins _ (σ.set i (some (.ref a))) H1 _ (I4.hnd hx) q) (λf s5 q5=>?_) λ_ _ z=>z.elim
  have q5:=q5.unhnd hc I4.ok
  cases f with
  |next=>obtain⟨σ',H',I',q'⟩:=q5;exact kD I' hi hN hl λs6 I6=>⟨_,H',I6,q'⟩
  |brk=>obtain⟨σ',H',I',q'⟩:=q5;exact kD I' hi hN hl λs6 I6=>⟨_,H',I6,q'⟩
  |cont=>obtain⟨σ',H',I',q'⟩:=q5;exact kD I' hi hN hl λs6 I6=>⟨_,H',I6,q'⟩
  |ret u=>obtain⟨v,σ',H',I',r,q'⟩:=q5;exact kD I' hi hN hl λs6 I6=>⟨v,_,H',I6,r,q'⟩
variable{K:Frag}{c:Str}
theorem aLl(K:Frag):specialIn K (.builtin "object.__class__") "__get__"=some (some (.builtin "getset_descriptor.__get__")):=by with_unfolding_all rfl
theorem aOl(K:Frag):takesIn K (.builtin "object.__class__")=some true:=by with_unfolding_all rfl
variable{od:Option Obj}
theorem aAz{a g:Value}(hc:(clsIn K C).isSome=true)(ha:findIn K (.ref C) name=some (some a))(hg:specialIn K a "__get__"=some (some g))(ht:takesIn K a=some true):findObj K C od name=some (.bind g a):=by
 obtain⟨cd,hc⟩:=aDK.mp hc
 unfold findObj
 simp only[hc,ha,aDT,hg,ht]
theorem Xc.mro(F:Xc K c C LE)(b:Value):mroIn K C b=some ((Value.ref C::.ref LE::vb).contains b):=by
 obtain⟨cd,h1,_,h2⟩:=F.cd
 unfold mroIn
 rw[h1,aDT,h2]
 rfl
variable{ox:Obj}
theorem xclass{Q:Option Value->Shared->Prop}(F:Xc K c C LE)(X:K.In s.heap)(I:InstAt s.heap x ox C od)(h:Q (some (.ref C)) {s with toks:=s.toks+1}):wpAny (model prog w) A (getAttr? (.ref x) "__class__") Q E s:=by
 obtain⟨hp,gn,dr,tk,oz⟩:=s
 dsimp only at X I h
 obtain⟨cd,hc,_,hm⟩:=F.cd
 have hf:findObj K C od "__class__"=some (.bind (.builtin "getset_descriptor.__get__") (.builtin "object.__class__")):=aAz (by rw[hc];rfl) F.cl (aLl K) (aOl K)
 have GA:=PySem.F.attr_ValueError.ga
 have hsub:Looks (model prog w) hp (isInstance (.ref x) (.type "BaseException")) true:=I.type.andThen (oY X hc hm _)
 unfold getAttr? getAttrBy? getAttrBy
 refine aAA (wpAny_mkText (aAA (aBT (aBL (aAA (I.type.at (aAA ((looks_findIn X F.ga).at ?_))))))))
 dsimp only
 rw[show(onTheHeap (Value.ref C)&&Value.builtin "BaseException.__getattribute__"==Value.builtin "object.__getattribute__")=false from by rw[show(Value.builtin "BaseException.__getattribute__"==Value.builtin "object.__getattribute__")=false from by decide +kernel,aFG],aAL (by decide)]
 unfold getAttrByItsOwn
 have hk:Looks (model prog w) hp (hookBefore (.ref C)) none:=looks_hook X (by rw[aAI (show onTheHeap (Value.ref C)=true from rfl)];exact F.gh)
 refine aAA (hk.at (aAA (aBT (aBL ?_))))
 unfold callGetattribute
 rw[show(false&&onTheHeap (Value.builtin "BaseException.__getattribute__"))=false from rfl,aAL (by decide)]
 unfold boundAndCalled
 rw[GA.bind]
 refine aAA (aAC ?_)
 show wpAny _ _ (call (.builtin "BaseException.__getattribute__") [.ref x,.str "__class__" tk]) _ _ _
 refine aFQ (aFT GA.plain PySem.F.entry_bexc_ga (@check_slot (model prog w) _ _ ⟨hp,gn,dr,tk+1,oz⟩ "BaseException.__getattribute__" "BaseException" "__getattribute__" (.ref x) [.str "__class__" tk] [] _ zK uF hsub (PySem.F.args_bexc_ga (.ref x) (.str "__class__" tk)) ?_))
 unfold Builtin.«object.__getattribute__»
 refine aAA (aAC (aAA (aAC (aAA (I.type.at (aAA ((looks_find X I hf).at ?_)))))))
 show wpAny _ _ (holding [Value.builtin "object.__class__"] (call (.builtin "getset_descriptor.__get__") [.builtin "object.__class__",.ref x,.ref C]) >>= ret) _ _ _
 refine aAA (aBL (aFQ (class_get X I ?_ (aAC ?_))))
 ·have:=F.mro (.type "object");exact this
 ·show wpAny _ _ (handedOut (.ref C)) _ _ _
  rw[handedOut_of rfl]
  exact aAC (aAC h)
theorem yE(F:Xc K c C LE):KitX K (.ref x) (.ref C) (λh=>InstAt h x ox C od)where
 ty:=λ_ _ _ I=>I.type
 it:=λ_ _ X _=>by
  obtain⟨cd,hc,_⟩:=F.cd
  unfold clsIn at hc
  split at hc
  ·rename_i c' d' cd' sl' ho
   intro A' Q' E' s' k q
   unfold isType loadHead
   exact aAA (wpAny_loadPart (k _ _ (X _ _ ho)) (aAC q))
  ·cases hc
 ne:=λh tp dd its n sl X htp=>by
  obtain⟨cd,hc,_⟩:=F.cd
  refine Bool.eq_false_iff.mpr λq=>?_
  cases Value.ref.inj (aEY.mp q)
  unfold clsIn at hc
  split at hc
  ·rename_i c' d' cd' sl' ho
   cases(X _ _ ho).symm.trans htp
  ·cases hc
 ca:=λX I k=>xclass F X I k
noncomputable def clV:V->Option Value
 |.ref a=>some (.ref a)
 |.ty n=>some (.type n)
 |_=>none
theorem aCw{v:V}{c:Value}(h:clV v=some c)(r:RelV v u):u=c:=by
 cases v <;> simp only[clV,aAQ,reduceCtorEq]at h <;> (subst h;exact r)
variable{σ:List (Option V)}
theorem yV{f:Str}{u:V}(I:Inv X pins σ H s)(he:H x=some (XO x C d))(hd:d=none\/∃dx fs,d=some dx/\H dx=some (.xd fs)):∃ox od,InstAt s.heap x ox C od:=by
 obtain⟨vs,sl,q⟩:=XO.at I.hok he
 rcases hd with rfl|⟨dx,fs,rfl,hx⟩
 ·exact⟨_,none,q,rfl,rfl,trivial⟩
 ·obtain⟨mA,n,_⟩:=(show ObjOk X.prog X.w H s.heap dx (.xd fs)from I.hok dx _ hx)
  obtain⟨od,ho,_⟩:=pC n
  exact⟨_,some od,q,rfl,rfl,ho⟩
noncomputable section
def rIsX(K:Frag):List V->Hp->VK->Prop:=λxs H Q=>∃x C LE c d y cv b,xs=[.ref x,y]/\H x=some (XO x C d)/\(d=none\/∃dx fs,d=some dx/\H dx=some (.xd fs))/\Xc K c C LE/\clV y=some cv/\kitOne K (.ref C) cv=some b/\Q (.bl b) H
def rIsXs(K:Frag):List V->Hp->VK->Prop:=λxs H Q=>∃x C LE c d tp ys cvs b,xs=[.ref x,.ref tp]/\H x=some (XO x C d)/\(d=none\/∃dx fs,d=some dx/\H dx=some (.xd fs))/\Xc K c C LE/\H tp=some (.tup ys)/\ys.map clV=cvs.map some/\kitAny K (.ref C) cvs=some b/\Q (.bl b) H
theorem aIs:CallR X (.builtin "isinstance") (rIsX X.K):=by
 intro pins s σ H xs us Q I r h
 obtain⟨x,C,LE,c,d,y,cv,b,ex,hx,hd,F,hy,ek,q⟩:=h
 subst ex
 obtain⟨u,w',rfl,r1,r2⟩:=Vals.two r
 cases(show u=Value.ref x from r1)
 cases aCw hy r2
 obtain⟨ox,od,J⟩:=yV (f:=c) (u:=y) I hx hd
 exact kia_one (yE (od:=od) (ox:=ox) F) I.kIn J ek (λz=>nomatch z) λtk=>⟨.bl b,H,I.tok tk,rfl,q⟩
theorem zH:∀{ys:List V} {us cvs:List Value},ys.map clV=cvs.map some->Vals ys us->us=cvs
 |[],us,cvs,h,r=>by cases r;cases cvs with|nil=>rfl|cons=>simp at h
 |y::ys,us,cvs,h,r=>by
  cases r with
  |cons r1 r2 =>
   cases cvs with
   |nil=>simp at h
   |cons cv cvs =>
    simp only[aBP,List.cons.injEq]at h
    rw[aCw h.1 r1,zH h.2 r2]
theorem aFn:CallR X (.builtin "isinstance") (rIsXs X.K):=by
 intro pins s σ H xs us Q I r h
 obtain⟨x,C,LE,c,d,tp,ys,cvs,b,ex,hx,hd,F,ht,hy,ek,q⟩:=h
 subst ex
 obtain⟨u,w',rfl,r1,r2⟩:=Vals.two r
 cases(show u=Value.ref x from r1)
 cases(show w'=Value.ref tp from r2)
 obtain⟨_,its,rv,o,ho,oc,n,od'⟩:=(show ObjOk X.prog X.w H s.heap tp (.tup ys)from I.hok tp _ ht)
 cases zH hy rv
 obtain⟨ox,od,J⟩:=yV (f:=c) (u:=.non) I hx hd
 obtain⟨c0,d0,dt0,sl0⟩:=o
 dsimp only at oc od'
 subst oc od'
 exact kia_tup (yE (od:=od) (ox:=ox) F) I.kIn J ho ek (λz=>nomatch z) λtk=>⟨.bl b,H,I.tok tk,rfl,q⟩
def tXget(K:Frag)(te:TE)(f:Str):TE:=λσ H Q=>te σ H λv H1=>∃x C LE c dx y,v=.ref x/\H1 x=some (XO x C (some dx))/\H1 dx=some (.xd [(f,y)])/\Xc K c C LE/\findIn K (.ref C) f=some none/\(∀i,y≠.ty i)/\Q y H1
end
theorem aJo{e:Expr}(he:PE X e te)(hb:attributeBase e f X.env (eval e X.env)=eval e X.env:=by rfl):PE X (.Attribute e f pos) (tXget X.K te f):=by
 intro pins s σ H Q I h
 refine aLj hb (thn (he pins s σ H _ I h) λu s1 ⟨v,H1,I1,rx,x,C,LE,c,dx,y,ex,hx,hd,F,hn,ny,q⟩=>?_)
 subst ex
 cases(show u=Value.ref x from rx)
 obtain⟨vs,sl,z⟩:=XO.at I1.hok hx
 obtain⟨mA,n,hr⟩:=(show ObjOk X.prog X.w H1 s1.heap dx (.xd [(f,y)])from I1.hok dx _ hd)
 have hf:=hr f
 simp only[List.lookup,beq_self_eq_true]at hf
 cases hm:mA f with
 |none=>rw[hm]at hf;exact hf.elim
 |some w =>
  rw[hm]at hf
  obtain⟨cd,hc,_,hmro⟩:=F.cd
  refine xget I1.kIn z n hc hmro F.hd F.ga F.gh hn hm ?_ ⟨y,H1,I1.tok _,hf,q⟩
  cases y <;> first|(cases hf;rfl)|(obtain⟨t,rfl⟩:=hf;rfl)|(cases(show w=_ from hf);rfl)
end L2
namespace EV
open L2
noncomputable abbrev St:=L2.St
inductive D where
 |non|bl (b:Bool)|int (i:Int)|str (x:Str)|tup (xs:List D)|lst (xs:List D)|fz (xs:List D)
 |exn (c f:Str) (xs:List D)
inductive Nst where
 |ls (js:List Nat)|pr (x:D) (i:Nat)
inductive W where
 |d (x:D)|ref (i:Nat)
 |ob (c:Str) (i:Nat)|nest (z:Nst)
noncomputable section
abbrev Lc:=List (Option W)
abbrev Mm:=List (List D)
abbrev Exn:=D
end
inductive Oc(α:Type)where
 |ok (a:α) (M:Mm)|ex (x:Exn) (M:Mm)|bad
noncomputable def Oc.bind(o:Oc α)(k:α->Mm->Oc β):Oc β:=match o with
 |.ok a M=>k a M
 |.ex x M=>.ex x M
 |.bad=>.bad
@[simp]theorem eD(a:α)(M:Mm)(k:α->Mm->Oc β):(Oc.ok a M).bind k=k a M:=rfl
@[simp]theorem aLg(x:Exn)(M:Mm)(k:α->Mm->Oc β):(Oc.ex x M:Oc α).bind k=.ex x M:=rfl
@[simp]theorem aRp(k:α->Mm->Oc β):(Oc.bad:Oc α).bind k=.bad:=rfl
section
variable(K:Frag)(μ:List Addr)(H:Hp)
noncomputable def FzL(a:Addr)(vs:List V):Prop:=(∃o,H a=some (.frz o (.lst vs))) \/
 ∃(o:Obj) (its:Array Value) (n:Nat),K.lookup a=some o/\o.cls=.type "list"/\o.dict=none/\o.data=.seq its n/\its.size<=sizeLine/\Vals vs its.toList
noncomputable def XFl(C:Addr)(f:Str)(d:Option Addr)(vs:List V):Prop:=(d=none/\vs=[])\/∃dx u,d=some dx/\vs=[u]/\H dx=some (.xd [(f,u)])/\PySem.W.findIn K (.ref C) f=some none
mutual
noncomputable def Rp:D->V->Prop
 |.non,v=>v=.non
 |.bl b,v=>v=.bl b
 |.int i,v=>v=.int i
 |.str x,v=>v=.str x
 |.tup ds,v=>∃a vs,v=.ref a/\H a=some (.tup vs)/\Rps ds vs
 |.lst ds,v=>∃a vs,v=.ref a/\H a=some (.lst vs)/\a∉μ/\Rps ds vs
 |.fz ds,v=>∃a vs,v=.ref a/\FzL K H a vs/\Rps ds vs
 |.exn c f ds,v=>∃a vs C LE d,v=.ref a/\H a=some (XO a C d)/\Xc K c C LE/\XFl K H C f d vs/\Rps ds vs
noncomputable def Rps:List D->List V->Prop
 |[],vs=>vs=[]
 |d::ds,vs=>∃v r,vs=v::r/\Rp d v/\Rps ds r
end
noncomputable section
def IsL(H:Hp)(a:Addr):Prop:=∃vs,H a=some (.lst vs)
def IsO(c:Str)(H:Hp)(a:Addr):Prop:=(∃C dx fs,H a=some (.ins C dx fs)/\nsIn K mainGlobals c=some (some (.ref C)))\/(c="dict"/\∃kvs,H a=some (.dT kvs))\/(c="dictK"/\∃kvs,H a=some (.dK kvs))
def Rjs:List Nat->List V->Prop
 |[],vs=>vs=[]
 |j::js,vs=>∃a r,vs=.ref a::r/\μ[j]?=some a/\IsL H a/\Rjs js r
def RNs:Nst->Addr->List V->Prop
 |.ls js,a,vs=>H a=some (.lst vs)/\a∉μ/\Rjs μ H js vs
 |.pr x i,a,vs=>H a=some (.tup vs)/\∃v b,vs=[v,.ref b]/\Rp K μ H x v/\μ[i]?=some b/\IsL H b
def Rw:W->V->Prop
 |.d x,v=>Rp K μ H x v
 |.ref i,v=>∃a,μ[i]?=some a/\v=.ref a/\IsL H a
 |.ob c i,v=>∃a,μ[i]?=some a/\v=.ref a/\IsO K c H a
 |.nest z,v=>∃a vs,v=.ref a/\RNs K μ H z a vs
def Frs:List D->List (Str×V)->Prop
 |[],fs=>fs=[]
 |d::ds,fs=>∃f x v r,d=.tup [.str f,x]/\fs=(f,v)::r/\Rp K μ H x v/\Frs ds r
def kyD:Key->D
 |.inl i=>.int i
 |.inr x=>.str x
def Krs:List D->List (List Key×V)->Prop
 |[],fs=>fs=[]
 |d::ds,fs=>∃k x v r,d=.tup [.tup (k.map kyD),x]/\fs=(k,v)::r/\Rp K μ H x v/\Krs ds r
def Kns:List D->List (Key×V)->Prop
 |[],fs=>fs=[]
 |d::ds,fs=>∃k x v r,d=.tup [kyD k,x]/\fs=(k,v)::r/\Rp K μ H x v/\Kns ds r
def CelO:HO->List D->Prop
 |.lst vs,ds=>Rps K μ H ds vs
 |.ins _ _ fs,ds=>Frs K μ H ds fs
 |.dT kvs,ds=>Krs K μ H ds kvs
 |.dK kvs,ds=>Kns K μ H ds kvs
 |_,_=>False
def Rws:List W->List V->Prop
 |[],vs=>vs=[]
 |d::ds,vs=>∃v r,vs=v::r/\Rw K μ H d v/\Rws ds r
end
structure HR(M:Mm):Prop where
 len:μ.length=M.length
 nd:μ.Nodup
 ent:∀(i:Nat) (a:Addr) (ds:List D),μ[i]?=some a->M[i]?=some ds->∃o,H a=some o/\CelO K μ H o ds
structure LR(L:Lc)(σ:St):Prop where
 len:L.length=σ.length
 ent:∀(i:Nat) (w:W),L[i]?=some (some w)->∃v,σ[i]?=some (some v)/\Rw K μ H w v
end
structure SameK(o o':HO):Prop where
 l:∀vs,o=.lst vs->∃us,o'=.lst us
 i:∀C dx fs,o=.ins C dx fs->∃gs,o'=.ins C dx gs
 t:∀kvs,o=.dT kvs->∃ls,o'=.dT ls
 k:∀kvs,o=.dK kvs->∃ls,o'=.dK ls
variable{o:HO}
theorem SameK.refl:SameK o o:=⟨λ_ h=>⟨_,h⟩,λ_ _ _ h=>⟨_,h⟩,λ_ h=>⟨_,h⟩,λ_ h=>⟨_,h⟩⟩
theorem SameK.trans{p q:HO}(a:SameK o p)(b:SameK p q):SameK o q:=⟨λ_ h=>let⟨_,h⟩:=a.l _ h;b.l _ h,λ_ _ _ h=>let⟨_,h⟩:=a.i _ _ _ h;b.i _ _ _ h,λ_ h=>let⟨_,h⟩:=a.t _ h;b.t _ h,λ_ h=>let⟨_,h⟩:=a.k _ h;b.k _ h⟩
structure Ext(μ:List Addr)(H:Hp)(μ':List Addr)(H':Hp):Prop where
 keep:∀a o,a∉μ->H a=some o->H' a=some o
 new:∀a,a∈μ'->a∈μ\/H a=none
 pre:∀(i:Nat) (a:Addr),μ[i]?=some a->μ'[i]?=some a
 kin:∀a o,H a=some o->∃o',H' a=some o'/\SameK o o'
variable{K:Frag}{μ2:List Addr}{M:Mm}{a:Addr}
theorem FzL.sq(h:FzL K H a vs):SqL K H a vs:=by
 rcases h with⟨o,h⟩|h
 ·exact .inl (.inr ⟨o,h⟩)
 ·exact .inr h
theorem Ext.refl:Ext μ H μ H:=⟨λ_ _ _ h=>h,λ_ h=>.inl h,λ_ _ h=>h,λ_ _ h=>⟨_,h,.refl⟩⟩
theorem Ext.out(e:Ext μ H μ1 H1)(h:H a=some o)(n:a∉μ):a∉μ1:=λz=>by
 rcases e.new a z with z|z
 ·exact n z
 ·rw[h]at z;cases z
theorem Ext.trans(e:Ext μ H μ1 H1)(f:Ext μ1 H1 μ2 H2):Ext μ H μ2 H2 where
 keep:=λa o n h=>f.keep a o (e.out h n) (e.keep a o n h)
 new:=λa h=>by
  rcases f.new a h with h|h
  ·exact e.new a h
  ·by_cases n:a∈μ
   ·exact .inl n
   ·cases q:H a with
    |none=>exact .inr rfl
    |some o=>rw[e.keep a o n q]at h;cases h
 pre:=λi a h=>f.pre i a (e.pre i a h)
 kin:=λa o h=>let⟨_,h1,k1⟩:=e.kin a o h;let⟨_,h2,k2⟩:=f.kin a _ h1;⟨_,h2,k1.trans k2⟩
noncomputable def MutO:HO->Prop
 |.lst _=>True
 |.ins _ _ _=>True
 |.dT _=>True
 |.dK _=>True
 |_=>False
theorem CelO.mut{ds:List D}(h:CelO K μ H o ds):MutO o:=by cases o <;> first|exact h.elim|trivial
noncomputable def Lsts(μ:List Addr)(H:Hp):Prop:=∀a∈μ,∃o,H a=some o/\MutO o
theorem HR.lsts(h:HR K μ H M):Lsts μ H:=λa ha=>by
 obtain⟨i,hi,e⟩:=aFP.mp ha
 have hM:i < M.length:=h.len▸hi
 obtain⟨vs,q,m⟩:=h.ent i a M[i] (by rw[aAR hi,e]) (by simp[hM])
 exact⟨vs,q,m.mut⟩
theorem FzL.ext(l:Lsts μ H)(e:Ext μ H μ1 H1)(h:FzL K H a vs):FzL K H1 a vs:=by
 rcases h with⟨o,h⟩|h
 ·exact .inl ⟨o,e.keep a _ (λz=>by obtain⟨vs,q,m⟩:=l a z;rw[h]at q;cases q;exact m) h⟩
 ·exact .inr h
theorem XFl.ext{f:Str}(l:Lsts μ H)(e:Ext μ H μ1 H1)(h:XFl K H C f d vs):XFl K H1 C f d vs:=by
 rcases h with h|⟨dx,u,h1,h2,h3,h4⟩
 ·exact .inl h
 ·exact .inr ⟨dx,u,h1,h2,e.keep dx _ (λz=>by obtain⟨vs,q,m⟩:=l dx z;rw[h3]at q;cases q;exact m) h3,h4⟩
mutual
theorem Rp.ext(l:Lsts μ H)(e:Ext μ H μ1 H1):∀(d:D) (v:V),Rp K μ H d v->Rp K μ1 H1 d v
 |.non,v,h=>by simpa[Rp]using h
 |.bl b,v,h=>by simpa[Rp]using h
 |.int b,v,h=>by simpa[Rp]using h
 |.str b,v,h=>by simpa[Rp]using h
 |.tup ds,v,h=>by
  simp only[Rp]at h ⊢
  obtain⟨a,vs,e1,e2,e3⟩:=h
  exact⟨a,vs,e1,e.keep _ _ (λz=>by obtain⟨us,q,m⟩:=l a z;rw[e2]at q;cases q;exact m) e2,Rps.ext l e ds vs e3⟩
 |.lst ds,v,h=>by
  simp only[Rp]at h ⊢
  obtain⟨a,vs,e1,e2,n,e3⟩:=h
  exact⟨a,vs,e1,e.keep _ _ n e2,e.out e2 n,Rps.ext l e ds vs e3⟩
 |.fz ds,v,h=>by
  simp only[Rp]at h ⊢
  obtain⟨a,vs,e1,e2,e3⟩:=h
  exact⟨a,vs,e1,FzL.ext l e e2,Rps.ext l e ds vs e3⟩
 |.exn c f ds,v,h=>by
  simp only[Rp]at h ⊢
  obtain⟨a,vs,C,LE,d,e1,e2,e3,e4,e5⟩:=h
  exact⟨a,vs,C,LE,d,e1,e.keep _ _ (λz=>by obtain⟨us,q,m⟩:=l a z;rw[e2]at q;cases q;exact m) e2,e3,XFl.ext l e e4,Rps.ext l e ds vs e5⟩
theorem Rps.ext(l:Lsts μ H)(e:Ext μ H μ1 H1):∀(ds:List D) (vs:List V),Rps K μ H ds vs->Rps K μ1 H1 ds vs
 |[],vs,h=>by simpa[Rps]using h
 |d::ds,vs,h=>by
  simp only[Rps]at h ⊢
  obtain⟨v,r,e1,e2,e3⟩:=h
  exact⟨v,r,e1,Rp.ext l e d v e2,Rps.ext l e ds r e3⟩
end
theorem IsL.ext(e:Ext μ H μ1 H1)(h:IsL H a):IsL H1 a:=by
 obtain⟨vs,h⟩:=h
 obtain⟨o,h1,k⟩:=e.kin a _ h
 obtain⟨us,rfl⟩:=k.l _ rfl
 exact⟨us,h1⟩
theorem IsO.ext(e:Ext μ H μ1 H1){c:Str}(h:IsO K c H a):IsO K c H1 a:=by
 rcases h with⟨C,dx,fs,h,n⟩|⟨hc,kvs,h⟩|⟨hc,kvs,h⟩
 ·obtain⟨o,h1,k⟩:=e.kin a _ h
  obtain⟨gs,rfl⟩:=k.i _ _ _ rfl
  exact .inl ⟨C,dx,gs,h1,n⟩
 ·obtain⟨o,h1,k⟩:=e.kin a _ h
  obtain⟨gs,rfl⟩:=k.t _ rfl
  exact .inr (.inl ⟨hc,gs,h1⟩)
 ·obtain⟨o,h1,k⟩:=e.kin a _ h
  obtain⟨gs,rfl⟩:=k.k _ rfl
  exact .inr (.inr ⟨hc,gs,h1⟩)
theorem Rjs.ext(e:Ext μ H μ1 H1):∀{js:List Nat} {vs:List V},Rjs μ H js vs->Rjs μ1 H1 js vs
 |[],_,h=>h
 |_::_,_,⟨a,r,e1,e2,e3,e4⟩=>⟨a,r,e1,e.pre _ _ e2,e3.ext e,Rjs.ext e e4⟩
theorem Frs.ext(l:Lsts μ H)(e:Ext μ H μ1 H1):∀{ds:List D} {fs:List (Str×V)},Frs K μ H ds fs->Frs K μ1 H1 ds fs
 |[],_,h=>h
 |_::_,_,⟨f,x,v,r,e1,e2,e3,e4⟩=>⟨f,x,v,r,e1,e2,Rp.ext l e _ _ e3,Frs.ext l e e4⟩
theorem Krs.ext(l:Lsts μ H)(e:Ext μ H μ1 H1):∀{ds:List D} {fs:List (List Key×V)},Krs K μ H ds fs->Krs K μ1 H1 ds fs
 |[],_,h=>h
 |_::_,_,⟨f,x,v,r,e1,e2,e3,e4⟩=>⟨f,x,v,r,e1,e2,Rp.ext l e _ _ e3,Krs.ext l e e4⟩
theorem Kns.ext(l:Lsts μ H)(e:Ext μ H μ1 H1):∀{ds:List D} {fs:List (Key×V)},Kns K μ H ds fs->Kns K μ1 H1 ds fs
 |[],_,h=>h
 |_::_,_,⟨f,x,v,r,e1,e2,e3,e4⟩=>⟨f,x,v,r,e1,e2,Rp.ext l e _ _ e3,Kns.ext l e e4⟩
theorem CelO.ext(l:Lsts μ H)(e:Ext μ H μ1 H1){o:HO}{ds:List D}(h:CelO K μ H o ds):CelO K μ1 H1 o ds:=by
 cases o <;> first|exact h.elim|skip
 all_goals first|exact Rps.ext l e _ _ h|exact Krs.ext l e h|exact Kns.ext l e h|exact Frs.ext l e h
theorem Rw.ext(l:Lsts μ H)(e:Ext μ H μ1 H1){w:W}{v:V}(h:Rw K μ H w v):Rw K μ1 H1 w v:=by
 cases w with
 |d x=>exact Rp.ext l e x v h
 |ref i=>obtain⟨a,h1,h2,h3⟩:=h;exact⟨a,e.pre i a h1,h2,h3.ext e⟩
 |ob c i=>obtain⟨a,h1,h2,h3⟩:=h;exact⟨a,e.pre i a h1,h2,h3.ext e⟩
 |nest z=>cases z with
  |ls js=>obtain⟨a,vs,h1,h2,h3,h4⟩:=h;exact⟨a,vs,h1,e.keep _ _ h3 h2,e.out h2 h3,h4.ext e⟩
  |pr x i=>obtain⟨a,vs,h1,h2,v,b,rfl,h3,h4,h5⟩:=h;exact⟨a,_,h1,e.keep _ _ (λz=>by obtain⟨us,q,m⟩:=l a z;rw[h2]at q;cases q;exact m) h2,v,b,rfl,Rp.ext l e x v h3,e.pre _ _ h4,h5.ext e⟩
theorem LR.ext(l:Lsts μ H)(e:Ext μ H μ1 H1){L:Lc}{σ:St}(h:LR K μ H L σ):LR K μ1 H1 L σ :=
 ⟨h.len,λi w q=>let⟨v,q1,q2⟩:=h.ent i w q;⟨v,q1,Rw.ext l e q2⟩⟩
theorem Rps.length:∀{ds:List D} {vs:List V},Rps K μ H ds vs->ds.length=vs.length
 |[],_,h=>by simp only[Rps]at h;subst h;rfl
 |_::_,_,h=>by simp only[Rps]at h;obtain⟨v,r,e1,_,e3⟩:=h;subst e1;simp[Rps.length e3]
theorem Rps.get:∀{ds:List D} {vs:List V} {i:Nat} {d:D},Rps K μ H ds vs->ds[i]?=some d->∃v,vs[i]?=some v/\Rp K μ H d v
 |[],_,_,_,_,q=>by simp at q
 |_::_,_,0,_,h,q=>by simp only[Rps]at h;obtain⟨v,r,e1,e2,e3⟩:=h;simp at q;subst q e1;exact⟨v,rfl,e2⟩
 |_::_,_,i+1,_,h,q=>by
  simp only[Rps]at h;obtain⟨v,r,e1,e2,e3⟩:=h;subst e1
  obtain⟨u,q1,q2⟩:=Rps.get (i:=i) e3 (by simpa using q)
  exact⟨u,by simpa using q1,q2⟩
theorem Rps.nil:Rps K μ H [] []:=by simp[Rps]
theorem Rps.cons{d:D}{v:V}{ds:List D}{vs:List V}(h:Rp K μ H d v)(t:Rps K μ H ds vs):Rps K μ H (d::ds) (v::vs):=by simp only[Rps];exact⟨v,vs,rfl,h,t⟩
theorem Rps.append:∀{ds es:List D} {vs us:List V},Rps K μ H ds vs->Rps K μ H es us->Rps K μ H (ds++es) (vs++us)
 |[],_,_,_,h,t=>by simp only[Rps]at h;subst h;exact t
 |_::_,_,_,_,h,t=>by simp only[Rps]at h;obtain⟨v,r,e1,e2,e3⟩:=h;subst e1;exact .cons e2 (Rps.append e3 t)
theorem Rps.drop:∀{ds:List D} {vs:List V} (n:Nat),Rps K μ H ds vs->Rps K μ H (ds.drop n) (vs.drop n)
 |_,_,0,h=>by simpa using h
 |[],_,n+1,h=>by simp only[Rps]at h;subst h;exact .nil
 |_::_,_,n+1,h=>by simp only[Rps]at h;obtain⟨v,r,e1,e2,e3⟩:=h;subst e1;simpa using Rps.drop n e3
theorem Rps.take:∀{ds:List D} {vs:List V} (n:Nat),Rps K μ H ds vs->Rps K μ H (ds.take n) (vs.take n)
 |_,_,0,h=>by simpa using Rps.nil
 |[],_,n+1,h=>by simp only[Rps]at h;subst h;exact .nil
 |_::_,_,n+1,h=>by simp only[Rps]at h;obtain⟨v,r,e1,e2,e3⟩:=h;subst e1;simpa using Rps.cons e2 (Rps.take n e3)
theorem Rps.set{d:D}{v:V}(q:Rp K μ H d v):∀{ds:List D} {vs:List V} (n:Nat),Rps K μ H ds vs->Rps K μ H (ds.set n d) (vs.set n v)
 |[],_,n,h=>by simp only[Rps]at h;subst h;simpa using Rps.nil
 |_::_,_,0,h=>by simp only[Rps]at h;obtain⟨u,r,e1,e2,e3⟩:=h;subst e1;simpa using Rps.cons q e3
 |_::_,_,n+1,h=>by simp only[Rps]at h;obtain⟨u,r,e1,e2,e3⟩:=h;subst e1;simpa using Rps.cons e2 (Rps.set q n e3)
theorem Rps.dropLast{ds:List D}{vs:List V}(h:Rps K μ H ds vs):Rps K μ H ds.dropLast vs.dropLast:=by
 rw[List.dropLast_eq_take,List.dropLast_eq_take,<- h.length];exact h.take _
theorem Rps.eraseIdx:∀{ds:List D} {vs:List V} (n:Nat),Rps K μ H ds vs->Rps K μ H (ds.eraseIdx n) (vs.eraseIdx n)
 |[],_,n,h=>by simp only[Rps]at h;subst h;simpa using Rps.nil
 |_::_,_,0,h=>by simp only[Rps]at h;obtain⟨u,r,e1,e2,e3⟩:=h;subst e1;simpa using e3
 |_::_,_,n+1,h=>by simp only[Rps]at h;obtain⟨u,r,e1,e2,e3⟩:=h;subst e1;simpa using Rps.cons e2 (Rps.eraseIdx n e3)
theorem Rps.reverse{ds:List D}:∀{vs:List V},Rps K μ H ds vs->Rps K μ H ds.reverse vs.reverse:=by
 induction ds with
 |nil=>intro vs h;simp only[Rps]at h;subst h;exact .nil
 |cons d ds ih=>intro vs h;simp only[Rps]at h;obtain⟨u,r,e1,e2,e3⟩:=h;subst e1;simpa using(ih e3).append (.cons e2 .nil)
theorem Rps.rep{ds:List D}{vs:List V}(h:Rps K μ H ds vs):∀k:Nat,Rps K μ H (List.replicate k ds).flatten (List.replicate k vs).flatten
 |0=>by simpa using Rps.nil
 |k+1=>by simpa[aDQ]using h.append (h.rep k)
theorem Rps.ints:Rps K μ H (ns.map D.int) (ns.map V.int):=by
 induction ns with
 |nil=>exact .nil
 |cons n r ih=>exact .cons (by simp[Rp]) ih
theorem Rws.length:∀{ws:List W} {vs:List V},Rws K μ H ws vs->ws.length=vs.length
 |[],_,h=>by cases h;rfl
 |_::_,_,⟨v,r,e1,_,e3⟩=>by subst e1;simp[Rws.length e3]
theorem Rws.get:∀{ws:List W} {vs:List V} {i:Nat} {w:W},Rws K μ H ws vs->ws[i]?=some w->∃v,vs[i]?=some v/\Rw K μ H w v
 |[],_,_,_,_,q=>by simp at q
 |_::_,_,0,_,⟨v,r,e1,e2,e3⟩,q=>by simp at q;subst q e1;exact⟨v,rfl,e2⟩
 |_::_,_,i+1,_,⟨v,r,e1,e2,e3⟩,q=>by
  subst e1
  obtain⟨u,q1,q2⟩:=Rws.get (i:=i) e3 (by simpa using q)
  exact⟨u,by simpa using q1,q2⟩
variable{p:Addr}
theorem HR.out(h:HR K μ H M)(hp:H p=none):p∉μ:=λz=>by
 obtain⟨vs,q,_⟩:=h.lsts p z
 rw[hp]at q;cases q
theorem eF(h:HR K μ H M)(hp:H p=none):Ext μ H μ (upd H p o) :=
 ⟨λa u n q=>by rw[aX (bF q hp)];exact q,λa q=>.inl q,λ_ _ q=>q,λa u q=>⟨u,by rw[aX (bF q hp)];exact q,.refl⟩⟩
theorem HR.lay(h:HR K μ H M)(hp:H p=none):HR K μ (upd H p o) M where
 len:=h.len
 nd:=h.nd
 ent:=λi a ds q1 q2=>by
  obtain⟨vs,q3,q4⟩:=h.ent i a ds q1 q2
  exact⟨vs,by rw[aX (bF q3 hp)];exact q3,CelO.ext h.lsts (eF h hp) q4⟩
theorem yA(h:HR K μ H M)(hp:H p=none):Ext μ H (μ++[p]) (upd H p o)where
 keep:=λa u n q=>by rw[aX (bF q hp)];exact q
 new:=λa q=>by
  rcases aAX.mp q with q|q
  ·exact .inl q
  ·rw[aAM]at q;subst q;exact .inr hp
 pre:=λi a q=>by
  rw[aAT (aAD.mp q).1];exact q
 kin:=λa u q=>⟨u,by rw[aX (bF q hp)];exact q,.refl⟩
theorem aDy(h:HR K μ H M)(hp:H p=none):Ext μ H (μ++[p]) (upd H p (.lst vs)):=yA h hp
theorem HR.newO(h:HR K μ H M){ds:List D}(hp:H p=none)(r:CelO K μ H o ds):HR K (μ++[p]) (upd H p o) (M++[ds])where
 len:=by simp[h.len]
 nd:=List.nodup_append.mpr ⟨h.nd,by simp,λa ha b hb=>by rw[aAM]at hb;subst hb;rintro rfl;exact h.out hp ha⟩
 ent:=λi a es q1 q2=>by
  have x:=yA (o:=o) h hp
  by_cases hi:i < μ.length
  ·rw[aAT hi]at q1
   rw[aAT (by rw[<- h.len];exact hi)]at q2
   obtain⟨us,q3,q4⟩:=h.ent i a es q1 q2
   exact⟨us,by rw[aX (bF q3 hp)];exact q3,CelO.ext h.lsts x q4⟩
  ·have:i=μ.length:=by
    have:=(aAD.mp q1).1
    simp at this;lia
   subst this
   rw[aBK (aAG _)]at q1
   rw[h.len,aBK (aAG _)]at q2
   simp at q1 q2
   subst q1 q2
   exact⟨o,bE,CelO.ext h.lsts x r⟩
theorem HR.new(h:HR K μ H M){ds:List D}(hp:H p=none)(r:Rps K μ H ds vs):HR K (μ++[p]) (upd H p (.lst vs)) (M++[ds]):=h.newO hp (o:=.lst vs) r
theorem zW{o':HO}(q:μ[i]?=some a)(ho:H a=some o')(k:SameK o' o):Ext μ H μ (upd H a o) :=
 ⟨λb u n q'=>by rw[aX (λz=>n (by subst z;exact aBM q))];exact q',λa q=>.inl q,λ_ _ q=>q,λb u q'=>by
  by_cases e:b=a
  ·subst e;rw[ho]at q';cases q';exact⟨o,bE,k⟩
  ·exact⟨u,by rw[aX e];exact q',.refl⟩⟩
theorem SameK.lst{vs us:List V}:SameK (.lst vs) (.lst us):=⟨λ_ _=>⟨us,rfl⟩,λ_ _ _ h=>(nomatch h),λ_ h=>(nomatch h),λ_ h=>(nomatch h)⟩
theorem cY(q:μ[i]?=some a)(hl:IsL H a:=by first|assumption|exact⟨_,by assumption⟩):Ext μ H μ (upd H a (.lst vs)):=let⟨_,h⟩:=hl;zW q h .lst
theorem HR.setO(h:HR K μ H M){ds:List D}{o':HO}(q:μ[i]?=some a)(ho:H a=some o')(k:SameK o' o)(r:CelO K μ H o ds):HR K μ (upd H a o) (M.set i ds)where
 len:=by simp[h.len]
 nd:=h.nd
 ent:=λj b es q1 q2=>by
  have x:=zW (H:=H) (o:=o) q ho k
  by_cases hj:i=j
  ·subst hj
   rw[q]at q1;cases q1
   have hlt:i < M.length:=by rw[<- h.len];exact(aAD.mp q).1
   rw[aCB hlt]at q2;cases q2
   exact⟨o,bE,CelO.ext h.lsts x r⟩
  ·rw[aCF hj]at q2
   obtain⟨us,q3,q4⟩:=h.ent j b es q1 q2
   have hb:b≠a:=by
    rintro rfl
    have h1:=(aAD.mp q).1
    have h2:=(aAD.mp q1).1
    have e1:=(aAD.mp q).2
    have e2:=(aAD.mp q1).2
    have pw:=aDI.mp h.nd
    rcases Nat.lt_or_gt_of_ne hj with l|l
    ·exact pw i j h1 h2 l (e1.trans e2.symm)
    ·exact pw j i h2 h1 l (e2.trans e1.symm)
   exact⟨us,by rw[aX hb];exact q3,CelO.ext h.lsts x q4⟩
theorem HR.set(h:HR K μ H M){i:Nat}{a:Addr}{ds:List D}{vs:List V}(q:μ[i]?=some a)(r:Rps K μ H ds vs)(hl:IsL H a:=by first|assumption|exact⟨_,by assumption⟩):HR K μ (upd H a (.lst vs)) (M.set i ds):=let⟨_,e⟩:=hl;h.setO q e .lst (o:=.lst vs) r
theorem HR.atO(h:HR K μ H M){ds:List D}(q:M[i]?=some ds):∃a o,μ[i]?=some a/\H a=some o/\CelO K μ H o ds:=by
 have hlt:i < μ.length:=by rw[h.len];exact(aAD.mp q).1
 obtain⟨vs,q1,q2⟩:=h.ent i μ[i] ds (by simp[hlt]) q
 exact⟨μ[i],vs,by simp[hlt],q1,q2⟩
theorem HR.at(h:HR K μ H M){i:Nat}{ds:List D}(q:M[i]?=some ds){a':Addr}(qa:μ[i]?=some a')(hl:IsL H a':=by assumption):∃a vs,μ[i]?=some a/\H a=some (.lst vs)/\Rps K μ H ds vs:=by
 obtain⟨a,o,q1,q2,q3⟩:=h.atO q
 rw[qa]at q1;cases q1
 obtain⟨vs,hl⟩:=hl
 rw[hl]at q2;cases q2
 exact⟨a',vs,qa,hl,q3⟩
structure Zt where
 z:Exn->Mm->List Addr->Hp->Prop
 mono:∀{x M μ H μ' H':_},Ext μ H μ' H'->z x M μ H->z x M μ' H'
noncomputable def Z0:Zt:=⟨λ_ _ _ _=>False,λ_ h=>h⟩
noncomputable def Pst(K:Frag)(Z:Zt)(μ:List Addr)(H:Hp)(o:Oc α)(Q:List Addr->Hp->Mm->α->Prop):Prop:=match o with
 |.ok a M'=>∀μ' H',Ext μ H μ' H'->HR K μ' H' M'->Q μ' H' M' a
 |.ex x M'=>Z.z x M' μ H
 |.bad=>False
variable{α β:Type}{K:Frag}{Z:Zt}{o:Oc α}{Q Q':List Addr->Hp->Mm->α->Prop}
theorem Pst.mono(e:Ext μ H μ1 H1)(h:Pst K Z μ H o Q):Pst K Z μ1 H1 o Q:=by
 cases o with
 |ok a M=>exact λμ' H' e' hr=>h μ' H' (e.trans e') hr
 |ex x M=>exact Z.mono e h
 |bad=>exact h
theorem Pst.imp(h:Pst K Z μ H o Q)(f:∀μ' H' M' a,Ext μ H μ' H'->HR K μ' H' M'->o=.ok a M'->Q μ' H' M' a->Q' μ' H' M' a):Pst K Z μ H o Q':=by
 cases o with
 |ok a M=>exact λμ' H' e' hr=>f μ' H' M a e' hr rfl (h μ' H' e' hr)
 |ex x M=>exact h
 |bad=>exact h
theorem Pst.bind{k:α->Mm->Oc β}{R:List Addr->Hp->Mm->β->Prop}(h:Pst K Z μ H (o.bind k) R):Pst K Z μ H o (λμ' H' M' a=>Pst K Z μ' H' (k a M') R):=by
 cases o with
 |ok a M=>exact λμ' H' e' hr=>Pst.mono e' h
 |ex x M=>exact h
 |bad=>exact h
noncomputable section
abbrev FE:=Lc->Mm->Oc W
abbrev FT:=Lc->Mm->Oc Bool
abbrev FA:=Lc->Mm->Oc (List W)
end
inductive Out where
 |nx (L:Lc)|bk (L:Lc)|ct (L:Lc)|rt (w:W)
noncomputable section
abbrev FS:=Lc->Mm->Oc Out
abbrev FG:=W->Lc->Mm->Oc Lc
abbrev FGs:=List D->Lc->Mm->Oc Lc
abbrev Fn:=List W->Mm->Oc W
end
section
variable(K:Frag)(Z:Zt)
noncomputable section
def lift(f:FE):TE:=λσ H Q=>∃μ M L,HR K μ H M/\LR K μ H L σ/\Pst K Z μ H (f L M) λμ' H' _ w=>∀v,Rw K μ' H' w v->Q v H'
def liftT(f:FT):TT:=λσ H Q=>∃μ M L,HR K μ H M/\LR K μ H L σ/\Pst K Z μ H (f L M) λμ' H' M' b=>Q b H'
def liftA(f:FA):TA:=λσ H Q=>∃μ M L,HR K μ H M/\LR K μ H L σ/\Pst K Z μ H (f L M) λμ' H' _ ws=>∀vs,Rws K μ' H' ws vs->Q vs H'
end
end
section
variable(X:Cx)(K:Frag)(Z:Zt)
noncomputable section
abbrev Sk(K:Frag)(E:Ends)(μ':List Addr)(H':Hp)(_:Mm)(o:Out):Prop:=match o with
 |.nx L'=>∀σ',LR K μ' H' L' σ'->E.nx σ' H'
 |.bk L'=>∀σ',LR K μ' H' L' σ'->E.bk σ' H'
 |.ct L'=>∀σ',LR K μ' H' L' σ'->E.ct σ' H'
 |.rt w=>∀v,Rw K μ' H' w v->E.rt v H'
def liftS(F:FS):TS:=λE σ H=>∃μ M L,HR K μ H M/\LR K μ H L σ/\Pst K Z μ H (F L M) (Sk K E)
def liftG(g:FG):TG:=λv σ H Q=>∃μ M L w,HR K μ H M/\LR K μ H L σ/\Rw K μ H w v/\Pst K Z μ H (g w L M) λμ' H' _ L'=>∀σ',LR K μ' H' L' σ'->Q σ' H'
def liftGs(g:FGs):TGs:=λvs σ H Q=>∃μ M L ds,HR K μ H M/\LR K μ H L σ/\Rps K μ H ds vs/\Pst K Z μ H (g ds L M) λμ' H' _ L'=>∀σ',LR K μ' H' L' σ'->Q σ' H'
end
structure Ev(e:Expr)(f:FE):Prop where
 k:X.K=K
 h:PE X e (lift K Z f)
structure Et(e:Expr)(f:FT):Prop where
 k:X.K=K
 h:PT X e (liftT K Z f)
structure Ew(e:Expr)(f:FT):Prop where
 k:X.K=K
 h:PW X e (liftT K Z f)
structure Ea(es:List Expr)(f:FA):Prop where
 k:X.K=K
 h:PA X es (liftA K Z f)
structure Es(st:Stmt)(F:FS):Prop where
 k:X.K=K
 h:PS X st (liftS K Z F)
structure Ess(st:List Stmt)(F:FS):Prop where
 k:X.K=K
 h:PSs X st (liftS K Z F)
structure Eg(tg:Expr)(g:FG):Prop where
 k:X.K=K
 h:PG X tg (liftG K Z g)
structure Egs(tg:List Expr)(g:FGs):Prop where
 k:X.K=K
 h:PGs X tg (liftGs K Z g)
end
section
variable{K:Frag}{e a b:Expr}{es:List Expr}{f fa fb fc:FE}{t ta tb:FT}{fs:FA}
theorem cqE{t t':TE}(h:PE X e t)(i:∀σ H Q,t' σ H Q->t σ H Q):PE X e t':=λpins s σ H Q I q=>h pins s σ H Q I (i _ _ _ q)
theorem cqT{t t':TT}(h:PT X e t)(i:∀σ H Q,t' σ H Q->t σ H Q):PT X e t':=λpins s σ H Q I q=>h pins s σ H Q I (i _ _ _ q)
theorem cqW{t t':TT}(h:PW X e t)(i:∀σ H Q,t' σ H Q->t σ H Q):PW X e t':=λwh pins s σ H Q I q=>h wh pins s σ H Q I (i _ _ _ q)
theorem cqA{t t':TA}(h:PA X es t)(i:∀σ H Q,t' σ H Q->t σ H Q):PA X es t':=λp pins s σ H Q I q=>h p pins s σ H Q I (i _ _ _ q)
theorem cqS{t t':TS}(h:PS X st t)(i:∀E σ H,t' E σ H->t E σ H):PS X st t':=λpins s σ H E I q=>h pins s σ H E I (i _ _ _ q)
theorem cqSs{st:List Stmt}{t t':TS}(h:PSs X st t)(i:∀E σ H,t' E σ H->t E σ H):PSs X st t':=λpins s σ H E I q=>h pins s σ H E I (i _ _ _ q)
theorem cqG{t t':TG}(h:PG X e t)(i:∀v σ H Q,t' v σ H Q->t v σ H Q):PG X e t':=λpins s σ H v u Q I r q=>h pins s σ H v u Q I r (i _ _ _ _ q)
theorem cqGs{t t':TGs}(h:PGs X es t)(i:∀v σ H Q,t' v σ H Q->t v σ H Q):PGs X es t':=λpins s σ H v u Q I r q=>h pins s σ H v u Q I r (i _ _ _ _ q)
noncomputable section
def eV(i:Nat):FE:=λL M=>match L[i]? with
 |some (some w)=>.ok w M
 |_=>.bad
def eC(d:D):FE:=λ_ M=>.ok (.d d) M
theorem aB(i:Nat)(hN:X.N[i]?=some x:=by rfl)(hk:X.K=K:=by rfl)(hv:Vis X.env.scope x:=by first|exact Or.inl rfl|exact Or.inr (Or.inl rfl)|exact Or.inr (Or.inr rfl))
  (hd:(x==("__debug__":Str))=false:=by decide)(hcd:(x==("__classdict__":Str))=false:=by decide):Ev X K Z (.Name x pos) (eV i) :=
 ⟨hk,cqE (aIw hN hv hd hcd) λσ H Q ⟨μ,M,L,hr,lr,p⟩=>by
  unfold eV at p
  cases q:L[i]? with
  |none=>rw[q]at p;exact p.elim
  |some o =>
   cases o with
   |none=>rw[q]at p;exact p.elim
   |some w =>
    rw[q]at p
    obtain⟨v,q1,q2⟩:=lr.ent i w q
    exact⟨v,q1,p μ H .refl hr v q2⟩⟩
theorem aLt{d:D}(hd:∀K μ H,Rp K μ H d v)(hk:X.K=K)(h:PE X e (tC v)):Ev X K Z e (eC d) :=
 ⟨hk,cqE h λσ H Q ⟨μ,M,L,hr,lr,p⟩=>p μ H .refl hr v (hd K μ H)⟩
theorem aD{i:Int}(hk:X.K=K:=by rfl):Ev X K Z (.Constant (.int i) j pos) (eC (.int i)):=aLt (λ_ _ _=>by simp[Rp]) hk aHq
theorem dM{i:Bool}(hk:X.K=K:=by rfl):Ev X K Z (.Constant (.bool i) j pos) (eC (.bl i)):=aLt (λ_ _ _=>by simp[Rp]) hk aQv
theorem lU(hk:X.K=K:=by rfl):Ev X K Z (.Constant .none j pos) (eC .non):=aLt (λ_ _ _=>by simp[Rp]) hk aNs
theorem aS(hk:X.K=K:=by rfl):Ev X K Z (.Constant (.str x) j pos) (eC (.str x)):=aLt (λ_ _ _=>by simp[Rp]) hk aGf
def e1(g:W->Mm->Oc W)(f:FE):FE:=λL M=>(f L M).bind g
def e2(g:W->W->Mm->Oc W)(f1 f2:FE):FE:=λL M=>(f1 L M).bind λx M1=>(f2 L M1).bind λy M2=>g x y M2
abbrev Wk(K:Frag)(Q:VK):List Addr->Hp->Mm->W->Prop:=λμ' H' _ w=>∀v,Rw K μ' H' w v->Q v H'
def Op2(K:Frag)(Z:Zt)(r:R2)(g:W->W->Mm->Oc W):Prop :=
 ∀(μ:List Addr) (H:Hp) (M:Mm) (x y:W) (v u:V) (Q:VK),HR K μ H M->Rw K μ H x v->Rw K μ H y u->Pst K Z μ H (g x y M) (Wk K Q)->r v u H Q
def OpG(X:Cx)(K:Frag)(Z:Zt)(f:Value->Value->Sem Value)(g:W->W->Mm->Oc W):Prop:=X.K=K->∃r,OpR X f r/\Op2 K Z r g
end
theorem lift2{r:R2}{g:W->W->Mm->Oc W}(hg:Op2 K Z r g):∀σ H Q,lift K Z (e2 g fa fb) σ H Q->tOp r (lift K Z fa) (lift K Z fb) σ H Q:=by
 rintro σ H Q ⟨μ,M,L,hr,lr,p⟩
 refine⟨μ,M,L,hr,lr,p.bind.imp λμ1 H1 M1 x e1 hr1 _ p1 v rx=>?_⟩
 refine⟨μ1,M1,L,hr1,lr.ext hr.lsts e1,p1.bind.imp λμ2 H2 M2 y e2 hr2 _ p2 u ry=>?_⟩
 exact hg μ2 H2 M2 x y v u Q hr2 (rx.ext hr1.lsts e2) ry p2
theorem aK{g:W->W->Mm->Oc W}(ho:OpG X K Z (binaryOp op) g)(ha:Ev X K Z a fa)(hb:Ev X K Z b fb):Ev X K Z (.BinOp a op b pos) (e2 g fa fb):=by
 obtain⟨r,h1,h2⟩:=ho ha.k
 exact⟨ha.k,cqE (aQs h1 ha.h hb.h) (lift2 h2)⟩
variable{op:CmpOp}
theorem dN{g:W->W->Mm->Oc W}(ho:OpG X K Z (compareOp op) g)(ha:Ev X K Z a fa)(hb:Ev X K Z b fb)(hm:behindInMarks op b=false):Ev X K Z (.Compare a [op] [b] pos) (e2 g fa fb):=by
 obtain⟨r,h1,h2⟩:=ho ha.k
 exact⟨ha.k,cqE (aLi h1 ha.h hb.h hm) (lift2 h2)⟩
noncomputable section
def tB(f:FE):FT:=λL M=>(f L M).bind λw M1=>match w with
 |.d (.bl b)=>.ok b M1
 |_=>.bad
theorem aM{g:W->W->Mm->Oc W}(ho:OpG X K Z (compareOp op) g)(ha:Ev X K Z a fa)(hb:Ev X K Z b fb)(hm:behindInMarks op b=false):Et X K Z (.Compare a [op] [b] pos) (tB (e2 g fa fb)):=by
 obtain⟨r,h1,h2⟩:=ho ha.k
 refine⟨ha.k,cqT (aKl h1 ha.h hb.h hm) ?_⟩
 rintro σ H Q ⟨μ,M,L,hr,lr,p⟩
 refine lift2 h2 σ H _ ⟨μ,M,L,hr,lr,p.bind.imp λμ1 H1 M1 x e1 hr1 _ p1 v rx=>?_⟩
 cases x with
 |d y=>cases y with
  |bl c=>exact⟨c,by simpa[Rw,Rp]using rx,p1 μ1 H1 .refl hr1⟩
  |_=>exact p1.elim
 |ref i=>exact p1.elim
 |ob _ _=>exact p1.elim
 |nest _=>exact p1.elim
def tru(M:Mm):W->Option Bool
 |.d .non=>some false
 |.d (.bl b)=>some b
 |.d (.int i)=>some (i != 0)
 |.d (.str x)=>if x.length<=16777216 then some (x.length != 0)else none
 |.d (.tup xs)=>some (!xs.isEmpty)
 |.d (.lst xs)=>some (!xs.isEmpty)
 |.d (.fz xs)=>some (!xs.isEmpty)
 |.d (.exn _ _ _)=>none
 |.ref i=>(M[i]?).map λxs=>!xs.isEmpty
 |.ob _ _=>none
 |.nest _=>none
def tV(f:FE):FT:=λL M=>(f L M).bind λw M1=>match tru M1 w with
 |some b=>.ok b M1
 |none=>.bad
theorem emp{ds:List D}(r:Rps K μ H ds vs):(!ds.isEmpty)=!vs.isEmpty:=by
 have:=r.length
 cases ds <;> cases vs <;> simp_all
theorem aRj{w:W}{b:Bool}(hr:HR K μ H M)(r:Rw K μ H w v)(h:tru M w=some b):TruV K v H b:=by
 cases w with
 |ref i =>
  obtain⟨a,q,rfl,il⟩:=r
  simp only[tru,aBE]at h
  obtain⟨xs,h1,rfl⟩:=h
  obtain⟨a',vs,q1,q2,q3⟩:=hr.at h1 q
  rw[q]at q1;cases q1
  exact .inl ⟨vs,SqL.of q2,emp q3⟩
 |ob _ _=>simp[tru]at h
 |nest _=>simp[tru]at h
 |d x =>
  cases x with
  |non=>simp only[Rw,Rp]at r;subst r;simp only[tru,aAQ]at h;exact h.symm
  |bl c=>simp only[Rw,Rp]at r;subst r;simp only[tru,aAQ]at h;exact h.symm
  |int i=>simp only[Rw,Rp]at r;subst r;simp only[tru,aAQ]at h;exact h.symm
  |str z =>
   simp only[Rw,Rp]at r;subst r
   simp only[tru]at h
   split at h
   ·rename_i hz
    cases h
    refine⟨by rw[aBC];exact hz,?_⟩
    rw[Bool.eq_iff_iff];simp
   ·cases h
  |tup xs=>simp only[Rw,Rp]at r;obtain⟨a,vs,rfl,q1,q2⟩:=r;simp only[tru,aAQ]at h;subst h;exact .inr (.inl ⟨vs,SqT.of q1,emp q2⟩)
  |lst xs=>simp only[Rw,Rp]at r;obtain⟨a,vs,rfl,q1,_,q2⟩:=r;simp only[tru,aAQ]at h;subst h;exact .inl ⟨vs,SqL.of q1,emp q2⟩
  |fz xs=>simp only[Rw,Rp]at r;obtain⟨a,vs,rfl,q1,q2⟩:=r;simp only[tru,aAQ]at h;subst h;exact .inl ⟨vs,q1.sq,emp q2⟩
  |exn c f xs=>simp[tru]at h
theorem eW(ha:Ev X K Z a f)(he:∀whole,isTrue a X.env whole=(do let v <- whole;standAt a.pos;holding [v] (truthy v)):=by intro _;rfl):Et X K Z a (tV f):=by
 refine⟨ha.k,cqT (aHz ha.h he) ?_⟩
 rintro σ H Q ⟨μ,M,L,hr,lr,p⟩
 refine⟨μ,M,L,hr,lr,p.bind.imp λμ1 H1 M1 x e1 hr1 _ p1 v rx=>?_⟩
 cases q:tru M1 x with
 |none=>rw[q]at p1;exact p1.elim
 |some k=>rw[q]at p1;exact⟨k,by rw[ha.k];exact aRj hr1 rx q,p1 μ1 H1 .refl hr1⟩
def tNot(t:FT):FT:=λL M=>(t L M).bind λb M1=>.ok (!b) M1
def tAnd(t u:FT):FT:=λL M=>(t L M).bind λb M1=>if b=true then u L M1 else .ok false M1
def tOr(t u:FT):FT:=λL M=>(t L M).bind λb M1=>if b=true then .ok true M1 else u L M1
end
theorem xA(ha:Et X K Z a ta):Et X K Z (.UnaryOp .Not a pos) (tNot ta):=by
 refine⟨ha.k,cqT (aMz ha.h) ?_⟩
 rintro σ H Q ⟨μ,M,L,hr,lr,p⟩
 exact⟨μ,M,L,hr,lr,p.bind.imp λμ1 H1 M1 x e1 hr1 _ p1=>p1 μ1 H1 .refl hr1⟩
variable{rest:List Expr}
theorem gR(ha:Et X K Z a ta):Ew X K Z (.BoolOp .And [a] pos) ta:=⟨ha.k,aJn ha.h⟩
theorem fJ(ha:Et X K Z a ta):Ew X K Z (.BoolOp .Or [a] pos) ta:=⟨ha.k,aNf ha.h⟩
theorem jG(ha:Et X K Z a ta)(hb:Ew X K Z (.BoolOp .And (b::rest) pos) tb):Ew X K Z (.BoolOp .And (a::b::rest) pos) (tAnd ta tb):=by
 refine⟨ha.k,cqW (aPd ha.h hb.h) ?_⟩
 rintro σ H Q ⟨μ,M,L,hr,lr,p⟩
 refine⟨μ,M,L,hr,lr,p.bind.imp λμ1 H1 M1 x e1 hr1 _ p1=>?_⟩
 cases x with
 |true=>exact⟨μ1,M1,L,hr1,lr.ext hr.lsts e1,p1⟩
 |false=>exact p1 μ1 H1 .refl hr1
theorem fR(ha:Et X K Z a ta)(hb:Ew X K Z (.BoolOp .Or (b::rest) pos) tb):Ew X K Z (.BoolOp .Or (a::b::rest) pos) (tOr ta tb):=by
 refine⟨ha.k,cqW (aRy ha.h hb.h) ?_⟩
 rintro σ H Q ⟨μ,M,L,hr,lr,p⟩
 refine⟨μ,M,L,hr,lr,p.bind.imp λμ1 H1 M1 x e1 hr1 _ p1=>?_⟩
 cases x with
 |true=>exact p1 μ1 H1 .refl hr1
 |false=>exact⟨μ1,M1,L,hr1,lr.ext hr.lsts e1,p1⟩
theorem iP(h:Ew X K Z a ta):Et X K Z a ta:=⟨h.k,h.h.pt⟩
end
noncomputable section
def lv(M:Mm):W->Option (List D)
 |.d (.lst xs)=>some xs
 |.ref i=>M[i]?
 |_=>none
def lr(M:Mm):W->Option (List D)
 |.d (.fz xs)=>some xs
 |w=>lv M w
def sv(M:Mm):W->Option (List D)
 |.d (.tup xs)=>some xs
 |w=>lr M w
def okD(d:D)(M:Mm):Oc W:=.ok (.d d) M
end
@[simp]theorem aSf(d:D)(M:Mm):okD d M=.ok (.d d) M:=rfl
variable{K:Frag}{e a b:Expr}{es:List Expr}{f fa fb:FE}{fs:FA}{F:Value->Value->Sem Value}
theorem OpR.or{r r':R2}(h:OpR X F r)(h':OpR X F r'):OpR X F (λx y H Q=>r x y H Q\/r' x y H Q):=by
 intro pins s σ H x y v u Q I rx ry q
 rcases q with q|q
 ·exact h pins s σ H x y v u Q I rx ry q
 ·exact h' pins s σ H x y v u Q I rx ry q
theorem yN{w:W}{ds:List D}(hr:HR K μ H M)(r:Rw K μ H w v)(h:lv M w=some ds):∃a vs,v=.ref a/\H a=some (.lst vs)/\Rps K μ H ds vs:=by
 cases w with
 |ref i =>
  obtain⟨a,q,rfl,il⟩:=r
  obtain⟨a',vs,q1,q2,q3⟩:=hr.at h q
  rw[q]at q1;cases q1
  exact⟨a,vs,rfl,q2,q3⟩
 |ob _ _=>simp[lv]at h
 |nest _=>simp[lv]at h
 |d x =>
  cases x with
  |lst xs=>simp only[lv,aAQ]at h;subst h;simp only[Rw,Rp]at r;obtain⟨a,vs,e,q1,_,q2⟩:=r;exact⟨a,vs,e,q1,q2⟩
  |_=>simp[lv]at h
theorem aDj{w:W}{ds:List D}(hr:HR K μ H M)(r:Rw K μ H w v)(h:lr M w=some ds):∃a vs,v=.ref a/\SqL K H a vs/\Rps K μ H ds vs:=by
 by_cases hf:∃xs,w=.d (.fz xs)
 ·obtain⟨xs,rfl⟩:=hf
  simp only[lr,aAQ]at h;subst h
  simp only[Rw,Rp]at r;obtain⟨a,vs,e,q1,q2⟩:=r
  exact⟨a,vs,e,q1.sq,q2⟩
 ·have:lr M w=lv M w:=by
   cases w with
   |ref i=>rfl
   |ob _ _=>rfl
   |nest _=>rfl
   |d x=>cases x <;> first|rfl|exact(hf ⟨_,rfl⟩).elim
  rw[this]at h
  obtain⟨a,vs,e,q1,q2⟩:=yN hr r h
  exact⟨a,vs,e,SqL.of q1,q2⟩
theorem rQ{w:W}{ds:List D}(hr:HR K μ H M)(r:Rw K μ H w v)(h:sv M w=some ds):∃a vs,v=.ref a/\(SqL K H a vs\/SqT K H a vs)/\Rps K μ H ds vs:=by
 by_cases hf:∃xs,w=.d (.tup xs)
 ·obtain⟨xs,rfl⟩:=hf
  simp only[sv,aAQ]at h;subst h
  simp only[Rw,Rp]at r;obtain⟨a,vs,e,q1,q2⟩:=r
  exact⟨a,vs,e,.inr (SqT.of q1),q2⟩
 ·have:sv M w=lr M w:=by
   cases w with
   |ref i=>rfl
   |ob _ _=>rfl
   |nest _=>rfl
   |d x=>cases x <;> first|rfl|exact(hf ⟨_,rfl⟩).elim
  rw[this]at h
  obtain⟨a,vs,e,q1,q2⟩:=aDj hr r h
  exact⟨a,vs,e,.inl q1,q2⟩
variable{Q:VK}
theorem jZ{ds:List D}(hr:HR K μ H M)(r:Rps K μ H ds vs)(p:Pst K Z μ H (okD (.tup ds) M) (Wk K Q)):∀q,H q=none->Q (.ref q) (upd H q (.tup vs)):=λq hq =>
 p μ _ (eF hr hq) (hr.lay hq) (.ref q) (by simp only[Rw,Rp];exact⟨q,vs,rfl,bE,Rps.ext hr.lsts (eF hr hq) _ _ r⟩)
theorem gW{ds:List D}(hr:HR K μ H M)(r:Rps K μ H ds vs)(p:Pst K Z μ H (okD (.lst ds) M) (Wk K Q)):∀q,H q=none->Q (.ref q) (upd H q (.lst vs)):=λq hq =>
 p μ _ (eF hr hq) (hr.lay hq) (.ref q) (by simp only[Rw,Rp];exact⟨q,vs,rfl,bE,hr.out hq,Rps.ext hr.lsts (eF hr hq) _ _ r⟩)
theorem aCv{ds:List D}(hr:HR K μ H M)(r:Rps K μ H ds vs)(p:Pst K Z μ H (.ok (.ref M.length) (M++[ds])) (Wk K Q)):∀q,H q=none->Q (.ref q) (upd H q (.lst vs)):=λq hq =>
 p _ _ (aDy hr hq) (hr.new hq r) (.ref q) ⟨q,by rw[<- hr.len];simp,rfl,_,bE⟩
noncomputable def rCatA(K:Frag):R2:=λx y H Q=>∃a b xs ys,x=.ref a/\y=.ref b/\SqT K H a xs/\SqT K H b ys/\xs.length+ys.length<=sizeLine /\
 (xs=[]->Q (.ref b) H)/\(ys=[]->Q (.ref a) H)/\(∀p,H p=none->Q (.ref p) (upd H p (.tup (xs++ys))))
theorem aMb:OpR X (binaryOp .Add) (rCatA X.K):=by
 intro pins s σ H x y v u Q I rx ry h
 obtain⟨a,b,xs,ys,rfl,rfl,ha,hb,hz,q0,q1,q2⟩:=h
 by_cases hx:xs=[]
 ·subst hx
  cases rx
  cases ry
  obtain⟨its,r1,p1,_⟩:=I.tuple ha
  obtain⟨its2,r2,p2,_⟩:=I.tuple hb
  have hv:its=[]:=r1.nil_iff.mpr rfl
  subst hv
  obtain⟨⟨cls,dd,data,sl⟩,ho,hc,n,hd⟩:=id p1
  obtain⟨⟨cls2,dd2,data2,sl2⟩,ho2,hc2,n2,hd2⟩:=id p2
  simp only at hc hd hc2 hd2
  subst hc hd hc2 hd2
  exact concat_meets ⟨_,ho,rfl⟩ ⟨_,ho2,rfl⟩ noFill_tuple_add seq_tuple_add aGN aGF (aGD _ _)
   (tuple_addW0 a b _ its2.toArray n n2 dd dd2 sl sl2 (by simp)) ⟨ho,ho2,⟨.ref b,H,I,rfl,q0 rfl⟩⟩
 ·exact aLv pins s σ H _ _ v u Q I rx ry ⟨a,b,xs,ys,rfl,rfl,ha,hb,hx,hz,q1,λ_=>q2⟩
noncomputable def pAdd(x y:W)(M:Mm):Oc W:=match x,y with
 |.d (.int i),.d (.int j)=>.ok (.d (.int (i+j))) M
 |.d (.tup xs),.d (.tup ys)=>if xs.length+ys.length<=16777216 then .ok (.d (.tup (xs++ys))) M else .bad
 |.d (.str i),.d (.str j)=>if i.length+j.length<=16777216 then .ok (.d (.str (i++j))) M else .bad
 |x,y=>match lv M x,lv M y with
  |some xs,some ys=>if xs.length+ys.length<=16777216 then .ok (.d (.lst (xs++ys))) M else .bad
  |_,_=>.bad
variable{u:V}
theorem aCd{x y:W}(hr:HR K μ H M)(rx:Rw K μ H x v)(ry:Rw K μ H y u)(p:Pst K Z μ H (match lv M x,lv M y with
  |some xs,some ys=>if xs.length+ys.length<=16777216 then .ok (.d (.lst (xs++ys))) M else .bad
  |_,_=>.bad) (Wk K Q)):rCat v u H Q:=by
 cases q1:lv M x with
 |none=>rw[q1]at p;exact p.elim
 |some xs =>
  cases q2:lv M y with
  |none=>rw[q1,q2]at p;exact p.elim
  |some ys =>
   rw[q1,q2]at p
   simp only at p
   split at p
   ·rename_i hz
    obtain⟨a,vs,rfl,h1,r1⟩:=yN hr rx q1
    obtain⟨b,us,rfl,h2,r2⟩:=yN hr ry q2
    exact⟨a,b,vs,us,rfl,rfl,h1,h2,by rw[<- r1.length,<- r2.length,aBC];exact hz,gW hr (r1.append r2) p⟩
   ·exact p.elim
theorem opAdd:OpG X K Z (binaryOp .Add) pAdd:=λhk=>by
 refine⟨_,OpR.or (OpR.or aMw (hk▸aMb)) (OpR.or aOk aAt),?_⟩
 intro μ H M x y v u Q hr rx ry p
 have gen:=λp=>aCd (Q:=Q) (K:=K) (Z:=Z) hr rx ry p
 cases x with
 |ref i=>exact .inr (.inl (gen p))
 |ob _ _=>exact .inr (.inl (gen p))
 |nest _=>exact .inr (.inl (gen p))
 |d x =>
  cases y with
  |ref j=>exact .inr (.inl (gen (by cases x <;> exact p)))
  |ob _ _=>exact .inr (.inl (gen (by cases x <;> exact p)))
  |nest _=>exact .inr (.inl (gen (by cases x <;> exact p)))
  |d y =>
   cases x <;> cases y <;> first
    |exact .inr (.inl (gen p))
    |skip
   ·simp only[Rw,Rp]at rx ry;exact .inl (.inl ⟨_,_,rx,ry,p μ H .refl hr _ (by simp[Rw,Rp])⟩)
   ·simp only[Rw,Rp]at rx ry
    simp only[pAdd]at p
    split at p
    ·rename_i hz
     exact .inr (.inr ⟨_,_,rx,ry,by rw[aBC];exact hz,p μ H .refl hr _ (by simp[Rw,Rp])⟩)
    ·exact p.elim
   ·rename_i xs ys
    have rx':=rx
    have ry':=ry
    simp only[Rw,Rp]at rx ry
    obtain⟨a,vs,rfl,h1,r1⟩:=rx
    obtain⟨b,us,rfl,h2,r2⟩:=ry
    simp only[pAdd]at p
    split at p
    ·rename_i hz
     refine .inl (.inr ⟨a,b,vs,us,rfl,rfl,SqT.of h1,SqT.of h2,by rw[<- r1.length,<- r2.length,aBC];exact hz,λe=>?_,λe=>?_,jZ hr (r1.append r2) p⟩)
     ·subst e
      have:xs=[]:=by have:=r1.length;simpa using this
      subst this
      exact p μ H .refl hr _ (by simpa using ry')
     ·subst e
      have:ys=[]:=by have:=r2.length;simpa using this
      subst this
      exact p μ H .refl hr _ (by simpa using rx')
    ·exact p.elim
noncomputable def pI(c:Int->Int->Bool)(g:Int->Int->D)(x y:W)(M:Mm):Oc W:=match x,y with
 |.d (.int i),.d (.int j)=>if c i j=true then .ok (.d (g i j)) M else .bad
 |_,_=>.bad
variable{gv:Int->Int->V}
theorem opI{C:Int->Int->Prop}{c:Int->Int->Bool}{g:Int->Int->D}(h:OpR X F (rI C gv))(hc:∀i j,c i j=true->C i j)(hg:∀K μ H i j,Rp K μ H (g i j) (gv i j)) :
  OpG X K Z F (pI c g):=λhk=>⟨_,h,by
 intro μ H M x y v u Q hr rx ry p
 cases x with
 |ref i=>exact p.elim
 |ob _ _=>exact p.elim
 |nest _=>exact p.elim
 |d x=>cases y with
  |ref j=>cases x <;> exact p.elim
  |ob _ _=>cases x <;> exact p.elim
  |nest _=>cases x <;> exact p.elim
  |d y=>cases x <;> cases y <;> first
   |exact p.elim
   |(simp only[Rw,Rp]at rx ry
     simp only[pI]at p
     split at p
     ·rename_i hz;exact⟨_,_,rx,ry,hc _ _ hz,p μ H .refl hr _ (hg K μ H _ _)⟩
     ·exact p.elim)⟩
theorem opI0{g:Int->Int->D}(h:OpR X F (rI0 gv))(hg:∀K μ H i j,Rp K μ H (g i j) (gv i j)):OpG X K Z F (pI (λ_ _=>true) g):=λhk=>⟨_,h,by
 intro μ H M x y v u Q hr rx ry p
 cases x with
 |ref i=>exact p.elim
 |ob _ _=>exact p.elim
 |nest _=>exact p.elim
 |d x=>cases y with
  |ref j=>cases x <;> exact p.elim
  |ob _ _=>cases x <;> exact p.elim
  |nest _=>cases x <;> exact p.elim
  |d y=>cases x <;> cases y <;> first
   |exact p.elim
   |(simp only[Rw,Rp]at rx ry
     exact⟨_,_,rx,ry,p μ H .refl hr _ (hg K μ H _ _)⟩)⟩
noncomputable section
abbrev pSub:=pI (λ_ _=>true) λi j=>.int (i - j)
abbrev pLt:=pI (λ_ _=>true) λi j=>.bl (decide (i < j))
abbrev pGt:=pI (λ_ _=>true) λi j=>.bl (decide (j < i))
abbrev pGe:=pI (λ_ _=>true) λi j=>.bl (decide (j<=i))
abbrev pMod:=pI (λ_ j=>decide (0 < j)) λi j=>.int (i % j)
abbrev pDiv:=pI (λ_ j=>decide (0 < j/\j < 18446744073709551616)) λi j=>.int (i / j)
abbrev pPow:=pI (λi j=>decide (0<=j/\j<=1000000/\i.natAbs < 18446744073709551616)) λi j=>.int (i ^ j.toNat)
theorem opSub:OpG X K Z (binaryOp .Sub) pSub:=opI0 aQo λ_ _ _ _ _=>by simp[Rp]
theorem opLt:OpG X K Z (compareOp .Lt) pLt:=opI0 aRi λ_ _ _ _ _=>by simp[Rp]
theorem opGt:OpG X K Z (compareOp .Gt) pGt:=opI0 aSc λ_ _ _ _ _=>by simp[Rp]
theorem opGe:OpG X K Z (compareOp .GtE) pGe:=opI0 aQz λ_ _ _ _ _=>by simp[Rp]
theorem opMod:OpG X K Z (binaryOp .Mod) pMod:=opI aOn (λ_ _ h=>of_decide_eq_true h) λ_ _ _ _ _=>by simp[Rp]
theorem opDiv:OpG X K Z (binaryOp .FloorDiv) pDiv:=opI aHy (λ_ _ h=>by simp only[aBH]at h;exact h) λ_ _ _ _ _=>by simp[Rp]
theorem opPow:OpG X K Z (binaryOp .Pow) pPow:=opI aNz (λ_ _ h=>by simp only[aBH]at h;exact h) λ_ _ _ _ _=>by simp[Rp]
def isN:W->Bool
 |.d .non=>true
 |_=>false
def pIs(x y:W)(M:Mm):Oc W:=match y with
 |.d .non=>.ok (.d (.bl (isN x))) M
 |_=>.bad
end
theorem aRw{x:W}(r:Rw K μ H x v):decide (v=.non)=isN x:=by
 cases x with
 |ref i=>obtain⟨a,_,rfl,_⟩:=r;simp[isN]
 |ob c i=>obtain⟨a,_,rfl,_⟩:=r;simp[isN]
 |nest c=>obtain⟨a,_,rfl,_⟩:=r;simp[isN]
 |d x=>cases x with
  |non=>simp only[Rw,Rp]at r;subst r;simp[isN]
  |bl b=>simp only[Rw,Rp]at r;subst r;simp[isN]
  |int b=>simp only[Rw,Rp]at r;subst r;simp[isN]
  |str b=>simp only[Rw,Rp]at r;subst r;simp[isN]
  |tup b=>simp only[Rw,Rp]at r;obtain⟨a,vs,rfl,_⟩:=r;simp[isN]
  |lst b=>simp only[Rw,Rp]at r;obtain⟨a,vs,rfl,_⟩:=r;simp[isN]
  |fz b=>simp only[Rw,Rp]at r;obtain⟨a,vs,rfl,_⟩:=r;simp[isN]
  |exn c f b=>simp only[Rw,Rp]at r;obtain⟨a,vs,_,_,_,rfl,_⟩:=r;simp[isN]
theorem opIs:OpG X K Z (compareOp .Is) pIs:=λhk=>⟨_,aPi,by
 intro μ H M x y v u Q hr rx ry p
 cases y with
 |ref j=>exact p.elim
 |ob _ _=>exact p.elim
 |nest _=>exact p.elim
 |d y=>cases y with
  |non=>simp only[Rw,Rp]at ry;exact⟨ry,p μ H .refl hr _ (by simp only[Rw,Rp];rw[aRw rx])⟩
  |_=>exact p.elim⟩
variable{K:Frag}
mutual
noncomputable def eqD:D->D->Bool
 |.non,.non=>true
 |.bl a,.bl b=>a==b
 |.bl a,.int b=>(if a then 1 else 0)==b
 |.int a,.bl b=>a==(if b then 1 else 0)
 |.int a,.int b=>a==b
 |.str a,.str b=>a==b
 |.tup xs,.tup ys=>eqDs xs ys
 |.lst xs,.lst ys=>eqDs xs ys
 |.lst xs,.fz ys=>eqDs xs ys
 |.fz xs,.lst ys=>eqDs xs ys
 |.fz xs,.fz ys=>eqDs xs ys
 |.exn c f xs,.exn c' f' ys=>c==c'&&f==f'&&eqDs xs ys
 |_,_=>false
noncomputable def eqDs:List D->List D->Bool
 |[],[]=>true
 |x::xs,y::ys=>eqD x y&&eqDs xs ys
 |_,_=>false
end
mutual
noncomputable def dep:D->Nat
 |.tup xs=>deps xs+1
 |.lst xs=>deps xs+1
 |.fz xs=>deps xs+1
 |.exn _ _ _=>1000
 |_=>0
noncomputable def deps:List D->Nat
 |[]=>0
 |x::xs=>max (dep x) (deps xs)
end
theorem xQ:∀{xs:List D} {i:Nat} {x:D},xs[i]?=some x->dep x<=deps xs
 |[],_,_,h=>by simp at h
 |y::xs,0,x,h=>by simp at h;subst h;simp only[deps];lia
 |y::xs,i+1,x,h=>by
  have:=xQ (xs:=xs) (i:=i) (x:=x) (by simpa using h)
  simp only[deps];lia
theorem nB:∀(xs ys:List D),eqDs xs ys=((List.range (min xs.length ys.length)).all (λi=>eqD (xs.getD i .non) (ys.getD i .non))&&xs.length==ys.length)
 |[],[]=>rfl
 |[],y::ys=>by simp[eqDs]
 |x::xs,[]=>by simp[eqDs]
 |x::xs,y::ys=>by
  simp only[eqDs]
  rw[nB xs ys]
  have:min (x::xs).length (y::ys).length=min xs.length ys.length+1:=by simp
  rw[this,List.range_succ_eq_map,aFU]
  simp only[List.getD_cons_zero,List.all_map,Bool.and_assoc,aEN]
  congr 1
  congr 1
  rw[Bool.eq_iff_iff];simp
variable{σ:L2.St}
theorem aDd{ds:List D}(r:Rps K μ H ds vs)(rv:Vals vs its)(h:i < its.toArray.size):∃d v,ds[i]?=some d/\Rp K μ H d v/\RelV v its.toArray[i]:=by
 have h1:i < its.length:=by simpa using h
 have h2:i < vs.length:=by rw[rv.length];exact h1
 have h3:i < ds.length:=by rw[r.length];exact h2
 obtain⟨v,q1,q2⟩:=r.get (i:=i) (d:=ds[i]) (by simp[h3])
 obtain⟨u,q3,q4⟩:=rv.get q1
 refine⟨ds[i],v,by simp[h3],q2,?_⟩
 rw[aAR h1]at q3
 cases q3
 simpa using q4
theorem aDu{ds:List D}{d:D}(h:ds[i]?=some d):ds.getD i .non=d:=by rw[List.getD_eq_getElem?_getD,h];rfl
noncomputable abbrev Eqs(K:Frag)(μ:List Addr)(H:Hp)(s:Shared)(A:Around)(xs:List D):Prop :=
 ∀(j:Nat) (d:D),xs[j]?=some d->∀(d2:D) (v1 v2:V) (u1 u2:Value),dep d2<=100->Rp K μ H d v1->Rp K μ H d2 v2->RelV v1 u1->RelV v2 u2->SeqAt.EqAt A s u1 u2 (eqD d d2)
variable{us:List V}
theorem oA{xs ys:List D}{its its2:List Value}(r1:Rps K μ H xs vs)(r2:Rps K μ H ys us)(q1:Vals vs its)(q2:Vals us its2)(n2:deps ys<=100)(ih:Eqs K μ H s A xs) :
  ∀j (h1:j < its.toArray.size) (h2:j < its2.toArray.size),SeqAt.EqAt A s its.toArray[j] its2.toArray[j] ((λi=>eqD (xs.getD i .non) (ys.getD i .non)) j):=by
 intro j h1 h2
 obtain⟨d,v,e1,e2,e3⟩:=aDd r1 q1 h1
 obtain⟨d',v',e1',e2',e3'⟩:=aDd r2 q2 h2
 simp only[aDu e1,aDu e1']
 exact ih j d e1 d' v v' _ _ (aAV (xQ e1') n2) e2 e2' e3 e3'
theorem nD{xs ys:List D}{its2:List Value}(r1:Rps K μ H xs vs)(r2:Rps K μ H ys us)(q1:Vals vs its)(q2:Vals us its2):its.toArray.size=xs.length/\its2.toArray.size=ys.length:=by
 simp[r1.length,r2.length,q1.length,q2.length]
theorem aPo{xs ys:List D}{a b:Addr}(I:Inv X pins σ H s)(h1:SqT X.K H a vs)(h2:SqT X.K H b us)(r1:Rps K μ H xs vs)(r2:Rps K μ H ys us)(hu:A.units < cLine)(n2:deps ys<=100)(ih:Eqs K μ H s A.in1 xs) :
  SeqAt.RcAt A s (.ref a) (.ref b) (eqDs xs ys):=by
 obtain⟨its,q1,p1,_⟩:=I.tuple h1
 obtain⟨its2,q2,p2,_⟩:=I.tuple h2
 have:=SeqAt.RcAt.tuples p1 p2 hu (oA r1 r2 q1 q2 n2 ih)
 obtain⟨e1,e2⟩:=nD r1 r2 q1 q2
 rw[e1,e2]at this
 rw[nB];exact this
theorem aJb{xs ys:List D}{a b:Addr}(I:Inv X pins σ H s)(h1:SqT X.K H a vs)(h2:SqT X.K H b us)(r1:Rps K μ H xs vs)(r2:Rps K μ H ys us)(hu:A.units < cLine)(n2:deps ys<=100)(ih:Eqs K μ H s A.in1 xs) :
  SeqAt.RcNeAt A s (.ref a) (.ref b) (!eqDs xs ys):=by
 obtain⟨its,q1,p1,_⟩:=I.tuple h1
 obtain⟨its2,q2,p2,_⟩:=I.tuple h2
 have:=SeqAt.RcNeAt.tuples p1 p2 hu (oA r1 r2 q1 q2 n2 ih)
 obtain⟨e1,e2⟩:=nD r1 r2 q1 q2
 rw[e1,e2]at this
 rw[nB];exact this
theorem xR{xs ys:List D}(h:xs.length≠ys.length):eqDs xs ys=false:=by
 rw[nB]
 have:(xs.length==ys.length)=false:=by simpa using h
 rw[this,aFG]
theorem vC{xs ys:List D}(h:xs.length=ys.length):eqDs xs ys=(List.range xs.length).all (λi=>eqD (xs.getD i .non) (ys.getD i .non)):=by
 rw[nB,<- h];simp
theorem vX{xs ys:List D}{a b:Addr}(I:Inv X pins σ H s)(h1:SqL X.K H a vs)(h2:SqL X.K H b us)(r1:Rps K μ H xs vs)(r2:Rps K μ H ys us)(hu:A.units < cLine)(n2:deps ys<=100)(ih:Eqs K μ H s A.in1 xs) :
  SeqAt.RcAt A s (.ref a) (.ref b) (eqDs xs ys):=by
 obtain⟨its,q1,p1,_⟩:=I.list h1
 obtain⟨its2,q2,p2,_⟩:=I.list h2
 obtain⟨e1,e2⟩:=nD r1 r2 q1 q2
 by_cases hl:xs.length=ys.length
 ·have:=SeqAt.RcAt.lists p1.isList p2.isList (by rw[e1,e2,hl]) hu (oA r1 r2 q1 q2 n2 ih)
  rw[e1]at this
  rw[vC hl];exact this
 ·rw[xR hl]
  exact SeqAt.RcAt.lists_lengths p1.isList p2.isList (by rw[e1,e2];simpa using hl) hu
theorem mR{xs ys:List D}{a b:Addr}(I:Inv X pins σ H s)(h1:SqL X.K H a vs)(h2:SqL X.K H b us)(r1:Rps K μ H xs vs)(r2:Rps K μ H ys us)(hu:A.units < cLine)(n2:deps ys<=100)(ih:Eqs K μ H s A.in1 xs) :
  SeqAt.RcNeAt A s (.ref a) (.ref b) (!eqDs xs ys):=by
 obtain⟨its,q1,p1,_⟩:=I.list h1
 obtain⟨its2,q2,p2,_⟩:=I.list h2
 obtain⟨e1,e2⟩:=nD r1 r2 q1 q2
 by_cases hl:xs.length=ys.length
 ·have:=SeqAt.RcNeAt.lists p1.isList p2.isList (by rw[e1,e2,hl]) hu (oA r1 r2 q1 q2 n2 ih)
  rw[e1]at this
  rw[vC hl];exact this
 ·rw[xR hl]
  exact SeqAt.RcNeAt.lists_lengths p1.isList p2.isList (by rw[e1,e2];simpa using hl) hu
noncomputable def fv:D->Option V
 |.non=>some .non
 |.bl b=>some (.bl b)
 |.int i=>some (.int i)
 |.str x=>some (.str x)
 |_=>none
theorem uE{d:D}(h:fv d=some u)(r:Rp K μ H d v):v=u/\flatV u=true:=by
 cases d <;> simp only[fv,aAQ,reduceCtorEq]at h <;> (simp only[Rp]at r;subst h;exact⟨r,rfl⟩)
variable{w:V}
theorem aGj{d e:D}(h:fv d=some u)(h':fv e=some w):eqV u w=eqD d e:=by
 cases d <;> simp only[fv,aAQ,reduceCtorEq]at h <;> (cases e <;> simp only[fv,aAQ,reduceCtorEq]at h' <;> (subst h;subst h';simp[eqV,eqD]))
theorem aRn{d:D}(r:Rp K μ H d v)(h:flatV v=true):fv d=some v:=by
 cases d with
 |non=>simp only[Rp]at r;subst r;rfl
 |bl b=>simp only[Rp]at r;subst r;rfl
 |int b=>simp only[Rp]at r;subst r;rfl
 |str b=>simp only[Rp]at r;subst r;rfl
 |tup b=>simp only[Rp]at r;obtain⟨a,vs,rfl,_⟩:=r;cases h
 |lst b=>simp only[Rp]at r;obtain⟨a,vs,rfl,_⟩:=r;cases h
 |fz b=>simp only[Rp]at r;obtain⟨a,vs,rfl,_⟩:=r;cases h
 |exn c f b=>simp only[Rp]at r;obtain⟨a,vs,_,_,_,rfl,_⟩:=r;cases h
theorem aHc(h:flatV v=true):eqV v v=true:=by cases v <;> first|(cases h;done)|rfl|(simp[eqV];done)
theorem nR{d d':D}(hf:fv d=some u)(h:Rp K μ H d v)(h':Rp K μ H d' v):eqD d d'=true:=by
 obtain⟨rfl,fl⟩:=uE hf h
 rw[<- aGj hf (aRn h' fl)]
 exact aHc fl
inductive At(K:Frag)(μ:List Addr)(H:Hp):D->Addr->List D->Bool->Prop where
 |tup {a vs ds:_}:SqT K H a vs->Rps K μ H ds vs->At K μ H (.tup ds) a ds true
 |lst {a vs ds:_}:SqL K H a vs->Rps K μ H ds vs->At K μ H (.lst ds) a ds false
 |fz {a vs ds:_}:SqL K H a vs->Rps K μ H ds vs->At K μ H (.fz ds) a ds false
theorem qR{a:Addr}(I:Inv X pins σ H s)(h1:SqT X.K H a vs)(h2:SqL X.K H a us):False:=by
 obtain⟨its,q1,p1,_⟩:=I.tuple h1
 obtain⟨its2,q2,p2,_⟩:=I.list h2
 exact SeqAt.ne_of_list_tuple p2.isList p1 rfl
mutual
theorem aIa(I:Inv X pins σ H s)(hk:X.K=K):∀(d d':D) (v:V),dep d<=100->dep d'<=100->Rp K μ H d v->Rp K μ H d' v->eqD d d'=true
 |.non,d',v,n,n',h,h'=>nR rfl h h'
 |.bl x,d',v,n,n',h,h'=>nR rfl h h'
 |.int x,d',v,n,n',h,h'=>nR rfl h h'
 |.str x,d',v,n,n',h,h'=>nR rfl h h'
 |.tup xs,d',v,n,n',h,h'=>by
  simp only[Rp]at h
  obtain⟨a,vs,rfl,h1,r1⟩:=h
  cases d' with
  |tup ys =>
   simp only[Rp]at h'
   obtain⟨b,us,e,h2,r2⟩:=h'
   cases e
   cases I.tuple_inj (SqT.of (K:=X.K) h1) (SqT.of h2)
   simp only[eqD]
   exact kA I hk xs ys vs (by simp only[dep]at n;lia) (by simp only[dep]at n';lia) r1 r2
  |lst ys=>simp only[Rp]at h';obtain⟨b,us,e,h2,_,r2⟩:=h';cases e;exact(qR I (SqT.of h1) (SqL.of h2)).elim
  |fz ys=>simp only[Rp]at h';obtain⟨b,us,e,h2,r2⟩:=h';cases e;exact(qR I (SqT.of h1) (hk▸h2.sq)).elim
  |exn c f ys=>simp[dep]at n'
  |_=>simp only[Rp]at h';cases h'
 |.lst xs,d',v,n,n',h,h'=>by
  simp only[Rp]at h
  obtain⟨a,vs,rfl,h1,_,r1⟩:=h
  cases d' with
  |tup ys=>simp only[Rp]at h';obtain⟨b,us,e,h2,r2⟩:=h';cases e;exact(qR I (SqT.of h2) (SqL.of h1)).elim
  |lst ys =>
   simp only[Rp]at h';obtain⟨b,us,e,h2,_,r2⟩:=h';cases e
   cases I.list_inj (SqL.of h1) (SqL.of h2)
   simp only[eqD]
   exact kA I hk xs ys vs (by simp only[dep]at n;lia) (by simp only[dep]at n';lia) r1 r2
  |fz ys =>
   simp only[Rp]at h';obtain⟨b,us,e,h2,r2⟩:=h';cases e
   cases I.list_inj (SqL.of h1) (hk▸h2.sq)
   simp only[eqD]
   exact kA I hk xs ys vs (by simp only[dep]at n;lia) (by simp only[dep]at n';lia) r1 r2
  |exn c f ys=>simp[dep]at n'
  |_=>simp only[Rp]at h';cases h'
 |.fz xs,d',v,n,n',h,h'=>by
  simp only[Rp]at h
  obtain⟨a,vs,rfl,h1,r1⟩:=h
  cases d' with
  |tup ys=>simp only[Rp]at h';obtain⟨b,us,e,h2,r2⟩:=h';cases e;exact(qR I (SqT.of h2) (hk▸h1.sq)).elim
  |lst ys =>
   simp only[Rp]at h';obtain⟨b,us,e,h2,_,r2⟩:=h';cases e
   cases I.list_inj (hk▸h1.sq) (SqL.of h2)
   simp only[eqD]
   exact kA I hk xs ys vs (by simp only[dep]at n;lia) (by simp only[dep]at n';lia) r1 r2
  |fz ys =>
   simp only[Rp]at h';obtain⟨b,us,e,h2,r2⟩:=h';cases e
   cases I.list_inj (hk▸h1.sq) (hk▸h2.sq)
   simp only[eqD]
   exact kA I hk xs ys vs (by simp only[dep]at n;lia) (by simp only[dep]at n';lia) r1 r2
  |exn c f ys=>simp[dep]at n'
  |_=>simp only[Rp]at h';cases h'
 |.exn c f xs,d',v,n,n',h,h'=>by simp[dep]at n
theorem kA(I:Inv X pins σ H s)(hk:X.K=K):∀(xs ys:List D) (vs:List V),deps xs<=100->deps ys<=100->Rps K μ H xs vs->Rps K μ H ys vs->eqDs xs ys=true
 |[],ys,vs,n,n',h,h'=>by simp only[Rps]at h;subst h;cases ys with|nil=>rfl|cons y ys=>simp only[Rps]at h';obtain⟨_,_,e,_⟩:=h';cases e
 |x::xs,ys,vs,n,n',h,h'=>by
  simp only[Rps]at h
  obtain⟨v,r,rfl,e2,e3⟩:=h
  cases ys with
  |nil=>simp only[Rps]at h';cases h'
  |cons y ys =>
   simp only[Rps]at h'
   obtain⟨v',r',e,e2',e3'⟩:=h'
   cases e
   simp only[deps]at n n'
   simp only[eqDs,aIa I hk x y v (by lia) (by lia) e2 e2',kA I hk xs ys r (by lia) (by lia) e3 e3',Bool.and_self]
end
theorem nH{d:D}(h:fv d=none)(n:dep d<=100)(r:Rp K μ H d v):∃a ds k,v=.ref a/\At K μ H d a ds k:=by
 cases d with
 |tup xs=>simp only[Rp]at r;obtain⟨a,vs,e,q1,q2⟩:=r;exact⟨a,xs,true,e,.tup (SqT.of q1) q2⟩
 |lst xs=>simp only[Rp]at r;obtain⟨a,vs,e,q1,_,q2⟩:=r;exact⟨a,xs,false,e,.lst (SqL.of q1) q2⟩
 |fz xs=>simp only[Rp]at r;obtain⟨a,vs,e,q1,q2⟩:=r;exact⟨a,xs,false,e,.fz q1.sq q2⟩
 |exn c f xs=>simp[dep]at n
 |_=>simp[fv]at h
variable{v1 v2 w2:V}{u1:Value}
theorem aLw{d d2:D}(n1:fv d=some w)(n2:fv d2=some w2)(h1:Rp K μ H d v1)(h2:Rp K μ H d2 v2)(q1:RelV v1 u1)(q2:RelV v2 u2) :
  (SeqAt.RcAt A s u1 u2 (eqD d d2)/\SeqAt.RcNeAt A s u1 u2 (!eqD d d2)):=by
 cases d with
 |non =>
  simp only[Rp]at h1;subst h1;cases q1
  cases d2 with
  |non=>simp only[Rp]at h2;subst h2;cases q2;simp only[eqD];exact⟨SeqAt.RcAt.none_none,SeqAt.RcNeAt.none_none⟩
  |bl y=>simp only[Rp]at h2;subst h2;cases q2;simp only[eqD];exact⟨SeqAt.RcAt.none_bool y,SeqAt.RcNeAt.none_bool y⟩
  |int y=>simp only[Rp]at h2;subst h2;obtain⟨t2,rfl⟩:=q2;simp only[eqD];exact⟨SeqAt.RcAt.none_int y t2,SeqAt.RcNeAt.none_int y t2⟩
  |str y=>simp only[Rp]at h2;subst h2;obtain⟨t2,rfl⟩:=q2;simp only[eqD];exact⟨SeqAt.RcAt.none_str y t2,SeqAt.RcNeAt.none_str y t2⟩
  |_=>simp[fv]at n2
 |bl x =>
  simp only[Rp]at h1;subst h1;cases q1
  cases d2 with
  |non=>simp only[Rp]at h2;subst h2;cases q2;simp only[eqD];exact⟨SeqAt.RcAt.bool_none x,SeqAt.RcNeAt.bool_none x⟩
  |bl y=>simp only[Rp]at h2;subst h2;cases q2;simp only[eqD];exact⟨SeqAt.RcAt.bool_bool x y,SeqAt.RcNeAt.bool_bool x y⟩
  |int y=>simp only[Rp]at h2;subst h2;obtain⟨t2,rfl⟩:=q2;simp only[eqD];exact⟨SeqAt.RcAt.bool_int x y t2,SeqAt.RcNeAt.bool_int x y t2⟩
  |str y=>simp only[Rp]at h2;subst h2;obtain⟨t2,rfl⟩:=q2;simp only[eqD];exact⟨SeqAt.RcAt.bool_str x y t2,SeqAt.RcNeAt.bool_str x y t2⟩
  |_=>simp[fv]at n2
 |int x =>
  simp only[Rp]at h1;subst h1;obtain⟨t,rfl⟩:=q1
  cases d2 with
  |non=>simp only[Rp]at h2;subst h2;cases q2;simp only[eqD];exact⟨SeqAt.RcAt.int_none x t,SeqAt.RcNeAt.int_none x t⟩
  |bl y=>simp only[Rp]at h2;subst h2;cases q2;simp only[eqD];exact⟨SeqAt.RcAt.int_bool x t y,SeqAt.RcNeAt.int_bool x t y⟩
  |int y=>simp only[Rp]at h2;subst h2;obtain⟨t2,rfl⟩:=q2;simp only[eqD];exact⟨SeqAt.RcAt.int_int x t y t2,SeqAt.RcNeAt.int_int x t y t2⟩
  |str y=>simp only[Rp]at h2;subst h2;obtain⟨t2,rfl⟩:=q2;simp only[eqD];exact⟨SeqAt.RcAt.int_str x t y t2,SeqAt.RcNeAt.int_str x t y t2⟩
  |_=>simp[fv]at n2
 |str x =>
  simp only[Rp]at h1;subst h1;obtain⟨t,rfl⟩:=q1
  cases d2 with
  |non=>simp only[Rp]at h2;subst h2;cases q2;simp only[eqD];exact⟨SeqAt.RcAt.str_none x t,SeqAt.RcNeAt.str_none x t⟩
  |bl y=>simp only[Rp]at h2;subst h2;cases q2;simp only[eqD];exact⟨SeqAt.RcAt.str_bool x t y,SeqAt.RcNeAt.str_bool x t y⟩
  |int y=>simp only[Rp]at h2;subst h2;obtain⟨t2,rfl⟩:=q2;simp only[eqD];exact⟨SeqAt.RcAt.str_int x t y t2,SeqAt.RcNeAt.str_int x t y t2⟩
  |str y=>simp only[Rp]at h2;subst h2;obtain⟨t2,rfl⟩:=q2;simp only[eqD];exact⟨SeqAt.RcAt.str_str x t y t2,SeqAt.RcNeAt.str_str x t y t2⟩
  |_=>simp[fv]at n2
 |_=>simp[fv]at n1
variable{its:Array Value}
theorem aCi{d2:D}{a:Addr}(pl:s.heap.IsTuple a its)(hu:A.units < cLine)(n2:fv d2=some w2)(h2:Rp K μ H d2 v2)(q2:RelV v2 u2) :
  SeqAt.EqAt A s (.ref a) u2 false/\SeqAt.EqAt A s u2 (.ref a) false/\SeqAt.RcAt A s (.ref a) u2 false/\SeqAt.RcNeAt A s (.ref a) u2 true/\SeqAt.RcAt A s u2 (.ref a) false/\SeqAt.RcNeAt A s u2 (.ref a) true:=by
 cases d2 with
 |non=>simp only[Rp]at h2;subst h2;cases q2;exact⟨SeqAt.EqAt.tuple_none pl hu,SeqAt.EqAt.none_tuple pl hu,SeqAt.RcAt.tuple_none pl hu,SeqAt.RcNeAt.tuple_none pl hu,SeqAt.RcAt.none_tuple pl hu,SeqAt.RcNeAt.none_tuple pl hu⟩
 |bl y=>simp only[Rp]at h2;subst h2;cases q2;exact⟨SeqAt.EqAt.tuple_bool y pl hu,SeqAt.EqAt.bool_tuple y pl hu,SeqAt.RcAt.tuple_bool y pl hu,SeqAt.RcNeAt.tuple_bool y pl hu,SeqAt.RcAt.bool_tuple y pl hu,SeqAt.RcNeAt.bool_tuple y pl hu⟩
 |int y=>simp only[Rp]at h2;subst h2;obtain⟨t2,rfl⟩:=q2;exact⟨SeqAt.EqAt.tuple_int y t2 pl hu,SeqAt.EqAt.int_tuple y t2 pl hu,SeqAt.RcAt.tuple_int y t2 pl hu,SeqAt.RcNeAt.tuple_int y t2 pl hu,SeqAt.RcAt.int_tuple y t2 pl hu,SeqAt.RcNeAt.int_tuple y t2 pl hu⟩
 |str y=>simp only[Rp]at h2;subst h2;obtain⟨t2,rfl⟩:=q2;exact⟨SeqAt.EqAt.tuple_str y t2 pl hu,SeqAt.EqAt.str_tuple y t2 pl hu,SeqAt.RcAt.tuple_str y t2 pl hu,SeqAt.RcNeAt.tuple_str y t2 pl hu,SeqAt.RcAt.str_tuple y t2 pl hu,SeqAt.RcNeAt.str_tuple y t2 pl hu⟩
 |_=>simp[fv]at n2
theorem uU{d2:D}{a:Addr}(pl:s.heap.IsList a its)(hu:A.units < cLine)(n2:fv d2=some w2)(h2:Rp K μ H d2 v2)(q2:RelV v2 u2) :
  SeqAt.EqAt A s (.ref a) u2 false/\SeqAt.EqAt A s u2 (.ref a) false/\SeqAt.RcAt A s (.ref a) u2 false/\SeqAt.RcNeAt A s (.ref a) u2 true/\SeqAt.RcAt A s u2 (.ref a) false/\SeqAt.RcNeAt A s u2 (.ref a) true:=by
 cases d2 with
 |non=>simp only[Rp]at h2;subst h2;cases q2;exact⟨SeqAt.EqAt.list_none pl hu,SeqAt.EqAt.none_list pl hu,SeqAt.RcAt.list_none pl hu,SeqAt.RcNeAt.list_none pl hu,SeqAt.RcAt.none_list pl hu,SeqAt.RcNeAt.none_list pl hu⟩
 |bl y=>simp only[Rp]at h2;subst h2;cases q2;exact⟨SeqAt.EqAt.list_bool y pl hu,SeqAt.EqAt.bool_list y pl hu,SeqAt.RcAt.list_bool y pl hu,SeqAt.RcNeAt.list_bool y pl hu,SeqAt.RcAt.bool_list y pl hu,SeqAt.RcNeAt.bool_list y pl hu⟩
 |int y=>simp only[Rp]at h2;subst h2;obtain⟨t2,rfl⟩:=q2;exact⟨SeqAt.EqAt.list_int y t2 pl hu,SeqAt.EqAt.int_list y t2 pl hu,SeqAt.RcAt.list_int y t2 pl hu,SeqAt.RcNeAt.list_int y t2 pl hu,SeqAt.RcAt.int_list y t2 pl hu,SeqAt.RcNeAt.int_list y t2 pl hu⟩
 |str y=>simp only[Rp]at h2;subst h2;obtain⟨t2,rfl⟩:=q2;exact⟨SeqAt.EqAt.list_str y t2 pl hu,SeqAt.EqAt.str_list y t2 pl hu,SeqAt.RcAt.list_str y t2 pl hu,SeqAt.RcNeAt.list_str y t2 pl hu,SeqAt.RcAt.str_list y t2 pl hu,SeqAt.RcNeAt.str_list y t2 pl hu⟩
 |_=>simp[fv]at n2
variable{k:Bool}
theorem qM{d d2:D}{a:Addr}{xs:List D}(I:Inv X pins σ H s)(hk:X.K=K)(hu:A.units < cLine)(h1:At K μ H d a xs k)(n2:fv d2=some w2)(h2:Rp K μ H d2 v2)(q2:RelV v2 u2) :
  SeqAt.EqAt A s (.ref a) u2 false/\SeqAt.EqAt A s u2 (.ref a) false/\SeqAt.RcAt A s (.ref a) u2 false/\SeqAt.RcNeAt A s (.ref a) u2 true/\SeqAt.RcAt A s u2 (.ref a) false/\SeqAt.RcNeAt A s u2 (.ref a) true:=by
 cases h1 with
 |tup h r=>obtain⟨its,r',pl,_⟩:=I.tuple (hk▸h);exact aCi pl hu n2 h2 q2
 |lst h r=>obtain⟨its,r',pl,_⟩:=I.list (hk▸h);exact uU pl.isList hu n2 h2 q2
 |fz h r=>obtain⟨its,r',pl,_⟩:=I.list (hk▸h);exact uU pl.isList hu n2 h2 q2
theorem iG{d d2:D}(n1:fv d=none)(n2:fv d2=some w):eqD d d2=false/\eqD d2 d=false:=by
 cases d <;> simp only[fv,reduceCtorEq]at n1 <;> (cases d2 <;> simp only[fv,reduceCtorEq]at n2 <;> exact⟨rfl,rfl⟩)
theorem aMm{d d2:D}{a b:Addr}{xs ys:List D}{k2:Bool}(I:Inv X pins σ H s)(hk:X.K=K)(hu:A.units < cLine)(h1:At K μ H d a xs k)(h2:At K μ H d2 b ys k2)(n2:dep d2<=100)(ih:Eqs K μ H s A.in1 xs) :
  SeqAt.RcAt A s (.ref a) (.ref b) (eqD d d2)/\SeqAt.RcNeAt A s (.ref a) (.ref b) (!eqD d d2):=by
 cases h1 with
 |tup h r=>cases h2 with
  |tup h' r'=>exact⟨aPo I (hk▸h) (hk▸h') r r' hu (by simp only[dep]at n2;lia) ih,aJb I (hk▸h) (hk▸h') r r' hu (by simp only[dep]at n2;lia) ih⟩
  |lst h' r' =>
   obtain⟨_,_,pl,_⟩:=I.tuple (hk▸h);obtain⟨_,_,pl',_⟩:=I.list (hk▸h')
   exact⟨.tuple_list pl pl'.isList hu,.tuple_list pl pl'.isList hu⟩
  |fz h' r' =>
   obtain⟨_,_,pl,_⟩:=I.tuple (hk▸h);obtain⟨_,_,pl',_⟩:=I.list (hk▸h')
   exact⟨.tuple_list pl pl'.isList hu,.tuple_list pl pl'.isList hu⟩
 |lst h r=>cases h2 with
  |tup h' r' =>
   obtain⟨_,_,pl,_⟩:=I.list (hk▸h);obtain⟨_,_,pl',_⟩:=I.tuple (hk▸h')
   exact⟨.list_tuple pl.isList pl' hu,.list_tuple pl.isList pl' hu⟩
  |lst h' r'=>exact⟨vX I (hk▸h) (hk▸h') r r' hu (by simp only[dep]at n2;lia) ih,mR I (hk▸h) (hk▸h') r r' hu (by simp only[dep]at n2;lia) ih⟩
  |fz h' r'=>exact⟨vX I (hk▸h) (hk▸h') r r' hu (by simp only[dep]at n2;lia) ih,mR I (hk▸h) (hk▸h') r r' hu (by simp only[dep]at n2;lia) ih⟩
 |fz h r=>cases h2 with
  |tup h' r' =>
   obtain⟨_,_,pl,_⟩:=I.list (hk▸h);obtain⟨_,_,pl',_⟩:=I.tuple (hk▸h')
   exact⟨.list_tuple pl.isList pl' hu,.list_tuple pl.isList pl' hu⟩
  |lst h' r'=>exact⟨vX I (hk▸h) (hk▸h') r r' hu (by simp only[dep]at n2;lia) ih,mR I (hk▸h) (hk▸h') r r' hu (by simp only[dep]at n2;lia) ih⟩
  |fz h' r'=>exact⟨vX I (hk▸h) (hk▸h') r r' hu (by simp only[dep]at n2;lia) ih,mR I (hk▸h) (hk▸h') r r' hu (by simp only[dep]at n2;lia) ih⟩
theorem gQ{d d2:D}(I:Inv X pins σ H s)(hk:X.K=K)(hu:A.units < cLine)(h1:Rp K μ H d v1)(h2:Rp K μ H d2 v2)(q1:RelV v1 u1)(q2:RelV v2 u2)(m1:dep d<=100)(m2:dep d2<=100)
  (ih:∀a xs k,At K μ H d a xs k->Eqs K μ H s A.in1 xs):SeqAt.EqAt A s u1 u2 (eqD d d2):=by
 cases n1:fv d with
 |some w =>
  cases n2:fv d2 with
  |some w2 =>
   obtain⟨rfl,f1⟩:=uE n1 h1
   obtain⟨rfl,f2⟩:=uE n2 h2
   rw[<- aGj n1 n2]
   exact aIb q1 q2 f1 f2
  |none =>
   obtain⟨a,ds,k,rfl,at2⟩:=nH n2 m2 h2
   cases q2
   rw[(iG n2 n1).2]
   exact(qM I hk hu at2 n1 h1 q1).2.1
 |none =>
  cases n2:fv d2 with
  |some w2 =>
   obtain⟨a,ds,k,rfl,at1⟩:=nH n1 m1 h1
   cases q1
   rw[(iG n1 n2).1]
   exact(qM I hk hu at1 n2 h2 q2).1
  |none =>
   obtain⟨a,xs,k,rfl,at1⟩:=nH n1 m1 h1
   obtain⟨b,ys,k2,rfl,at2⟩:=nH n2 m2 h2
   cases q1
   cases q2
   by_cases hab:a=b
   ·subst hab
    rw[aIa I hk d d2 _ m1 m2 h1 h2]
    exact .same _
   ·exact .of_refs hab (aMm I hk hu at1 at2 m2 (ih a xs k at1)).1
mutual
theorem aOy(I:Inv X pins σ H s)(hk:X.K=K):∀(d:D) (A:Around) (d2:D) (v1 v2:V) (u1 u2:Value),A.units+dep d < cLine->dep d<=100->dep d2<=100->Rp K μ H d v1->Rp K μ H d2 v2->RelV v1 u1->RelV v2 u2->SeqAt.EqAt A s u1 u2 (eqD d d2)
 |.non,A,d2,v1,v2,u1,u2,hu,m1,m2,h1,h2,q1,q2=>gQ I hk (by lia) h1 h2 q1 q2 m1 m2 λa xs k z=>nomatch z
 |.bl x,A,d2,v1,v2,u1,u2,hu,m1,m2,h1,h2,q1,q2=>gQ I hk (by lia) h1 h2 q1 q2 m1 m2 λa xs k z=>nomatch z
 |.int x,A,d2,v1,v2,u1,u2,hu,m1,m2,h1,h2,q1,q2=>gQ I hk (by lia) h1 h2 q1 q2 m1 m2 λa xs k z=>nomatch z
 |.str x,A,d2,v1,v2,u1,u2,hu,m1,m2,h1,h2,q1,q2=>gQ I hk (by lia) h1 h2 q1 q2 m1 m2 λa xs k z=>nomatch z
 |.tup xs,A,d2,v1,v2,u1,u2,hu,m1,m2,h1,h2,q1,q2=>gQ I hk (by lia) h1 h2 q1 q2 m1 m2 λa ys k z=>by
  have e:xs=ys:=by cases z;rfl
  subst e
  exact mP I hk xs A.in1 (by simp only[dep]at hu;show A.units+1+deps xs < cLine;lia) (by simp only[dep]at m1;lia)
 |.lst xs,A,d2,v1,v2,u1,u2,hu,m1,m2,h1,h2,q1,q2=>gQ I hk (by lia) h1 h2 q1 q2 m1 m2 λa ys k z=>by
  have e:xs=ys:=by cases z;rfl
  subst e
  exact mP I hk xs A.in1 (by simp only[dep]at hu;show A.units+1+deps xs < cLine;lia) (by simp only[dep]at m1;lia)
 |.fz xs,A,d2,v1,v2,u1,u2,hu,m1,m2,h1,h2,q1,q2=>gQ I hk (by lia) h1 h2 q1 q2 m1 m2 λa ys k z=>by
  have e:xs=ys:=by cases z;rfl
  subst e
  exact mP I hk xs A.in1 (by simp only[dep]at hu;show A.units+1+deps xs < cLine;lia) (by simp only[dep]at m1;lia)
 |.exn c f xs,A,d2,v1,v2,u1,u2,hu,m1,m2,h1,h2,q1,q2=>by simp[dep]at m1
theorem mP(I:Inv X pins σ H s)(hk:X.K=K):∀(xs:List D) (A:Around),A.units+deps xs < cLine->deps xs<=100->Eqs K μ H s A xs
 |[],A,hu,m=>λj d h=>by simp at h
 |x::xs,A,hu,m=>λj d h=>match j,h with
  |0,h=>λd2 v1 v2 u1 u2 m2 r1 r2 q1 q2=>by
   have e:d=x:=by simpa using h.symm
   rw[e]at r1 ⊢
   exact aOy I hk x A d2 v1 v2 u1 u2 (by simp only[deps]at hu;lia) (by simp only[deps]at m;lia) m2 r1 r2 q1 q2
  |j+1,h=>λd2 v1 v2 u1 u2 m2 r1 r2 q1 q2=>mP I hk xs A (by simp only[deps]at hu;lia) (by simp only[deps]at m;lia) j d (by simpa using h) d2 v1 v2 u1 u2 m2 r1 r2 q1 q2
end
noncomputable section
def wd(M:Mm):W->Option D
 |.d x=>some x
 |.ref i=>(M[i]?).map D.lst
 |_=>none
def Rq(K:Frag)(μ:List Addr)(H:Hp)(d:D)(v:V):Prop:=Rp K μ H d v\/∃a ds vs,d=.lst ds/\v=.ref a/\H a=some (.lst vs)/\Rps K μ H ds vs
theorem aEa{w:W}{d:D}(hr:HR K μ H M)(r:Rw K μ H w v)(h:wd M w=some d):Rq K μ H d v:=by
 cases w with
 |d x=>simp only[wd,aAQ]at h;subst h;exact .inl r
 |ref i =>
  simp only[wd,aBE]at h
  obtain⟨ds,h1,rfl⟩:=h
  obtain⟨a,q,rfl,il⟩:=r
  obtain⟨a',vs,q1,q2,q3⟩:=hr.at h1 q
  rw[q]at q1;cases q1
  exact .inr ⟨a,ds,vs,rfl,rfl,q2,q3⟩
 |ob _ _=>simp[wd]at h
 |nest _=>simp[wd]at h
theorem xM{d:D}(n:fv d=none)(m:dep d<=100)(h:Rq K μ H d v):∃a ds k,v=.ref a/\At K μ H d a ds k:=by
 rcases h with h|⟨a,ds,vs,rfl,rfl,q1,q2⟩
 ·exact nH n m h
 ·exact⟨a,ds,false,rfl,.lst (SqL.of q1) q2⟩
theorem aHi{d:D}(n:fv d=some w)(h:Rq K μ H d v):Rp K μ H d v:=by
 rcases h with h|⟨a,ds,vs,rfl,rfl,q1,q2⟩
 ·exact h
 ·cases n
theorem aNk{d:D}{a:Addr}{xs:List D}(h:At K μ H d a xs k):dep d=deps xs+1:=by cases h <;> rfl
def pEq(x y:W)(M:Mm):Oc W:=match wd M x,wd M y with
 |some d,some e=>if dep d<=100/\dep e<=100 then .ok (.d (.bl (eqD d e))) M else .bad
 |_,_=>.bad
def pNe(x y:W)(M:Mm):Oc W:=match wd M x,wd M y with
 |some d,some e=>if dep d<=100/\dep e<=100 then .ok (.d (.bl (!eqD d e))) M else .bad
 |_,_=>.bad
def rEqD(K:Frag)(neg:Bool):R2:=λv u H Q=>∃μ d e,Rq K μ H d v/\Rq K μ H e u/\(dep d<=100/\dep e<=100)/\Q (.bl (if neg=true then !eqD d e else eqD d e)) H
end
theorem aRd(I:Inv X pins σ H s)(hk:X.K=K){d d2:D}(hu:A.units+dep d+1 < cLine)(m1:dep d<=100)(m2:dep d2<=100)(h1:Rq K μ H d v1)(h2:Rq K μ H d2 v2)(q1:RelV v1 u1)(q2:RelV v2 u2) :
  (SeqAt.RcAt A s u1 u2 (eqD d d2)/\SeqAt.RcNeAt A s u1 u2 (!eqD d d2)):=by
 have hu0:A.units < cLine:=by lia
 cases n1:fv d with
 |some w =>
  have h1:=aHi n1 h1
  cases n2:fv d2 with
  |some w2=>exact aLw n1 n2 h1 (aHi n2 h2) q1 q2
  |none =>
   obtain⟨b,ys,k2,rfl,at2⟩:=xM n2 m2 h2
   cases q2
   rw[(iG n2 n1).2]
   obtain⟨_,_,_,_,x,y⟩:=qM I hk hu0 at2 n1 h1 q1
   exact⟨x,y⟩
 |none =>
  obtain⟨a,xs,k,rfl,at1⟩:=xM n1 m1 h1
  cases q1
  cases n2:fv d2 with
  |some w2 =>
   rw[(iG n1 n2).1]
   obtain⟨_,_,x,y,_⟩:=qM I hk hu0 at1 n2 (aHi n2 h2) q2
   exact⟨x,y⟩
  |none =>
   obtain⟨b,ys,k2,rfl,at2⟩:=xM n2 m2 h2
   cases q2
   have:=aNk at1
   exact aMm I hk hu0 at1 at2 m2 (mP I hk xs A.in1 (by show A.units+1+deps xs < cLine;lia) (by lia))
theorem aOt(hu:X.A.units+101 < cLine):OpR X (compareOp .Eq) (rEqD X.K false):=by
 intro pins s σ H x y v u Q I rx ry h
 obtain⟨μ,d,e,h1,h2,h3,q⟩:=h
 exact(aRd I rfl (A:=X.A) (by lia) h3.1 h3.2 h1 h2 rx ry).1 _ _ _ _ ⟨.bl _,H,I,rfl,q⟩
theorem aQa(hu:X.A.units+101 < cLine):OpR X (compareOp .NotEq) (rEqD X.K true):=by
 intro pins s σ H x y v u Q I rx ry h
 obtain⟨μ,d,e,h1,h2,h3,q⟩:=h
 exact(aRd I rfl (A:=X.A) (by lia) h3.1 h3.2 h1 h2 rx ry).2 _ _ _ _ ⟨.bl _,H,I,rfl,q⟩
theorem opEq(hu:X.A.units+101 < cLine):OpG X K Z (compareOp .Eq) pEq:=λhk=>⟨_,hk▸aOt hu,by
 intro μ H M x y v u Q hr rx ry p
 unfold pEq at p
 cases q1:wd M x with
 |none=>rw[q1]at p;exact p.elim
 |some d=>cases q2:wd M y with
  |none=>rw[q1,q2]at p;exact p.elim
  |some e =>
   rw[q1,q2]at p
   simp only at p
   split at p
   ·exact⟨μ,d,e,aEa hr rx q1,aEa hr ry q2,by assumption,p μ H .refl hr _ (by simp[Rw,Rp])⟩
   ·exact p.elim⟩
theorem opNe(hu:X.A.units+101 < cLine):OpG X K Z (compareOp .NotEq) pNe:=λhk=>⟨_,hk▸aQa hu,by
 intro μ H M x y v u Q hr rx ry p
 unfold pNe at p
 cases q1:wd M x with
 |none=>rw[q1]at p;exact p.elim
 |some d=>cases q2:wd M y with
  |none=>rw[q1,q2]at p;exact p.elim
  |some e =>
   rw[q1,q2]at p
   simp only at p
   split at p
   ·exact⟨μ,d,e,aEa hr rx q1,aEa hr ry q2,by assumption,p μ H .refl hr _ (by simp[Rw,Rp])⟩
   ·exact p.elim⟩
section
variable{K:Frag}{o:Expr}{fo:FE}
@[irreducible] noncomputable def lid:Nat:=2 ^ 4096
variable{i:Int}
theorem xV(h:i.natAbs < lid):Builtin.Int.intBits i<=4096:=by unfold lid at h;exact intBits_le_iff.mpr h
noncomputable section
def mulOk(i j:Int):Bool:=decide ((-18446744073709551616 < i/\i < 18446744073709551616)\/(-18446744073709551616 < j/\j < 18446744073709551616)\/(i.natAbs < lid/\j.natAbs < lid))
theorem aMj:OpR X (binaryOp .Mult) (rI (λi j=>CMul i j\/(i.natAbs < lid/\j.natAbs < lid)) λi j=>.int (i*j)):=L2.opI λ_ _ _ _ _ _ _ hc q=>mul_int q (by
 rcases hc with hc|⟨h1,h2⟩
 ·exact hc.ok
 ·exact mulOk_of_bits (xV h1) (xV h2) (by lia))
def pMul(x y:W)(M:Mm):Oc W:=match x,y with
 |.d (.int i),.d (.int j)=>if mulOk i j=true then .ok (.d (.int (i*j))) M else .bad
 |x,.d (.int k)=>match lv M x with
  |some xs=>if xs.length*k.toNat<=16777216/\k < 9223372036854775808 /\ -9223372036854775808<=k then .ok (.d (.lst (List.replicate k.toNat xs).flatten)) M else .bad
  |none=>.bad
 |_,_=>.bad
theorem nE{x:W}{k:Int}(hr:HR K μ H M)(rx:Rw K μ H x v)(p:Pst K Z μ H (match lv M x with
  |some xs=>if xs.length*k.toNat<=16777216/\k < 9223372036854775808 /\ -9223372036854775808<=k then .ok (.d (.lst (List.replicate k.toNat xs).flatten)) M else .bad
  |none=>.bad) (Wk K Q)):rRep v (.int k) H Q:=by
 cases q1:lv M x with
 |none=>rw[q1]at p;exact p.elim
 |some xs =>
  rw[q1]at p
  simp only at p
  split at p
  ·rename_i hz
   obtain⟨a,vs,rfl,h1,r1⟩:=yN hr rx q1
   exact⟨a,k,vs,rfl,rfl,h1,hz.2.2,hz.2.1,by rw[<- r1.length,aBC];exact hz.1,gW hr (r1.rep k.toNat) p⟩
  ·exact p.elim
theorem opMul:OpG X K Z (binaryOp .Mult) pMul:=λhk=>by
 refine⟨_,OpR.or aMj aQk,?_⟩
 intro μ H M x y v u Q hr rx ry p
 cases y with
 |ref j=>cases x with
  |d x=>cases x <;> exact p.elim
  |_=>exact p.elim
 |ob _ _=>cases x with
  |d x=>cases x <;> exact p.elim
  |_=>exact p.elim
 |nest _=>cases x with
  |d x=>cases x <;> exact p.elim
  |_=>exact p.elim
 |d y=>cases y with
  |int k =>
   have ry':u=.int k:=by simpa only[Rw,Rp]using ry
   subst ry'
   cases x with
   |ref i=>exact .inr (nE hr rx p)
   |ob _ _=>exact .inr (nE hr rx p)
   |nest _=>exact .inr (nE hr rx p)
   |d x=>cases x with
    |int i =>
     simp only[pMul]at p
     simp only[Rw,Rp]at rx
     split at p
     ·rename_i hz
      refine .inl ⟨i,k,rx,rfl,?_,p μ H .refl hr _ (by simp[Rw,Rp])⟩
      simp only[mulOk,aBH]at hz
      rcases hz with hz|hz|hz
      ·exact .inl (.inl hz)
      ·exact .inl (.inr hz)
      ·exact .inr hz
     ·exact p.elim
    |_=>exact .inr (nE hr rx p)
  |_=>cases x with
   |ref i=>exact p.elim
   |ob _ _=>exact p.elim
   |nest _=>exact p.elim
   |d x=>cases x <;> exact p.elim
def pNeg(x:W)(M:Mm):Oc W:=match x with
 |.d (.int i)=>.ok (.d (.int (-i))) M
 |_=>.bad
end
theorem aBw(ha:Ev X K Z a fa):Ev X K Z (.UnaryOp .USub a pos) (e1 pNeg fa):=by
 refine⟨ha.k,cqE (aRr aPc ha.h) ?_⟩
 rintro σ H Q ⟨μ,M,L,hr,lr,p⟩
 refine⟨μ,M,L,hr,lr,p.bind.imp λμ1 H1 M1 x e1 hr1 _ p1 v rx=>?_⟩
 cases x with
 |ref i=>exact p1.elim
 |ob _ _=>exact p1.elim
 |nest _=>exact p1.elim
 |d x=>cases x with
  |int i=>simp only[Rw,Rp]at rx;exact⟨i,rx,p1 μ1 H1 .refl hr1 _ (by simp[Rw,Rp])⟩
  |_=>exact p1.elim
variable{rest:List Expr}
noncomputable section
def eIf(t:FT)(f g:FE):FE:=λL M=>(t L M).bind λc M1=>if c=true then f L M1 else g L M1
theorem aMu{c:Expr}{t:FT}(hc:Et X K Z c t)(ha:Ev X K Z a fa)(hb:Ev X K Z b fb):Ev X K Z (.IfExp c a b pos) (eIf t fa fb):=by
 refine⟨ha.k,cqE (aGc hc.h ha.h hb.h) ?_⟩
 rintro σ H Q ⟨μ,M,L,hr,lr,p⟩
 refine⟨μ,M,L,hr,lr,p.bind.imp λμ1 H1 M1 x e1 hr1 _ p1=>?_⟩
 cases x with
 |true=>exact⟨μ1,M1,L,hr1,lr.ext hr.lsts e1,p1⟩
 |false=>exact⟨μ1,M1,L,hr1,lr.ext hr.lsts e1,p1⟩
def pIx(x y:W)(M:Mm):Oc W:=match y with
 |.d (.int i)=>match x with
  |.d (.str z)=>match atI z.cps.toList i with
   |some c=>if z.length<=16777216 then .ok (.d (.str ⟨#[c]⟩)) M else .bad
   |none=>.bad
  |x=>match sv M x with
   |some xs=>match atI xs i with
    |some d=>.ok (.d d) M
    |none=>.bad
   |none=>.bad
 |_=>.bad
theorem aPz{ds:List D}{d:D}(r:Rps K μ H ds vs)(h:atI ds i=some d):∃v,atI vs i=some v/\Rp K μ H d v:=by
 unfold atI at h ⊢
 rw[r.length]at h
 cases q:ixN vs.length i with
 |none=>rw[q]at h;cases h
 |some j=>rw[q]at h;exact r.get h
theorem qJ{x:W}(hr:HR K μ H M)(rx:Rw K μ H x v)(p:Pst K Z μ H (match sv M x with
   |some xs=>match atI xs i with
    |some d=>Oc.ok (.d d) M
    |none=>.bad
   |none=>.bad) (Wk K Q)):rIx K v (.int i) H Q:=by
 cases q1:sv M x with
 |none=>rw[q1]at p;exact p.elim
 |some xs =>
  rw[q1]at p
  cases q2:atI xs i with
  |none=>simp only[q2]at p;exact p.elim
  |some d =>
   simp only[q2]at p
   obtain⟨a,vs,rfl,h1,r1⟩:=rQ hr rx q1
   obtain⟨v,h2,r2⟩:=aPz r1 q2
   have q:=p μ H .refl hr v r2
   rcases h1 with h1|h1
   ·exact .inl ⟨a,vs,i,v,rfl,rfl,h1,h2,q⟩
   ·exact .inr (.inl ⟨a,vs,i,v,rfl,rfl,h1,h2,q⟩)
theorem aOf:Op2 K Z (rIx K) pIx:=by
 intro μ H M x y v u Q hr rx ry p
 cases y with
 |ref j=>exact p.elim
 |ob _ _=>exact p.elim
 |nest _=>exact p.elim
 |d y=>cases y with
  |int i =>
   have:u=.int i:=by simpa only[Rw,Rp]using ry
   subst this
   cases x with
   |ref j=>exact qJ hr rx p
   |ob _ _=>exact qJ hr rx p
   |nest _=>exact qJ hr rx p
   |d x=>cases x with
    |str z =>
     simp only[Rw,Rp]at rx
     simp only[pIx]at p
     cases q:atI z.cps.toList i with
     |none=>simp only[q]at p;exact p.elim
     |some c =>
      simp only[q]at p
      split at p
      ·exact .inr (.inr ⟨z,i,c,rx,rfl,by rw[aBC];assumption,q,p μ H .refl hr _ (by simp[Rw,Rp])⟩)
      ·exact p.elim
    |_=>exact qJ hr rx p
  |_=>exact p.elim
theorem aG(ha:Ev X K Z a fa)(hb:Ev X K Z b fb)(hs:PlainIx b:=by intro _ _;rfl):Ev X K Z (.Subscript a b pos) (e2 pIx fa fb):=by
 have h:=aRb (pos:=pos) (aQm (X:=X)) ha.h hb.h hs
 rw[ha.k]at h
 exact⟨ha.k,cqE h (lift2 aOf)⟩
def aNil:FA:=λ_ M=>.ok [] M
def aCons(f:FE)(g:FA):FA:=λL M=>(f L M).bind λw M1=>(g L M1).bind λws M2=>.ok (w::ws) M2
theorem aC(hk:X.K=K:=by rfl):Ea X K Z [] aNil:=⟨hk,cqA cH λσ H Q ⟨μ,M,L,hr,lr,p⟩=>p μ H .refl hr [] rfl⟩
theorem aA(ha:Ev X K Z e fa)(hr:Ea X K Z es fs)(hs:starEach (e::es) X.env=(false,eval e X.env)::starEach es X.env:=by rfl):Ea X K Z (e::es) (aCons fa fs):=by
 refine⟨ha.k,cqA (bM ha.h hr.h hs) ?_⟩
 rintro σ H Q ⟨μ,M,L,hr,lr,p⟩
 refine⟨μ,M,L,hr,lr,p.bind.imp λμ1 H1 M1 x e1 hr1 _ p1 v rx=>?_⟩
 refine⟨μ1,M1,L,hr1,lr.ext hr.lsts e1,p1.bind.imp λμ2 H2 M2 y e2 hr2 _ p2 us ry=>?_⟩
 exact p2 μ2 H2 .refl hr2 (v::us) ⟨v,us,rfl,rx.ext hr1.lsts e2,ry⟩
def allD:List W->Option (List D)
 |[]=>some []
 |.d x::ws=>(allD ws).map (x::·)
 |_::_=>none
theorem mU:∀{ws:List W} {vs:List V} {ds:List D},Rws K μ H ws vs->allD ws=some ds->Rps K μ H ds vs
 |[],_,_,h,q=>by cases h;simp only[allD,aAQ]at q;subst q;exact .nil
 |.d x::ws,_,_,⟨v,r,e1,e2,e3⟩,q=>by
  simp only[allD,aBE]at q
  obtain⟨ds,q1,rfl⟩:=q
  subst e1
  exact .cons e2 (mU e3 q1)
 |.ref i::ws,_,_,_,q=>by simp[allD]at q
 |.ob _ i::ws,_,_,_,q=>by simp[allD]at q
 |.nest i::ws,_,_,_,q=>by simp[allD]at q
def mkT(ws:List W)(M:Mm):Oc W:=match allD ws with
 |some ds=>if ds.length<=16777216 then okD (.tup ds) M else .bad
 |none=>.bad
def mkL(ws:List W)(M:Mm):Oc W:=match allD ws with
 |some ds=>if ds.length<=16777216 then okD (.lst ds) M else .bad
 |none=>.bad
def mkR(ws:List W)(M:Mm):Oc W:=match allD ws with
 |some ds=>if ds.length<=16777216 then .ok (.ref M.length) (M++[ds])else .bad
 |none=>.bad
def eA(g:List W->Mm->Oc W)(fs:FA):FE:=λL M=>(fs L M).bind g
theorem aH{x1}(h:Ea X K Z es fs):Ev X K Z (.Tuple es x1 pos) (eA mkT fs):=by
 refine⟨h.k,cqE (aIj h.h) ?_⟩
 rintro σ H Q ⟨μ,M,L,hr,lr,p⟩
 refine⟨μ,M,L,hr,lr,p.bind.imp λμ1 H1 M1 ws e1 hr1 _ p1 vs rx=>?_⟩
 unfold mkT at p1
 cases q:allD ws with
 |none=>rw[q]at p1;exact p1.elim
 |some ds =>
  rw[q]at p1
  simp only at p1
  split at p1
  ·have r:=mU rx q
   exact⟨by rw[<- r.length,aBC];assumption,jZ hr1 r p1⟩
  ·exact p1.elim
theorem cU(h:Ea X K Z es fs):Ev X K Z (.List es pos) (eA mkL fs):=by
 refine⟨h.k,cqE (aBo h.h) ?_⟩
 rintro σ H Q ⟨μ,M,L,hr,lr,p⟩
 refine⟨μ,M,L,hr,lr,p.bind.imp λμ1 H1 M1 ws e1 hr1 _ p1 vs rx=>?_⟩
 unfold mkL at p1
 cases q:allD ws with
 |none=>rw[q]at p1;exact p1.elim
 |some ds =>
  rw[q]at p1
  simp only at p1
  split at p1
  ·have r:=mU rx q
   exact⟨by rw[<- r.length,aBC];assumption,gW hr1 r p1⟩
  ·exact p1.elim
theorem qO(h:Ea X K Z es fs):Ev X K Z (.List es pos) (eA mkR fs):=by
 refine⟨h.k,cqE (aBo h.h) ?_⟩
 rintro σ H Q ⟨μ,M,L,hr,lr,p⟩
 refine⟨μ,M,L,hr,lr,p.bind.imp λμ1 H1 M1 ws e1 hr1 _ p1 vs rx=>?_⟩
 unfold mkR at p1
 cases q:allD ws with
 |none=>rw[q]at p1;exact p1.elim
 |some ds =>
  rw[q]at p1
  simp only at p1
  split at p1
  ·have r:=mU rx q
   exact⟨by rw[<- r.length,aBC];assumption,aCv hr1 r p1⟩
  ·exact p1.elim
def eInts(ns:List Int):FE:=λ_ M=>.ok (.d (.lst (ns.map D.int))) M
theorem aKs(h:IntsE es ns)(hn:ns.length<=16777216:=by decide)(hk:X.K=K:=by rfl):Ev X K Z (.List es pos) (eInts ns):=by
 refine⟨hk,cqE (aBo (aMi h)) ?_⟩
 rintro σ H Q ⟨μ,M,L,hr,lr,p⟩
 exact⟨by rw[aAK,aBC];exact hn,gW hr Rps.ints p⟩
def Cl(K:Frag)(Z:Zt)(r:List V->Hp->VK->Prop)(g:List W->Mm->Oc W):Prop :=
 ∀(μ:List Addr) (H:Hp) (M:Mm) (ws:List W) (vs:List V) (Q:VK),HR K μ H M->Rws K μ H ws vs->Pst K Z μ H (g ws M) (Wk K Q)->r vs H Q
def ClG(X:Cx)(K:Frag)(Z:Zt)(f:Value)(g:List W->Mm->Oc W):Prop:=X.K=K->∃r,CallR X f r/\Cl K Z r g
end
theorem liftC{g:List W->Mm->Oc W}(h:Cl K Z r g):∀σ H Q,lift K Z (eA g fs) σ H Q->tCB r (liftA K Z fs) σ H Q:=by
 rintro σ H Q ⟨μ,M,L,hr,lr,p⟩
 exact⟨μ,M,L,hr,lr,p.bind.imp λμ1 H1 M1 ws e1 hr1 _ p1 vs rx=>h μ1 H1 M1 ws vs Q hr1 rx p1⟩
variable{p:Pos}
theorem bC{id:String}{g:List W->Mm->Oc W}(hc:ClG X K Z (.builtin id) g)(hg:Gl X x)(hm:X.mg x=none)(hv:bootBuiltins x=some (.builtin id))(ha:Ea X K Z (e::es) fs)
  (hn:x≠"__name__":=by decide)(hdb:(x==("__debug__":Str))=false:=by decide)(he:starEach (e::es) X.env=(false,eval e X.env)::starEach es X.env:=by rfl)
  (hpl:(backTo pos (starEach es X.env)).any (·.1)=false:=by rfl):Ev X K Z (.Call (.Name x p) (e::es) [] pos) (eA g fs):=by
 obtain⟨r,h1,h2⟩:=hc ha.k
 exact⟨ha.k,cqE (nF h1 hg hm hv ha.h hn hdb he hpl) (liftC h2)⟩
theorem bV{T:String}{g:List W->Mm->Oc W}(hc:ClG X K Z (.type T) g)(hg:Gl X x)(hm:X.mg x=none)(hv:bootBuiltins x=some (.type T))(ha:Ea X K Z (e::es) fs)
  (hn:x≠"__name__":=by decide)(hdb:(x==("__debug__":Str))=false:=by decide)(he:starEach (e::es) X.env=(false,eval e X.env)::starEach es X.env:=by rfl)
  (hpl:(backTo pos (starEach es X.env)).any (·.1)=false:=by rfl):Ev X K Z (.Call (.Name x p) (e::es) [] pos) (eA g fs):=by
 obtain⟨r,h1,h2⟩:=hc ha.k
 exact⟨ha.k,cqE (jX h1 hg hm hv ha.h hn hdb he hpl) (liftC h2)⟩
noncomputable section
def cLen(ws:List W)(M:Mm):Oc W:=match ws with
 |[.d (.str z)]=>if z.length<=16777216 then .ok (.d (.int z.length)) M else .bad
 |[w]=>match sv M w with
  |some xs=>.ok (.d (.int xs.length)) M
  |none=>.bad
 |_=>.bad
theorem oE{w:W}(hr:HR K μ H M)(rx:Rw K μ H w v)(p:Pst K Z μ H (match sv M w with
  |some xs=>Oc.ok (.d (.int xs.length)) M
  |none=>.bad) (Wk K Q)):∃p ys,[v]=[V.ref p]/\(SqL K H p ys\/SqT K H p ys)/\Q (.int ys.length) H:=by
 cases q1:sv M w with
 |none=>rw[q1]at p;exact p.elim
 |some xs =>
  rw[q1]at p
  obtain⟨a,vs,rfl,h1,r1⟩:=rQ hr rx q1
  exact⟨a,vs,rfl,h1,p μ H .refl hr _ (by simp[Rw,Rp,r1.length])⟩
theorem callLen:ClG X K Z (.builtin "len") cLen:=λhk=>by
 refine⟨_,CallR.or (hk▸wD) xC,?_⟩
 intro μ H M ws vs Q hr rx p
 match ws,rx,p with
 |[],_,p=>exact p.elim
 |.ref i::[],⟨v,r,e1,e2,e3⟩,p=>cases e3;subst e1;exact .inl (oE hr e2 p)
 |.ob _ i::[],⟨v,r,e1,e2,e3⟩,p=>cases e3;subst e1;exact .inl (oE hr e2 p)
 |.nest i::[],⟨v,r,e1,e2,e3⟩,p=>cases e3;subst e1;exact .inl (oE hr e2 p)
 |.d x::[],⟨v,r,e1,e2,e3⟩,p =>
  cases e3;subst e1
  cases x with
  |str z =>
   simp only[cLen]at p
   simp only[Rw,Rp]at e2
   subst e2
   split at p
   ·exact .inr ⟨z,rfl,by rw[aBC];assumption,p μ H .refl hr _ (by simp[Rw,Rp])⟩
   ·exact p.elim
  |_=>exact .inl (oE hr e2 p)
 |.ref i::_::_,_,p=>exact p.elim
 |.ob _ i::_::_,_,p=>exact p.elim
 |.nest i::_::_,_,p=>exact p.elim
 |.d x::_::_,_,p=>cases x <;> exact p.elim
def cInt(ws:List W)(M:Mm):Oc W:=match ws with
 |[.d (.int i)]=>.ok (.d (.int i)) M
 |[.d (.bl k)]=>.ok (.d (.int (if k=true then 1 else 0))) M
 |_=>.bad
theorem callInt:ClG X K Z (.type "int") cInt:=λhk=>by
 refine⟨_,aFa,?_⟩
 intro μ H M ws vs Q hr rx p
 match ws,rx,p with
 |[],_,p=>exact p.elim
 |.ref i::_,_,p=>exact p.elim
 |.ob _ i::_,_,p=>exact p.elim
 |.nest i::_,_,p=>exact p.elim
 |.d x::[],⟨v,r,e1,e2,e3⟩,p =>
  cases e3;subst e1
  cases x with
  |int i=>simp only[Rw,Rp]at e2;subst e2;exact .inl ⟨i,rfl,p μ H .refl hr _ (by simp[Rw,Rp])⟩
  |bl k=>simp only[Rw,Rp]at e2;subst e2;exact .inr ⟨k,rfl,p μ H .refl hr _ (by simp[Rw,Rp])⟩
  |_=>exact p.elim
 |.d x::_::_,_,p=>cases x <;> exact p.elim
def cMax2(ws:List W)(M:Mm):Oc W:=match ws with
 |[.d (.int i),.d (.int j)]=>.ok (.d (.int (if j > i then j else i))) M
 |_=>.bad
def cMin2(ws:List W)(M:Mm):Oc W:=match ws with
 |[.d (.int i),.d (.int j)]=>.ok (.d (.int (if j < i then j else i))) M
 |_=>.bad
theorem callMax2(hc:X.calm=true):ClG X K Z (.builtin "max") cMax2:=λhk=>by
 refine⟨_,aFg hc,?_⟩
 intro μ H M ws vs Q hr rx p
 unfold cMax2 at p
 split at p
 ·obtain⟨v,r,e1,e2,v',r',e1',e2',e3⟩:=rx
  simp only[Rw,Rp]at e2 e2'
  cases e3;subst e1' e1 e2 e2'
  exact⟨_,_,rfl,p μ H .refl hr _ (by simp[Rw,Rp])⟩
 ·exact p.elim
theorem callMin2(hc:X.calm=true):ClG X K Z (.builtin "min") cMin2:=λhk=>by
 refine⟨_,aEt hc,?_⟩
 intro μ H M ws vs Q hr rx p
 unfold cMin2 at p
 split at p
 ·obtain⟨v,r,e1,e2,v',r',e1',e2',e3⟩:=rx
  simp only[Rw,Rp]at e2 e2'
  cases e3;subst e1' e1 e2 e2'
  exact⟨_,_,rfl,p μ H .refl hr _ (by simp[Rw,Rp])⟩
 ·exact p.elim
def cTup(ws:List W)(M:Mm):Oc W:=match ws with
 |[w]=>match sv M w with
  |some xs=>okD (.tup xs) M
  |none=>.bad
 |_=>.bad
end
theorem aLx{g:List D->Oc W}{ws:List W}{Q:List Addr->Hp->Mm->W->Prop}(hr:HR K μ H M)(rx:Rws K μ H ws vs)(p:Pst K Z μ H (match ws with
 |[w]=>match sv M w with
  |some xs=>g xs
  |none=>.bad
 |_=>.bad) Q):∃w a us xs,ws=[w]/\vs=[.ref a]/\sv M w=some xs/\Rw K μ H w (.ref a)/\(SqL K H a us\/SqT K H a us)/\Rps K μ H xs us/\Pst K Z μ H (g xs) Q:=by
 match ws,rx,p with
 |[],_,p=>exact p.elim
 |[w],⟨v,r,e1,e2,e3⟩,p =>
  cases e3;subst e1
  simp only at p
  cases q:sv M w with
  |none=>rw[q]at p;exact p.elim
  |some xs =>
   rw[q]at p
   obtain⟨a,us,rfl,h1,r1⟩:=rQ hr e2 q
   exact⟨w,a,us,xs,rfl,rfl,q,e2,h1,r1,p⟩
 |_::_::_,_,p=>exact p.elim
theorem callTup:ClG X K Z (.type "tuple") cTup:=λhk=>by
 refine⟨_,hk▸tI,?_⟩
 intro μ H M ws vs Q hr rx p
 obtain⟨w,a,us,xs,rfl,rfl,q,e2,h1,r1,p⟩:=aLx hr rx p
 by_cases hw:∃ys,w=.d (.tup ys)
 ·obtain⟨ys,rfl⟩:=hw
  simp only[sv,aAQ]at q
  subst q
  have e2':=e2
  simp only[Rw,Rp]at e2
  obtain⟨a',vs',ea,h1',r1'⟩:=e2
  cases ea
  exact⟨a,vs',rfl,.inr ⟨SqT.of h1',p μ H .refl hr _ e2'⟩⟩
 ·have hl:lr M w=some xs:=by
   cases w with
   |ref i=>exact q
   |ob _ _=>exact q
   |nest _=>exact q
   |d x=>cases x <;> first|exact q|exact(hw ⟨_,rfl⟩).elim
  obtain⟨a',vs',ea,h1',r1'⟩:=aDj hr e2 hl
  cases ea
  exact⟨a,vs',rfl,.inl ⟨h1',jZ hr r1' p⟩⟩
end
section
variable{K:Frag}{o:Expr}{fo:FE}{rest:List Stmt}{F G:FS}
noncomputable section
def sNil:FS:=λL M=>.ok (.nx L) M
def sSeq(F G:FS):FS:=λL M=>(F L M).bind λo M1=>match o with
 |.nx L1=>G L1 M1
 |.bk L1=>.ok (.bk L1) M1
 |.ct L1=>.ok (.ct L1) M1
 |.rt w=>.ok (.rt w) M1
theorem aQ(hk:X.K=K:=by rfl):Ess X K Z [] sNil:=⟨hk,cqSs aMg λE σ H ⟨μ,M,L,hr,lr,p⟩=>p μ H .refl hr σ lr⟩
theorem aE(h1:Es X K Z st F)(h2:Ess X K Z rest G):Ess X K Z (st::rest) (sSeq F G):=by
 refine⟨h1.k,cqSs (zX h1.h h2.h) ?_⟩
 rintro E σ H ⟨μ,M,L,hr,lr,p⟩
 refine⟨μ,M,L,hr,lr,p.bind.imp λμ1 H1 M1 o e1 hr1 _ p1=>?_⟩
 cases o with
 |nx L1=>exact λσ' lr'=>⟨μ1,M1,L1,hr1,lr',p1⟩
 |bk L1=>exact p1 μ1 H1 .refl hr1
 |ct L1=>exact p1 μ1 H1 .refl hr1
 |rt w=>exact p1 μ1 H1 .refl hr1
theorem aF(h1:Es X K Z st F):Ess X K Z [st] F:=⟨h1.k,aDh h1.h⟩
def sEx(f:FE):FS:=λL M=>(f L M).bind λ_ M1=>.ok (.nx L) M1
theorem mY(h:Ev X K Z e f)(hs:swapsWith e none pos.line X.env=pure false:=by rfl):Es X K Z (.Expr e pos) (sEx f):=by
 refine⟨h.k,cqS (aEc h.h hs) ?_⟩
 rintro E σ H ⟨μ,M,L,hr,lr,p⟩
 exact⟨μ,M,L,hr,lr,p.bind.imp λμ1 H1 M1 x e1 hr1 _ p1 v rx=>p1 μ1 H1 .refl hr1 σ (lr.ext hr.lsts e1)⟩
def sRt(f:FE):FS:=λL M=>(f L M).bind λw M1=>.ok (.rt w) M1
theorem aN(h:Ev X K Z e f):Es X K Z (.Return (some e) pos) (sRt f):=by
 refine⟨h.k,cqS (aNh h.h) ?_⟩
 rintro E σ H ⟨μ,M,L,hr,lr,p⟩
 exact⟨μ,M,L,hr,lr,p.bind.imp λμ1 H1 M1 x e1 hr1 _ p1 v rx=>p1 μ1 H1 .refl hr1 v rx⟩
def sIf(t:FT)(F G:FS):FS:=λL M=>(t L M).bind λb M1=>if b=true then F L M1 else G L M1
theorem aZ{c:Expr}{p q:List Stmt}{t:FT}(hc:Et X K Z c t)(ha:Ess X K Z p F)(hb:Ess X K Z q G):Es X K Z (.If c p q pos) (sIf t F G):=by
 refine⟨hc.k,cqS (aQy hc.h ha.h hb.h) ?_⟩
 rintro E σ H ⟨μ,M,L,hr,lr,p⟩
 refine⟨μ,M,L,hr,lr,p.bind.imp λμ1 H1 M1 x e1 hr1 _ p1=>?_⟩
 cases x with
 |true=>exact⟨μ1,M1,L,hr1,lr.ext hr.lsts e1,p1⟩
 |false=>exact⟨μ1,M1,L,hr1,lr.ext hr.lsts e1,p1⟩
def gN(i:Nat):FG:=λw L M=>.ok (L.set i (some w)) M
theorem LR.set{L:Lc}{σ:St}{i:Nat}{w:W}{v:V}(h:LR K μ H L σ)(r:Rw K μ H w v):LR K μ H (L.set i (some w)) (σ.set i (some v))where
 len:=by simp[h.len]
 ent:=λj u q=>by
  by_cases hj:i=j
  ·subst hj
   have hl:i < L.length:=by
    by_cases hl:i < L.length
    ·exact hl
    ·rw[List.set_eq_of_length_le (by lia)]at q
     rw[aDH (by lia)]at q;cases q
   rw[aCB hl]at q
   cases q
   exact⟨v,by rw[aCB (by rw[<- h.len];exact hl)],r⟩
  ·rw[aCF hj]at q
   obtain⟨x,q1,q2⟩:=h.ent j u q
   exact⟨x,by rw[aCF hj];exact q1,q2⟩
theorem aT(hN:X.N.Nodup)(hi:X.N[i]?=some x:=by rfl)(hx:Loc X.env.scope x:=by first|exact Or.inl rfl|exact Or.inr rfl)(hk:X.K=K:=by rfl)(hf:X.fn x=true\/X.env.scope.names.lookup x=some .local:=by first|exact .inl rfl|exact .inr rfl|assumption) :
  Eg X K Z (.Name x pos) (gN i):=⟨hk,cqG (aLf hN hi hx hf) λv σ H Q ⟨μ,M,L,w,hr,lr,rx,p⟩=>p μ H .refl hr _ (lr.set rx)⟩
def gsNil:FGs:=λds L M=>match ds with
 |[]=>.ok L M
 |_=>.bad
def gsCons(g:FG)(gs:FGs):FGs:=λds L M=>match ds with
 |d::r=>(g (.d d) L M).bind λL1 M1=>gs r L1 M1
 |[]=>.bad
end
theorem bZ(hk:X.K=K:=by rfl):Egs X K Z [] gsNil:=⟨hk,cqGs aKz λvs σ H Q ⟨μ,M,L,ds,hr,lr,rx,p⟩=>by
 cases ds with
 |nil=>simp only[Rps]at rx;exact⟨rx,p μ H .refl hr σ lr⟩
 |cons d r=>exact p.elim⟩
variable{gs:FGs}
theorem aW{g:FG}(h1:Eg X K Z e g)(h2:Egs X K Z es gs)(hs:(assignEach (e::es) X.env).map (·.2)=assign e X.env::(assignEach es X.env).map (·.2):=by rfl):Egs X K Z (e::es) (gsCons g gs) :=
 ⟨h1.k,cqGs (aIi h1.h h2.h hs) λvs σ H Q ⟨μ,M,L,ds,hr,lr,rx,p⟩=>by
  cases ds with
  |nil=>exact p.elim
  |cons d r =>
   simp only[Rps]at rx
   obtain⟨v,vr,e1,rd,rr⟩:=rx
   refine⟨v,vr,e1,μ,M,L,.d d,hr,lr,rd,p.bind.imp λμ1 H1 M1 L1 e1 hr1 _ p1 σ1 lr1=>?_⟩
   exact⟨μ1,M1,L1,r,hr1,lr1,Rps.ext hr.lsts e1 _ _ rr,p1⟩⟩
noncomputable section
def gT(n:Nat)(gs:FGs):FG:=λw L M=>match w with
 |.d (.tup xs)=>if xs.length=n then gs xs L M else .bad
 |_=>.bad
theorem dE{k n:Nat}(hc:X.calm=true)(h:Egs X K Z es gs)(hn:(assignEach es X.env).length=n:=by rfl)(hst:(assignEach es X.env).findIdx? (·.1)=none:=by rfl):Eg X K Z (.Tuple es k pos) (gT n gs):=by
 have h':=aOm (k:=k) (pos:=pos) hc h.h hn hst
 rw[h.k]at h'
 refine⟨h.k,cqG h' λv σ H Q ⟨μ,M,L,w,hr,lr,rx,p⟩=>?_⟩
 cases w with
 |ref i=>exact p.elim
 |ob _ _=>exact p.elim
 |nest _=>exact p.elim
 |d x=>cases x with
  |tup xs =>
   simp only[gT]at p
   split at p
   ·simp only[Rw,Rp]at rx
    obtain⟨a,vs,e1,q1,r1⟩:=rx
    exact⟨a,vs,e1,SqT.of q1,by rw[<- r1.length];assumption,μ,M,L,xs,hr,lr,r1,p⟩
   ·exact p.elim
  |_=>exact p.elim
def gS(fo fi:FE):FG:=λw L M=>(fo L M).bind λo M1=>(fi L M1).bind λi M2=>match o,i,w with
 |.ref k,.d (.int j),.d x=>match M2[k]? with
  |some xs=>match ixN xs.length j with
   |some t=>.ok L (M2.set k (xs.set t x))
   |none=>.bad
  |none=>.bad
 |_,_,_=>.bad
theorem aBl{i:Expr}{fi:FE}(ho:Ev X K Z o fo)(hi:Ev X K Z i fi)(ha:∀v,assign (.Subscript o i pos) X.env v=(do
   let ov <- holding [v] (eval o X.env)
   let iv <- holding [v,ov] (eval i X.env)
   standAt pos
   holding [v,ov,iv] (setItem ov iv v)
   release [v,ov,iv] []):=by intro _;rfl):Eg X K Z (.Subscript o i pos) (gS fo fi):=by
 refine⟨ho.k,cqG (aQi ho.h hi.h aGi ha) λv σ H Q ⟨μ,M,L,w,hr,lr,rx,p⟩=>?_⟩
 refine⟨μ,M,L,hr,lr,p.bind.imp λμ1 H1 M1 x e1 hr1 _ p1 vo ro=>?_⟩
 refine⟨μ1,M1,L,hr1,lr.ext hr.lsts e1,p1.bind.imp λμ2 H2 M2 y e2 hr2 _ p2 vi ri=>?_⟩
 cases x with
 |d x=>exact p2.elim
 |ob _ _=>exact p2.elim
 |nest _=>exact p2.elim
 |ref k=>cases y with
  |ref j=>exact p2.elim
  |ob _ _=>exact p2.elim
  |nest _=>exact p2.elim
  |d y=>cases y with
   |int j=>cases w with
    |ref q=>exact p2.elim
    |ob _ _=>exact p2.elim
    |nest _=>exact p2.elim
    |d z =>
     simp only at p2
     cases q1:M2[k]? with
     |none=>simp only[q1]at p2;exact p2.elim
     |some xs =>
      simp only[q1]at p2
      cases q2:ixN xs.length j with
      |none=>simp only[q2]at p2;exact p2.elim
      |some t =>
       simp only[q2]at p2
       have ro:=ro.ext hr1.lsts e2
       obtain⟨a,qa,rfl,il⟩:=ro
       obtain⟨a',vs,qa',h1,r1⟩:=hr2.at q1 qa
       rw[qa]at qa';cases qa'
       simp only[Rw,Rp]at ri
       subst ri
       have rz:=Rw.ext hr1.lsts e2 (Rw.ext hr.lsts e1 rx)
       refine⟨a,vs,j,t,rfl,rfl,h1,by rw[<- r1.length];exact q2,?_⟩
       exact p2 μ2 _ (cY qa) (hr2.set qa (Rps.set rz t r1)) σ ((lr.ext hr.lsts (e1.trans e2)).ext hr2.lsts (cY qa))
   |_=>exact p2.elim
def sAs(f:FE)(g:FG):FS:=λL M=>(f L M).bind λw M1=>(g w L M1).bind λL1 M2=>.ok (.nx L1) M2
theorem cS{tg:Expr}{g:FG}(he:Ev X K Z e f)(hg:Eg X K Z tg g)(hs:swapsWithSole [tg] e pos.line X.env=pure false:=by rfl)(hw:swappedStores [tg] e X.env=pure none:=by rfl)
  (h1:(assignEach [tg] X.env).map (·.2)=[assign tg X.env]:=by rfl):Es X K Z (.Assign [tg] e pos) (sAs f g):=by
 refine⟨he.k,cqS (aMv he.h hg.h hs hw h1) ?_⟩
 rintro E σ H ⟨μ,M,L,hr,lr,p⟩
 refine⟨μ,M,L,hr,lr,p.bind.imp λμ1 H1 M1 x e1 hr1 _ p1 v rx=>?_⟩
 exact⟨μ1,M1,L,x,hr1,lr.ext hr.lsts e1,rx,p1.bind.imp λμ2 H2 M2 L2 e2 hr2 _ p2 σ2 lr2=>p2 μ2 H2 .refl hr2 σ2 lr2⟩
theorem aR(hN:X.N.Nodup)(he:Ev X K Z e f)(hi:X.N[i]?=some x:=by rfl)(hx:Loc X.env.scope x:=by first|exact Or.inl rfl|exact Or.inr rfl)(hs:swapsWith e (some (.Name x pos')) pos.line X.env=pure false:=by rfl)
  (hf:X.fn x=true\/X.env.scope.names.lookup x=some .local:=by first|exact .inl rfl|exact .inr rfl|assumption):Es X K Z (.Assign [.Name x pos'] e pos) (sAs f (gN i)):=by
 refine⟨he.k,cqS (aOg hN hi hx he.h hs hf) ?_⟩
 rintro E σ H ⟨μ,M,L,hr,lr,p⟩
 refine⟨μ,M,L,hr,lr,p.bind.imp λμ1 H1 M1 x e1 hr1 _ p1 v rx=>?_⟩
 exact p1 μ1 H1 .refl hr1 _ (LR.set (lr.ext hr.lsts e1) rx)
def sPar(i j:Nat)(fs:FA):FS:=λL M=>(fs L M).bind λws M1=>match ws with
 |[v,w]=>.ok (.nx ((L.set i (some v)).set j (some w))) M1
 |_=>.bad
end
end
section
variable{K:Frag}{o:Expr}{fo:FE}{rest:List Stmt}{F G:FS}
theorem cV{px pt:Pos}{kt k2 pt2}(hc:cP)(hN:X.N.Nodup)(ha:Ea X K Z [a,b] fs)(hi:X.N[i]?=some x:=by rfl)(hj:X.N[j]?=some y:=by rfl)(hij:i≠j:=by decide)
  (hx:X.env.scope.names.lookup x=some .local:=by rfl)(hy:X.env.scope.names.lookup y=some .local:=by rfl)
  (hw:swappedStores [.Tuple [.Name x px,.Name y py] kt pt] (.Tuple [a,b] k2 pt2) X.env=pure (some [x,y]):=by rfl)
  (hs:swapsWithSole [.Tuple [.Name x px,.Name y py] kt pt] (.Tuple [a,b] k2 pt2) pos.line X.env=pure false:=by rfl) :
  Es X K Z (.Assign [.Tuple [.Name x px,.Name y py] kt pt] (.Tuple [a,b] k2 pt2) pos) (sPar i j fs):=by
 refine⟨ha.k,cqS (aQc hc hN hi hj hij hx hy ha.h hw hs) ?_⟩
 rintro E σ H ⟨μ,M,L,hr,lr,p⟩
 refine⟨μ,M,L,hr,lr,p.bind.imp λμ1 H1 M1 ws e1 hr1 _ p1 vs rx=>?_⟩
 match ws,rx,p1 with
 |[],_,p1=>exact p1.elim
 |[_],_,p1=>exact p1.elim
 |[v,w],⟨v1,r,q1,q2,v2,r',q1',q2',q3⟩,p1 =>
  cases q3;subst q1' q1
  exact⟨v1,v2,rfl,p1 μ1 H1 .refl hr1 _ (LR.set (LR.set (lr.ext hr.lsts e1) q2) q2')⟩
 |_::_::_::_,_,p1=>exact p1.elim
noncomputable section
def sAug(g:W->W->Mm->Oc W)(i:Nat)(f:FE):FS:=λL M=>(eV i L M).bind λx _=>(f L M).bind λy M1=>(g x y M1).bind λz M2=>.ok (.nx (L.set i (some z))) M2
theorem aKh{i:Nat}{g:Int->Int->Int}(hN:X.N.Nodup)(ho:PIp X op (ipI g))(he:Ev X K Z e f)(hi:X.N[i]?=some x:=by rfl)(hx:Loc X.env.scope x:=by first|exact Or.inl rfl|exact Or.inr rfl)
  (hf:X.fn x=true\/X.env.scope.names.lookup x=some .local:=by first|exact .inl rfl|exact .inr rfl|assumption):Es X K Z (.AugAssign (.Name x pos') op e pos) (sAug (pI (λ_ _=>true) λi j=>.int (g i j)) i f):=by
 refine⟨he.k,cqS (aNr hN hi hx he.h ho hf) ?_⟩
 rintro E σ H ⟨μ,M,L,hr,lr,p⟩
 unfold sAug eV at p
 cases q:L[i]? with
 |none=>rw[q]at p;exact p.elim
 |some o =>
  cases o with
  |none=>rw[q]at p;exact p.elim
  |some w =>
   rw[q]at p
   obtain⟨v,q1,q2⟩:=lr.ent i w q
   refine⟨v,q1,μ,M,L,hr,lr,(show Pst K Z μ H ((f L M).bind _) _ from p).bind.imp λμ1 H1 M1 y e1 hr1 _ p1 u ru=>?_⟩
   cases w with
   |ref i=>exact p1.elim
   |ob _ _=>exact p1.elim
   |nest _=>exact p1.elim
   |d w=>cases y with
    |ref j=>cases w <;> exact p1.elim
    |ob _ _=>cases w <;> exact p1.elim
    |nest _=>cases w <;> exact p1.elim
    |d y=>cases w <;> cases y <;> first
     |exact p1.elim
     |(simp only[Rw,Rp]at q2 ru
       exact⟨_,_,q2,ru,p1 μ1 H1 .refl hr1 _ (LR.set (lr.ext hr.lsts e1) (by simp[Rw,Rp]))⟩)
def pAppend(x y:W)(M:Mm):Oc W:=match x,y with
 |.ref k,.d d=>match M[k]? with
  |some xs=>if xs.length < 16777216 then .ok (.d .non) (M.set k (xs++[d]))else .bad
  |none=>.bad
 |_,_=>.bad
theorem vZ{k:Nat}(hr:HR K μ H M)(r:Rw K μ H (.ref k) v):tyV K "list" v H:=by
 obtain⟨a,q,rfl,il⟩:=r
 obtain⟨vs,h⟩:=il
 exact .inl ⟨rfl,vs,SqL.of h⟩
def eM1(g:W->W->Mm->Oc W)(fo fe:FE):FE:=λL M=>(fo L M).bind λx M1=>match x with
 |.ref k=>(fe L M1).bind λy M2=>g (.ref k) y M2
 |_=>.bad
theorem oM(ho:Ev X K Z o fo)(he:Ev X K Z e fa)(hbase:attributeBase o "append" X.env (eval o X.env)=eval o X.env:=by rfl)
  (hfew:((backTo cpos (starEach [e] X.env)).all (λx=>!x.1)&&(backToKw cpos (keywordEach [] X.env)).all (λx=>x.1.isSome)&&decide ([e].length+([]:List Keyword).length+(if([]:List Keyword).isEmpty then 0 else 1) < 30))=true:=by rfl)
  (hline:(apos.endLine==cpos.line)=true:=by rfl)(hs:starEach [e] X.env=(false,eval e X.env)::starEach [] X.env:=by rfl)(hplain:(backTo cpos (starEach [] X.env)).any (·.1)=false:=by rfl) :
  Ev X K Z (.Call (.Attribute o "append" apos) [e] [] cpos) (eM1 pAppend fo fa):=by
 have h:=aHv aEU PySem.F.slot_list_append PySem.F.type_list_append tY ho.h (bM he.h cH hs) hbase hfew hline hs hplain
 rw[ho.k]at h
 refine⟨ho.k,cqE h ?_⟩
 rintro σ H Q ⟨μ,M,L,hr,lr,p⟩
 refine⟨μ,M,L,hr,lr,p.bind.imp λμ1 H1 M1 x e1 hr1 _ p1 v rx=>?_⟩
 cases x with
 |d x=>exact p1.elim
 |ob _ _=>exact p1.elim
 |nest _=>exact p1.elim
 |ref k =>
  refine⟨vZ hr1 rx,μ1,M1,L,hr1,lr.ext hr.lsts e1,p1.bind.imp λμ2 H2 M2 y e2 hr2 _ p2 u ry=>?_⟩
  cases y with
  |ref j=>exact p2.elim
  |ob _ _=>exact p2.elim
  |nest _=>exact p2.elim
  |d d =>
   simp only[pAppend]at p2
   cases q1:M2[k]? with
   |none=>simp only[q1]at p2;exact p2.elim
   |some xs =>
    simp only[q1]at p2
    split at p2
    ·rename_i hz
     obtain⟨a,qa,rfl,il⟩:=rx.ext hr1.lsts e2
     obtain⟨a',vs,qa',h1,r1⟩:=hr2.at q1 qa
     rw[qa]at qa';cases qa'
     refine⟨a,vs,u,rfl,rfl,h1,by rw[<- r1.length,aBC];exact hz,?_⟩
     exact p2 μ2 _ (cY qa) (hr2.set qa (r1.append (.cons ry .nil))) _ (by simp[Rw,Rp])
    ·exact p2.elim
def pExtend(x y:W)(M:Mm):Oc W:=match x with
 |.ref k=>match M[k]?,lv M y with
  |some xs,some ys=>if xs.length+ys.length<=16777216 then .ok (.d .non) (M.set k (xs++ys))else .bad
  |_,_=>.bad
 |_=>.bad
def pPop(x:W)(M:Mm):Oc W:=match x with
 |.ref k=>match M[k]? with
  |some xs=>match xs.getLast? with
   |some d=>.ok (.d d) (M.set k xs.dropLast)
   |none=>.bad
  |none=>.bad
 |_=>.bad
theorem aNu(ho:Ev X K Z o fo)(hbase:attributeBase o "pop" X.env (eval o X.env)=eval o X.env:=by rfl)(hline:(apos.endLine==cpos.line)=true:=by rfl) :
  Ev X K Z (.Call (.Attribute o "pop" apos) [] [] cpos) (e1 pPop fo):=by
 have h:=aPx aEU PySem.F.slot_list_pop PySem.F.type_list_pop aOc ho.h hbase hline
 rw[ho.k]at h
 refine⟨ho.k,cqE h ?_⟩
 rintro σ H Q ⟨μ,M,L,hr,lr,p⟩
 refine⟨μ,M,L,hr,lr,p.bind.imp λμ1 H1 M1 x e1 hr1 _ p1 v rx=>?_⟩
 cases x with
 |d x=>exact p1.elim
 |ob _ _=>exact p1.elim
 |nest _=>exact p1.elim
 |ref k =>
  refine⟨vZ hr1 rx,?_⟩
  simp only[pPop]at p1
  cases q1:M1[k]? with
  |none=>simp only[q1]at p1;exact p1.elim
  |some xs =>
   simp only[q1]at p1
   cases q2:xs.getLast? with
   |none=>simp only[q2]at p1;exact p1.elim
   |some d =>
    simp only[q2]at p1
    obtain⟨a,qa,rfl,il⟩:=rx
    obtain⟨a',vs,qa',h1,r1⟩:=hr1.at q1 qa
    rw[qa]at qa';cases qa'
    rw[List.getLast?_eq_getElem?]at q2
    obtain⟨u,q3,q4⟩:=r1.get q2
    refine⟨a,vs,u,rfl,rfl,h1,by rw[<- r1.length];exact q3,?_⟩
    exact p1 μ1 _ (cY qa) (hr1.set qa r1.dropLast) u (Rp.ext hr1.lsts (cY qa) _ _ q4)
def pPopAt(x y:W)(M:Mm):Oc W:=match x,y with
 |.ref k,.d (.int i)=>match M[k]? with
  |some xs=>match seqIndex? i xs.length with
   |some j=>match xs[j]? with
    |some d=>if -9223372036854775808<=i/\i < 9223372036854775808 then .ok (.d d) (M.set k (xs.eraseIdx j))else .bad
    |none=>.bad
   |none=>.bad
  |none=>.bad
 |_,_=>.bad
theorem aHl(ho:Ev X K Z o fo)(he:Ev X K Z e fa)(hbase:attributeBase o "pop" X.env (eval o X.env)=eval o X.env:=by rfl)
  (hfew:((backTo cpos (starEach [e] X.env)).all (λx=>!x.1)&&(backToKw cpos (keywordEach [] X.env)).all (λx=>x.1.isSome)&&decide ([e].length+([]:List Keyword).length+(if([]:List Keyword).isEmpty then 0 else 1) < 30))=true:=by rfl)
  (hline:(apos.endLine==cpos.line)=true:=by rfl)(hs:starEach [e] X.env=(false,eval e X.env)::starEach [] X.env:=by rfl)(hplain:(backTo cpos (starEach [] X.env)).any (·.1)=false:=by rfl) :
  Ev X K Z (.Call (.Attribute o "pop" apos) [e] [] cpos) (eM1 pPopAt fo fa):=by
 have h:=aHv aEU PySem.F.slot_list_pop PySem.F.type_list_pop aHk ho.h (bM he.h cH hs) hbase hfew hline hs hplain
 rw[ho.k]at h
 refine⟨ho.k,cqE h ?_⟩
 rintro σ H Q ⟨μ,M,L,hr,lr,p⟩
 refine⟨μ,M,L,hr,lr,p.bind.imp λμ1 H1 M1 x e1 hr1 _ p1 v rx=>?_⟩
 cases x with
 |d x=>exact p1.elim
 |ob _ _=>exact p1.elim
 |nest _=>exact p1.elim
 |ref k =>
  refine⟨vZ hr1 rx,μ1,M1,L,hr1,lr.ext hr.lsts e1,p1.bind.imp λμ2 H2 M2 y e2 hr2 _ p2 u ry=>?_⟩
  cases y with
  |ref j=>exact p2.elim
  |ob _ _=>exact p2.elim
  |nest _=>exact p2.elim
  |d y=>cases y with
   |int i =>
    simp only[Rw,Rp]at ry
    subst ry
    simp only[pPopAt]at p2
    cases q1:M2[k]? with
    |none=>simp only[q1]at p2;exact p2.elim
    |some xs =>
     simp only[q1]at p2
     cases q2:seqIndex? i xs.length with
     |none=>simp only[q2]at p2;exact p2.elim
     |some j =>
      simp only[q2]at p2
      cases q3:xs[j]? with
      |none=>simp only[q3]at p2;exact p2.elim
      |some d =>
       simp only[q3]at p2
       split at p2
       ·rename_i hz
        obtain⟨a,qa,rfl,il⟩:=rx.ext hr1.lsts e2
        obtain⟨a',vs,qa',h1,r1⟩:=hr2.at q1 qa
        rw[qa]at qa';cases qa'
        obtain⟨w,q4,q5⟩:=r1.get q3
        refine⟨a,vs,i,j,w,rfl,rfl,h1,hz.1,hz.2,by rw[<- r1.length];exact q2,q4,?_⟩
        exact p2 μ2 _ (cY qa) (hr2.set qa (r1.eraseIdx j)) w (Rp.ext hr2.lsts (cY qa) _ _ q5)
       ·exact p2.elim
   |_=>exact p2.elim
abbrev FO:=Lc->Mm->Oc (Option Int)
def liftO(K:Frag)(Z:Zt)(f:FO):TO:=λσ H Q=>∃μ M L,HR K μ H M/\LR K μ H L σ/\Pst K Z μ H (f L M) λμ' H' _ w=>Q w H'
end
structure Eo(X:Cx)(K:Frag)(Z:Zt)(e:Option Expr)(f:FO):Prop where
 k:X.K=K
 h:PO X e (liftO K Z f)
noncomputable section
def oNo:FO:=λ_ M=>.ok none M
def oAt(f:FE):FO:=λL M=>(f L M).bind λw M1=>match w with
 |.d (.int i)=>.ok (some i) M1
 |_=>.bad
theorem cqO{oe:Option Expr}{t t':TO}(h:PO X oe t)(i:∀σ H Q,t' σ H Q->t σ H Q):PO X oe t':=λpins s σ H Q I q=>h pins s σ H Q I (i _ _ _ q)
theorem cZ(hk:X.K=K:=by rfl):Eo X K Z none oNo:=⟨hk,cqO aKe λσ H Q ⟨μ,M,L,hr,lr,p⟩=>p μ H .refl hr⟩
theorem bY(h:Ev X K Z e f):Eo X K Z (some e) (oAt f):=by
 refine⟨h.k,cqO (aMc h.h) ?_⟩
 rintro σ H Q ⟨μ,M,L,hr,lr,p⟩
 refine⟨μ,M,L,hr,lr,p.bind.imp λμ1 H1 M1 x e1 hr1 _ p1 v rx=>?_⟩
 cases x with
 |ref i=>exact p1.elim
 |ob _ _=>exact p1.elim
 |nest _=>exact p1.elim
 |d x=>cases x with
  |int i=>simp only[Rw,Rp]at rx;exact⟨i,rx,p1 μ1 H1 .refl hr1⟩
  |_=>exact p1.elim
def cut(xs:List α)(lo hi:Option Int):List α:=(xs.drop (HT.sIx xs.length 0 lo)).take (HT.sIx xs.length xs.length hi - HT.sIx xs.length 0 lo)
def pSl(x:W)(lo hi:Option Int)(M:Mm):Oc W:=match x with
 |.d (.tup xs)=>okD (.tup (cut xs lo hi)) M
 |x=>match lr M x with
  |some xs=>okD (.lst (cut xs lo hi)) M
  |none=>.bad
def eSl(f:FE)(fl fh:FO):FE:=λL M=>(f L M).bind λx M1=>(fl L M1).bind λlo M2=>(fh L M2).bind λhi M3=>pSl x lo hi M3
end
theorem aCo{ds:List D}(r:Rps K μ H ds vs):Rps K μ H (cut ds lo hi) (cutV vs lo hi):=by
 unfold cut cutV
 rw[r.length]
 exact(r.drop _).take _
end
theorem oZ:fillsNumberSlot (.type "tuple") "mul"=pure false :=
 PySem.fillsNumberSlot_seq (id:="tuple.__mul__") (r:=some (.builtin "tuple.__rmul__")) aFS.lookup (by decide +kernel) F.slot_tuple_rmul.lookup (by decide +kernel)
theorem wN:seqRepeat? (.type "tuple")=pure (some (.builtin "tuple.__mul__")):=by
 unfold seqRepeat?
 rw[PySem.seqSlot_of (T:="tuple") (name:="__mul__") (id:="tuple.__mul__") aFS.lookup (by decide +kernel),PySem.seqSlot_of (T:="tuple") (name:="__rmul__") (id:="tuple.__rmul__") F.slot_tuple_rmul.lookup (by decide +kernel)]
 rfl
theorem sN(a:Int)(t:Tok)(l:Addr)(items:Array Value)(n:Nat)(dd:Option Addr)(sl:Array (Option Value)) :
  Meets (Builtin.«int.__rmul__» ⟨[.int a t,.ref l],[]⟩) (λ_ R s=>s.heap.get? l=some {cls:=.type "tuple",dict:=dd,data:=.seq items n,slots:=sl}/\R (.ok (.ret Value.notImplemented)) s) :=
 .of_wp λprog w A R s h=>by obtain⟨hp,g,d,tk,os⟩:=s;obtain⟨hl,h⟩:=h;wp_walk using aBO hl;exact⟨_,rfl,h⟩
theorem aAl(l:Addr)(items:Array Value)(n:Nat)(dd:Option Addr)(sl:Array (Option Value))(x:Int)(u:Tok)(h1:(decide (x < -(2 ^ 63)) || decide (x>=2 ^ 63))=false)(h2:(items.isEmpty || x==1)=true) :
  Meets (Builtin.«tuple.__mul__» ⟨[.ref l,.int x u],[]⟩) (λ_ R s=>s.heap.get? l=some {cls:=.type "tuple",dict:=dd,data:=.seq items n,slots:=sl}/\R (.ok (.ret (Value.ref l))) s) :=
 .of_wp λprog w A R s h=>by
  obtain⟨hp,g,d,tk,os⟩:=s;obtain⟨hl,h⟩:=h
  have f1:=aGR
  wp_walk using aBO hl
  refine aHI (by rw[h1];rfl) ?_
  wp_walk using aBO hl
  exact⟨_,rfl,h⟩
theorem aBc(l:Addr)(items:Array Value)(n:Nat)(dd:Option Addr)(sl:Array (Option Value))(x:Int)(u:Tok)(h1:(decide (x < -(2 ^ 63)) || decide (x>=2 ^ 63))=false)(h2:(items.isEmpty || x==1)=false)(h3:(decide (x<=0) || items.isEmpty)=true) :
  Meets (Builtin.«tuple.__mul__» ⟨[.ref l,.int x u],[]⟩) (λ_ R s=>s.heap.get? l=some {cls:=.type "tuple",dict:=dd,data:=.seq items n,slots:=sl}/\R (.ok (.ret (Value.ref s.heap.objs.size))) {s with heap:=s.heap.push {cls:=Value.type "tuple",data:=Data.seq #[]},toks:=s.toks}) :=
 .of_wp λprog w A R s h=>by
  obtain⟨hp,g,d,tk,os⟩:=s;obtain⟨hl,h⟩:=h
  have f1:=aGR
  wp_walk using aBO hl
  refine aHI (by rw[h1];rfl) ?_
  wp_walk using aBO hl
  exact⟨_,rfl,h⟩
theorem aCg(l:Addr)(items:Array Value)(n:Nat)(dd:Option Addr)(sl:Array (Option Value))(x:Int)(u:Tok)(h1:(decide (x < -(2 ^ 63)) || decide (x>=2 ^ 63))=false)(h2:(items.isEmpty || x==1)=false)(h3:(decide (x<=0) || items.isEmpty)=false)
  (h4:¬((items.size:Int)*x > (2 ^ 63 - 1) / 8))(h5:¬Builtin.Tuple.tupleTooMany (items.size*x)=true)(hsz:(List.foldl (λx1 x2=>x1++x2) #[] (List.replicate x.toNat items)).size<=sizeLine) :
  Meets (Builtin.«tuple.__mul__» ⟨[.ref l,.int x u],[]⟩) (λ_ R s=>s.heap.get? l=some {cls:=.type "tuple",dict:=dd,data:=.seq items n,slots:=sl}/\R (.ok (.ret (Value.ref s.heap.objs.size))) {s with heap:=s.heap.push {cls:=Value.type "tuple",data:=Data.seq (List.foldl (λx1 x2=>x1++x2) #[] (List.replicate x.toNat items))},toks:=s.toks}) :=
 .of_wp λprog w A R s h=>by
  obtain⟨hp,g,d,tk,os⟩:=s;obtain⟨hl,h⟩:=h
  have f1:=aGR
  wp_walk using aBO hl
  refine aHI (by rw[h1];rfl) ?_
  wp_walk using aBO hl
  refine aHI (aCE h4) ?_
  wp_walk using aBO hl
  exact⟨_,rfl,h⟩
variable{K:Frag}
noncomputable def rRepT(K:Frag):R2:=λx y H Q=>∃a k xs,x=.ref a/\y=.int k/\SqT K H a xs /\ -(2 ^ 63)<=k/\k < 2 ^ 63/\xs.length*k.toNat<=sizeLine /\
 ((xs=[]\/k=1)->Q (.ref a) H)/\∀p,H p=none->Q (.ref p) (upd H p (.tup (List.replicate k.toNat xs).flatten))
theorem rS(its:List Value)(m:Nat):List.foldl (λx1 x2=>x1++x2) #[] (List.replicate m its.toArray)=(List.replicate m its).flatten.toArray:=by
 have:=oQ its m []
 rw[aHF]at this
 exact this
theorem aKj:OpR X (binaryOp .Mult) (rRepT X.K):=by
 intro pins s σ H x y v u Q I rx ry h
 obtain⟨l,k,xs,rfl,rfl,hH,h1,h2,hz,qs,q⟩:=h
 cases rx
 obtain⟨t,rfl⟩:=ry
 obtain⟨its,r,pl,hsz⟩:=I.tuple hH
 obtain⟨⟨cls,dd,data,sl⟩,ho,hc,n,hd⟩:=id pl
 simp only at hc hd
 subst hc hd
 have hl:=r.length
 have b1:(decide (k < -(2 ^ 63)) || decide (k>=2 ^ 63))=false:=by
  rw[aGZ];exact⟨aCE (by lia),aCE (by lia)⟩
 refine wpAny_binaryOp_repeat_ref (T:="tuple") (U:="int") (by decide) ⟨_,ho,rfl⟩ (λs'=>aII s' k t) oZ F.fills_int_mul aHD wN F.slot_int_index.lookup
  (aDM aHD (aII s k t) F.entry_int_rmul (F.args_int_rmul_2 _ _) (sN k t l its.toArray n dd sl) ⟨ho,rfl,⟨_,ho,rfl⟩,?_⟩)
 by_cases hs:xs=[]\/k=1
 ·refine aDM aFS ⟨_,ho,rfl⟩ aIC (aHU _ _) (aAl l its.toArray n dd sl k t b1 ?_) ⟨ho,⟨.ref l,H,I,rfl,qs hs⟩⟩
  rcases hs with hs|hs
  ·subst hs
   have:its=[]:=by simpa using hl.symm
   simp[this]
  ·simp[hs]
 ·have hne:its≠[]:=λz=>hs (.inl (by subst z;simpa using hl))
  have hn1:(its.toArray.isEmpty || k==1)=false:=by
   rw[aGZ];exact⟨by simpa using hne,by simp;exact λz=>hs (.inr z)⟩
  by_cases h0:k<=0
  ·refine aDM aFS ⟨_,ho,rfl⟩ aIC (aHU _ _) (aBc l its.toArray n dd sl k t b1 hn1 (by simp[h0])) ⟨ho,?_⟩
   have e:(List.replicate k.toNat xs).flatten=[]:=by rw[show k.toNat=0 by lia];rfl
   have q:=q s.heap.objs.size I.fresh
   rw[e]at q
   refine⟨.ref s.heap.objs.size,_,I.laid (t':=s.toks) (o:=.tup []) (λb ob q=>aAB _ q) (aAG _) ?_,rfl,q⟩
   exact⟨aDB _,[],.nil,IsTup.new _ _⟩
  ·have hk:((k.toNat:Nat):Int)=k:=by lia
   have hz':its.length*k.toNat<=sizeLine:=by rw[<- hl];exact hz
   have hcast:((its.toArray.size:Nat):Int)*k=((its.length*k.toNat:Nat):Int):=by
    rw[aAH,Int.natCast_mul,hk]
   have hs24:(sizeLine:Nat)=16777216:=aBC
   refine aDM aFS ⟨_,ho,rfl⟩ aIC (aHU _ _) (aCg l its.toArray n dd sl k t b1 hn1 ?_ ?_ ?_ ?_) ⟨ho,?_⟩
   ·rw[aGZ];exact⟨aCE h0,by simpa using hne⟩
   ·rw[hcast];lia
   ·unfold Builtin.Tuple.tupleTooMany
    rw[hcast]
    intro z
    have z:=of_decide_eq_true z
    lia
   ·rw[rS,aAH,wM,Nat.mul_comm];exact hz'
   ·rw[rS]
    refine⟨.ref s.heap.objs.size,_,I.laid (t':=s.toks) (o:=.tup (List.replicate k.toNat xs).flatten) (λb ob q=>aAB _ q) (aAG _) ?_,rfl,q _ I.fresh⟩
    exact⟨by rw[wM,Nat.mul_comm];exact hz,_,r.rep k.toNat,IsTup.new _ _⟩
noncomputable def pMulA(x y:W)(M:Mm):Oc W:=match x,y with
 |.d (.tup xs),.d (.int k)=>if xs.length*k.toNat<=16777216/\k < 9223372036854775808 /\ -9223372036854775808<=k then okD (.tup (List.replicate k.toNat xs).flatten) M else .bad
 |x,y=>pMul x y M
theorem opMulA:OpG X K Z (binaryOp .Mult) pMulA:=λhk=>by
 obtain⟨r,h1,h2⟩:=(opMul (X:=X) (K:=K) (Z:=Z)) hk
 refine⟨_,OpR.or (hk▸aKj) h1,?_⟩
 intro μ H M x y v u Q hr rx ry p
 have gen:=λp=>(Or.inr (h2 μ H M x y v u Q hr rx ry p):rRepT K v u H Q\/r v u H Q)
 cases x with
 |ref i=>exact gen (by cases y with|ref j=>exact p|ob _ _=>exact p|nest _=>exact p|d y=>cases y <;> exact p)
 |ob _ _=>exact gen (by cases y with|ref j=>exact p|ob _ _=>exact p|nest _=>exact p|d y=>cases y <;> exact p)
 |nest _=>exact gen (by cases y with|ref j=>exact p|ob _ _=>exact p|nest _=>exact p|d y=>cases y <;> exact p)
 |d x=>cases x with
  |tup xs=>cases y with
   |ref j=>exact gen p
   |ob _ _=>exact gen p
   |nest _=>exact gen p
   |d y=>cases y with
    |int k =>
     simp only[pMulA]at p
     split at p
     ·rename_i hz
      have rx':=rx
      simp only[Rw,Rp]at rx ry
      obtain⟨a,vs,rfl,q1,r1⟩:=rx
      refine .inl ⟨a,k,vs,rfl,ry,SqT.of q1,hz.2.2,hz.2.1,by rw[<- r1.length,aBC];exact hz.1,λe=>?_,jZ hr (r1.rep k.toNat) p⟩
      refine p μ H .refl hr _ ?_
      have:(List.replicate k.toNat xs).flatten=xs:=by
       rcases e with e|e
       ·subst e
        have:xs=[]:=by have:=r1.length;simpa using this
        subst this;simp
       ·subst e;simp[List.replicate]
      rw[this];exact rx'
     ·exact p.elim
    |_=>exact gen p
  |_=>exact gen (by cases y with|ref j=>exact p|ob _ _=>exact p|nest _=>exact p|d y=>cases y <;> exact p)
end EV
end
variable{f fa fc fo:EV.FE}{L:EV.Lc}{Z:EV.Zt}{F:EV.FS}{Fm:EV.Fn}{QS:EV.Out->EV.Mm->Prop}{QG:EV.Lc->EV.Mm->Prop}{QO:Option Int->EV.Mm->Prop}{M':EV.Mm}{EX:EV.Exn->EV.Mm->Prop}
section
open PySem PySem.Spec PyProof.Rows
namespace HT
variable{prog:Program}{E:Value->Shared->Prop}
theorem getItem_tuple_whole{t sl:Addr}{vl vu:Value}(ht:IsTup s.heap t items)(hs:s.heap.IsSliceOf sl vl vu .none)(pl:IsPart vl lo)(pu:IsPart vu hi)
  (hw:sIx items.size 0 lo=0/\sIx items.size items.size hi=items.size)(h:Q (.ref t) s):wpAny (model prog w) A (getItem (.ref t) (.ref sl)) Q E s:=by
 obtain⟨os,hos,hcs,hds⟩:=id hs
 have hTs:s.TypeIs (.ref sl) "slice":=⟨os,hos,hcs⟩
 unfold getItem
 try with_reducible refine aBL ?_
 first|refine aAA (aAC ?_)|skip
 refine aAA (wpAny_sequenceKey ht.typeIs (by decide) ?_)
 refine aAA (aAU (name:=Str.ofString "__getitem__") ht.typeIs aCD
  (aAZ aCD ht.typeIs entry_tuple_getitem ?_ (args_tuple_getitem _ _)))
 show wpAny _ _ (Builtin.Tuple.tupleItemsOf (.ref t) >>= _) _ _ s
 refine aAA (tupleItemsOf_ ht ?_)
 refine aAA (aEO hTs ?_)
 rw[aAI (by decide)]
 refine aAA (gP hs pl pu ?_)
 have hyes:((((sIx items.size 0 lo:Nat):Int)==0&&(1:Int)==1&&(sIx items.size items.size hi - sIx items.size 0 lo)==items.size)=true):=by
  rw[hw.1,hw.2];simp
 show wpAny _ _ (if(((sIx items.size 0 lo:Nat):Int)==0&&(1:Int)==1&&(sIx items.size items.size hi - sIx items.size 0 lo)==items.size)=true then _ else _) _ _ s
 rw[aAI hyes]
 refine aAA (m:=Builtin.Tuple.tupleIsExact _) ?_
 unfold Builtin.Tuple.tupleIsExact
 refine aAA (aEO ht.typeIs (aAC ?_))
 show wpAny _ _ (if((Value.type "tuple"==Value.type "tuple")=true)then _ else _) _ _ s
 rw[aAI (by decide)]
 first
  |exact aAA (aCJ (aAC ⟨_,rfl,aAC h⟩))
  |exact aAA (aCJ (aAA (aAC ⟨_,rfl,aAC h⟩)))
  |exact aAA (aCJ (aAA (aAC (aAC ⟨_,rfl,aAC h⟩))))
end HT
namespace EV
open L2
theorem pA(K:Frag):PySem.W.kitOne K (.type "NoneType") (.type "int")=some false:=by with_unfolding_all rfl
theorem mX(K:Frag):PySem.W.kitOne K (.type "NoneType") (.type "bool")=some false:=by with_unfolding_all rfl
theorem lQ(K:Frag):PySem.W.kitOne K (.type "NoneType") (.type "tuple")=some false:=by with_unfolding_all rfl
theorem wO(K:Frag):PySem.W.kitOne K (.type "bool") (.type "int")=some true:=by with_unfolding_all rfl
theorem tO(K:Frag):PySem.W.kitOne K (.type "bool") (.type "bool")=some true:=by with_unfolding_all rfl
theorem rC(K:Frag):PySem.W.kitOne K (.type "bool") (.type "tuple")=some false:=by with_unfolding_all rfl
theorem yG(K:Frag):PySem.W.kitOne K (.type "int") (.type "int")=some true:=by with_unfolding_all rfl
theorem xK(K:Frag):PySem.W.kitOne K (.type "int") (.type "bool")=some false:=by with_unfolding_all rfl
theorem tN(K:Frag):PySem.W.kitOne K (.type "int") (.type "tuple")=some false:=by with_unfolding_all rfl
theorem zM(K:Frag):PySem.W.kitOne K (.type "str") (.type "int")=some false:=by with_unfolding_all rfl
theorem wG(K:Frag):PySem.W.kitOne K (.type "str") (.type "bool")=some false:=by with_unfolding_all rfl
theorem tS(K:Frag):PySem.W.kitOne K (.type "str") (.type "tuple")=some false:=by with_unfolding_all rfl
theorem xJ(K:Frag):PySem.W.kitOne K (.type "list") (.type "int")=some false:=by with_unfolding_all rfl
theorem tQ(K:Frag):PySem.W.kitOne K (.type "list") (.type "bool")=some false:=by with_unfolding_all rfl
theorem tG(K:Frag):PySem.W.kitOne K (.type "list") (.type "tuple")=some false:=by with_unfolding_all rfl
theorem tK(K:Frag):PySem.W.kitOne K (.type "tuple") (.type "int")=some false:=by with_unfolding_all rfl
theorem qX(K:Frag):PySem.W.kitOne K (.type "tuple") (.type "bool")=some false:=by with_unfolding_all rfl
theorem qG(K:Frag):PySem.W.kitOne K (.type "tuple") (.type "tuple")=some true:=by with_unfolding_all rfl
section
variable{K:Frag}{M:Mm}{e a b o:Expr}{es:List Expr}{fb:FE}{fs:FA}{rest:List Stmt}{G:FS}
noncomputable section
def rSlA(K:Frag):V->Option Int->Option Int->Hp->VK->Prop:=λx lo hi H Q=>∃a xs,x=.ref a/\SqT K H a xs /\
 ((HT.sIx xs.length 0 lo=0/\HT.sIx xs.length xs.length hi=xs.length)->Q (.ref a) H)/\∀p,H p=none->Q (.ref p) (upd H p (.tup (cutV xs lo hi)))
theorem aJj:SlR X (rSlA X.K):=by
 intro pins s σ H x v vl vu lo hi sl Q I rx hs pl pu h
 obtain⟨a,xs,rfl,hx,q1,q2⟩:=h
 by_cases hw:HT.sIx xs.length 0 lo=0/\HT.sIx xs.length xs.length hi=xs.length
 ·cases rx
  obtain⟨its,r,ht,hz⟩:=I.tuple hx
  have hlen:its.toArray.size=xs.length:=by rw[aAH];exact r.length.symm
  refine⟨"tuple",_,aCD.lookup,ht.typeIs,?_⟩
  exact HT.getItem_tuple_whole ht hs pl pu (by rw[hlen];exact hw) ⟨.ref a,H,I,rfl,q1 hw⟩
 ·exact aOd pins s σ H _ v vl vu lo hi sl Q I rx hs pl pu ⟨a,xs,rfl,hx,hw,q2⟩
theorem aEm{xs:List D}(h:HT.sIx xs.length 0 lo=0/\HT.sIx xs.length xs.length hi=xs.length):cut xs lo hi=xs:=by
 unfold cut;rw[h.1,h.2];simp
theorem nT{x:W}{Q:VK}(hr:HR K μ H M)(rx:Rw K μ H x v)(p:Pst K Z μ H (match lr M x with
  |some xs=>okD (.lst (cut xs lo hi)) M
  |none=>.bad) (Wk K Q)):rSlL K v lo hi H Q:=by
 cases q1:lr M x with
 |none=>rw[q1]at p;exact p.elim
 |some xs =>
  rw[q1]at p
  obtain⟨a,vs,rfl,h1,r1⟩:=aDj hr rx q1
  exact⟨a,vs,rfl,h1,gW hr (aCo r1) p⟩
theorem bG{lo hi:Option Expr}{fl fh:FO}(he:Ev X K Z e f)(hl:Eo X K Z lo fl)(hh:Eo X K Z hi fh):Ev X K Z (.Subscript e (.Slice lo hi none p2) pos) (eSl f fl fh):=by
 have h:=aGt (p2:=p2) (pos:=pos) (SlR.or (aJj (X:=X)) aLn) he.h hl.h hh.h
 rw[he.k]at h
 refine⟨he.k,cqE h ?_⟩
 rintro σ H Q ⟨μ,M,L,hr,lr,p⟩
 refine⟨μ,M,L,hr,lr,p.bind.imp λμ1 H1 M1 x e1 hr1 _ p1 v rx=>?_⟩
 refine⟨μ1,M1,L,hr1,lr.ext hr.lsts e1,p1.bind.imp λμ2 H2 M2 l e2 hr2 _ p2=>?_⟩
 refine⟨μ2,M2,L,hr2,lr.ext hr.lsts (e1.trans e2),p2.bind.imp λμ3 H3 M3 u e3 hr3 _ p3=>?_⟩
 have rx:=rx.ext hr1.lsts (e2.trans e3)
 cases x with
 |ref i=>exact .inr (nT hr3 rx p3)
 |ob _ _=>exact .inr (nT hr3 rx p3)
 |nest _=>exact .inr (nT hr3 rx p3)
 |d x=>cases x with
  |tup xs =>
   have rx':=rx
   simp only[Rw,Rp]at rx
   obtain⟨a,vs,rfl,q1,r1⟩:=rx
   refine .inl ⟨a,vs,rfl,SqT.of q1,λhw=>?_,jZ hr3 (aCo r1) p3⟩
   refine p3 μ3 H3 .refl hr3 _ ?_
   rw[aEm (by rw[r1.length];exact hw)]
   exact rx'
  |_=>exact .inr (nT hr3 rx p3)
def isT(T:String)(M:Mm):W->Option Bool
 |.d .non=>some false
 |.d (.bl _)=>some (T=="bool" || T=="int")
 |.d (.int _)=>some (T=="int")
 |.d (.str _)=>some (T=="str")
 |.d (.tup _)=>some (T=="tuple")
 |.d (.lst _)=>some (T=="list")
 |.d (.fz _)=>none
 |.d (.exn _ _ _)=>none
 |.ref _=>some (T=="list")
 |.ob _ _=>none
 |.nest _=>none
def pIsI(T:String)(x:W)(M:Mm):Oc W:=match isT T M x with
 |some b=>.ok (.d (.bl b)) M
 |none=>.bad
end
structure KitT(T:String):Prop where
 non:∀K,PySem.W.kitOne K (.type "NoneType") (.type T)=some false
 bl:∀K,PySem.W.kitOne K (.type "bool") (.type T)=some (T=="bool" || T=="int")
 int:∀K,PySem.W.kitOne K (.type "int") (.type T)=some (T=="int")
 str:∀K,PySem.W.kitOne K (.type "str") (.type T)=some (T=="str")
 tup:∀K,PySem.W.kitOne K (.type "tuple") (.type T)=some (T=="tuple")
 lst:∀K,PySem.W.kitOne K (.type "list") (.type T)=some (T=="list")
theorem aBf:KitT "int":=⟨pA,wO,yG,zM,tK,xJ⟩
theorem aCs:KitT "bool":=⟨mX,tO,xK,wG,qX,tQ⟩
theorem sQ:KitT "tuple":=⟨lQ,rC,tN,tS,qG,tG⟩
theorem aPk{T:String}(k:KitT T){x:W}{c:Bool}(hr:HR K μ H M)(rx:Rw K μ H x v)(h:isT T M x=some c):∃t,TyOf K H v t/\PySem.W.kitOne K t (.type T)=some c:=by
 cases x with
 |ref i =>
  simp only[isT,aAQ]at h;subst h
  obtain⟨a,q,rfl,il⟩:=rx
  obtain⟨vs,h⟩:=il
  exact⟨_,.lst h,k.lst K⟩
 |ob _ _=>simp[isT]at h
 |nest _=>simp[isT]at h
 |d x=>cases x with
  |non=>simp only[isT,aAQ]at h;subst h;simp only[Rw,Rp]at rx;subst rx;exact⟨_,.non,k.non K⟩
  |bl y=>simp only[isT,aAQ]at h;subst h;simp only[Rw,Rp]at rx;subst rx;exact⟨_,.bl y,k.bl K⟩
  |int y=>simp only[isT,aAQ]at h;subst h;simp only[Rw,Rp]at rx;subst rx;exact⟨_,.int y,k.int K⟩
  |str y=>simp only[isT,aAQ]at h;subst h;simp only[Rw,Rp]at rx;subst rx;exact⟨_,.str y,k.str K⟩
  |tup y=>simp only[isT,aAQ]at h;subst h;simp only[Rw,Rp]at rx;obtain⟨a,vs,rfl,q1,_⟩:=rx;exact⟨_,.tup q1,k.tup K⟩
  |lst y=>simp only[isT,aAQ]at h;subst h;simp only[Rw,Rp]at rx;obtain⟨a,vs,rfl,q1,_⟩:=rx;exact⟨_,.lst q1,k.lst K⟩
  |fz y=>simp[isT]at h
  |exn c f y=>simp[isT]at h
theorem iU{T:String}(kt:KitT T)(hm:X.mg "isinstance"=none)(hmT:X.mg x=none)(hvT:bootBuiltins x=some (.type T))(he:Ev X K Z e f)(hg:Gl X "isinstance":=by rfl)(hgT:Gl X x:=by rfl)(hn:x≠"__name__":=by decide)(hd:(x==("__debug__":Str))=false:=by decide)
  (hs:starEach [e,.Name x q] X.env=(false,eval e X.env)::starEach [.Name x q] X.env:=by rfl)(hs2:starEach [.Name x q] X.env=(false,eval (.Name x q) X.env)::starEach [] X.env:=by rfl)(hpl:(backTo pos (starEach [.Name x q] X.env)).any (·.1)=false:=by rfl) :
  Ev X K Z (.Call (.Name "isinstance" p) [e,.Name x q] [] pos) (e1 (pIsI T) f):=by
 have h:=nF (pos:=pos) (p:=p) yC hg hm fZ (bM he.h (bM (aDw (v:=.ty T) hgT hmT hvT rfl hn hd) cH hs2) hs) (by decide) (by decide) hs hpl
 rw[he.k]at h
 refine⟨he.k,cqE h ?_⟩
 rintro σ H Q ⟨μ,M,L,hr,lr,p⟩
 refine⟨μ,M,L,hr,lr,p.bind.imp λμ1 H1 M1 x e1 hr1 _ p1 v rx=>?_⟩
 unfold pIsI at p1
 cases q:isT T M1 x with
 |none=>rw[q]at p1;exact p1.elim
 |some c =>
  rw[q]at p1
  obtain⟨t,h1,h2⟩:=aPk kt hr1 rx q
  exact⟨v,T,t,c,rfl,h1,h2,p1 μ1 H1 .refl hr1 _ (by simp[Rw,Rp])⟩
noncomputable section
def flatD(d:D):Bool:=(fv d).isSome
def pInG(neg:Bool)(x y:W)(M:Mm):Oc W:=match x,sv M y with
 |.d d,some xs=>if flatD d=true/\xs.all flatD=true then .ok (.d (.bl (if neg then !(xs.any λy=>eqD y d)else xs.any λy=>eqD y d))) M else .bad
 |_,_=>.bad
theorem aCu:∀{xs:List D} {vs:List V} {d:D} {v:V},Rps K μ H xs vs->xs.all flatD=true->Rp K μ H d v->flatD d=true->vs.all flatV=true/\inV v vs=xs.any (λy=>eqD y d)
 |[],_,_,_,h,_,_,_=>by simp only[Rps]at h;subst h;exact⟨rfl,rfl⟩
 |x::xs,_,d,v,h,hf,hd,hfd=>by
  simp only[Rps]at h
  obtain⟨u,r,rfl,e2,e3⟩:=h
  rw[aFU,aBN]at hf
  obtain⟨i1,i2⟩:=aCu e3 hf.2 hd hfd
  obtain⟨w,hw⟩:=aDK.mp hf.1
  obtain⟨w2,hw2⟩:=aDK.mp hfd
  obtain⟨rfl,f1⟩:=uE hw e2
  obtain⟨rfl,f2⟩:=uE hw2 hd
  refine⟨by rw[aFU,f1,i1];rfl,?_⟩
  show(eqV u v || inV v r)=_
  rw[i2,aGj hw hw2,aEW]
theorem aHj(neg:Bool):Op2 K Z (rIn K neg) (pInG neg):=by
 intro μ H M x y v u Q hr rx ry p
 cases x with
 |ref i=>exact p.elim
 |ob _ _=>exact p.elim
 |nest _=>exact p.elim
 |d d =>
  simp only[pInG]at p
  cases q:sv M y with
  |none=>rw[q]at p;exact p.elim
  |some xs =>
   rw[q]at p
   simp only at p
   split at p
   ·rename_i hz
    obtain⟨a,vs,rfl,h1,r1⟩:=rQ hr ry q
    obtain⟨i1,i2⟩:=aCu r1 hz.2 rx hz.1
    obtain⟨w,hw⟩:=aDK.mp hz.1
    obtain⟨rfl,f1⟩:=uE hw rx
    refine⟨a,vs,rfl,h1,f1,i1,p μ H .refl hr _ ?_⟩
    simp only[Rw,Rp]
    cases neg <;> simp[i2]
   ·exact p.elim
abbrev pIn:=pInG false
abbrev pNotIn:=pInG true
end
theorem opIn:OpG X K Z (compareOp .In) pIn:=λhk=>⟨_,hk▸aFk,aHj false⟩
theorem opNotIn:OpG X K Z (compareOp .NotIn) pNotIn:=λhk=>⟨_,hk▸wI,aHj true⟩
end
noncomputable def whileD(t:FT)(B:FS):Nat->FS
 |0=>λ_ _=>.bad
 |n+1=>λL M=>(t L M).bind λb M1=>if b=true then(B L M1).bind λo M2=>match o with
   |.nx L2=>whileD t B n L2 M2
   |.ct L2=>whileD t B n L2 M2
   |.bk L2=>.ok (.nx L2) M2
   |.rt w=>.ok (.rt w) M2
  else .ok (.nx L) M1
inductive Ck
 |one (t:Nat)
 |two (t:Nat) (ys:List D)
noncomputable instance:Coe Nat Ck:=⟨.one⟩
noncomputable def Ck.ok(ds:List D)(M:Mm):Ck->Prop
 |.one t=>M[t]?=some ds
 |.two t ys=>M[t]?=some ys
structure Src where
 ds:List D
 k:Option Ck
noncomputable abbrev FI:=Lc->Mm->Oc Src
noncomputable def Chk(s:Src)(M:Mm):Prop:=∀t,s.k=some t->t.ok s.ds M
open Classical in
noncomputable def forD(s:Src)(g:FG)(B:FS):List D->FS
 |[]=>λL M=>if Chk s M then .ok (.nx L) M else .bad
 |d::r=>λL M=>if Chk s M then(g (.d d) L M).bind λL1 M1=>(B L1 M1).bind λo M2=>match o with
   |.nx L2=>forD s g B r L2 M2
   |.ct L2=>forD s g B r L2 M2
   |.bk L2=>.ok (.nx L2) M2
   |.rt w=>.ok (.rt w) M2
  else .bad
noncomputable section
def sFor(fi:FI)(g:FG)(B:FS):FS:=λL M=>(fi L M).bind λs M1=>forD s g B s.ds L M1
def ItOk(K:Frag)(μ:List Addr)(H:Hp)(s:Src)(J:It):Prop :=
 ∃S:List Addr->Hp->Prop,S μ H/\(∀μ1 H1 μ2 H2,Lsts μ1 H1->S μ1 H1->Ext μ1 H1 μ2 H2->S μ2 H2) /\
  ∀μ1 H1 M1 i,HR K μ1 H1 M1->S μ1 H1->Chk s M1 ->
   (∀d,s.ds[i]?=some d->J.go i H1/\∀x H2,J.yld i H1 x H2->Ext μ1 H1 μ1 H2/\HR K μ1 H2 M1/\Rp K μ1 H2 d x)/\(s.ds.length<=i->J.stop i H1)
def liftI(K:Frag)(Z:Zt)(fi:FI):TI:=λσ H R=>∃μ M L,HR K μ H M/\LR K μ H L σ/\Pst K Z μ H (fi L M) λμ' H' _ s=>∀J,ItOk K μ' H' s J->R J H'
end
structure Ei(X:Cx)(K:Frag)(Z:Zt)(tg iter:Expr)(fi:FI)(q:Prop:=False):Prop where
 k:X.K=K
 h:PI X tg iter (liftI K Z fi) q
variable{q:Prop}{tg iter:Expr}
theorem cqI{t t':TI}(h:PI X tg iter t q)(i:∀σ H Q,t' σ H Q->t σ H Q):PI X tg iter t' q:=λpins s σ H Q I q=>h pins s σ H Q I (i _ _ _ q)
section
variable{K:Frag}{M:Mm}{e a b o:Expr}{es:List Expr}{fb:FE}{fs:FA}{rest:List Stmt}{G:FS}{B:FS}
theorem jA{c:Expr}{t:FT}(n:Nat)(hp:PassesOwn (model X.prog X.w) X.A X.env X.xe)(hc:Et X K Z c t)(hb:Ess X K Z body B):Es X K Z (.While c body [] pos) (whileD t B n):=by
 refine⟨hc.k,cqS (aGu hp hc.h hb.h) ?_⟩
 rintro E σ H ⟨μ,M,L,hr,lr,p⟩
 refine⟨λm σ H=>∃μ M L,HR K μ H M/\LR K μ H L σ/\Pst K Z μ H (whileD t B m L M) (Sk K E),⟨n,μ,M,L,hr,lr,p⟩,?_⟩
 rintro m σ H ⟨μ,M,L,hr,lr,p⟩
 cases m with
 |zero=>exact p.elim
 |succ m =>
  refine⟨μ,M,L,hr,lr,(show Pst K Z μ H ((t L M).bind _) _ from p).bind.imp λμ1 H1 M1 b e1 hr1 _ p1=>?_⟩
  cases b with
  |false=>exact p1 μ1 H1 .refl hr1 σ (lr.ext hr.lsts e1)
  |true =>
   refine⟨λσ' H'=>∃μ M L,HR K μ H' M/\LR K μ H' L σ'/\Pst K Z μ H' (whileD t B m L M) (Sk K E),λσ' H' q=>⟨m,aFO m,q⟩,?_⟩
   refine⟨μ1,M1,L,hr1,lr.ext hr.lsts e1,(show Pst K Z μ1 H1 ((B L M1).bind _) _ from p1).bind.imp λμ2 H2 M2 o e2 hr2 _ p2=>?_⟩
   cases o with
   |nx L2=>exact λσ' lr'=>⟨μ2,M2,L2,hr2,lr',p2⟩
   |ct L2=>exact λσ' lr'=>⟨μ2,M2,L2,hr2,lr',p2⟩
   |bk L2=>exact p2 μ2 H2 .refl hr2
   |rt w=>exact p2 μ2 H2 .refl hr2
variable{fi:FI}
theorem aLc{g:FG}(hp:PassesOwn (model X.prog X.w) X.A X.env X.xe)(hc:X.calm=true\/qq)(hi:Ei X K Z tg iter fi qq)(hg:Eg X K Z tg g)(hb:Ess X K Z body B)
  (hs:∀x,foldedSetIterable iter X.env x=pure x:=by intro _;rfl):Es X K Z (.For tg iter body [] pos) (sFor fi g B):=by
 refine⟨hi.k,cqS (aLa hp hc hi.h hg.h hb.h hs) ?_⟩
 rintro E σ H ⟨μ,M,L,hr,lr,p⟩
 refine⟨μ,M,L,hr,lr,p.bind.imp λμ1 H1 M1 s e1 hr1 _ p1 J hJ=>?_⟩
 obtain⟨S,s0,sx,step⟩:=hJ
 refine⟨λi m σ H=>m=s.ds.length - i/\i<=s.ds.length/\∃μ M L,HR K μ H M/\LR K μ H L σ/\S μ H/\Pst K Z μ H (forD s g B (s.ds.drop i) L M) (Sk K E),⟨s.ds.length,by simp,aDB _,μ1,M1,L,hr1,lr.ext hr.lsts e1,s0,by simpa using p1⟩,?_⟩
 rintro i m σ H ⟨rfl,hi,μ,M,L,hr,lr,sS,p⟩
 by_cases hlt:i < s.ds.length
 ·rw[aCI hlt]at p
  unfold forD at p
  split at p
  ·rename_i hch
   obtain⟨go,yl⟩:=(step μ H M i hr sS hch).1 s.ds[i] (by simp[hlt])
   refine .inr ⟨go,λσ' H'=>i+1<=s.ds.length/\∃μ M L,HR K μ H' M/\LR K μ H' L σ'/\S μ H'/\Pst K Z μ H' (forD s g B (s.ds.drop (i+1)) L M) (Sk K E),λσ' H' q=>⟨s.ds.length - (i+1),by lia,rfl,q.1,q.2⟩,λx H2 y=>?_⟩
   obtain⟨e2,hr2,rx⟩:=yl x H2 y
   have lr2:=lr.ext hr.lsts e2
   have s2:=sx _ _ _ _ hr.lsts sS e2
   refine⟨μ,M,L,.d s.ds[i],hr2,lr2,rx,(Pst.mono e2 p).bind.imp λμ3 H3 M3 L3 e3 hr3 _ p3 σ3 lr3=>?_⟩
   refine⟨μ3,M3,L3,hr3,lr3,p3.bind.imp λμ4 H4 M4 o e4 hr4 _ p4=>?_⟩
   have s4:=sx _ _ _ _ hr3.lsts (sx _ _ _ _ hr2.lsts s2 e3) e4
   cases o with
   |nx L4=>exact λσ' lr'=>⟨hlt,μ4,M4,L4,hr4,lr',s4,p4⟩
   |ct L4=>exact λσ' lr'=>⟨hlt,μ4,M4,L4,hr4,lr',s4,p4⟩
   |bk L4=>exact p4 μ4 H4 .refl hr4
   |rt w=>exact p4 μ4 H4 .refl hr4
  ·exact p.elim
 ·have e:i=s.ds.length:=by lia
  subst e
  rw[aFD (aAG _)]at p
  unfold forD at p
  split at p
  ·rename_i hch
   exact .inl ⟨(step μ H M _ hr sS hch).2 (aAG _),p μ H .refl hr σ lr⟩
  ·exact p.elim
theorem iD{g:FG}(hp:PassesOwn (model X.prog X.w) X.A X.env X.xe)(hc:X.calm=true)(hi:Ei X K Z tg iter fi)(hg:Eg X K Z tg g)(hb:Ess X K Z body B)
  (hs:∀x,foldedSetIterable iter X.env x=pure x:=by intro _;rfl):Es X K Z (.For tg iter body [] pos) (sFor fi g B):=aLc hp (.inl hc) hi hg hb hs
theorem aJc{ds:List D}:Chk ⟨ds,none⟩ M:=λt h=>by cases h
@[simp]theorem aKy{ds:List D}:Chk ⟨ds,none⟩ M ↔ True:=⟨λ_=>trivial,λ_=>aJc⟩
@[simp]theorem aMh{ds:List D}{t:Nat}:Chk ⟨ds,some t⟩ M ↔ M[t]?=some ds:=⟨λh=>h t rfl,λh t' e=>by cases e;exact h⟩
noncomputable def iSq(K:Frag)(tl:TE):TI:=λσ H R=>tl σ H λx H1=>∃a,x=.ref a/\(((∃xs,SqL K H1 a xs)/\R (Itl K a) H1)\/((∃xs,SqT K H1 a xs)/\R (Itt K a) H1))
theorem aSd{l:Expr}{tl:TE}(hl:PE X l tl):PI X tg l (iSq X.K tl) q:=by
 intro pins s σ H R I h
 refine thn (hl pins s σ H _ I h) λv s1 ⟨x,H1,I1,r1,q1⟩=>?_
 obtain⟨a,e,⟨⟨xs,hq⟩,q⟩|⟨⟨xs,hq⟩,q⟩⟩:=q1
 ·subst e
  cases r1
  obtain⟨its,rv,p,hz⟩:=I1.list hq
  refine aEH p.isList ?_
  refine⟨s1.heap.objs.size,[s1.heap.objs.size],_,_,H1,rfl,I1.kept (t':=s1.toks) λb o e=>aAB _ e,(aEh a _).weak,⟨_,aAE _ rfl,rfl,rfl⟩,λb hb=>?_,q⟩
  have e:b=s1.heap.objs.size:=by simpa using hb
  subst e
  exact I1.fpOk (aAG _) (I1.hok.fresh (aAG _))
 ·subst e
  cases r1
  obtain⟨its,rv,p,hz⟩:=I1.tuple hq
  refine aCU (show s1.heap.IsTuple a its.toArray from p) ?_
  refine⟨s1.heap.objs.size,[s1.heap.objs.size],_,_,H1,rfl,I1.kept (t':=s1.toks) λb o e=>aAB _ e,(aBd a _).weak,⟨_,aAE _ rfl,rfl,rfl⟩,λb hb=>?_,q⟩
  have e:b=s1.heap.objs.size:=by simpa using hb
  subst e
  exact I1.fpOk (aAG _) (I1.hok.fresh (aAG _))
noncomputable def srcOf(M:Mm):W->Option Src
 |.d (.tup xs)=>some ⟨xs,none⟩
 |.d (.lst xs)=>some ⟨xs,none⟩
 |.d (.fz xs)=>some ⟨xs,none⟩
 |.ref t=>(M[t]?).map λxs=>⟨xs,some t⟩
 |_=>none
noncomputable def iE(f:FE):FI:=λL M=>(f L M).bind λw M1=>match srcOf M1 w with
 |some s=>.ok s M1
 |none=>.bad
variable{s:Src}
theorem aAm{a:Addr}(S:List Addr->Hp->Prop)(s0:S μ H)(sx:∀μ1 H1 μ2 H2,Lsts μ1 H1->S μ1 H1->Ext μ1 H1 μ2 H2->S μ2 H2)
  (rd:∀μ1 H1 M1,HR K μ1 H1 M1->S μ1 H1->Chk s M1->∃vs,SqL K H1 a vs/\Rps K μ1 H1 s.ds vs):ItOk K μ H s (Itl K a):=by
 refine⟨S,s0,sx,λμ1 H1 M1 i hr hS hc=>?_⟩
 obtain⟨vs,h1,r1⟩:=rd μ1 H1 M1 hr hS hc
 refine⟨λd hd=>?_,λhl=>⟨vs,h1,by rw[<- r1.length];exact hl⟩⟩
 obtain⟨v,q1,q2⟩:=r1.get hd
 refine⟨⟨vs,v,h1,q1⟩,λx H2 y=>?_⟩
 obtain⟨rfl,y⟩:=y
 have:=y vs h1
 rw[q1]at this
 cases this
 exact⟨.refl,hr,q2⟩
theorem aMx{a:Addr}(S:List Addr->Hp->Prop)(s0:S μ H)(sx:∀μ1 H1 μ2 H2,Lsts μ1 H1->S μ1 H1->Ext μ1 H1 μ2 H2->S μ2 H2)
  (rd:∀μ1 H1 M1,HR K μ1 H1 M1->S μ1 H1->Chk s M1->∃vs,SqT K H1 a vs/\Rps K μ1 H1 s.ds vs):ItOk K μ H s (Itt K a):=by
 refine⟨S,s0,sx,λμ1 H1 M1 i hr hS hc=>?_⟩
 obtain⟨vs,h1,r1⟩:=rd μ1 H1 M1 hr hS hc
 refine⟨λd hd=>?_,λhl=>⟨vs,h1,by rw[<- r1.length];exact hl⟩⟩
 obtain⟨v,q1,q2⟩:=r1.get hd
 refine⟨⟨vs,v,h1,q1⟩,λx H2 y=>?_⟩
 obtain⟨rfl,y⟩:=y
 have:=y vs h1
 rw[q1]at this
 cases this
 exact⟨.refl,hr,q2⟩
theorem mG{d:D}:∀μ1 H1 μ2 H2,Lsts μ1 H1->Rp K μ1 H1 d v->Ext μ1 H1 μ2 H2->Rp K μ2 H2 d v:=λμ1 H1 μ2 H2 l h e=>Rp.ext l e d v h
theorem aNn(h:Ev X K Z e f):Ei X K Z tg e (iE f) qq:=by
 have h':=aSd (q:=qq) (tg:=tg) h.h
 rw[h.k]at h'
 refine⟨h.k,cqI h' ?_⟩
 rintro σ H R ⟨μ,M,L,hr,lr,p⟩
 refine⟨μ,M,L,hr,lr,p.bind.imp λμ1 H1 M1 w e1 hr1 _ p1 v rw'=>?_⟩
 cases w with
 |ref t =>
  simp only[srcOf]at p1
  cases q:M1[t]? with
  |none=>simp only[q,Option.map_none]at p1;exact p1.elim
  |some xs =>
   simp only[q,aHK]at p1
   obtain⟨a,qa,rfl,il⟩:=rw'
   obtain⟨a',vs,qa',h1,r1⟩:=hr1.at q qa
   rw[qa]at qa';cases qa'
   refine⟨a,rfl,.inl ⟨⟨vs,SqL.of h1⟩,p1 μ1 H1 .refl hr1 _ ?_⟩⟩
   refine aAm (λμ2 H2=>μ2[t]?=some a/\IsL H2 a) ⟨qa,il⟩ (λμ1 H1 μ2 H2 _ z e=>⟨e.pre _ _ z.1,z.2.ext e⟩) λμ2 H2 M2 hr2 z c=>?_
   obtain⟨a',vs,qa',h1,r1⟩:=hr2.at (c t rfl) z.1 z.2
   rw[z.1]at qa';cases qa'
   exact⟨vs,SqL.of h1,r1⟩
 |ob _ _=>exact p1.elim
 |nest _=>exact p1.elim
 |d x =>
  cases x with
  |tup xs =>
   have rw2:=rw'
   simp only[Rw,Rp]at rw'
   obtain⟨a,vs,rfl,h1,r1⟩:=rw'
   refine⟨a,rfl,.inr ⟨⟨vs,SqT.of h1⟩,p1 μ1 H1 .refl hr1 _ ?_⟩⟩
   refine aMx (λμ2 H2=>Rp K μ2 H2 (.tup xs) (.ref a)) rw2 mG λμ2 H2 M2 hr2 z c=>?_
   simp only[Rp]at z
   obtain⟨a',vs,e,h1,r1⟩:=z
   cases e
   exact⟨vs,SqT.of h1,r1⟩
  |lst xs =>
   have rw2:=rw'
   simp only[Rw,Rp]at rw'
   obtain⟨a,vs,rfl,h1,_,r1⟩:=rw'
   refine⟨a,rfl,.inl ⟨⟨vs,SqL.of h1⟩,p1 μ1 H1 .refl hr1 _ ?_⟩⟩
   refine aAm (λμ2 H2=>Rp K μ2 H2 (.lst xs) (.ref a)) rw2 mG λμ2 H2 M2 hr2 z c=>?_
   simp only[Rp]at z
   obtain⟨a',vs,e,h1,_,r1⟩:=z
   cases e
   exact⟨vs,SqL.of h1,r1⟩
  |fz xs =>
   have rw2:=rw'
   simp only[Rw,Rp]at rw'
   obtain⟨a,vs,rfl,h1,r1⟩:=rw'
   refine⟨a,rfl,.inl ⟨⟨vs,h1.sq⟩,p1 μ1 H1 .refl hr1 _ ?_⟩⟩
   refine aAm (λμ2 H2=>Rp K μ2 H2 (.fz xs) (.ref a)) rw2 mG λμ2 H2 M2 hr2 z c=>?_
   simp only[Rp]at z
   obtain⟨a',vs,e,h1,r1⟩:=z
   cases e
   exact⟨vs,h1.sq,r1⟩
  |_=>exact p1.elim
noncomputable def rngD(lo:Int)(n:Nat):List D:=(List.range n).map λk=>D.int (lo+(k:Nat))
variable{lo:Int}{n:Nat}
theorem fC{d:D}(h:(rngD lo n)[i]?=some d):i < n/\d=.int (lo+i):=by
 unfold rngD at h
 rw[aBJ]at h
 by_cases hi:i < n
 ·rw[List.getElem?_range hi]at h;simp at h;exact⟨hi,h.symm⟩
 ·rw[aDH (by simpa using hi)]at h;cases h
theorem aQj :ItOk K μ H ⟨rngD lo n,none⟩ (Itr lo n):=by
 refine⟨λ_ _=>True,trivial,λ_ _ _ _ _ _ _=>trivial,λμ1 H1 M1 i hr _ _=>⟨λd hd=>?_,λhl=>by simp only[rngD,aAK,aBS]at hl;exact hl⟩⟩
 obtain⟨hi,rfl⟩:=fC hd
 refine⟨hi,λx H2 y=>?_⟩
 obtain⟨rfl,rfl⟩:=y
 exact⟨.refl,hr,by simp[Rp]⟩
noncomputable def in62(i:Int):Bool:=decide (-4611686018427387904<=i/\i < 4611686018427387904)
noncomputable def iR1(f:FE):FI:=λL M=>(f L M).bind λw M1=>match w with
 |.d (.int j)=>if in62 j=true then .ok ⟨rngD 0 j.toNat,none⟩ M1 else .bad
 |_=>.bad
theorem cE(hm:X.mg "range"=none)(ha:Ev X K Z a f)(hg:Gl X "range":=by rfl)(hs:starEach [a] X.env=[(false,eval a X.env)]:=by rfl):Ei X K Z tg (.Call (.Name "range" p) [a] [] pos) (iR1 f) qq:=by
 refine⟨ha.k,cqI (aFc hg hm (bM ha.h cH hs) hs) ?_⟩
 rintro σ H R ⟨μ,M,L,hr,lr,p⟩
 refine⟨μ,M,L,hr,lr,p.bind.imp λμ1 H1 M1 w e1 hr1 _ p1 v rw'=>?_⟩
 cases w with
 |ref i=>exact p1.elim
 |ob _ _=>exact p1.elim
 |nest _=>exact p1.elim
 |d x=>cases x with
  |int j =>
   simp only at p1
   split at p1
   ·rename_i hz
    simp only[in62,aBH]at hz
    simp only[Rw,Rp]at rw'
    subst rw'
    exact⟨j,rfl,hz.1,hz.2,p1 μ1 H1 .refl hr1 _ aQj⟩
   ·exact p1.elim
  |_=>exact p1.elim
end
section
variable{K:Frag}{μ2:List Addr}{M M2:Mm}
theorem Ext.back(e:Ext μ H μ2 H2):Ext μ H μ H2:=⟨e.keep,λa h=>.inl h,λ_ _ h=>h,e.kin⟩
theorem Ext.take(e:Ext μ H μ2 H2):μ2.take μ.length=μ:=by
 apply aIH
 intro i
 rw[aHT]
 split
 ·rename_i hi
  have:=e.pre i μ[i] (by simp[hi])
  rw[this];simp[hi]
 ·rename_i hi
  rw[aDH (by lia)]
mutual
theorem Rp.sub(hs:∀a,a∈μ1->a∈μ):∀(d:D) (v:V),Rp K μ H d v->Rp K μ1 H d v
 |.non,v,h=>by simpa[Rp]using h
 |.bl b,v,h=>by simpa[Rp]using h
 |.int b,v,h=>by simpa[Rp]using h
 |.str b,v,h=>by simpa[Rp]using h
 |.tup ds,v,h=>by simp only[Rp]at h ⊢;obtain⟨a,vs,e1,e2,e3⟩:=h;exact⟨a,vs,e1,e2,Rps.sub hs ds vs e3⟩
 |.lst ds,v,h=>by simp only[Rp]at h ⊢;obtain⟨a,vs,e1,e2,n,e3⟩:=h;exact⟨a,vs,e1,e2,λz=>n (hs a z),Rps.sub hs ds vs e3⟩
 |.fz ds,v,h=>by simp only[Rp]at h ⊢;obtain⟨a,vs,e1,e2,e3⟩:=h;exact⟨a,vs,e1,e2,Rps.sub hs ds vs e3⟩
 |.exn c f ds,v,h=>by simp only[Rp]at h ⊢;obtain⟨a,vs,C,LE,d,e1,e2,e3,e4,e5⟩:=h;exact⟨a,vs,C,LE,d,e1,e2,e3,e4,Rps.sub hs ds vs e5⟩
theorem Rps.sub(hs:∀a,a∈μ1->a∈μ):∀(ds:List D) (vs:List V),Rps K μ H ds vs->Rps K μ1 H ds vs
 |[],vs,h=>by simpa[Rps]using h
 |d::ds,vs,h=>by simp only[Rps]at h ⊢;obtain⟨v,r,e1,e2,e3⟩:=h;exact⟨v,r,e1,Rp.sub hs d v e2,Rps.sub hs ds r e3⟩
end
theorem Frs.sub(hs:∀a,a∈μ1->a∈μ):∀{ds:List D} {fs:List (Str×V)},Frs K μ H ds fs->Frs K μ1 H ds fs
 |[],_,h=>h
 |_::_,_,⟨f,x,v,r,e1,e2,e3,e4⟩=>⟨f,x,v,r,e1,e2,Rp.sub hs _ _ e3,Frs.sub hs e4⟩
theorem Krs.sub(hs:∀a,a∈μ1->a∈μ):∀{ds:List D} {fs:List (List Key×V)},Krs K μ H ds fs->Krs K μ1 H ds fs
 |[],_,h=>h
 |_::_,_,⟨f,x,v,r,e1,e2,e3,e4⟩=>⟨f,x,v,r,e1,e2,Rp.sub hs _ _ e3,Krs.sub hs e4⟩
theorem Kns.sub(hs:∀a,a∈μ1->a∈μ):∀{ds:List D} {fs:List (Key×V)},Kns K μ H ds fs->Kns K μ1 H ds fs
 |[],_,h=>h
 |_::_,_,⟨f,x,v,r,e1,e2,e3,e4⟩=>⟨f,x,v,r,e1,e2,Rp.sub hs _ _ e3,Kns.sub hs e4⟩
theorem CelO.sub(hs:∀a,a∈μ1->a∈μ){o:HO}{ds:List D}(h:CelO K μ H o ds):CelO K μ1 H o ds:=by
 cases o <;> first|exact h.elim|skip
 all_goals first|exact Rps.sub hs _ _ h|exact Krs.sub hs h|exact Kns.sub hs h|exact Frs.sub hs h
theorem HR.back(h:HR K μ2 H2 M2)(e:Ext μ H μ2 H2):HR K μ H2 (M2.take μ.length):=by
 have ht:=e.take
 have hsub:∀a,a∈μ->a∈μ2:=λa ha=>by rw[<- ht]at ha;exact aBZ ha
 have hlen:μ.length<=μ2.length:=by have:=congrArg List.length ht;simp at this;lia
 refine⟨by rw[aCC,<- h.len];lia,by rw[<- ht];exact h.nd.sublist (List.take_sublist _ _),λi a ds q1 q2=>?_⟩
 rw[aHT]at q2
 split at q2
 ·obtain⟨vs,q3,q4⟩:=h.ent i a ds (e.pre i a q1) q2
  exact⟨vs,q3,CelO.sub hsub q4⟩
 ·cases q2
noncomputable def nestD(n:Nat)(M:Mm):List Nat->Option (List D)
 |[]=>some []
 |j::js=>if j < n then none else match M[j]?,nestD n M js with
  |some xs,some r=>some (.lst xs::r)
  |_,_=>none
noncomputable def retc(n:Nat)(w:W)(M:Mm):Oc W:=match w with
 |.d x=>.ok (.d x) (M.take n)
 |.ref i=>if i < n then .ok (.ref i) (M.take n)else match M[i]? with
  |some ds=>.ok (.d (.lst ds)) (M.take n)
  |none=>.bad
 |.ob c i=>if i < n then .ok (.ob c i) (M.take n)else .bad
 |.nest (.ls js)=>match nestD n M js with
  |some ds=>.ok (.d (.lst ds)) (M.take n)
  |none=>.bad
 |.nest (.pr x i)=>if i < n then .bad else match M[i]? with
  |some ds=>.ok (.d (.tup [x,.lst ds])) (M.take n)
  |none=>.bad
theorem HR.fresh(hr1:HR K μ2 H2 M2)(e1:Ext μ H μ2 H2){a:Addr}(qa:μ2[i]?=some a)(hi:¬i < μ.length):a∉μ:=λha=>by
 obtain⟨j,hj,ej⟩:=aFP.mp ha
 have h2:=e1.pre j a (by rw[<- ej];simp[hj])
 have l1:=(aAD.mp qa).1
 have l2:=(aAD.mp h2).1
 have g1:=(aAD.mp qa).2
 have g2:=(aAD.mp h2).2
 have pw:=aDI.mp hr1.nd
 exact pw j i l2 l1 (by lia) (g2.trans g1.symm)
theorem uR{n:Nat}(hn:n=μ.length)(e1:Ext μ H μ2 H2)(hr1:HR K μ2 H2 M2)(hsub:∀a,a∈μ->a∈μ2):∀{js:List Nat} {vs:List V} {ds:List D},Rjs μ2 H2 js vs->nestD n M2 js=some ds->Rps K μ H2 ds vs
 |[],vs,ds,h,q=>by cases h;simp only[nestD,aAQ]at q;subst q;exact .nil
 |j::js,vs,ds,⟨a,r,e1',e2,e3,e4⟩,q=>by
  subst e1'
  simp only[nestD]at q
  split at q
  ·cases q
  ·rename_i hj
   cases q1:M2[j]? with
   |none=>rw[q1]at q;cases q
   |some xs =>
    cases q2:nestD n M2 js with
    |none=>rw[q1,q2]at q;cases q
    |some r' =>
     rw[q1,q2]at q;cases q
     obtain⟨a',us,qa',h1,r1⟩:=hr1.at q1 e2 e3
     rw[e2]at qa';cases qa'
     refine .cons ?_ (uR hn e1 hr1 hsub e4 q2)
     simp only[Rp]
     exact⟨a,us,rfl,h1,hr1.fresh e1 e2 (by lia),Rps.sub hsub _ _ r1⟩
theorem kH{w:W}{Q:VK}(hr:HR K μ H M)(e1:Ext μ H μ2 H2)(hr1:HR K μ2 H2 M2)(hw:(∃c i,w=.ob c i)\/∃js,w=.nest js)(rv:Rw K μ2 H2 w v)(p:Pst K Z μ H (retc M.length w M2) (Wk K Q)):Q v H2:=by
 have hb:=hr1.back e1
 rw[hr.len]at hb
 have hsub:∀a,a∈μ->a∈μ2:=λa ha=>by rw[<- e1.take]at ha;exact aBZ ha
 rcases hw with⟨c,i,rfl⟩|⟨js,rfl⟩
 ·simp only[retc]at p
  split at p
  ·rename_i hi
   obtain⟨a,qa,rfl,il⟩:=rv
   refine p μ H2 e1.back hb _ ⟨a,?_,rfl,il⟩
   rw[<- hr.len]at hi
   have:=e1.pre i μ[i] (by simp[hi])
   rw[qa]at this;cases this
   simp[hi]
  ·exact p.elim
 ·cases js with
  |ls js =>
   simp only[retc]at p
   cases q:nestD M.length M2 js with
   |none=>rw[q]at p;exact p.elim
   |some ds =>
    rw[q]at p
    obtain⟨a,vs,rfl,h1,hna,hj⟩:=rv
    refine p μ H2 e1.back hb _ ?_
    simp only[Rw,Rp]
    exact⟨a,vs,rfl,h1,λz=>hna (hsub a z),uR hr.len.symm e1 hr1 hsub hj q⟩
  |pr x i =>
   simp only[retc]at p
   split at p
   ·exact p.elim
   ·rename_i hi
    cases q:M2[i]? with
    |none=>rw[q]at p;exact p.elim
    |some ds =>
     rw[q]at p
     obtain⟨a,vs,rfl,h1,v,b,rfl,rp,mb,il⟩:=rv
     obtain⟨a',us,qa',h2,r1⟩:=hr1.at q mb il
     rw[mb]at qa';cases qa'
     refine p μ H2 e1.back hb _ ?_
     simp only[Rw,Rp]
     refine⟨a,_,rfl,h1,.cons (Rp.sub hsub _ _ rp) (.cons ?_ .nil)⟩
     simp only[Rp]
     exact⟨b,us,rfl,h2,hr1.fresh e1 mb (by rw[hr.len];exact hi),Rps.sub hsub _ _ r1⟩
end
noncomputable def outL(js:List (Option Nat))(L:Lc):Lc:=js.map λo=>o.bind λj=>(L[j]?).join
open Classical in
noncomputable def compD(t:Nat)(s:Src)(g:FG)(c:FT)(f:FE):List D->Lc->Mm->Oc Unit
 |[]=>λ_ M=>if Chk s M then .ok () M else .bad
 |d::r=>λL M=>if Chk s M then(g (.d d) L M).bind λL1 M1=>(c L1 M1).bind λb M2=>if b=true then(f L1 M2).bind λw M3=>match w,M3[t]? with
   |.d x,some acc=>if acc.length < 16777216 then compD t s g c f r L1 (M3.set t (acc++[x]))else .bad
   |_,_=>.bad
   else compD t s g c f r L1 M2
  else .bad
noncomputable section
def compT(js:List (Option Nat))(fi:FI)(g:FG)(c:FT)(f:FE)(L:Lc)(M:Mm):Oc (List D):=(fi L M).bind λs M1=>match compD M1.length s g c f s.ds (outL js L) (M1++[[]])with
 |.ok _ M2=>match M2[M1.length]? with
  |some acc=>.ok acc (M2.take M1.length)
  |none=>.bad
 |_=>.bad
def eComp(js:List (Option Nat))(fi:FI)(g:FG)(c:FT)(f:FE):FE:=λL M=>(compT js fi g c f L M).bind λacc M1=>.ok (.d (.lst acc)) M1
def tYes:FT:=λ_ M=>.ok true M
end
structure Eif(X:Cx)(K:Frag)(Z:Zt)(ifs:List Expr)(t:FT):Prop where
 k:X.K=K
 h:PIf X ifs (liftT K Z t)
section
variable{K:Frag}{M:Mm}{e a b o:Expr}{es:List Expr}{fb:FE}{fs:FA}{rest:List Stmt}{G:FS}
theorem jV(hk:X.K=K:=by rfl):Eif X K Z [] tYes:=⟨hk,λpins s σ H Q I ⟨μ,M,L,hr,lr,p⟩=>aJz pins s σ H Q I (p μ H .refl hr)⟩
theorem wC{c:Expr}{t:FT}(h:Et X K Z c t):Eif X K Z [c] t:=⟨h.k,aJr h.h⟩
variable{σ:St}
theorem LR.out(h:LR K μ H L σ):LR K μ H (outL js L) (outσ js σ)where
 len:=by simp[outL,outσ]
 ent:=λi w q=>by
  unfold outL at q
  unfold outσ
  rw[aBJ]at q ⊢
  cases e:js[i]? with
  |none=>rw[e]at q;cases q
  |some oj =>
   rw[e]at q
   cases oj with
   |none=>simp at q
   |some j =>
    simp only[aHK,aDT,aAQ]at q ⊢
    cases e2:L[j]? with
    |none=>rw[e2]at q;cases q
    |some ow =>
     rw[e2]at q
     simp at q
     subst q
     obtain⟨v,q1,q2⟩:=h.ent j w e2
     exact⟨v,by rw[q1];rfl,q2⟩
variable{c:FT}
theorem aGp{Zi:Zt}{s:Src}{g:FG}{J:It}{Dt:Addr}{Q:Hp->Prop}(n:Nat)(μ0:List Addr)(H0:Hp)(e0:Ext μ0 H0 μ H)(hn:μ0.length=n)(hD:μ[n]?=some Dt)(hIL:IsL H Dt)
  (hr:HR K μ H M)(lr:LR K μ H L σ)(hJ:ItOk K μ H s J)
  (p:match compD n s g c f s.ds L M with
   |.ok _ M2=>∀μ2 H2,Ext μ H μ2 H2->HR K μ2 H2 M2->Q H2
   |.ex z M2=>Zi.z z M2 μ H
   |.bad=>False):tTurns J (liftG K Zi g) (liftT K Zi c) (lift K Zi f) Dt σ H Q:=by
 obtain⟨S,s0,sx,step⟩:=hJ
 let R:List Addr->Hp->Lc->Mm->List D->Prop:=λμ1 H1 L M rest=>match compD n s g c f rest L M with
   |.ok _ M2=>∀μ2 H2,Ext μ1 H1 μ2 H2->HR K μ2 H2 M2->Q H2
   |.ex z M2=>Zi.z z M2 μ1 H1
   |.bad=>False
 refine⟨λi m σ H1=>m=s.ds.length - i/\i<=s.ds.length/\∃μ1 M L,Ext μ0 H0 μ1 H1/\(μ1[n]?=some Dt/\IsL H1 Dt)/\HR K μ1 H1 M/\LR K μ1 H1 L σ/\S μ1 H1/\R μ1 H1 L M (s.ds.drop i),⟨s.ds.length,by simp,aDB _,μ,M,L,e0,⟨hD,hIL⟩,hr,lr,s0,by simpa[R]using p⟩,?_⟩
 rintro i m σ H1 ⟨rfl,hi,μ1,M,L,e1,⟨hD1,hI1⟩,hr,lr,sS,p⟩
 by_cases hlt:i < s.ds.length
 ·simp only[R]at p
  rw[aCI hlt]at p
  unfold compD at p
  by_cases hch:Chk s M
  ·rw[aAI hch]at p
   obtain⟨go,yl⟩:=(step μ1 H1 M i hr sS hch).1 s.ds[i] (by simp[hlt])
   refine .inr ⟨go,λσ' H'=>i+1<=s.ds.length/\∃μ1 M L,Ext μ0 H0 μ1 H'/\(μ1[n]?=some Dt/\IsL H' Dt)/\HR K μ1 H' M/\LR K μ1 H' L σ'/\S μ1 H'/\R μ1 H' L M (s.ds.drop (i+1)),λσ' H' q=>⟨s.ds.length - (i+1),by lia,rfl,q.1,q.2⟩,λx H2 y=>?_⟩
   obtain⟨e2,hr2,rx⟩:=yl x H2 y
   have lr2:=lr.ext hr.lsts e2
   have s2:=sx _ _ _ _ hr.lsts sS e2
   refine⟨μ1,M,L,.d s.ds[i],hr2,lr2,rx,?_⟩
   cases q3:g (.d s.ds[i]) L M with
   |bad=>rw[q3]at p;exact p.elim
   |ex z M2=>rw[q3]at p;exact Zi.mono e2 p
   |ok L3 M3 =>
    rw[q3]at p
    intro μ3 H3 e3 hr3 σ3 lr3
    refine⟨μ3,M3,L3,hr3,lr3,?_⟩
    simp only[eD]at p
    have s3:=sx _ _ _ _ hr2.lsts s2 e3
    cases q4:c L3 M3 with
    |bad=>rw[q4]at p;exact p.elim
    |ex z M2=>rw[q4]at p;exact Zi.mono (e2.trans e3) p
    |ok b M4 =>
     rw[q4]at p
     intro μ4 H4 e4 hr4
     simp only[eD]at p
     have s4:=sx _ _ _ _ hr3.lsts s3 e4
     have lr4:=lr3.ext hr3.lsts e4
     have E4:=((e1.trans e2).trans e3).trans e4
     have D4:=e4.pre _ _ (e3.pre _ _ (e2.pre _ _ hD1))
     cases b with
     |false =>
      refine⟨hlt,μ4,M4,L3,E4,⟨D4,hI1.ext ((e2.trans e3).trans e4)⟩,hr4,lr4,s4,?_⟩
      simp only[R]
      simp only[aCP,aEF]at p
      cases q5:compD n s g c f (s.ds.drop (i+1)) L3 M4 with
      |ok u M5=>rw[q5]at p;exact λμ5 H5 e5 hr5=>p μ5 H5 (((e2.trans e3).trans e4).trans e5) hr5
      |ex z M5=>rw[q5]at p;exact Zi.mono ((e2.trans e3).trans e4) p
      |bad=>rw[q5]at p;exact p
     |true =>
      simp only[aEA]at p
      refine⟨μ4,M4,L3,hr4,lr4,?_⟩
      cases q5:f L3 M4 with
      |bad=>rw[q5]at p;exact p.elim
      |ex z M2=>rw[q5]at p;exact Zi.mono ((e2.trans e3).trans e4) p
      |ok w M5 =>
       rw[q5]at p
       intro μ5 H5 e5 hr5 v rw'
       simp only[eD]at p
       cases w with
       |ref k=>exact p.elim
       |ob _ _=>exact p.elim
       |nest _=>exact p.elim
       |d x =>
        cases q6:M5[n]? with
        |none=>rw[q6]at p;exact p.elim
        |some acc =>
         rw[q6]at p
         simp only at p
         by_cases hz:acc.length < 16777216
         ·rw[aAI hz]at p
          have D5:=e5.pre _ _ D4
          have I5:=hI1.ext (((e2.trans e3).trans e4).trans e5)
          obtain⟨a',vs,qa',h1,r1⟩:=hr5.at q6 D5
          rw[D5]at qa';cases qa'
          refine⟨vs,h1,by rw[<- r1.length,aBC];exact hz,hlt,μ5,M5.set n (acc++[x]),L3,(E4.trans e5).trans (cY D5),⟨D5,_,bE⟩,hr5.set D5 (r1.append (.cons rw' .nil)),?_,?_,?_⟩
          ·exact(lr4.ext hr4.lsts e5).ext hr5.lsts (cY D5)
          ·exact sx _ _ _ _ hr5.lsts (sx _ _ _ _ hr4.lsts s4 e5) (cY D5)
          ·simp only[R]
           cases q7:compD n s g c f (s.ds.drop (i+1)) L3 (M5.set n (acc++[x]))with
           |ok u M6=>rw[q7]at p;exact λμ6 H6 e6 hr6=>p μ6 H6 (((((e2.trans e3).trans e4).trans e5).trans (cY D5)).trans e6) hr6
           |ex z M6=>rw[q7]at p;exact Zi.mono ((((e2.trans e3).trans e4).trans e5).trans (cY D5)) p
           |bad=>rw[q7]at p;exact p
         ·rw[aAL hz]at p;exact p.elim
  ·rw[aAL hch]at p;exact p.elim
 ·have e:i=s.ds.length:=by lia
  subst e
  simp only[R]at p
  rw[aFD (aAG _)]at p
  unfold compD at p
  by_cases hch:Chk s M
  ·rw[aAI hch]at p
   exact .inl ⟨(step μ1 H1 M _ hr sS hch).2 (aAG _),p μ1 H1 .refl hr⟩
  ·rw[aAL hch]at p;exact p.elim
variable{fi:FI}
theorem aHw{g:FG}{Q:VK}(h:∃μ M L,HR K μ H M/\LR K μ H L σ/\Pst K Z μ H (compT js fi g c f L M) λμ' H' M' acc=>∀q vs,H' q=some (.lst vs)->q∉μ'->Rps K μ' H' acc vs->Q (.ref q) H') :
  tComp js (liftI K Z fi) (liftG K Z0 g) (liftT K Z0 c) (lift K Z0 f) σ H Q:=by
 obtain⟨μ,M,L,hr,lr,p⟩:=h
 refine⟨μ,M,L,hr,lr,p.bind.imp λμ1 H1 M1 s e1 hr1 _ p1 J hJ Dt hDt=>?_⟩
 have x:=aDy (vs:=[]) hr1 hDt
 have hlen:=hr1.len
 obtain⟨S,s0,sx,step⟩:=hJ
 refine aGp (M:=M1++[[]]) M1.length μ1 H1 x hr1.len (by rw[<- hlen];simp) ⟨_,bE⟩ (hr1.new hDt .nil) (LR.out ((lr.ext hr.lsts e1).ext hr1.lsts x)) ⟨S,sx _ _ _ _ hr1.lsts s0 x,sx,step⟩ ?_
 cases q:compD M1.length s g c f s.ds (outL js L) (M1++[[]])with
 |bad=>simp only[q]at p1;exact p1.elim
 |ex z M2=>simp only[q]at p1;exact p1.elim
 |ok u M2 =>
  simp only[q]at p1
  intro μ2 H2 e2 hr2
  cases q2:M2[M1.length]? with
  |none=>simp only[q2]at p1;exact p1.elim
  |some acc =>
   simp only[q2]at p1
   have E:=x.trans e2
   have hb:=hr2.back E
   rw[hlen]at hb
   have hD2:μ2[M1.length]?=some Dt:=e2.pre _ _ (by rw[<- hlen];simp)
   obtain⟨a',vs,qa',h1,r1⟩:=hr2.at q2 hD2 (IsL.ext e2 ⟨_,bE⟩)
   rw[hD2]at qa';cases qa'
   exact p1 μ1 H2 E.back hb Dt vs h1 (hr1.out hDt) (Rps.sub (λa ha=>by rw[<- E.take]at ha;exact aBZ ha) _ _ r1)
theorem xU{g:FG} :∀σ H Q,lift K Z (eComp js fi g c f) σ H Q->tComp js (liftI K Z fi) (liftG K Z0 g) (liftT K Z0 c) (lift K Z0 f) σ H Q:=by
 rintro σ H Q ⟨μ,M,L,hr,lr,p⟩
 refine aHw ⟨μ,M,L,hr,lr,p.bind.imp λμ1 H1 M1 acc e1 hr1 _ p1 q vs h1 h2 h3=>?_⟩
 exact p1 μ1 H1 .refl hr1 _ (by simp only[Rw,Rp];exact⟨q,vs,rfl,h1,h2,h3⟩)
variable{ifs:List Expr}{scope:Scope}
theorem aFz{elt:Expr}{g:FG}(hc:X.calm=true\/qq)(T:CompOk X.N X.env.scope scope Nc js)(hit:Ei X K Z tg iter fi qq)
  (hg:∀cl C fp pins s₂ H₂,Eg (compCx X Nc scope cl C fp pins s₂ H₂) K Z0 tg g)(hi:∀cl C fp pins s₂ H₂,Eif (compCx X Nc scope cl C fp pins s₂ H₂) K Z0 ifs c)(he:∀cl C fp pins s₂ H₂,Ev (compCx X Nc scope cl C fp pins s₂ H₂) K Z0 elt f)
  (hs:∀x,foldedSetIterable iter X.env x=pure x:=by intro _;rfl):Ev X K Z (.ListComp elt [⟨tg,iter,ifs,0⟩] scope pos) (eComp js fi g c f) :=
 ⟨hit.k,cqE (aGg hc T hit.h (λ_ _ _ _ _ _=>(hg _ _ _ _ _ _).h) (λ_ _ _ _ _ _=>(hi _ _ _ _ _ _).h) (λ_ _ _ _ _ _=>(he _ _ _ _ _ _).h) hs) xU⟩
theorem iH{elt:Expr}{g:FG}(hc:X.calm=true)(T:CompOk X.N X.env.scope scope Nc js)(hit:Ei X K Z tg iter fi)
  (hg:∀cl C fp pins s₂ H₂,Eg (compCx X Nc scope cl C fp pins s₂ H₂) K Z0 tg g)(hi:∀cl C fp pins s₂ H₂,Eif (compCx X Nc scope cl C fp pins s₂ H₂) K Z0 ifs c)(he:∀cl C fp pins s₂ H₂,Ev (compCx X Nc scope cl C fp pins s₂ H₂) K Z0 elt f)
  (hs:∀x,foldedSetIterable iter X.env x=pure x:=by intro _;rfl):Ev X K Z (.ListComp elt [⟨tg,iter,ifs,0⟩] scope pos) (eComp js fi g c f):=aFz (.inl hc) T hit hg hi he hs
theorem aDm{elt:Expr}{g:FG}{spos:Pos}(hN:X.N.Nodup)(hc:X.calm=true)(T:CompOk X.N X.env.scope scope Nc js)(hit:Ei X K Z tg iter fi)
  (hg:∀cl C fp pins s₂ H₂,Eg (compCx X Nc scope cl C fp pins s₂ H₂) K Z0 tg g)(hi:∀cl C fp pins s₂ H₂,Eif (compCx X Nc scope cl C fp pins s₂ H₂) K Z0 ifs c)(he:∀cl C fp pins s₂ H₂,Ev (compCx X Nc scope cl C fp pins s₂ H₂) K Z0 elt f)
  (hyi:X.N[i]?=some y:=by rfl)(hy:X.env.scope.names.lookup y=some .local:=by rfl)
  (hsw:swapsWith (.ListComp elt [⟨tg,iter,ifs,0⟩] scope pos) (some (.Name y py)) spos.line X.env=pure true:=by rfl)
  (hs:∀x,foldedSetIterable iter X.env x=pure x:=by intro _;rfl):Es X K Z (.Assign [.Name y py] (.ListComp elt [⟨tg,iter,ifs,0⟩] scope pos) spos) (sAs (eComp js fi g c f) (gN i)):=by
 refine⟨hit.k,cqS (aLd hN hyi hy hc T hit.h (λ_ _ _ _ _ _=>(hg _ _ _ _ _ _).h) (λ_ _ _ _ _ _=>(hi _ _ _ _ _ _).h) (λ_ _ _ _ _ _=>(he _ _ _ _ _ _).h) hsw hs) ?_⟩
 rintro E σ H ⟨μ,M,L,hr,lr,p⟩
 refine xU _ _ _ ⟨μ,M,L,hr,lr,p.bind.imp λμ1 H1 M1 x e1 hr1 _ p1 v rx=>?_⟩
 exact p1 μ1 H1 .refl hr1 _ (LR.set (lr.ext hr.lsts e1) rx)
noncomputable section
def fnD(m n:Nat)(F:FS):Fn:=λws M=>if ws.length=m then(F (ws.map some++List.replicate (n - ws.length) none) M).bind λo M'=>match o with
  |.rt w=>retc M.length w M'
  |.nx _=>.ok (.d .non) (M'.take M.length)
  |_=>.bad
 else .bad
def fnR(m n:Nat)(F:FS):Fn:=λws M=>if ws.length=m then(F (ws.map some++List.replicate (n - ws.length) none) M).bind λo M'=>match o with
  |.rt (.ref i)=>if M.length<=i then(match M'[i]? with
   |some ds=>.ok (.ref M.length) (M'.take M.length++[ds])
   |none=>.bad)else .bad
  |_=>.bad
 else .bad
def spF(K:Frag)(Z:Zt)(m:Nat)(Fm:Fn):Sp:=λvs H Q E=>vs.length=m/\∃μ M ws,HR K μ H M/\Rws K μ H ws vs/\Pst K Z μ H (Fm ws M) (Wk K Q)
end
theorem sM{ws:List W}(r:Rws K μ H ws vs):LR K μ H (ws.map some++List.replicate (N.length - ws.length) none) (L2.start N vs):=by
 have hl:=r.length
 refine⟨by simp[L2.start,hl],λi w q=>?_⟩
 by_cases hi:i < ws.length
 ·rw[aAT (by simpa using hi),aBJ]at q
  cases e:ws[i]? with
  |none=>rw[e]at q;cases q
  |some w' =>
   rw[e]at q;cases q
   obtain⟨v,q1,q2⟩:=r.get e
   refine⟨v,?_,q2⟩
   unfold L2.start
   rw[aAT (by simp;lia),aBJ,q1];rfl
 ·rw[aBK (by simpa using hi),List.getElem?_replicate]at q
  split at q <;> cases q
variable{k:Nat}
theorem aQh{fa:Addr}(hf:Fun K x qual st fa fd)(S:FnScope N ps (defScope st))
  (hb:∀(cdv:Value) (A:Around) (outer:List Env) (s:Shared) (H:Hp) (E:XK),Room k (A.deeper (envOfC qual (defScope st) s.heap.objs.size fa cdv))->Ess (cxOf CX0 P w K mg base N qual (defScope st) fa cdv A outer s H E).nox K Z0 (defBody st) F) :
  FnOk P w K mg base CX0 (k+1) fa fd ps (spF K Z0 ps.length (fnR ps.length N.length F)):=by
 refine hf.ok S (λvs H Q E h=>h.1) λcdv A outer s H vs Q E hr hsp=>⟨_,(hb cdv A outer s H E hr).h,?_⟩
 obtain⟨hv,μ,M,ws,hr,rx,p⟩:=hsp
 refine⟨μ,M,_,hr,sM rx,?_⟩
 unfold fnR at p
 rw[aAI (by rw[rx.length];exact hv)]at p
 cases q:F (ws.map some++List.replicate (N.length - ws.length) none) M with
 |bad=>rw[q]at p;exact p
 |ex z M'=>rw[q]at p;exact p
 |ok o M' =>
  rw[q]at p
  simp only[eD]at p
  intro μ1 H1 e1 hr1
  have hb:=hr1.back e1
  rw[hr.len]at hb
  cases o with
  |nx L'=>exact p.elim
  |bk L'=>exact p.elim
  |ct L'=>exact p.elim
  |rt w =>
   intro v rv
   have hsub:∀a,a∈μ->a∈μ1:=λa ha=>by rw[<- e1.take]at ha;exact aBZ ha
   cases w with
   |d x=>exact p.elim
   |ob _ _=>exact p.elim
   |nest _=>exact p.elim
   |ref i =>
    simp only at p
    split at p
    ·rename_i hi
     cases q2:M'[i]? with
     |none=>simp only[q2]at p;exact p.elim
     |some ds =>
      simp only[q2]at p
      obtain⟨a,qa,rfl,il⟩:=rv
      obtain⟨a',vs',qa',h1,r1⟩:=hr1.at q2 qa
      rw[qa]at qa';cases qa'
      have hna:a∉μ:=λha=>by
       obtain⟨j,hj,ej⟩:=aFP.mp ha
       have h2:=e1.pre j a (by rw[<- ej];simp[hj])
       have l1:=(aAD.mp qa).1
       have l2:=(aAD.mp h2).1
       have g1:=(aAD.mp qa).2
       have g2:=(aAD.mp h2).2
       have pw:=aDI.mp hr1.nd
       rw[hr.len]at hj
       exact pw j i l2 l1 (by lia) (g2.trans g1.symm)
      have hsub2:∀b,b∈μ++[a]->b∈μ1:=λb hb=>by
       rcases aAX.mp hb with hb|hb
       ·exact hsub b hb
       ·rw[aAM]at hb;subst hb;exact aBM qa
      refine p (μ++[a]) H1 ⟨e1.keep,λb hb=>e1.new b (hsub2 b hb),λj b hj=>by rw[aAT (aAD.mp hj).1];exact hj,e1.kin⟩ ?_ _ ⟨a,by rw[<- hr.len];simp,rfl,_,h1⟩
      refine⟨by simp[hb.len],List.nodup_append.mpr ⟨hb.nd,by simp,λb hb' c hc=>by rw[aAM]at hc;subst hc;rintro rfl;exact hna hb'⟩,λj b es q1 q3=>?_⟩
      by_cases hj:j < μ.length
      ·rw[aAT hj]at q1
       rw[aAT (by rw[<- hb.len];exact hj),aHT]at q3
       split at q3
       ·obtain⟨us,q4,q5⟩:=hr1.ent j b es (e1.pre j b q1) q3
        exact⟨us,q4,CelO.sub hsub2 q5⟩
       ·cases q3
      ·have hj':j=μ.length:=by have:=(aAD.mp q1).1;simp at this;lia
       subst hj'
       rw[aBK (aAG _)]at q1
       rw[hb.len,aBK (aAG _)]at q3
       simp at q1 q3
       subst q1 q3
       exact⟨_,h1,Rps.sub hsub2 _ _ r1⟩
    ·exact p.elim
theorem aLb{fa:Addr}(Gf:FnOk X.prog X.w X.K X.mg X.base CX0 k fa fd ps (spF K Z0 m Fm))(hr:Room k X.A)(hm:X.mg x=some (.ref fa))(hk:keepIn X.K (.ref fa)=true)(hb:Binds X.K fd ps [])
  (ha:Ea X K Z0 (e::es) fs)(hl:ps.length=m:=by rfl)(hg:Gl X x:=by rfl)(hdb:(x==("__debug__":Str))=false:=by decide)(he:starEach (e::es) X.env=(false,eval e X.env)::starEach es X.env:=by rfl)(hpl:(backTo pos (starEach es X.env)).any (·.1)=false:=by rfl)
  (hlen:∀ws M,ws.length≠m->Fm ws M=.bad:=by intro ws M h;first|exact aAL h|rfl):Ev X K Z0 (.Call (.Name x p) (e::es) [] pos) (eA Fm fs):=by
 refine⟨ha.k,cqE (wY Gf hr hg hm hk hb .nil pass0 ha.h hdb he hpl) ?_⟩
 rintro σ H Q ⟨μ,M,L,hr,lr,p⟩
 refine⟨μ,M,L,hr,lr,p.bind.imp λμ1 H1 M1 ws e1 hr1 _ p1 vs rx=>?_⟩
 show spF K Z0 m Fm (vs++[]) H1 Q E0
 rw[aEE]
 refine⟨?_,μ1,M1,ws,hr1,rx,p1⟩
 by_cases hw:ws.length=m
 ·rw[<- rx.length];exact hw
 ·rw[hlen ws M1 hw]at p1;exact p1.elim
theorem aQp{a:Addr}(hO:Only H)(hS:SqL K H a (ns.map V.int))(h:∃M',Fm [.d (.fz (ns.map D.int))] []=.ok (.d (.bl true)) M'):spF K Z0 1 Fm [.ref a] H (λv _=>v=.bl true) λ_ _ _=>False:=by
 obtain⟨M',h⟩:=h
 refine⟨rfl,[],[],[.d (.fz (ns.map D.int))],⟨rfl,List.nodup_nil,λi a ds q=>by simp at q⟩,⟨.ref a,[],rfl,?_,rfl⟩,?_⟩
 ·simp only[Rw,Rp]
  refine⟨a,ns.map V.int,rfl,?_,Rps.ints⟩
  rcases hS with(z|z)|z
  ·rcases hO a with q|⟨o,xs,q⟩ <;> rw[z]at q <;> cases q
  ·exact .inl z
  ·exact .inr z
 ·rw[h]
  intro μ' H' _ _ v rv
  simpa only[Rw,Rp]using rv
end
@[irreducible] noncomputable def NW:Nat:=18446744073709551616
theorem xZ:NW=18446744073709551616:=by unfold NW;rfl
variable{k:Nat}
theorem aJ(hr:Room k A):A.units+101 < cLine:=by have:=hr.un;lia
theorem aNj{f:Addr}(hl:ps.length=m):FnOk P w K mg base CX k f fd ps (spF K Z m (λ_ _=>.bad)) :=
 ⟨λvs H Q E h=>by rw[h.1,hl],λA outer s H args us vs Q E _ _ _ _ h=>by obtain⟨_,μ,M,ws,_,_,p⟩:=h;exact p.elim⟩
section
variable{K:Frag}{M:Mm}{e a b o:Expr}{es:List Expr}{fb:FE}{fs:FA}{rest:List Stmt}{G:FS}
end
end EV
namespace ZP
variable{prog:Program}{E:Value->Shared->Prop}{x:Value}
theorem mQ(hit:s.heap.IsTupleIter it l i)
  (hl:s.heap.IsTuple l items)(hx:items[i]?=some x)
  (hQ:∀h',h'.IsTupleIter it l (i+1)->Heap.SameBut it s.heap h'->Q x {s with heap:=h'}) :
  wpAny (model prog w) A (Builtin.SmallTypes.nextOf (.ref it)) Q E s:=by
 obtain⟨o,ho,hc,hd⟩:=id hit
 obtain⟨ol,hol,_,nl,hdl⟩:=hl
 unfold Builtin.SmallTypes.nextOf
 refine aAA (aAU (name:=Str.ofString "__next__") hit.typeIs aCQ
  (aAZ aCQ hit.typeIs aFL ?_ (aFJ _)))
 show wpAny _ _ (field (.ref it) 0 >>= _) _ _ s
 refine aAA (aAN ho hd (x:=.ref l) rfl ?_)
 show wpAny _ _ (if(Value.ref l==Value.none)=true then _ else _) _ _ s
 rw[aAL (show ¬((Value.ref l==Value.none)=true)from aBA)]
 show wpAny _ _ (field (.ref it) 1 >>= _) _ _ s
 refine aAA (aAN ho hd (x:=.int i 0) rfl ?_)
 show wpAny _ _ (seqItems? (.ref l) >>= _) _ _ s
 refine aAA (aCR hol hdl ?_)
 simp only[aDP,hx]
 refine aAA (aBX ho hd (by simp) (aAC ⟨x,rfl,aAC (hQ _ ?_ (aDR ..))⟩))
 exact⟨_,aBG _ ho (aFF (aCW hd _)),(aID ..).trans hc,by
  rw[aCW hd];simp[rawInt]⟩
theorem oP(hh:A.handled=none)
  (hit:s.heap.IsTupleIter it l i)(hl:s.heap.IsTuple l items)(hx:items[i]?=none)
  (hE:∀h' e,Heap.ExtBut it s.heap h'->(∃o,h'.get? e=some o/\o.cls=.type "StopIteration")->E (.ref e) {s with heap:=h'}) :
  wpAny (model prog w) A (Builtin.SmallTypes.nextOf (.ref it)) Q E s:=by
 obtain⟨o,ho,hc,hd⟩:=id hit
 obtain⟨ol,hol,_,nl,hdl⟩:=hl
 unfold Builtin.SmallTypes.nextOf
 refine aAA (aAU (name:=Str.ofString "__next__") hit.typeIs aCQ
  (aAZ aCQ hit.typeIs aFL ?_ (aFJ _)))
 show wpAny _ _ (field (.ref it) 0 >>= _) _ _ s
 refine aAA (aAN ho hd (x:=.ref l) rfl ?_)
 show wpAny _ _ (if(Value.ref l==Value.none)=true then _ else _) _ _ s
 rw[aAL (show ¬((Value.ref l==Value.none)=true)from aBA)]
 show wpAny _ _ (field (.ref it) 1 >>= _) _ _ s
 refine aAA (aAN ho hd (x:=.int i 0) rfl ?_)
 show wpAny _ _ (seqItems? (.ref l) >>= _) _ _ s
 refine aAA (aCR hol hdl ?_)
 simp only[aDP,hx]
 refine aAA (aCJ (aAA (aBX ho hd (by simp) ?_)))
 show wpAny _ _ (newExc (.type "StopIteration") [] >>= _) _ _ _
 refine aAA ?_
 simp only[newExc,newTuple]
 refine aAA (aBI ?_ (by size_fits))
 refine aAA (m:=firstArgMember _ _) (aBY (a:=Value.none) (by first|rfl|(simp only[firstArgMember];rfl)) ?_)
 refine aBI ?_ (by size_fits)
 simp only[raiseNew]
 refine aAA (wpAny_handled ?_)
 first|rw[show A.in1.handled=none from hh]|rw[hh]
 refine aAA (aAC (wpAny_throw ?_))
 exact hE _ _ (((aDR ..).extBut.push _).push _) ⟨_,aAE _ rfl,rfl⟩
noncomputable def It1(h:Heap)(it src:Addr)(i:Nat)(xs:Array Value):Prop:=(h.IsListIter it src i/\h.IsList src xs)\/(h.IsTupleIter it src i/\h.IsTuple src xs)
theorem It1.at{h h':Heap}{it src:Addr}{i:Nat}{xs:Array Value}(x:It1 h it src i xs)(k1:∀o,h.get? it=some o->h'.get? it=some o)(k2:∀o,h.get? src=some o->h'.get? src=some o):It1 h' it src i xs:=by
 rcases x with⟨a,b⟩|⟨a,b⟩
 ·exact .inl ⟨a.at k1,b.at k2⟩
 ·refine .inr ⟨a.at k1,?_⟩
  obtain⟨o,ho,r⟩:=b
  exact⟨o,k2 o ho,r⟩
theorem It1.lt(x:It1 h it src i xs):it < h.objs.size:=by
 rcases x with⟨⟨_,e,_⟩,_⟩|⟨⟨_,e,_⟩,_⟩ <;> exact aAF e
theorem It1.ne(x:It1 h it src i xs):src≠it:=by
 rintro rfl
 rcases x with⟨⟨o,e,c,_⟩,⟨o',e',c',_⟩⟩|⟨⟨o,e,c,_⟩,⟨o',e',c',_⟩⟩ <;> (rw[e]at e';cases e';rw[c]at c';simp at c')
theorem It1.next(h:It1 s.heap it src i xs)(hx:xs[i]?=some x)(hQ:∀h',It1 h' it src (i+1) xs->Heap.SameBut it s.heap h'->Q x {s with heap:=h'}) :
  wpAny (model prog w) A (Builtin.SmallTypes.nextOf (.ref it)) Q E s:=by
 have hn:=h.ne
 rcases h with⟨a,b⟩|⟨a,b⟩
 ·exact wpAny_nextOf_list_item a b hx λh' a' sb=>hQ h' (.inl ⟨a',b.extBut sb.extBut hn⟩) sb
 ·exact mQ a b hx λh' a' sb=>hQ h' (.inr ⟨a',b.extBut sb.extBut hn⟩) sb
theorem It1.stop(hh:A.handled=none)(h:It1 s.heap it src i xs)(hx:xs[i]?=none)
  (hE:∀h' e,Heap.ExtBut it s.heap h'->(∃o,h'.get? e=some o/\o.cls=.type "StopIteration")->E (.ref e) {s with heap:=h'}):wpAny (model prog w) A (Builtin.SmallTypes.nextOf (.ref it)) Q E s:=by
 rcases h with⟨a,b⟩|⟨a,b⟩
 ·exact wpAny_nextOf_list_end hh a b hx hE
 ·exact oP hh a b hx hE
theorem loadAlive{a:Addr}{Q:Option Obj->Shared->Prop}(h:Q (s.heap.get? a) s):wpAny (model prog w) A (loadIfAlive a) Q E s:=by
 intro Γ p hΓ
 show Sem.wp _ _ (Sem.loadIfAlive a _) _ _ _ _
 rw[Sem.wp_loadIfAlive]
 simpa using h
noncomputable abbrev zobj(TI TO:Addr)(f0 f1:Value):Obj:={cls:=.type "zip",dict:=none,data:=.fields #[f0,f1,.bool false,.ref TI,.ref TO],slots:=#[]}
structure Ap(z TI TO i1 i2 l1 l2:Addr):Prop where
 TIz:TI≠z
 TOz:TO≠z
 i1z:i1≠z
 i2z:i2≠z
 TITO:TI≠TO
 TIi1:TI≠i1
 TIi2:TI≠i2
 TOi1:TO≠i1
 TOi2:TO≠i2
 i12:i1≠i2
 l1z:l1≠z
 l1TO:l1≠TO
 l1i1:l1≠i1
 l1i2:l1≠i2
 l2z:l2≠z
 l2TO:l2≠TO
 l2i1:l2≠i1
 l2i2:l2≠i2
structure Zs(h:Heap)(z TI TO i1 i2 l1 l2:Addr)(i:Nat)(xs ys:Array Value):Prop where
 z:∃f0 f1,h.get? z=some (zobj TI TO f0 f1)/\(f0=.none\/∃T:Nat,f0=rawInt T)
 ti:IsPair h TI (.ref i1) (.ref i2)
 to:∃a b,IsPair h TO a b
 a:It1 h i1 l1 i xs
 b:It1 h i2 l2 i ys
variable{TI TO:Addr}
theorem aCr{f0 f1:Value}{Q:Bool->Shared->Prop}(hz:s.heap.get? z=some (zobj TI TO f0 f1))(hf:f0=.none\/∃T:Nat,f0=rawInt T)(h1:Q true s)(h2:∀h' f1',h'.get? z=some (zobj TI TO f0 f1')->Heap.SameBut z s.heap h'->Q false {s with heap:=h'}) :
  wpAny (model prog w) A (Builtin.SmallTypes.ownedTupleIsFree (.ref z)) Q E s:=by
 unfold Builtin.SmallTypes.ownedTupleIsFree
 refine aAA (aAN hz rfl (x:=f0) rfl ?_)
 rcases hf with rfl|⟨T,rfl⟩
 ·exact aAC h1
 ·show wpAny _ _ (loadIfAlive _ >>= _) _ _ _
  refine aAA (loadAlive ?_)
  cases q:s.heap.get? ((T:Int).toNat)with
  |none=>exact aAC h1
  |some o =>
   show wpAny _ _ (field (.ref z) 1 >>= _) _ _ _
   refine aAA (aAN hz rfl (x:=f1) rfl ?_)
   by_cases hb:(f1 != .bool true)=true
   ·rw[aAI hb]
    refine aAA (aBV hz (by simp) λh1 hz1 hs1=>aAC (h2 h1 _ hz1 hs1))
   ·rw[aAL hb]
    exact aAC (h2 s.heap f1 hz ⟨rfl,λ_ _=>rfl⟩)
variable{k:Nat}
theorem lD{i1 i2:Addr}{y:Value}(D:Ap z TI TO i1 i2 l1 l2)(Z:Zs s.heap z TI TO i1 i2 l1 l2 k xs ys)(hx:xs[k]?=some x)(hy:ys[k]?=some y)
  (hQ:∀h' T,Zs h' z TI TO i1 i2 l1 l2 (k+1) xs ys->IsPair h' T x y->s.heap.objs.size<=T->(∀c o,c≠z->c≠TO->c≠i1->c≠i2->s.heap.get? c=some o->h'.get? c=some o)->Q (.ref T) {s with heap:=h'}) :
  wpAny (model prog w) A (Builtin.«zip.__next__» ⟨[.ref z],[]⟩) (λfin s'=>∃v,fin=.done (.ret v)/\Q v s') E s:=by
 obtain⟨⟨f0,f1,hz,hf⟩,hTI,⟨a,b,hTO⟩,h1,h2⟩:=Z
 show wpAny _ _ (field (.ref z) 2 >>= _) _ _ _
 refine aAA (aAN hz rfl (x:=.bool false) rfl ?_)
 show wpAny _ _ (field (.ref z) 3 >>= _) _ _ _
 refine aAA (aAN hz rfl (x:=.ref TI) rfl ?_)
 refine aAA (aCR hTI rfl ?_)
 show wpAny _ _ (Builtin.SmallTypes.ownedTupleIsFree (.ref z) >>= _) _ _ _
 refine aAA (aCr hz hf ?_ λh₁ f1' hz₁ hs₁=>?_)
 ·simp only[aEA]
  refine aAA (aCJ ?_)
  refine aAA (aAN hz rfl (x:=.ref TO) rfl ?_)
  refine aAA (aBV hz (by simp) λh₁ hz₁ hs₁=>?_)
  replace hz₁:h₁.get? z=some (zobj TI TO .ellipsis f1):=hz₁
  refine aAA ?_
  simp only[List.zipIdx_cons,List.zipIdx_nil,aFA,aHQ]
  refine aAA (aAA (aHY ?_))
  show wpAny _ _ (Builtin.SmallTypes.nextOf (.ref i1) >>= _) _ _ _
  refine aAA (It1.next (h1.at (λo e=>hs₁.extBut _ _ D.i1z e) λo e=>hs₁.extBut _ _ D.l1z e) hx λh₂ h1₂ hs₂=>aAC ?_)
  have hTO₂:IsPair h₂ TO a b:=hs₂.extBut _ _ D.TOi1 (hs₁.extBut _ _ D.TOz hTO)
  refine aAA (aCR hTO₂ rfl ?_)
  refine aAA (aHA hTO₂ λh₃ hTO₃ hs₃=>?_)
  replace hTO₃:IsPair h₃ TO x b:=hTO₃
  refine aAA (aHS (aAC ?_))
  refine aAA (aAA (aHY ?_))
  show wpAny _ _ (Builtin.SmallTypes.nextOf (.ref i2) >>= _) _ _ _
  refine aAA (It1.next (h2.at (λo e=>hs₃.extBut _ _ D.TOi2.symm (hs₂.extBut _ _ D.i12.symm (hs₁.extBut _ _ D.i2z e))) λo e=>hs₃.extBut _ _ D.l2TO (hs₂.extBut _ _ D.l2i1 (hs₁.extBut _ _ D.l2z e))) hy λh₄ h2₄ hs₄=>aAC ?_)
  have hTO₄:IsPair h₄ TO x b:=hs₄.extBut _ _ D.TOi2 hTO₃
  refine aAA (aCR hTO₄ rfl ?_)
  refine aAA (aHA hTO₄ λh₅ hTO₅ hs₅=>?_)
  replace hTO₅:IsPair h₅ TO x y:=hTO₅
  refine aAA (aHS (aAC (aAC ?_)))
  refine aAA (aCR hTO₅ rfl ?_)
  refine aAA (wpAny_newTuple ?_)
  have hsz:h₅.objs.size=s.heap.objs.size:=by rw[hs₅.1,hs₄.1,hs₃.1,hs₂.1,hs₁.1]
  have hz₅:h₅.get? z=some (zobj TI TO .ellipsis f1):=hs₅.extBut _ _ D.TOz.symm (hs₄.extBut _ _ D.i2z.symm (hs₃.extBut _ _ D.TOz.symm (hs₂.extBut _ _ D.i1z.symm hz₁)))
  have hk₅:∀c o,c≠z->c≠TO->c≠i1->c≠i2->s.heap.get? c=some o->h₅.get? c=some o:=λc o c1 c2 c3 c4 e =>
   hs₅.extBut _ _ c2 (hs₄.extBut _ _ c4 (hs₃.extBut _ _ c2 (hs₂.extBut _ _ c3 (hs₁.extBut _ _ c1 e))))
  have h1₅:It1 h₅ i1 l1 (k+1) xs:=h1₂.at (λo e=>hs₅.extBut _ _ D.TOi1.symm (hs₄.extBut _ _ D.i12 (hs₃.extBut _ _ D.TOi1.symm e))) λo e=>hs₅.extBut _ _ D.l1TO (hs₄.extBut _ _ D.l1i2 (hs₃.extBut _ _ D.l1TO e))
  have h2₅:It1 h₅ i2 l2 (k+1) ys:=h2₄.at (λo e=>hs₅.extBut _ _ D.TOi2.symm e) λo e=>hs₅.extBut _ _ D.l2TO e
  have hzlt:z < h₅.objs.size:=aAF hz₅
  show wpAny _ _ (Builtin.SmallTypes.ownedTupleHandOut (.ref z) (.ref h₅.objs.size) >>= _) _ _ _
  refine aAA ?_
  unfold Builtin.SmallTypes.ownedTupleHandOut
  have hz₆:(h₅.push {cls:=.type "tuple",data:=.seq #[x,y]}).get? z=some (zobj TI TO .ellipsis f1):=aAB _ hz₅
  refine aAA (aBV hz₆ (by simp) λh₇ hz₇ hs₇=>?_)
  replace hz₇:h₇.get? z=some (zobj TI TO (rawInt h₅.objs.size) f1):=hz₇
  refine aBV hz₇ (by simp) λh₈ hz₈ hs₈=>?_
  replace hz₈:h₈.get? z=some (zobj TI TO (rawInt h₅.objs.size) (.bool false)):=hz₈
  have up:∀c o,c≠z->h₅.get? c=some o->h₈.get? c=some o:=λc o c1 e=>hs₈.extBut _ _ c1 (hs₇.extBut _ _ c1 (aAB _ e))
  have hT₈:IsPair h₈ h₅.objs.size x y:=hs₈.extBut _ _ (aBF hzlt) (hs₇.extBut _ _ (aBF hzlt) (aAE _ rfl))
  refine aAC ⟨_,rfl,hQ h₈ h₅.objs.size ⟨⟨_,_,hz₈,.inr ⟨_,rfl⟩⟩,up _ _ D.TIz (hk₅ _ _ D.TIz D.TITO D.TIi1 D.TIi2 hTI),⟨_,_,up _ _ D.TOz hTO₅⟩,h1₅.at (λo e=>up _ o D.i1z e) λo e=>up _ o D.l1z e,h2₅.at (λo e=>up _ o D.i2z e) λo e=>up _ o D.l2z e⟩ hT₈ (by rw[hsz];exact aAG _) λc o c1 c2 c3 c4 e=>up c o c1 (hk₅ c o c1 c2 c3 c4 e)⟩
 ·simp only[aCP,aEF]
  refine aAA ?_
  simp only[List.forIn_toArray,aFA,aHQ]
  refine aAA (aAA (aBL ?_))
  show wpAny _ _ (Builtin.SmallTypes.nextOf (.ref i1) >>= _) _ _ _
  refine aAA (It1.next (h1.at (λo e=>hs₁.extBut _ _ D.i1z e) λo e=>hs₁.extBut _ _ D.l1z e) hx λh₂ h1₂ hs₂=>aAC (aAC ?_))
  refine aAA (aAA (aBL ?_))
  show wpAny _ _ (Builtin.SmallTypes.nextOf (.ref i2) >>= _) _ _ _
  refine aAA (It1.next (h2.at (λo e=>hs₂.extBut _ _ D.i12.symm (hs₁.extBut _ _ D.i2z e)) λo e=>hs₂.extBut _ _ D.l2i1 (hs₁.extBut _ _ D.l2z e)) hy λh₃ h2₃ hs₃=>aAC (aAC (aAC ?_)))
  show wpAny _ _ (newTuple [x,y] >>= _) _ _ _
  refine aAA (wpAny_newTuple ?_)
  have hsz:h₃.objs.size=s.heap.objs.size:=by rw[hs₃.1,hs₂.1,hs₁.1]
  have kp:∀c o,c≠z->c≠i1->c≠i2->s.heap.get? c=some o->(h₃.push {cls:=.type "tuple",data:=.seq #[x,y]}).get? c=some o:=λc o c1 c2 c3 e=>aAB _ (hs₃.extBut _ _ c3 (hs₂.extBut _ _ c2 (hs₁.extBut _ _ c1 e)))
  refine aAC ⟨_,rfl,hQ _ h₃.objs.size ⟨⟨f0,f1',aAB _ (hs₃.extBut _ _ D.i2z.symm (hs₂.extBut _ _ D.i1z.symm hz₁)),hf⟩,kp _ _ D.TIz D.TIi1 D.TIi2 hTI,⟨_,_,kp _ _ D.TOz D.TOi1 D.TOi2 hTO⟩,?_,?_⟩ (aAE _ rfl) (by rw[hsz];exact aAG _) λc o c1 c2 c3 c4 e=>kp c o c1 c3 c4 e⟩
  ·exact h1₂.at (λo e=>aAB _ (hs₃.extBut _ _ D.i12 e)) λo e=>aAB _ (hs₃.extBut _ _ D.l1i2 e)
  ·exact h2₃.at (λo e=>aAB _ e) λo e=>aAB _ e
theorem mS{i1 i2:Addr}{Q:Fin->Shared->Prop}(hh:A.handled=none)(D:Ap z TI TO i1 i2 l1 l2)(Z:Zs s.heap z TI TO i1 i2 l1 l2 k xs ys)(hend:xs[k]?=none\/ys[k]?=none)
  (hE:∀h' e,(∀c o,c≠z->c≠TO->c≠i1->c≠i2->s.heap.get? c=some o->h'.get? c=some o)->(∃o,h'.get? e=some o/\o.cls=.type "StopIteration")->E (.ref e) {s with heap:=h'}) :
  wpAny (model prog w) A (Builtin.«zip.__next__» ⟨[.ref z],[]⟩) Q E s:=by
 obtain⟨⟨f0,f1,hz,hf⟩,hTI,⟨a,b,hTO⟩,h1,h2⟩:=Z
 show wpAny _ _ (field (.ref z) 2 >>= _) _ _ _
 refine aAA (aAN hz rfl (x:=.bool false) rfl ?_)
 show wpAny _ _ (field (.ref z) 3 >>= _) _ _ _
 refine aAA (aAN hz rfl (x:=.ref TI) rfl ?_)
 refine aAA (aCR hTI rfl ?_)
 show wpAny _ _ (Builtin.SmallTypes.ownedTupleIsFree (.ref z) >>= _) _ _ _
 refine aAA (aCr hz hf ?_ λh₁ f1' hz₁ hs₁=>?_)
 ·simp only[aEA]
  refine aAA (aCJ ?_)
  refine aAA (aAN hz rfl (x:=.ref TO) rfl ?_)
  refine aAA (aBV hz (by simp) λh₁ hz₁ hs₁=>?_)
  replace hz₁:h₁.get? z=some (zobj TI TO .ellipsis f1):=hz₁
  refine aAA ?_
  simp only[List.zipIdx_cons,List.zipIdx_nil,aFA,aHQ]
  refine aAA (aAA (aHY ?_))
  show wpAny _ _ (Builtin.SmallTypes.nextOf (.ref i1) >>= _) _ _ _
  have h1':=h1.at (h':=h₁) (λo e=>hs₁.extBut _ _ D.i1z e) λo e=>hs₁.extBut _ _ D.l1z e
  cases hx:xs[k]? with
  |none =>
   refine aAA (It1.stop hh h1' hx λh₂ e hs₂ he=>?_)
   obtain⟨oe,hoe,hce⟩:=he
   have hz₂:h₂.get? z=some (zobj TI TO .ellipsis f1):=hs₂ _ _ D.i1z.symm hz₁
   have hez:e≠z:=λx=>by subst x;rw[hz₂]at hoe;cases hoe;simp at hce
   exact aBV hz₂ (by simp) λh₃ _ hs₃=>hE h₃ e (λc o c1 _ c3 _ x=>hs₃.extBut _ _ c1 (hs₂ _ _ c3 (hs₁.extBut _ _ c1 x))) ⟨oe,hs₃.extBut _ _ hez hoe,hce⟩
  |some x =>
   have hy:ys[k]?=none:=by rcases hend with h|h;rw[hx]at h;cases h;exact h
   refine aAA (It1.next h1' hx λh₂ h1₂ hs₂=>aAC ?_)
   have hTO₂:IsPair h₂ TO a b:=hs₂.extBut _ _ D.TOi1 (hs₁.extBut _ _ D.TOz hTO)
   refine aAA (aCR hTO₂ rfl ?_)
   refine aAA (aHA hTO₂ λh₃ hTO₃ hs₃=>?_)
   refine aAA (aHS (aAC ?_))
   refine aAA (aAA (aHY ?_))
   show wpAny _ _ (Builtin.SmallTypes.nextOf (.ref i2) >>= _) _ _ _
   refine aAA (It1.stop hh (h2.at (λo e=>hs₃.extBut _ _ D.TOi2.symm (hs₂.extBut _ _ D.i12.symm (hs₁.extBut _ _ D.i2z e))) λo e=>hs₃.extBut _ _ D.l2TO (hs₂.extBut _ _ D.l2i1 (hs₁.extBut _ _ D.l2z e))) hy λh₄ e hs₄ he=>?_)
   obtain⟨oe,hoe,hce⟩:=he
   have hz₄:h₄.get? z=some (zobj TI TO .ellipsis f1):=hs₄ _ _ D.i2z.symm (hs₃.extBut _ _ D.TOz.symm (hs₂.extBut _ _ D.i1z.symm hz₁))
   have hez:e≠z:=λx=>by subst x;rw[hz₄]at hoe;cases hoe;simp at hce
   exact aBV hz₄ (by simp) λh₅ _ hs₅=>hE h₅ e (λc o c1 c2 c3 c4 x=>hs₅.extBut _ _ c1 (hs₄ _ _ c4 (hs₃.extBut _ _ c2 (hs₂.extBut _ _ c3 (hs₁.extBut _ _ c1 x))))) ⟨oe,hs₅.extBut _ _ hez hoe,hce⟩
 ·simp only[aCP,aEF]
  refine aAA ?_
  simp only[List.forIn_toArray,aFA,aHQ]
  refine aAA (aAA (aBL ?_))
  show wpAny _ _ (Builtin.SmallTypes.nextOf (.ref i1) >>= _) _ _ _
  have h1':=h1.at (h':=h₁) (λo e=>hs₁.extBut _ _ D.i1z e) λo e=>hs₁.extBut _ _ D.l1z e
  cases hx:xs[k]? with
  |none=>exact aAA (It1.stop hh h1' hx λh₂ e hs₂ he=>hE h₂ e (λc o c1 _ c3 _ x=>hs₂ _ _ c3 (hs₁.extBut _ _ c1 x)) he)
  |some x =>
   have hy:ys[k]?=none:=by rcases hend with h|h;rw[hx]at h;cases h;exact h
   refine aAA (It1.next h1' hx λh₂ h1₂ hs₂=>aAC (aAC ?_))
   refine aAA (aAA (aBL ?_))
   show wpAny _ _ (Builtin.SmallTypes.nextOf (.ref i2) >>= _) _ _ _
   exact aAA (It1.stop hh (h2.at (λo e=>hs₂.extBut _ _ D.i12.symm (hs₁.extBut _ _ D.i2z e)) λo e=>hs₂.extBut _ _ D.l2i1 (hs₁.extBut _ _ D.l2z e)) hy λh₃ e hs₃ he=>hE h₃ e (λc o c1 _ c3 c4 x=>hs₃ _ _ c4 (hs₂.extBut _ _ c3 (hs₁.extBut _ _ c1 x))) he)
theorem walksZip(hh:A.handled=none)(z TI TO i1 i2 l1 l2:Addr)(D:Ap z TI TO i1 i2 l1 l2)(xs ys:Array Value) :
  WalksS prog w A z [z,TI,TO,i1,i2,l1,l2] [z,TO,i1,i2] (λa b=>b=a) (min xs.size ys.size) (λi v=>True)
   (λi s=>Zs s.heap z TI TO i1 i2 l1 l2 i xs ys)where
 sub:=λc hc=>by simp at hc ⊢;rcases hc with rfl|rfl|rfl|rfl <;> simp
 grefl:=λ_=>rfl
 gtrans:=λ_ _ _ h1 h2=>h2.trans h1
 frame:=λi s h' tk st _ hk=>by
  obtain⟨⟨f0,f1,hz,hf⟩,hTI,⟨a,b,hTO⟩,h1,h2⟩:=st
  exact⟨⟨f0,f1,hk z (by simp) _ hz,hf⟩,hk TI (by simp) _ hTI,⟨a,b,hk TO (by simp) _ hTO⟩,h1.at (λo e=>hk i1 (by simp) o e) λo e=>hk l1 (by simp) o e,h2.at (λo e=>hk i2 (by simp) o e) λo e=>hk l2 (by simp) o e⟩
 item:=λi s Q E hi st hQ=>by
  have hT:s.TypeIs (.ref z) "zip":=let⟨f0,f1,hz,_⟩:=st.z;⟨_,hz,rfl⟩
  have hix:i < xs.size:=aAO hi (aFC ..)
  have hiy:i < ys.size:=aAO hi (Nat.min_le_right ..)
  unfold pyNext
  refine aAA (aBT (aAU (name:=Str.ofString "__next__") hT aDD
   (aAZ aDD hT aGS
    (lD D st (aBU hix) (aBU hiy) λh' T z' p' n' k'=>aAC (hQ _ _ trivial z' ⟨λb o hb e=>k' b o (λx=>hb (by simp[x])) (λx=>hb (by simp[x])) (λx=>hb (by simp[x])) (λx=>hb (by simp[x])) e,rfl,rfl,rfl,aAG _⟩)) (aGJ _))))
 done:=λs Q E st hQ=>by
  have hT:s.TypeIs (.ref z) "zip":=let⟨f0,f1,hz,_⟩:=st.z;⟨_,hz,rfl⟩
  have hend:xs[min xs.size ys.size]?=none\/ys[min xs.size ys.size]?=none:=by
   rcases Nat.le_total xs.size ys.size with h|h
   ·exact .inl (by rw[aDE h];simp)
   ·exact .inr (by rw[Nat.min_eq_right h];simp)
  unfold pyNext
  refine aAA (aBT (aAU (name:=Str.ofString "__next__") hT aDD
   (aAZ aDD hT aGS (mS hh D st hend λh' e hk he=>?_) (aGJ _))))
  obtain⟨o,ho,hc⟩:=he
  refine aAA (aDA (T:="StopIteration") (b:=true) ⟨o,ho,hc⟩ aEM ?_)
  exact aAC (hQ _ ⟨λb o hb e=>hk b o (λx=>hb (by simp[x])) (λx=>hb (by simp[x])) (λx=>hb (by simp[x])) (λx=>hb (by simp[x])) e,rfl,rfl,rfl,aAG _⟩)
 self:=λi s Q E st hQ=>by
  obtain⟨f0,f1,hz,_⟩:=st.z
  have hT:s.TypeIs (.ref z) "zip":=⟨_,hz,rfl⟩
  refine aIF hT F.slot_zip_iter (aAZ F.slot_zip_iter hT F.entry_zip_iter ?_ (F.args_zip_iter_1 _))
  show wpAny _ _ (ret (.ref z)) _ _ s
  exact aAC ⟨_,rfl,"zip",_,hT,aDD.lookup,hQ⟩
noncomputable section
abbrev zH1LL(h:Heap)(l1:Addr):Heap:=h.push {cls:=.type "list_iterator",data:=.fields #[.ref l1,.int 0 0]}
abbrev zH2LL(h:Heap)(l1 l2:Addr):Heap:=(zH1LL h l1).push {cls:=.type "list_iterator",data:=.fields #[.ref l2,.int 0 0]}
abbrev zH3LL(h:Heap)(l1 l2:Addr):Heap:=(zH2LL h l1 l2).push {cls:=.type "tuple",data:=.seq #[.ref h.objs.size,.ref (zH1LL h l1).objs.size]}
abbrev zH4LL(h:Heap)(l1 l2:Addr):Heap:=(zH3LL h l1 l2).push {cls:=.type "tuple",data:=.seq #[.none,.none]}
abbrev zH5LL(h:Heap)(l1 l2:Addr):Heap:=(zH4LL h l1 l2).push {cls:=.type "zip",data:=.fields #[.none,.bool false,.bool false,.ref (zH2LL h l1 l2).objs.size,.ref (zH3LL h l1 l2).objs.size]}
theorem yM(l1 l2:Addr)(xs ys:Array Value) :
  Meets (Builtin.«zip.__new__» ⟨[.type "zip",.ref l1,.ref l2],[]⟩) (λ_ R s=>s.heap.IsList l1 xs/\s.heap.IsList l2 ys /\
   R (.ok (.ret (.ref (zH4LL s.heap l1 l2).objs.size))) {s with heap:=zH5LL s.heap l1 l2}) :=
 .of_wp λprog w A R s h=>by
  obtain⟨hp,g,d,tk,os⟩:=s;obtain⟨hl1,hl2,h⟩:=h
  have hsub:=sub_zip
  have hL1:Heap.IsList (Shared.heap ⟨hp,g,d,tk,os⟩) l1 xs:=hl1
  have hL2:Heap.IsList (Shared.heap ⟨hp.push {cls:=.type "list_iterator",data:=.fields #[.ref l1,.int 0 0]},g,d,tk,os⟩) l2 ys:=by
   obtain⟨o,ho,r⟩:=hl2
   exact⟨o,aAB _ ho,r⟩
  wp_walk using aEH hL1,aEH hL2
  exact⟨_,rfl,h⟩
theorem aCf(hl1:s.heap.IsList l1 xs)(hl2:s.heap.IsList l2 ys)
  (h:∀h',Zs h' (s.heap.objs.size+4) (s.heap.objs.size+2) (s.heap.objs.size+3) s.heap.objs.size (s.heap.objs.size+1) l1 l2 0 xs ys->h'.objs.size=s.heap.objs.size+5 ->
   (∀c o,s.heap.get? c=some o->h'.get? c=some o)->Q (.ref (s.heap.objs.size+4)) {s with heap:=h'}) :
  wpAny (model prog w) A (call (.type "zip") [.ref l1,.ref l2]) Q E s:=by
 refine aFK F.called_zip (by decide) (aGQ _ _) (aHG _ _) (λobj=>aFN obj _ _) aHL
  (yM l1 l2 xs ys) ⟨hl1,hl2,?_⟩
 have z1:(zH1LL s.heap l1).objs.size=s.heap.objs.size+1:=aAW ..
 have z2:(zH2LL s.heap l1 l2).objs.size=s.heap.objs.size+2:=by rw[aAW,z1]
 have z3:(zH3LL s.heap l1 l2).objs.size=s.heap.objs.size+3:=by rw[aAW,z2]
 have z4:(zH4LL s.heap l1 l2).objs.size=s.heap.objs.size+4:=by rw[aAW,z3]
 have z5:(zH5LL s.heap l1 l2).objs.size=s.heap.objs.size+5:=by rw[aAW,z4]
 have g5:(zH5LL s.heap l1 l2).get? (zH4LL s.heap l1 l2).objs.size=some _:=aAE _ rfl
 have g4:(zH5LL s.heap l1 l2).get? (zH3LL s.heap l1 l2).objs.size=some _:=aAB _ (aAE _ rfl)
 have g3:(zH5LL s.heap l1 l2).get? (zH2LL s.heap l1 l2).objs.size=some _:=aAB _ (aAB _ (aAE _ rfl))
 have g2:(zH5LL s.heap l1 l2).get? (zH1LL s.heap l1).objs.size=some _:=aAB _ (aAB _ (aAB _ (aAE _ rfl)))
 have g1:(zH5LL s.heap l1 l2).get? s.heap.objs.size=some _:=aAB _ (aAB _ (aAB _ (aAB _ (aAE _ rfl))))
 have kp:∀c o,s.heap.get? c=some o->(zH5LL s.heap l1 l2).get? c=some o:=λc o x =>
  aAB _ (aAB _ (aAB _ (aAB _ (aAB _ x))))
 show _/\_
 rw[z2,z3,z4]at g5
 rw[z1,z2]at g3
 rw[z3]at g4
 rw[z1]at g2
 rw[z4]
 refine⟨⟨_,g5,rfl⟩,h _ ⟨⟨_,_,g5,.inl rfl⟩,g3,⟨_,_,g4⟩,.inl ⟨⟨_,g1,rfl,rfl⟩,?_⟩,.inl ⟨⟨_,g2,rfl,rfl⟩,?_⟩⟩ z5 kp⟩
 ·obtain⟨o,ho,r⟩:=hl1;exact⟨o,kp _ _ ho,r⟩
 ·obtain⟨o,ho,r⟩:=hl2;exact⟨o,kp _ _ ho,r⟩
abbrev zH1LT(h:Heap)(l1:Addr):Heap:=h.push {cls:=.type "list_iterator",data:=.fields #[.ref l1,.int 0 0]}
abbrev zH2LT(h:Heap)(l1 l2:Addr):Heap:=(zH1LT h l1).push {cls:=.type "tuple_iterator",data:=.fields #[.ref l2,.int 0 0]}
abbrev zH3LT(h:Heap)(l1 l2:Addr):Heap:=(zH2LT h l1 l2).push {cls:=.type "tuple",data:=.seq #[.ref h.objs.size,.ref (zH1LT h l1).objs.size]}
abbrev zH4LT(h:Heap)(l1 l2:Addr):Heap:=(zH3LT h l1 l2).push {cls:=.type "tuple",data:=.seq #[.none,.none]}
abbrev zH5LT(h:Heap)(l1 l2:Addr):Heap:=(zH4LT h l1 l2).push {cls:=.type "zip",data:=.fields #[.none,.bool false,.bool false,.ref (zH2LT h l1 l2).objs.size,.ref (zH3LT h l1 l2).objs.size]}
theorem yQ(l1 l2:Addr)(xs ys:Array Value) :
  Meets (Builtin.«zip.__new__» ⟨[.type "zip",.ref l1,.ref l2],[]⟩) (λ_ R s=>s.heap.IsList l1 xs/\s.heap.IsTuple l2 ys /\
   R (.ok (.ret (.ref (zH4LT s.heap l1 l2).objs.size))) {s with heap:=zH5LT s.heap l1 l2}) :=
 .of_wp λprog w A R s h=>by
  obtain⟨hp,g,d,tk,os⟩:=s;obtain⟨hl1,hl2,h⟩:=h
  have hsub:=sub_zip
  have hL1:Heap.IsList (Shared.heap ⟨hp,g,d,tk,os⟩) l1 xs:=hl1
  have hL2:Heap.IsTuple (Shared.heap ⟨hp.push {cls:=.type "list_iterator",data:=.fields #[.ref l1,.int 0 0]},g,d,tk,os⟩) l2 ys:=by
   obtain⟨o,ho,r⟩:=hl2
   exact⟨o,aAB _ ho,r⟩
  wp_walk using aEH hL1,aCU hL2
  exact⟨_,rfl,h⟩
theorem aAr(hl1:s.heap.IsList l1 xs)(hl2:s.heap.IsTuple l2 ys)
  (h:∀h',Zs h' (s.heap.objs.size+4) (s.heap.objs.size+2) (s.heap.objs.size+3) s.heap.objs.size (s.heap.objs.size+1) l1 l2 0 xs ys->h'.objs.size=s.heap.objs.size+5 ->
   (∀c o,s.heap.get? c=some o->h'.get? c=some o)->Q (.ref (s.heap.objs.size+4)) {s with heap:=h'}) :
  wpAny (model prog w) A (call (.type "zip") [.ref l1,.ref l2]) Q E s:=by
 refine aFK F.called_zip (by decide) (aGQ _ _) (aHG _ _) (λobj=>aFN obj _ _) aHL
  (yQ l1 l2 xs ys) ⟨hl1,hl2,?_⟩
 have z1:(zH1LT s.heap l1).objs.size=s.heap.objs.size+1:=aAW ..
 have z2:(zH2LT s.heap l1 l2).objs.size=s.heap.objs.size+2:=by rw[aAW,z1]
 have z3:(zH3LT s.heap l1 l2).objs.size=s.heap.objs.size+3:=by rw[aAW,z2]
 have z4:(zH4LT s.heap l1 l2).objs.size=s.heap.objs.size+4:=by rw[aAW,z3]
 have z5:(zH5LT s.heap l1 l2).objs.size=s.heap.objs.size+5:=by rw[aAW,z4]
 have g5:(zH5LT s.heap l1 l2).get? (zH4LT s.heap l1 l2).objs.size=some _:=aAE _ rfl
 have g4:(zH5LT s.heap l1 l2).get? (zH3LT s.heap l1 l2).objs.size=some _:=aAB _ (aAE _ rfl)
 have g3:(zH5LT s.heap l1 l2).get? (zH2LT s.heap l1 l2).objs.size=some _:=aAB _ (aAB _ (aAE _ rfl))
 have g2:(zH5LT s.heap l1 l2).get? (zH1LT s.heap l1).objs.size=some _:=aAB _ (aAB _ (aAB _ (aAE _ rfl)))
 have g1:(zH5LT s.heap l1 l2).get? s.heap.objs.size=some _:=aAB _ (aAB _ (aAB _ (aAB _ (aAE _ rfl))))
 have kp:∀c o,s.heap.get? c=some o->(zH5LT s.heap l1 l2).get? c=some o:=λc o x =>
  aAB _ (aAB _ (aAB _ (aAB _ (aAB _ x))))
 show _/\_
 rw[z2,z3,z4]at g5
 rw[z1,z2]at g3
 rw[z3]at g4
 rw[z1]at g2
 rw[z4]
 refine⟨⟨_,g5,rfl⟩,h _ ⟨⟨_,_,g5,.inl rfl⟩,g3,⟨_,_,g4⟩,.inl ⟨⟨_,g1,rfl,rfl⟩,?_⟩,.inr ⟨⟨_,g2,rfl,rfl⟩,?_⟩⟩ z5 kp⟩
 ·obtain⟨o,ho,r⟩:=hl1;exact⟨o,kp _ _ ho,r⟩
 ·obtain⟨o,ho,r⟩:=hl2;exact⟨o,kp _ _ ho,r⟩
abbrev zH1TL(h:Heap)(l1:Addr):Heap:=h.push {cls:=.type "tuple_iterator",data:=.fields #[.ref l1,.int 0 0]}
abbrev zH2TL(h:Heap)(l1 l2:Addr):Heap:=(zH1TL h l1).push {cls:=.type "list_iterator",data:=.fields #[.ref l2,.int 0 0]}
abbrev zH3TL(h:Heap)(l1 l2:Addr):Heap:=(zH2TL h l1 l2).push {cls:=.type "tuple",data:=.seq #[.ref h.objs.size,.ref (zH1TL h l1).objs.size]}
abbrev zH4TL(h:Heap)(l1 l2:Addr):Heap:=(zH3TL h l1 l2).push {cls:=.type "tuple",data:=.seq #[.none,.none]}
abbrev zH5TL(h:Heap)(l1 l2:Addr):Heap:=(zH4TL h l1 l2).push {cls:=.type "zip",data:=.fields #[.none,.bool false,.bool false,.ref (zH2TL h l1 l2).objs.size,.ref (zH3TL h l1 l2).objs.size]}
theorem zF(l1 l2:Addr)(xs ys:Array Value) :
  Meets (Builtin.«zip.__new__» ⟨[.type "zip",.ref l1,.ref l2],[]⟩) (λ_ R s=>s.heap.IsTuple l1 xs/\s.heap.IsList l2 ys /\
   R (.ok (.ret (.ref (zH4TL s.heap l1 l2).objs.size))) {s with heap:=zH5TL s.heap l1 l2}) :=
 .of_wp λprog w A R s h=>by
  obtain⟨hp,g,d,tk,os⟩:=s;obtain⟨hl1,hl2,h⟩:=h
  have hsub:=sub_zip
  have hL1:Heap.IsTuple (Shared.heap ⟨hp,g,d,tk,os⟩) l1 xs:=hl1
  have hL2:Heap.IsList (Shared.heap ⟨hp.push {cls:=.type "tuple_iterator",data:=.fields #[.ref l1,.int 0 0]},g,d,tk,os⟩) l2 ys:=by
   obtain⟨o,ho,r⟩:=hl2
   exact⟨o,aAB _ ho,r⟩
  wp_walk using aCU hL1,aEH hL2
  exact⟨_,rfl,h⟩
theorem aAs(hl1:s.heap.IsTuple l1 xs)(hl2:s.heap.IsList l2 ys)
  (h:∀h',Zs h' (s.heap.objs.size+4) (s.heap.objs.size+2) (s.heap.objs.size+3) s.heap.objs.size (s.heap.objs.size+1) l1 l2 0 xs ys->h'.objs.size=s.heap.objs.size+5 ->
   (∀c o,s.heap.get? c=some o->h'.get? c=some o)->Q (.ref (s.heap.objs.size+4)) {s with heap:=h'}) :
  wpAny (model prog w) A (call (.type "zip") [.ref l1,.ref l2]) Q E s:=by
 refine aFK F.called_zip (by decide) (aGQ _ _) (aHG _ _) (λobj=>aFN obj _ _) aHL
  (zF l1 l2 xs ys) ⟨hl1,hl2,?_⟩
 have z1:(zH1TL s.heap l1).objs.size=s.heap.objs.size+1:=aAW ..
 have z2:(zH2TL s.heap l1 l2).objs.size=s.heap.objs.size+2:=by rw[aAW,z1]
 have z3:(zH3TL s.heap l1 l2).objs.size=s.heap.objs.size+3:=by rw[aAW,z2]
 have z4:(zH4TL s.heap l1 l2).objs.size=s.heap.objs.size+4:=by rw[aAW,z3]
 have z5:(zH5TL s.heap l1 l2).objs.size=s.heap.objs.size+5:=by rw[aAW,z4]
 have g5:(zH5TL s.heap l1 l2).get? (zH4TL s.heap l1 l2).objs.size=some _:=aAE _ rfl
 have g4:(zH5TL s.heap l1 l2).get? (zH3TL s.heap l1 l2).objs.size=some _:=aAB _ (aAE _ rfl)
 have g3:(zH5TL s.heap l1 l2).get? (zH2TL s.heap l1 l2).objs.size=some _:=aAB _ (aAB _ (aAE _ rfl))
 have g2:(zH5TL s.heap l1 l2).get? (zH1TL s.heap l1).objs.size=some _:=aAB _ (aAB _ (aAB _ (aAE _ rfl)))
 have g1:(zH5TL s.heap l1 l2).get? s.heap.objs.size=some _:=aAB _ (aAB _ (aAB _ (aAB _ (aAE _ rfl))))
 have kp:∀c o,s.heap.get? c=some o->(zH5TL s.heap l1 l2).get? c=some o:=λc o x =>
  aAB _ (aAB _ (aAB _ (aAB _ (aAB _ x))))
 show _/\_
 rw[z2,z3,z4]at g5
 rw[z1,z2]at g3
 rw[z3]at g4
 rw[z1]at g2
 rw[z4]
 refine⟨⟨_,g5,rfl⟩,h _ ⟨⟨_,_,g5,.inl rfl⟩,g3,⟨_,_,g4⟩,.inr ⟨⟨_,g1,rfl,rfl⟩,?_⟩,.inl ⟨⟨_,g2,rfl,rfl⟩,?_⟩⟩ z5 kp⟩
 ·obtain⟨o,ho,r⟩:=hl1;exact⟨o,kp _ _ ho,r⟩
 ·obtain⟨o,ho,r⟩:=hl2;exact⟨o,kp _ _ ho,r⟩
abbrev zH1TT(h:Heap)(l1:Addr):Heap:=h.push {cls:=.type "tuple_iterator",data:=.fields #[.ref l1,.int 0 0]}
abbrev zH2TT(h:Heap)(l1 l2:Addr):Heap:=(zH1TT h l1).push {cls:=.type "tuple_iterator",data:=.fields #[.ref l2,.int 0 0]}
abbrev zH3TT(h:Heap)(l1 l2:Addr):Heap:=(zH2TT h l1 l2).push {cls:=.type "tuple",data:=.seq #[.ref h.objs.size,.ref (zH1TT h l1).objs.size]}
abbrev zH4TT(h:Heap)(l1 l2:Addr):Heap:=(zH3TT h l1 l2).push {cls:=.type "tuple",data:=.seq #[.none,.none]}
abbrev zH5TT(h:Heap)(l1 l2:Addr):Heap:=(zH4TT h l1 l2).push {cls:=.type "zip",data:=.fields #[.none,.bool false,.bool false,.ref (zH2TT h l1 l2).objs.size,.ref (zH3TT h l1 l2).objs.size]}
theorem xW(l1 l2:Addr)(xs ys:Array Value) :
  Meets (Builtin.«zip.__new__» ⟨[.type "zip",.ref l1,.ref l2],[]⟩) (λ_ R s=>s.heap.IsTuple l1 xs/\s.heap.IsTuple l2 ys /\
   R (.ok (.ret (.ref (zH4TT s.heap l1 l2).objs.size))) {s with heap:=zH5TT s.heap l1 l2}) :=
 .of_wp λprog w A R s h=>by
  obtain⟨hp,g,d,tk,os⟩:=s;obtain⟨hl1,hl2,h⟩:=h
  have hsub:=sub_zip
  have hL1:Heap.IsTuple (Shared.heap ⟨hp,g,d,tk,os⟩) l1 xs:=hl1
  have hL2:Heap.IsTuple (Shared.heap ⟨hp.push {cls:=.type "tuple_iterator",data:=.fields #[.ref l1,.int 0 0]},g,d,tk,os⟩) l2 ys:=by
   obtain⟨o,ho,r⟩:=hl2
   exact⟨o,aAB _ ho,r⟩
  wp_walk using aCU hL1,aCU hL2
  exact⟨_,rfl,h⟩
theorem aAi(hl1:s.heap.IsTuple l1 xs)(hl2:s.heap.IsTuple l2 ys)
  (h:∀h',Zs h' (s.heap.objs.size+4) (s.heap.objs.size+2) (s.heap.objs.size+3) s.heap.objs.size (s.heap.objs.size+1) l1 l2 0 xs ys->h'.objs.size=s.heap.objs.size+5 ->
   (∀c o,s.heap.get? c=some o->h'.get? c=some o)->Q (.ref (s.heap.objs.size+4)) {s with heap:=h'}) :
  wpAny (model prog w) A (call (.type "zip") [.ref l1,.ref l2]) Q E s:=by
 refine aFK F.called_zip (by decide) (aGQ _ _) (aHG _ _) (λobj=>aFN obj _ _) aHL
  (xW l1 l2 xs ys) ⟨hl1,hl2,?_⟩
 have z1:(zH1TT s.heap l1).objs.size=s.heap.objs.size+1:=aAW ..
 have z2:(zH2TT s.heap l1 l2).objs.size=s.heap.objs.size+2:=by rw[aAW,z1]
 have z3:(zH3TT s.heap l1 l2).objs.size=s.heap.objs.size+3:=by rw[aAW,z2]
 have z4:(zH4TT s.heap l1 l2).objs.size=s.heap.objs.size+4:=by rw[aAW,z3]
 have z5:(zH5TT s.heap l1 l2).objs.size=s.heap.objs.size+5:=by rw[aAW,z4]
 have g5:(zH5TT s.heap l1 l2).get? (zH4TT s.heap l1 l2).objs.size=some _:=aAE _ rfl
 have g4:(zH5TT s.heap l1 l2).get? (zH3TT s.heap l1 l2).objs.size=some _:=aAB _ (aAE _ rfl)
 have g3:(zH5TT s.heap l1 l2).get? (zH2TT s.heap l1 l2).objs.size=some _:=aAB _ (aAB _ (aAE _ rfl))
 have g2:(zH5TT s.heap l1 l2).get? (zH1TT s.heap l1).objs.size=some _:=aAB _ (aAB _ (aAB _ (aAE _ rfl)))
 have g1:(zH5TT s.heap l1 l2).get? s.heap.objs.size=some _:=aAB _ (aAB _ (aAB _ (aAB _ (aAE _ rfl))))
 have kp:∀c o,s.heap.get? c=some o->(zH5TT s.heap l1 l2).get? c=some o:=λc o x =>
  aAB _ (aAB _ (aAB _ (aAB _ (aAB _ x))))
 show _/\_
 rw[z2,z3,z4]at g5
 rw[z1,z2]at g3
 rw[z3]at g4
 rw[z1]at g2
 rw[z4]
 refine⟨⟨_,g5,rfl⟩,h _ ⟨⟨_,_,g5,.inl rfl⟩,g3,⟨_,_,g4⟩,.inr ⟨⟨_,g1,rfl,rfl⟩,?_⟩,.inr ⟨⟨_,g2,rfl,rfl⟩,?_⟩⟩ z5 kp⟩
 ·obtain⟨o,ho,r⟩:=hl1;exact⟨o,kp _ _ ho,r⟩
 ·obtain⟨o,ho,r⟩:=hl2;exact⟨o,kp _ _ ho,r⟩
theorem call_zipG(h1:s.heap.IsList l1 xs\/s.heap.IsTuple l1 xs)(h2:s.heap.IsList l2 ys\/s.heap.IsTuple l2 ys)
  (h:∀h',Zs h' (s.heap.objs.size+4) (s.heap.objs.size+2) (s.heap.objs.size+3) s.heap.objs.size (s.heap.objs.size+1) l1 l2 0 xs ys->h'.objs.size=s.heap.objs.size+5 ->
   (∀c o,s.heap.get? c=some o->h'.get? c=some o)->Q (.ref (s.heap.objs.size+4)) {s with heap:=h'}) :
  wpAny (model prog w) A (call (.type "zip") [.ref l1,.ref l2]) Q E s:=by
 rcases h1 with h1|h1 <;> rcases h2 with h2|h2
 ·exact aCf h1 h2 h
 ·exact aAr h1 h2 h
 ·exact aAs h1 h2 h
 ·exact aAi h1 h2 h
theorem aBp:typeLookup (.type "zip") "__len__"=pure none:=by rw[aDJ,aCL];kernel_rfl
theorem zU:typeLookup (.type "zip") "__length_hint__"=pure none:=by rw[aDJ,aCL];kernel_rfl
def Prs(h:Heap)(z TO i1 i2 S:Addr)(acc:Array Value)(i:Nat)(xs ys:Array Value):Prop :=
 acc.size=i/\∀j (hj:j < i),∃T x y,acc[j]?=some (.ref T)/\xs[j]?=some x/\ys[j]?=some y/\IsPair h T x y/\T≠z/\T≠TO/\T≠i1/\T≠i2/\T≠S
end
variable{R:Result->Shared->Prop}{n:Nat}
theorem aGn(hh:A.handled=none){i1 i2:Addr}(D:Ap z TI TO i1 i2 l1 l2)(hn:n=min xs.size ys.size)(hsz:n<=sizeLine)(S:Addr)(hSf:S∉[z,TI,TO,i1,i2,l1,l2])(res:Value) :
  ∀(k i:Nat) (s:Shared) (acc:Array Value) (c N0:Nat),n - i=k->i<=n->N0<=s.heap.objs.size->Zs s.heap z TI TO i1 i2 l1 l2 i xs ys->s.heap.get? S=some {cls:=.type "list",dict:=none,data:=.seq acc c,slots:=#[]}->Prs s.heap z TO i1 i2 S acc i xs ys ->
  (∀(j:Nat) (v:Value),acc[j]?=some v->∃T:Addr,v=Value.ref T/\N0<=T) ->
  (∀h' acc' c',(∀b o,b≠S->b≠z->b≠TO->b≠i1->b≠i2->s.heap.get? b=some o->h'.get? b=some o)->h'.get? S=some {cls:=.type "list",dict:=none,data:=.seq acc' c',slots:=#[]}->Prs h' z TO i1 i2 S acc' n xs ys ->
   (∀(j:Nat) (v:Value),acc'[j]?=some v->∃T:Addr,v=Value.ref T/\N0<=T)->R (.ok (.ret res)) {s with heap:=h'}) ->
  codeAny (model prog w) A (.builtin "list.extend.loop" ⟨[.ref S,.ref z,res],[]⟩) R s:=by
 simp only[aAY,aCX,aGA,not_or]at hSf
 obtain⟨sz,sTI,sTO,s1,s2,sl1,sl2⟩:=hSf
 intro k
 induction k with
 |zero =>
  intro i s acc c N0 hk hi _ hst hS hacc hN hR
  have hin:i=n:=by lia
  subst hin
  refine aDL F.entry_extend_loop ?_
  rw[aEK aDS _]
  show wpAny _ A.in1 (pyNext (.ref z) >>= _) _ _ s
  have hT:s.TypeIs (.ref z) "zip":=let⟨f0,f1,hz,_⟩:=hst.z;⟨_,hz,rfl⟩
  have hend:xs[i]?=none\/ys[i]?=none:=by
   rcases Nat.le_total xs.size ys.size with h|h
   ·exact .inl (by rw[hn,aDE h];simp)
   ·exact .inr (by rw[hn,Nat.min_eq_right h];simp)
  refine aAA ?_
  unfold pyNext
  refine aAA (aBT (aAU (name:=Str.ofString "__next__") hT aDD
   (aAZ aDD hT aGS (mS (A:=A.in1.in1) hh D hst hend λh' e hk he=>?_) (aGJ _))))
  obtain⟨o,ho,hc⟩:=he
  refine aAA (aDA (T:="StopIteration") (b:=true) ⟨o,ho,hc⟩ aEM ?_)
  refine aAC (aAC (hR h' acc c (λb o b0 b1 b2 b3 b4 e=>hk b o b1 b2 b3 b4 e) (hk S _ sz sTO s1 s2 hS) ⟨hacc.1,λj hj=>?_⟩ hN))
  obtain⟨T,x,y,e1,e2,e3,e4,n1,n2,n3,n4,n5⟩:=hacc.2 j hj
  exact⟨T,x,y,e1,e2,e3,hk T _ n1 n2 n3 n4 e4,n1,n2,n3,n4,n5⟩
 |succ k ih =>
  intro i s acc c N0 hk hi hN0 hst hS hacc hN hR
  have hlt:i < n:=by lia
  have hix:i < xs.size:=by have:=aFC xs.size ys.size;lia
  have hiy:i < ys.size:=by have:=Nat.min_le_right xs.size ys.size;lia
  refine aDL F.entry_extend_loop ?_
  rw[aEK aDS _]
  show wpAny _ A.in1 (pyNext (.ref z) >>= _) _ _ s
  have hT:s.TypeIs (.ref z) "zip":=let⟨f0,f1,hz,_⟩:=hst.z;⟨_,hz,rfl⟩
  refine aAA ?_
  unfold pyNext
  refine aAA (aBT (aAU (name:=Str.ofString "__next__") hT aDD
   (aAZ aDD hT aGS
    (lD D hst (aBU hix) (aBU hiy) λh' T z' p' n' k'=>aAC ?_) (aGJ _))))
  have hS':=k' S _ sz sTO s1 s2 hS
  show wpAny _ A.in1 (updateSeq S (·.push (.ref T)) >>= _) _ _ _
  refine aAA ?_
  have lt:∀{c o},s.heap.get? c=some o->T≠c:=λ{c o} e=>aBF (aAO (aAF e) n')
  have TS:T≠S:=lt hS
  obtain⟨f0,f1,hz,hf⟩:=id hst.z
  obtain⟨aa,bb,hTO⟩:=id hst.to
  have up:∀b o,b≠S->h'.get? b=some o->(h'.update S (Obj.mapSeq λx=>x.push (.ref T))).get? b=some o:=λb o hb e=>(aCA _ _ (Ne.symm hb)).trans e
  have Ti1:T≠i1:=aBF (aAO hst.a.lt n')
  have Ti2:T≠i2:=aBF (aAO hst.b.lt n')
  refine aDZ hS' rfl (aAC ⟨aFW aDS _,ih (i+1) _ (acc.push (.ref T)) _ N0 (by lia) hlt ?_ ?_ (aBG _ hS' rfl) ?_ ?_ λh'' acc' c' hk'' hS'' hacc' hN'=>?_⟩)
   (by rw[hacc.1];lia) (by show(acc.push (.ref T)).size<=sizeLine+1;rw[Array.size_push,hacc.1];lia)
  ·show N0<=(h'.update S _).objs.size
   have:h'.objs.size=(h'.update S (Obj.mapSeq λx=>x.push (.ref T))).objs.size:=by simp[Heap.update]
   rw[<- this]
   exact aAV hN0 (aAV n' (aHB (aAF p')))
  ·obtain⟨⟨g0,g1,gz,gf⟩,gTI,⟨ga,gb,gTO⟩,g1',g2'⟩:=z'
   exact⟨⟨g0,g1,up _ _ (Ne.symm sz) gz,gf⟩,up _ _ (Ne.symm sTI) gTI,⟨ga,gb,up _ _ (Ne.symm sTO) gTO⟩,g1'.at (λo e=>up _ o (Ne.symm s1) e) λo e=>up _ o (Ne.symm sl1) e,g2'.at (λo e=>up _ o (Ne.symm s2) e) λo e=>up _ o (Ne.symm sl2) e⟩
  ·refine⟨by rw[Array.size_push,hacc.1],λj hj=>?_⟩
   by_cases hj':j < i
   ·obtain⟨T',x,y,e1,e2,e3,e4,m1,m2,m3,m4,m5⟩:=hacc.2 j hj'
    refine⟨T',x,y,?_,e2,e3,up _ _ m5 (k' _ _ m1 m2 m3 m4 e4),m1,m2,m3,m4,m5⟩
    rw[aHP,aAL (by rw[hacc.1];lia)];exact e1
   ·have:j=i:=by lia
    subst this
    refine⟨T,xs[j],ys[j],?_,aBU hix,aBU hiy,up _ _ TS p',lt hz,lt hTO,Ti1,Ti2,TS⟩
    rw[aHP,aAI (by rw[hacc.1])]
  ·intro j v hv
   rw[aHP]at hv
   split at hv
   ·cases hv;exact⟨T,rfl,aAV hN0 n'⟩
   ·exact hN j v hv
  ·exact hR h'' acc' c' (λb o b0 b1 b2 b3 b4 e=>hk'' b o b0 b1 b2 b3 b4 (up b o b0 (k' b o b1 b2 b3 b4 e))) hS'' hacc' hN'
theorem ap_of{l1 l2:Nat}(h1:l1 < n)(h2:l2 < n):Ap (n+4) (n+2) (n+3) n (n+1) l1 l2:=by
 constructor <;> (show(_:Nat)≠(_:Nat);lia)
theorem call_listzip{i1 i2:Addr}(hh:A.handled=none)(D:Ap z TI TO i1 i2 l1 l2)(Z:Zs s.heap z TI TO i1 i2 l1 l2 0 xs ys)(hn:min xs.size ys.size<=sizeLine)
  (hQ:∀h' acc' c',(∀b o,b≠z->b≠TO->b≠i1->b≠i2->s.heap.get? b=some o->h'.get? b=some o)->h'.get? s.heap.objs.size=some {cls:=.type "list",dict:=none,data:=.seq acc' c',slots:=#[]} ->
   Prs h' z TO i1 i2 s.heap.objs.size acc' (min xs.size ys.size) xs ys->(∀(j:Nat) (v:Value),acc'[j]?=some v->∃T:Addr,v=Value.ref T/\s.heap.objs.size+1<=T)->Q (.ref s.heap.objs.size) {s with heap:=h'}) :
  wpAny (model prog w) A (call (.type "list") [.ref z]) Q E s:=by
 refine callType_codes (Q₁:=λobj s₁=>obj=.ref s.heap.objs.size/\s₁={s with heap:=s.heap.push {cls:=.type "list",data:=.seq #[]}}) F.called_list (F.typeCall_list_1 _) F.entry_list_init
  (code_list_new _ ⟨rfl,rfl⟩) λobj s₁ h₁=>?_
 obtain⟨rfl,rfl⟩:=h₁
 have hS:(s.heap.push {cls:=.type "list",data:=.seq #[]}).get? s.heap.objs.size=some {cls:=.type "list",data:=.seq #[]}:=aAE _ rfl
 obtain⟨f0,f1,hz,hf⟩:=id Z.z
 obtain⟨ta,tb,hTO⟩:=id Z.to
 have l1lt:l1 < s.heap.objs.size:=by rcases Z.a with⟨_,o,e,_⟩|⟨_,o,e,_⟩ <;> exact aAF e
 have l2lt:l2 < s.heap.objs.size:=by rcases Z.b with⟨_,o,e,_⟩|⟨_,o,e,_⟩ <;> exact aAF e
 have hSf:s.heap.objs.size∉[z,TI,TO,i1,i2,l1,l2]:=by
  simp only[aAY,aCX,aGA,not_or]
  exact⟨aBF (aAF hz),aBF (aAF Z.ti),aBF (aAF hTO),aBF Z.a.lt,aBF Z.b.lt,aBF l1lt,aBF l2lt⟩
 have hSz:s.heap.objs.size≠z:=aBF (aAF hz)
 refine⟨⟨_,hS,rfl⟩,F.args_list_init_2 _ _,?_⟩
 show wpAny _ A.in1.in1 (do let old <- Builtin.List.listItems (.ref s.heap.objs.size);Builtin.List.listUpdate (.ref s.heap.objs.size) (λ_=>#[]);letGo old.toList.reverse;Builtin.List.listExtendWith (.ref s.heap.objs.size) (.ref z) .none) _ _ _
 refine aAA ?_
 unfold Builtin.List.listItems
 refine aAA (aCR hS rfl (aAC ?_))
 show wpAny _ _ (updateSeq s.heap.objs.size (λ_=>#[]) >>= λ_=>letGo (#[]:Array Value).toList.reverse >>= λ_=>Builtin.List.listExtendWith (.ref s.heap.objs.size) (.ref z) .none) _ _ _
 refine aAA (aDZ hS rfl ?_)
 have hS₂:=aBG (Obj.mapSeq (λ_=>(#[]:Array Value))) hS rfl
 refine aAA (aHS ?_)
 have kp:∀b o,b≠s.heap.objs.size->s.heap.get? b=some o->((s.heap.push {cls:=.type "list",data:=.seq #[]}).update s.heap.objs.size (Obj.mapSeq (λ_=>(#[]:Array Value)))).get? b=some o :=
  λb o hb e=>(aCA _ _ (Ne.symm hb)).trans (aAB _ e)
 have mv:∀h',(∀b o,b≠s.heap.objs.size->s.heap.get? b=some o->h'.get? b=some o)->Zs h' z TI TO i1 i2 l1 l2 0 xs ys:=λh' k=>by
  refine⟨⟨f0,f1,k _ _ hSz.symm hz,hf⟩,k _ _ (aAJ (aAF Z.ti)) Z.ti,⟨ta,tb,k _ _ (aAJ (aAF hTO)) hTO⟩,Z.a.at (λo e=>k _ o (aAJ Z.a.lt) e) λo e=>k _ o (aAJ l1lt) e,Z.b.at (λo e=>k _ o (aAJ Z.b.lt) e) λo e=>k _ o (aAJ l2lt) e⟩
 unfold Builtin.List.listExtendWith
 refine aAA (aEO (T:="zip") ⟨_,kp z _ hSz.symm hz,rfl⟩ ?_)
 have e1:Builtin.List.listSameRef (.ref s.heap.objs.size) (.ref z)=false:=by simp[Builtin.List.listSameRef,hSz]
 have e2:(Value.type "zip"==Value.type "list")=false:=by decide
 have e3:(Value.type "zip"==Value.type "tuple")=false:=by decide
 simp only[e1,e2,e3,aHZ,aCP,aEF]
 refine aAA ((walksZip (A:=A.in1.in1) hh z TI TO i1 i2 l1 l2 D xs ys).self 0 _ _ _ (mv _ kp) ?_)
 refine aAA (aBL ?_)
 unfold Builtin.List.listLengthHint
 refine aAA (aCS (T:="zip") ⟨_,kp z _ hSz.symm hz,rfl⟩ aBp ?_)
 show wpAny _ _ (specialOf (Value.ref z) (Str.ofString "__length_hint__") >>= _) _ _ _
 refine aAA (aCS (T:="zip") ⟨_,kp z _ hSz.symm hz,rfl⟩ zU ?_)
 refine aAC ?_
 show wpAny _ _ (rule "list.extend.makes-room" >>= λ_=>Builtin.List.listTouch (.ref s.heap.objs.size) >>= λ_ =>
  again (.builtin "list.extend.loop" ⟨[.ref s.heap.objs.size,.ref z,.none],[]⟩)) _ _ _
 refine aAA (aCJ ?_)
 refine aAA ?_
 show wpAny _ _ (updateSeq s.heap.objs.size (·.push .none) >>= λ_=>updateSeq s.heap.objs.size (·.pop)) _ _ _
 refine aAA (aDZ hS₂ rfl ?_)
 have hS₃:=aBG (Obj.mapSeq (·.push Value.none)) hS₂ rfl
 refine aDZ (hz:=by seq_fits) hS₃ rfl ?_
 have hS₄:=aBG (Obj.mapSeq (·.pop)) hS₃ rfl
 have kp2:∀b o,b≠s.heap.objs.size->s.heap.get? b=some o->((((s.heap.push {cls:=.type "list",data:=.seq #[]}).update s.heap.objs.size (Obj.mapSeq (λ_=>(#[]:Array Value)))).update s.heap.objs.size (Obj.mapSeq (·.push Value.none))).update s.heap.objs.size (Obj.mapSeq (·.pop))).get? b=some o :=
  λb o hb e=>(aCA _ _ (Ne.symm hb)).trans ((aCA _ _ (Ne.symm hb)).trans (kp b o hb e))
 refine aAC ⟨aFW aDS _,aGn (A:=A.in1) hh D rfl hn s.heap.objs.size hSf .none (min xs.size ys.size) 0 _ _ _ (s.heap.objs.size+1) (by lia) (aDB _) ?_ (mv _ kp2) hS₄ ⟨rfl,λj hj=>absurd hj (Nat.not_lt_zero _)⟩ (λj v h=>by simp at h) λh' acc' c' hk hS' hacc hN=>?_⟩
 ·exact aAF hS₄
 ·exact⟨rfl,hQ h' acc' c' (λb o b1 b2 b3 b4 e=>hk b o (aAJ (aAF e)) b1 b2 b3 b4 (kp2 b o (aAJ (aAF e)) e)) hS' hacc hN⟩
end ZP
namespace EV
open L2
variable{σ:L2.St}
theorem aIo(I:Inv X pins σ H s)(k:∀b u,s.heap.get? b=some u->h'.get? b=some u)(old:∀b o,H b=some o->H' b=some o)(new:∀b o,H' b=some o->H b=none->s.heap.objs.size<=b)
  (hok:HOk X.prog X.w H' h'):Inv X pins σ H' {s with heap:=h',toks:=t'}:=by
 refine I.un ⟨λb u q _ _ _=>k b u q,λb u q _ _ _=>⟨u.slots,k b u q⟩,λb u q n _=>?_,λb u q _=>⟨u,k b u q⟩,λb xs q=>old b _ q,λb o u q=>old b _ q,λb ps q=>⟨#[],by rw[old b _ q];simp⟩,λb _ _ q=>old b _ q⟩ hok
 cases e:H' b with
 |none=>rfl
 |some o=>exact absurd (aAF q) (Nat.not_lt.mpr (new b o e n))
noncomputable def rZip(K:Frag):R2:=λx y H Q=>∃a b xs ys,x=.ref a/\y=.ref b/\(SqL K H a xs\/SqT K H a xs)/\(SqL K H b ys\/SqT K H b ys) /\
 ∀(H':Hp) (p:Addr) (Ts:List Addr),(∀b o,H b=some o->H' b=some o)->H p=none->H' p=some (.lst (Ts.map V.ref))->Ts.length=min xs.length ys.length ->
  (∀(j:Nat) (T:Addr) (x y:V),Ts[j]?=some T->xs[j]?=some x->ys[j]?=some y->H' T=some (.tup [x,y]))->Q (.ref p) H'
variable{K:Frag}{a b:Expr}{fb:FE}
theorem aFw{a:Addr}{xs:List V}(I:Inv X pins σ H s)(h:SqL X.K H a xs\/SqT X.K H a xs):∃its:List Value,Vals xs its/\(s.heap.IsList a its.toArray\/s.heap.IsTuple a its.toArray)/\xs.length<=sizeLine:=by
 rcases h with h|h
 ·obtain⟨its,r,pl,hz⟩:=I.list h;exact⟨its,r,.inl pl.isList,hz⟩
 ·obtain⟨its,r,pl,hz⟩:=I.tuple h;exact⟨its,r,.inr pl,hz⟩
theorem aBk(hc:X.calm=true)(h1:X.mg "list"=none)(h2:X.mg "zip"=none)(ha:PE X a ta)(hb:PE X b tb)(g1:Gl X "list":=by rfl)(g2:Gl X "zip":=by rfl)
  (hs:starEach [.Call (.Name "zip" q) [a,b] [] pos2] X.env=(false,eval (.Call (.Name "zip" q) [a,b] [] pos2) X.env)::starEach [] X.env:=by rfl)(hpl:(backTo pos (starEach [] X.env)).any (·.1)=false:=by rfl)
  (hs2:starEach [a,b] X.env=(false,eval a X.env)::starEach [b] X.env:=by rfl)(hs3:starEach [b] X.env=(false,eval b X.env)::starEach [] X.env:=by rfl)(hpl2:(backTo pos2 (starEach [b] X.env)).any (·.1)=false:=by rfl) :
  PE X (.Call (.Name "list" p) [.Call (.Name "zip" q) [a,b] [] pos2] [] pos) (tOp (rZip X.K) ta tb):=by
 intro pins s σ H Q I h
 refine aCY (fN I g1 h1 aLy ?_)
 refine aBQ ?_ hs hpl
 rw[hs]
 show wpAny _ _ (spliced ((false,eval (.Call (.Name "zip" q) [a,b] [] pos2) X.env)::backTo pos (starEach [] X.env))) _ _ s
 refine aEZ ?_
 refine aCY (fN I g2 h2 aQb ?_)
 refine aBQ (thn (bM ha (bM hb cH hs3) hs2 pos2 pins s σ H (λvs H2=>match vs with|[x,y]=>rZip X.K x y H2 Q|_=>False) I h) λus s1 ⟨vs,H1,I1,r1,hr⟩=>?_) hs2 hpl2
 match vs,r1,hr with
 |[],_,hr=>exact hr.elim
 |[_],_,hr=>exact hr.elim
 |_::_::_::_,_,hr=>exact hr.elim
 |[x,y],r1,hr =>
 obtain⟨u1,u2,rfl,rx,ry⟩:=r1.two
 obtain⟨aa,bb,xs,ys,rfl,rfl,sx,sy,hq⟩:=hr
 cases rx
 cases ry
 obtain⟨its,q1,p1,z1⟩:=aFw I1 sx
 obtain⟨its2,q2,p2,z2⟩:=aFw I1 sy
 have hl1:aa < s1.heap.objs.size:=by rcases p1 with⟨o,e,_⟩|⟨o,e,_⟩ <;> exact aAF e
 have hl2:bb < s1.heap.objs.size:=by rcases p2 with⟨o,e,_⟩|⟨o,e,_⟩ <;> exact aAF e
 have hsA:its.toArray.size=xs.length:=by simp[q1.length]
 have hsB:its2.toArray.size=ys.length:=by simp[q2.length]
 refine ZP.call_zipG p1 p2 λh1 Zs1 hsz kp=>?_
 refine aGH ?_
 refine ZP.call_listzip (I1.ok.hd hc) (ZP.ap_of hl1 hl2) Zs1 (by rw[hsA,hsB];lia) λh2 acc c kp2 hS hacc hN=>?_
 have kp3:∀b o,s1.heap.get? b=some o->h2.get? b=some o:=λb o e=>by
  have:(b:Nat) < s1.heap.objs.size:=aAF e
  exact kp2 b o (aAJ (Nat.lt_add_right 4 this)) (aAJ (Nat.lt_add_right 3 this)) (aAJ this) (aAJ (Nat.lt_add_right 1 this)) (kp b o e)
 have hT:∀j:Nat,j < acc.size->∃T:Addr,acc[j]?=some (.ref T):=λj hj=>by
  obtain⟨T,_,_,e,_⟩:=hacc.2 j (by rw[<- hacc.1];exact hj)
  exact⟨T,e⟩
 obtain⟨Ts,hTs⟩:∃Ts:List Addr,acc.toList=Ts.map Value.ref:=by
  have:∀l:List Value,(∀j:Nat,j < l.length->∃T:Addr,l[j]?=some (.ref T))->∃Ts:List Addr,l=Ts.map Value.ref:=by
   intro l
   induction l with
   |nil=>exact λ_=>⟨[],rfl⟩
   |cons v r ih =>
    intro hh
    obtain⟨T,e⟩:=hh 0 (by simp)
    obtain⟨Ts,e2⟩:=ih λj hj=>by have:=hh (j+1) (by simpa using hj);simpa using this
    exact⟨T::Ts,by simp at e;rw[e,e2];rfl⟩
  exact this acc.toList λj hj=>by obtain⟨T,e⟩:=hT j (by simpa using hj);exact⟨T,by simpa using e⟩
 have hlen:Ts.length=min xs.length ys.length:=by
  have:=congrArg List.length hTs
  rw[aAK]at this
  rw[<- this,aDF,hacc.1,hsA,hsB]
 have hat:∀(j:Nat) (T:Addr),Ts[j]?=some T->acc[j]?=some (.ref T):=λj T e=>by
  rw[<- aFI,hTs,aBJ,e];rfl
 have hfr:∀(j:Nat) (T:Addr),Ts[j]?=some T->h1.objs.size+1<=T:=λj T e=>by
  obtain⟨T',e',l⟩:=hN j _ (hat j T e)
  cases e';exact l
 have hpr:∀(j:Nat) (T:Addr) (x y:V),Ts[j]?=some T->xs[j]?=some x->ys[j]?=some y->∃u v,RelV x u/\RelV y v/\IsPair h2 T u v:=λj T x y e ex ey=>by
  obtain⟨u,qu,ru⟩:=q1.get ex
  obtain⟨v,qv,rv⟩:=q2.get ey
  have hj:j < min its.toArray.size its2.toArray.size:=by
   have h1:=(aAD.mp ex).1
   have h2:=(aAD.mp ey).1
   lia
  obtain⟨T',x',y',e1,e2,e3,e4,_⟩:=hacc.2 j hj
  rw[hat j T e]at e1;cases e1
  have f2:its[j]?=some x':=by simpa using e2
  have f3:its2[j]?=some y':=by simpa using e3
  rw[qu]at f2;rw[qv]at f3
  cases f2;cases f3
  exact⟨u,v,ru,rv,e4⟩
 let Pr:Addr->V×V->Prop:=λb xy=>∃j:Nat,Ts[j]?=some b/\xs[j]?=some xy.1/\ys[j]?=some xy.2
 have Pru:∀b xy xy',Pr b xy->Pr b xy'->xy=xy':=by
  rintro b ⟨x,y⟩ ⟨x',y'⟩ ⟨j,e1,e2,e3⟩ ⟨j',e1',e2',e3'⟩
  obtain⟨u,v,ru,rv,ip⟩:=hpr j b x y e1 e2 e3
  obtain⟨u',v',ru',rv',ip'⟩:=hpr j' b x' y' e1' e2' e3'
  have ip2:=(show h2.get? b=some _ from ip).symm.trans (show h2.get? b=some _ from ip')
  simp at ip2
  obtain⟨rfl,rfl⟩:=ip2
  rw[ru.inj ru',rv.inj rv']
 have sS:s1.heap.objs.size<=h1.objs.size:=by rw[hsz];lia
 have Sfr:H1 h1.objs.size=none:=I1.hok.fresh sS
 have Tfr:∀b xy,Pr b xy->s1.heap.objs.size<=b/\H1 b=none/\b≠h1.objs.size:=λb xy ⟨j,e,_⟩=>by
  have:=hfr j b e
  have l:s1.heap.objs.size<=b:=aAV sS (Nat.le_of_succ_le this)
  exact⟨l,I1.hok.fresh l,aBF this⟩
 classical
 let H':Hp:=λb=>if b=h1.objs.size then some (.lst (Ts.map V.ref))else if hh:∃xy,Pr b xy then some (.tup [hh.choose.1,hh.choose.2])else H1 b
 have HS:H' h1.objs.size=some (.lst (Ts.map V.ref)):=aAI rfl
 have HT:∀b xy,Pr b xy->H' b=some (.tup [xy.1,xy.2]):=λb xy hp=>by
  show(if b=h1.objs.size then _ else _)=_
  rw[aAL (Tfr b xy hp).2.2,dif_pos ⟨xy,hp⟩]
  have hx:∃xy,Pr b xy:=⟨xy,hp⟩
  rw[Pru b _ _ hx.choose_spec hp]
 have Hold:∀b o,H1 b=some o->H' b=some o:=λb o e=>by
  show(if b=h1.objs.size then _ else _)=_
  rw[aAL (λz=>by rw[z,Sfr]at e;cases e),dif_neg (λ⟨xy,hp⟩=>by rw[(Tfr b xy hp).2.1]at e;cases e)]
  exact e
 have Hcase:∀b o,H' b=some o->(b=h1.objs.size/\o=.lst (Ts.map V.ref))\/(∃xy,Pr b xy/\o=.tup [xy.1,xy.2])\/H1 b=some o:=λb o e=>by
  by_cases hb:b=h1.objs.size
  ·subst hb;rw[HS]at e;cases e;exact .inl ⟨rfl,rfl⟩
  ·by_cases hx:∃xy,Pr b xy
   ·obtain⟨xy,hp⟩:=hx
    rw[HT b xy hp]at e;cases e
    exact .inr (.inl ⟨xy,hp,rfl⟩)
   ·have:H' b=H1 b:=by
     show(if b=h1.objs.size then _ else _)=_
     rw[aAL hb,dif_neg hx]
    rw[this]at e;exact .inr (.inr e)
 refine⟨.ref h1.objs.size,H',?_,rfl,hq H' h1.objs.size Ts Hold Sfr HS hlen λj T x y e ex ey=>HT T (x,y) ⟨j,e,ex,ey⟩⟩
 have fin:Inv X pins σ H' {s1 with heap:=h2,toks:=s1.toks}:=by
  refine aIo (s:=s1) (h':=h2) (t':=s1.toks) I1 kp3 Hold (λb o e n=>?_) λb o e=>?_
  ·rcases Hcase b o e with⟨rfl,_⟩|⟨xy,hp,_⟩|e'
   ·exact sS
   ·exact(Tfr b xy hp).1
   ·rw[n]at e';cases e'
  ·rcases Hcase b o e with⟨rfl,rfl⟩|⟨xy,hp,rfl⟩|e'
   ·refine⟨by rw[aAK,hlen];lia,Ts.map Value.ref,c,?_,?_⟩
    ·clear hTs hlen hat hfr hpr Pru Tfr HS HT Hold Hcase e H' Pr
     induction Ts with
     |nil=>exact .nil
     |cons T r ih=>exact .cons rfl ih
    ·rw[hS,<- hTs]
   ·obtain⟨j,e1,e2,e3⟩:=hp
    obtain⟨u,v,ru,rv,ip⟩:=hpr j b xy.1 xy.2 e1 e2 e3
    exact⟨by rw[aBC];show 2<=16777216;decide,[u,v],.cons ru (.cons rv .nil),⟨_,ip,rfl,_,rfl⟩⟩
   ·exact(I1.hok b o e').stay (λc u _ q=>kp3 c u q) (λc q=>Hold c _ q) λc xs q=>Hold c _ q
 exact fin
noncomputable def zipT(xs ys:List D):List D:=(xs.zip ys).map λp=>.tup [p.1,p.2]
noncomputable def pZip(x y:W)(M:Mm):Oc W:=match sv M x,sv M y with
 |some xs,some ys=>okD (.lst (zipT xs ys)) M
 |_,_=>.bad
theorem aJi:Op2 K Z (rZip K) pZip:=by
 intro μ H M x y v u Q hr rx ry p
 unfold pZip at p
 cases q1:sv M x with
 |none=>rw[q1]at p;exact p.elim
 |some xs =>
  cases q2:sv M y with
  |none=>rw[q1,q2]at p;exact p.elim
  |some ys =>
   rw[q1,q2]at p
   obtain⟨a,vs,rfl,h1,r1⟩:=rQ hr rx q1
   obtain⟨b,us,rfl,h2,r2⟩:=rQ hr ry q2
   refine⟨a,b,vs,us,rfl,rfl,h1,h2,λH' q Ts old hq hS hl hT=>?_⟩
   have ex:Ext μ H μ H':=⟨λa o _ h=>old a o h,λa h=>.inl h,λ_ _ h=>h,λa o h=>⟨o,old a o h,.refl⟩⟩
   have hr':HR K μ H' M:=⟨hr.len,hr.nd,λi a ds e1 e2=>by
    obtain⟨vs,e3,e4⟩:=hr.ent i a ds e1 e2
    exact⟨vs,old _ _ e3,CelO.ext hr.lsts ex e4⟩⟩
   refine p μ H' ex hr' _ ?_
   simp only[Rw,Rp]
   refine⟨q,Ts.map V.ref,rfl,hS,hr.out hq,?_⟩
   have r1':=Rps.ext hr.lsts ex _ _ r1
   have r2':=Rps.ext hr.lsts ex _ _ r2
   clear p q1 q2 rx ry h1 h2 hS hq r1 r2
   unfold zipT
   induction Ts generalizing xs ys vs us with
   |nil =>
    have:(xs.zip ys).length=0:=by rw[List.length_zip,r1'.length,r2'.length,<- hl];rfl
    rw[List.length_eq_zero_iff.mp this]
    exact .nil
   |cons T r ih =>
    cases xs with
    |nil=>simp only[Rps]at r1';subst r1';simp at hl
    |cons x xs =>
     cases ys with
     |nil=>simp only[Rps]at r2';subst r2';simp at hl
     |cons y ys =>
      simp only[Rps]at r1' r2'
      obtain⟨v,vr,rfl,e1,t1⟩:=r1'
      obtain⟨u,ur,rfl,e2,t2⟩:=r2'
      refine .cons ?_ (ih xs ys vr ur (by simpa using hl) (λj T x y a b c=>hT (j+1) T x y (by simpa using a) (by simpa using b) (by simpa using c)) t1 t2)
      simp only[Rp]
      exact⟨T,[v,u],rfl,hT 0 T v u rfl rfl rfl,.cons e1 (.cons e2 .nil)⟩
theorem aBu(hc:X.calm=true)(h1:X.mg "list"=none)(h2:X.mg "zip"=none)(ha:Ev X K Z a fa)(hb:Ev X K Z b fb)(g1:Gl X "list":=by rfl)(g2:Gl X "zip":=by rfl)
  (hs:starEach [.Call (.Name "zip" q) [a,b] [] pos2] X.env=(false,eval (.Call (.Name "zip" q) [a,b] [] pos2) X.env)::starEach [] X.env:=by rfl)(hpl:(backTo pos (starEach [] X.env)).any (·.1)=false:=by rfl)
  (hs2:starEach [a,b] X.env=(false,eval a X.env)::starEach [b] X.env:=by rfl)(hs3:starEach [b] X.env=(false,eval b X.env)::starEach [] X.env:=by rfl)(hpl2:(backTo pos2 (starEach [b] X.env)).any (·.1)=false:=by rfl) :
  Ev X K Z (.Call (.Name "list" p) [.Call (.Name "zip" q) [a,b] [] pos2] [] pos) (e2 pZip fa fb):=by
 have h:=aBk (p:=p) (q:=q) (pos:=pos) (pos2:=pos2) hc h1 h2 ha.h hb.h g1 g2 hs hpl hs2 hs3 hpl2
 rw[ha.k]at h
 exact⟨ha.k,cqE h (lift2 aJi)⟩
end EV
namespace RT
theorem cJ:Slot "reversed" "__next__" "reversed.__next__" :=
 .of (owner:="reversed") (n:="__next__") (by rw[aDJ,aCL];kernel_rfl) (by decide +kernel) (by decide +kernel) (by decide +kernel)
  (by first|exact .inl (by decide +kernel)|exact .inr (by decide +kernel)) (by rw[aDU];kernel_rfl)
theorem nS:Slot "reversed" "__iter__" "reversed.__iter__" :=
 .of (owner:="reversed") (n:="__iter__") (by rw[aDJ,aCL];kernel_rfl) (by decide +kernel) (by decide +kernel) (by decide +kernel)
  (by first|exact .inl (by decide +kernel)|exact .inr (by decide +kernel)) (by rw[aDU];kernel_rfl)
theorem wR:Slot "reversed" "__init__" "object.__init__" :=
 .of (owner:="object") (n:="__init__") (by rw[aDJ,aCL];kernel_rfl) (by decide +kernel) (by decide +kernel) (by decide +kernel)
  (by first|exact .inl (by decide +kernel)|exact .inr (by decide +kernel)) (by rw[aDU];kernel_rfl)
theorem gC:entryFor table "reversed.__next__"=some Builtin.«reversed.__next__»:=entryFor_of_tree (by kernel_rfl)
theorem tP:entryFor table "reversed.__iter__"=some Builtin.«dict_keyiterator.__iter__» :=
 entryFor_alias (id':="dict_keyiterator.__iter__") (by kernel_rfl) (by first|rfl|decide +kernel|(unfold String.splitOn;simp +decide [String.splitOnAux])) (by decide +kernel) (by kernel_rfl)
theorem rP:Manifest.owners.lookup (String.ofList ['d','e','s','r','e','v','e','r'].reverse)=some Manifest.sig_reversed:=by kernel_rfl
theorem gZ(a:Value):argsOk "reversed.__next__" ⟨[a],[]⟩:=by
 unfold argsOk;rw[signature?_of (id:="reversed.__next__") (n:=['_','_','t','x','e','n','_','_']) (o:=['d','e','s','r','e','v','e','r']) (by kernel_rfl) rP];kernel_rfl
theorem wF(a:Value):argsOk "reversed.__iter__" ⟨[a],[]⟩:=by
 unfold argsOk;rw[signature?_of (id:="reversed.__iter__") (n:=['_','_','r','e','t','i','_','_']) (o:=['d','e','s','r','e','v','e','r']) (by kernel_rfl) rP];kernel_rfl
theorem aEs:TypeCalled "reversed" "reversed.__new__" "object.__init__" :=
 ⟨by decide +kernel,by decide +kernel,⟨_,_,F.mro_reversed⟩,F.made_reversed,by decide +kernel,by rw[aDU];kernel_rfl,wR⟩
theorem vW:typeLookup (.type "tuple") "__reversed__"=pure none:=by rw[aDJ,aCL];kernel_rfl
theorem rY:isSubtype (.type "tuple") (.type "dict")=pure false:=by rw[aDU];kernel_rfl
noncomputable abbrev rvObj(l:Addr)(i:Int):Obj:={cls:=.type "reversed",dict:=none,data:=.fields #[.ref l,rawInt i],slots:=#[]}
theorem aIy(l:Addr)(items:Array Value):Meets (Builtin.«reversed.__new__» ⟨[.type "reversed",.ref l],[]⟩) (λ_ R s=>IsTup s.heap l items/\(items.size:Int) < 2 ^ 63 /\
   R (.ok (.ret (.ref s.heap.objs.size))) {s with heap:=s.heap.push (rvObj l ((items.size:Int) - 1)),toks:=s.toks+1+1}) :=
 .of_wp λprog w A R s h=>by
  obtain⟨hl,hz,h⟩:=h
  unfold Builtin.«reversed.__new__»
  refine aAA (aBY (newClass_reversed _) ?_)
  try dsimp only
  refine aAA (aBY (a:=()) (by first|rfl|kernel_rfl) ?_)
  refine aAA (aBY (a:=()) (by first|rfl|kernel_rfl) ?_)
  try dsimp only
  refine aAA (aCS hl.typeIs vW ?_)
  try dsimp only
  refine aAA ?_
  refine aAA (aDA (T:="tuple") (b:=false) hl.typeIs rY ?_)
  try dsimp only
  refine aAA (aCS hl.typeIs aHE.lookup ?_)
  refine aBY (a:=true) (by first|rfl|kernel_rfl) ?_
  show wpAny _ _ (call (.builtin "len") [.ref l] >>= _) _ _ _
  refine aAA (len_tuple hl hz ?_)
  refine aAA (aBY (a:=some (items.size:Int)) (by first|rfl|kernel_rfl) ?_)
  show wpAny _ _ (newObj (.type "reversed") (.fields #[.ref l,rawInt ((items.size:Int) - 1)]) >>= _) _ _ _
  exact aAA (aBI (aAC ⟨_,rfl,h⟩))
variable{prog:Program}{E:Value->Shared->Prop}
theorem call_rev_tuple(hl:IsTup s.heap l items)(hz:(items.size:Int) < 2 ^ 63)
  (h:Q (.ref s.heap.objs.size) {s with heap:=s.heap.push (rvObj l ((items.size:Int) - 1)),toks:=s.toks+1+1}):wpAny (model prog w) A (call (.type "reversed") [.ref l]) Q E s :=
 aFK aEs (by decide) (F.typeCall_reversed_1 _) (F.newCall_reversed_1 _) (λobj=>aGY obj _) F.entry_reversed_new (aIy l items) ⟨hl,hz,⟨⟨_,aAE _ rfl,rfl⟩,h⟩⟩
noncomputable def IsRvT(h:Heap)(a l:Addr)(i:Int):Prop:=∃o,h.get? a=some o/\o.cls=.type "reversed"/\o.data=.fields #[.ref l,rawInt i]
variable{i:Int}
theorem IsRvT.typeIs{a:Addr}(x:IsRvT s.heap a l i):s.TypeIs (.ref a) "reversed":=let⟨o,ho,hc,_⟩:=x;⟨o,ho,hc⟩
theorem IsRvT.at{a:Addr}(x:IsRvT h a l i)(e:∀o,h.get? a=some o->h'.get? a=some o):IsRvT h' a l i:=let⟨o,ho,r⟩:=x;⟨o,e _ ho,r⟩
variable{Q:Option Value->Shared->Prop}
theorem next_item{i:Nat}{x:Value}(hit:IsRvT s.heap it l (i:Int))(hl:IsTup s.heap l items)(hz:(items.size:Int) < 2 ^ 63)(hx:items[i]?=some x)
  (hQ:∀h' tk,IsRvT h' it l ((i:Int) - 1)->Heap.SameBut it s.heap h'->Q (some x) {s with heap:=h',toks:=tk}):wpAny (model prog w) A (pyNext (.ref it)) Q E s:=by
 obtain⟨o,ho,hc,hd⟩:=id hit
 have hlt:i < items.size:=by
  rcases Nat.lt_or_ge i items.size with h|h
  ·exact h
  ·rw[Array.getElem?_eq_none h]at hx;cases hx
 unfold pyNext
 refine aAA (aBT (aAU (name:=Str.ofString "__next__") hit.typeIs cJ
  (aAZ cJ hit.typeIs gC ?_ (gZ _))))
 unfold Builtin.«reversed.__next__»
 refine aAA (aBY (a:=(Value.ref it,[])) rfl ?_)
 try dsimp only
 refine aAA (aAN ho hd (x:=.ref l) rfl ?_)
 refine aAA (aAN ho hd (x:=rawInt (i:Int)) rfl ?_)
 show wpAny _ _ (if(i:Int) < 0 then _ else _) _ _ s
 rw[aAL (by lia)]
 show wpAny _ _ (specialOf (.ref l) (Str.ofString "__getitem__") >>= _) _ _ s
 refine aAA (aCS hl.typeIs aHE.lookup ?_)
 show wpAny _ _ (mkInt (i:Int) >>= _) _ _ s
 refine aAA (wpAny_mkInt ?_)
 refine aAA (aBT (getItem_tuple (j:=i) (x:=x) hl (by lia) (by lia) ?_ hx ?_))
 ·rw[aGL (by lia) (by lia)];simp
 try dsimp only
 refine aAA (aAN ho hd (x:=rawInt (i:Int)) rfl ?_)
 show wpAny _ _ (setField _ _ _ >>= _) _ _ _
 refine aAA (aBX ho hd (by simp) ?_)
 refine aAC ⟨x,rfl,aAC (hQ _ _ ?_ (aDR ..))⟩
 exact⟨_,aBG _ ho (aFF (aCW hd _)),(aID ..).trans hc,by
  rw[aCW hd];simp⟩
theorem next_end(hh:A.handled=none)(hit:IsRvT s.heap it l (-1))
  (hQ:∀h',Heap.ExtBut it s.heap h'->Q none {s with heap:=h'}):wpAny (model prog w) A (pyNext (.ref it)) Q E s:=by
 obtain⟨o,ho,hc,hd⟩:=id hit
 unfold pyNext
 refine aAA (aBT (aAU (name:=Str.ofString "__next__") hit.typeIs cJ
  (aAZ cJ hit.typeIs gC ?_ (gZ _))))
 unfold Builtin.«reversed.__next__»
 refine aAA (aBY (a:=(Value.ref it,[])) rfl ?_)
 try dsimp only
 refine aAA (aAN ho hd (x:=.ref l) rfl ?_)
 refine aAA (aAN ho hd (x:=rawInt (-1)) rfl ?_)
 show wpAny _ _ (if(-1:Int) < 0 then _ else _) _ _ s
 rw[aAI (by decide)]
 refine aAA (aCJ ?_)
 refine aAA ?_
 show wpAny _ _ (setField (.ref it) 1 (rawInt (-1)) >>= _) _ _ _
 refine aAA (aBX ho hd (by simp) ?_)
 refine aBX (aBG _ ho (aFF (aCW hd _))) (aCW hd _) (by simp) ?_
 refine aAA ?_
 show wpAny _ _ (newExc (.type "StopIteration") [] >>= _) _ _ _
 refine aAA ?_
 simp only[newExc,newTuple]
 refine aAA (aBI ?_ (by size_fits))
 refine aAA (m:=firstArgMember _ _) (aBY (a:=Value.none) (by first|rfl|(simp only[firstArgMember];rfl)) ?_)
 refine aBI ?_ (by size_fits)
 simp only[raiseNew]
 refine aAA (wpAny_handled ?_)
 first|rw[show A.in1.handled=none from hh]|rw[hh]
 refine aAA (aAC (wpAny_throw ?_))
 refine aAA (aDA (T:="StopIteration") (b:=true) ⟨_,aAE _ rfl,rfl⟩ aEM ?_)
 exact aAC (hQ _ ((((aDR ..).extBut.trans (aDR ..).extBut).push _).push _))
theorem iter_self{Q:Value->Shared->Prop}(hit:IsRvT s.heap it l i)(h:Q (.ref it) s):wpAny (model prog w) A (pyIter (.ref it)) Q E s:=by
 refine aIF hit.typeIs nS (aAZ nS hit.typeIs tP ?_ (wF _))
 show wpAny _ _ (ret (.ref it)) _ _ s
 exact aAC ⟨_,rfl,"reversed",_,hit.typeIs,cJ.lookup,h⟩
end RT
namespace L2
noncomputable def Itw(K:Frag)(a:Addr)(xs:List V):It :=
 ⟨λi H=>SqT K H a xs/\i < xs.length,λi H x H'=>H'=H/\xs[xs.length - 1 - i]?=some x,λi _=>xs.length<=i⟩
variable{tg:Expr}
theorem aEp(a it:Addr)(xs:List V):Turn P w K tg (Itw K a xs) [it] it (λi h=>i<=xs.length/\RT.IsRvT h it a ((xs.length:Int) - 1 - (i:Int)))where
 mem:=by simp
 obj:=λi h st b hb=>by
  have e:b=it:=by simpa using hb
  subst e
  obtain⟨o,e,c,d⟩:=st.2
  exact⟨o,e,λv z=>by rw[d]at z;cases z⟩
 keep:=λi h h' st k=>⟨st.1,st.2.at λo e=>k it (by simp) o e⟩
 item:=by
  intro X hP hw hK hc i pins s σ H E I hf st hg
  subst hP hw hK
  obtain⟨hq,hx⟩:=hg
  obtain⟨its,rv,p,hz⟩:=I.tuple hq
  have hlt:xs.length - 1 - i < xs.length:=by lia
  have hx':xs[xs.length - 1 - i]?=some xs[xs.length - 1 - i]:=aAR hlt
  obtain⟨u,hu,ru⟩:=rv.get hx'
  obtain⟨f0,f1,f2,f3,f4,f5⟩:=hf it (by simp)
  have st2:=st.2
  have e1:(xs.length:Int) - 1 - (i:Int)=((xs.length - 1 - i:Nat):Int):=by lia
  rw[e1]at st2
  have hlen:=rv.length
  refine RT.next_item st2 p (by rw[aAH,<- hlen];have:sizeLine < 2 ^ 63:=by decide
                                lia) (x:=u) (by simpa using hu) λh' tk st' sb=>?_
  have I1:Inv X pins σ H {s with heap:=h',toks:=tk}:=I.turned (t':=tk) (λb o hb e=>(sb.2 b hb).trans e) f0 f1 f3 f4 f5
  have e2:((xs.length - 1 - i:Nat):Int) - 1=(xs.length:Int) - 1 - ((i+1:Nat):Int):=by lia
  rw[e2]at st'
  obtain⟨o,e,c,d⟩:=id st'
  exact⟨u,rfl,tZ (s:={s with heap:=h',toks:=tk}) e c d (by decide) ⟨_,H,I1,ru,⟨rfl,hx'⟩,⟨hx,st'⟩,λb hb=>(hf b hb).1⟩⟩
 done:=by
  intro X hP hw hK hc i pins s σ H E I hf st hg
  subst hP hw hK
  have hx:xs.length<=i:=hg
  obtain⟨f0,f1,f2,f3,f4,f5⟩:=hf it (by simp)
  have st2:=st.2
  have h1:=st.1
  have e1:(xs.length:Int) - 1 - (i:Int) = -1:=by lia
  rw[e1]at st2
  exact RT.next_end (I.ok.hd (hc.resolve_right id)) st2 λh' eb=>⟨rfl,I.turned (t':=s.toks) (λb o hb e=>eb b o hb e) f0 f1 f3 f4 f5⟩
 self:=λ_ _ _ _ _ st h=>RT.iter_self st.2 h
noncomputable def iRvE(K:Frag)(ta:TA):TI:=λσ H R=>ta σ H λvs H1=>∃a,vs=[.ref a]/\((∃xs,SqL K H1 a xs/\R (Itv K a xs) H1)\/(∃xs,SqT K H1 a xs/\R (Itw K a xs) H1))
theorem aOx{a:Expr}{ta:TA}(hg:Gl X "reversed")(hm:X.mg "reversed"=none)(ha:PA X [a] ta)(hs:starEach [a] X.env=[(false,eval a X.env)]:=by rfl):PI X tg (.Call (.Name "reversed" p) [a] [] pos) (iRvE X.K ta):=by
 intro pins s σ H R I h
 refine Call_ (fN I hg hm rA (aBQ (thn (ha pos pins s σ H _ I h) λus s1 ⟨vs,H1,I1,r1,q1⟩=>?_) hs rfl))
 obtain⟨b,e,⟨xs,hq,q⟩|⟨xs,hq,q⟩⟩:=q1
 ·subst e
  cases r1 with
  |cons r rr =>
   cases rr
   cases r
   obtain⟨its,rv,p,hz⟩:=I1.list hq
   have hlen:=rv.length
   refine call_reversed_list p.isList (wpAny_pyIter_revIter ⟨_,aAE _ rfl,rfl,rfl⟩ ?_)
   have I2:Inv X pins σ H1 {s1 with heap:=s1.heap.push (revObj b ((its.toArray.size:Int) - 1))}:=I1.kept (t':=s1.toks) λb o e=>aAB _ e
   refine⟨s1.heap.objs.size,[s1.heap.objs.size],_,_,H1,rfl,I2,aIl b _ xs,⟨aDB _,_,aAE _ rfl,rfl,?_⟩,λc hb=>?_,q⟩
   ·show Data.fields #[.ref b,rawInt ((its.toArray.size:Int) - 1)]=_
    rw[aAH,<- hlen]
    simp
   ·have e:c=s1.heap.objs.size:=by simpa using hb
    subst e
    exact I1.fpOk (aAG _) (I1.hok.fresh (aAG _))
 ·subst e
  cases r1 with
  |cons r rr =>
   cases rr
   cases r
   obtain⟨its,rv,p,hz⟩:=I1.tuple hq
   have hlen:=rv.length
   refine RT.call_rev_tuple p (by rw[aAH,<- hlen];have:sizeLine < 2 ^ 63:=by decide
                                  lia) (RT.iter_self (i:=(its.toArray.size:Int) - 1) ⟨_,aAE _ rfl,rfl,rfl⟩ ?_)
   have I2:Inv X pins σ H1 {s1 with heap:=s1.heap.push (RT.rvObj b ((its.toArray.size:Int) - 1)),toks:=s1.toks+1+1}:=I1.kept (t':=s1.toks+1+1) λb o e=>aAB _ e
   refine⟨s1.heap.objs.size,[s1.heap.objs.size],_,_,H1,rfl,I2,aEp b _ xs,⟨aDB _,_,aAE _ rfl,rfl,?_⟩,λc hb=>?_,q⟩
   ·show Data.fields #[.ref b,rawInt ((its.toArray.size:Int) - 1)]=_
    rw[aAH,<- hlen]
    simp
   ·have e:c=s1.heap.objs.size:=by simpa using hb
    subst e
    exact I1.fpOk (aAG _) (I1.hok.fresh (aAG _))
end L2
namespace EV
open L2
noncomputable def iRv(f:FE):FI:=λL M=>(f L M).bind λw M1=>match w with
 |.d (.tup xs)=>.ok ⟨xs.reverse,none⟩ M1
 |.d (.lst xs)=>.ok ⟨xs.reverse,none⟩ M1
 |.d (.fz xs)=>.ok ⟨xs.reverse,none⟩ M1
 |_=>.bad
variable{K:Frag}{M:Mm}{a:Expr}{tg:Expr}
theorem aDg{ds:List D}{d:D}(r:Rps K μ H ds vs)(h:ds.reverse[i]?=some d):∃v,vs[vs.length - 1 - i]?=some v/\i < vs.length/\Rp K μ H d v:=by
 obtain⟨v,q1,q2⟩:=r.reverse.get h
 have hi:i < vs.length:=by
  have:=(aAD.mp q1).1
  simpa using this
 rw[aGT hi]at q1
 exact⟨v,q1,hi,q2⟩
variable{p:Addr}
theorem aIf{ds:List D}(S:List Addr->Hp->Prop)(s0:S μ H)(sx:∀μ1 H1 μ2 H2,Lsts μ1 H1->S μ1 H1->Ext μ1 H1 μ2 H2->S μ2 H2)
  (rd:∀μ1 H1,S μ1 H1->SqL K H1 p vs/\Rps K μ1 H1 ds vs):ItOk K μ H ⟨ds.reverse,none⟩ (Itv K p vs):=by
 refine⟨S,s0,sx,λμ1 H1 M1 i hr hS hc=>?_⟩
 obtain⟨h1,r1⟩:=rd μ1 H1 hS
 refine⟨λd hd=>?_,λhl=>?_⟩
 ·obtain⟨v,q1,hi,q2⟩:=aDg r1 hd
  refine⟨⟨h1,hi⟩,λx H2 y=>?_⟩
  obtain⟨rfl,y⟩:=y
  rw[q1]at y
  cases y
  exact⟨.refl,hr,q2⟩
 ·show vs.length<=i
  rw[<- r1.length]
  simpa using hl
theorem aNi{ds:List D}(S:List Addr->Hp->Prop)(s0:S μ H)(sx:∀μ1 H1 μ2 H2,Lsts μ1 H1->S μ1 H1->Ext μ1 H1 μ2 H2->S μ2 H2)
  (rd:∀μ1 H1,S μ1 H1->SqT K H1 p vs/\Rps K μ1 H1 ds vs):ItOk K μ H ⟨ds.reverse,none⟩ (Itw K p vs):=by
 refine⟨S,s0,sx,λμ1 H1 M1 i hr hS hc=>?_⟩
 obtain⟨h1,r1⟩:=rd μ1 H1 hS
 refine⟨λd hd=>?_,λhl=>?_⟩
 ·obtain⟨v,q1,hi,q2⟩:=aDg r1 hd
  refine⟨⟨h1,hi⟩,λx H2 y=>?_⟩
  obtain⟨rfl,y⟩:=y
  rw[q1]at y
  cases y
  exact⟨.refl,hr,q2⟩
 ·show vs.length<=i
  rw[<- r1.length]
  simpa using hl
variable{p:Pos}
theorem aIr(hm:X.mg "reversed"=none)(ha:Ev X K Z a f)(hg:Gl X "reversed":=by rfl)(hs:starEach [a] X.env=[(false,eval a X.env)]:=by rfl):Ei X K Z tg (.Call (.Name "reversed" p) [a] [] pos) (iRv f):=by
 have h':=aOx (tg:=tg) (p:=p) (pos:=pos) hg hm (bM ha.h cH hs) hs
 rw[ha.k]at h'
 refine⟨ha.k,cqI h' ?_⟩
 rintro σ H R ⟨μ,M,L,hr,lr,p⟩
 refine⟨μ,M,L,hr,lr,p.bind.imp λμ1 H1 M1 w e1 hr1 _ p1 v rw'=>?_⟩
 cases w with
 |ref i=>exact p1.elim
 |ob _ _=>exact p1.elim
 |nest _=>exact p1.elim
 |d x=>cases x with
  |tup xs =>
   simp only[Rw,Rp]at rw'
   obtain⟨p,vs,rfl,h1,r1⟩:=rw'
   refine⟨p,rfl,.inr ⟨vs,SqT.of h1,p1 μ1 H1 .refl hr1 _ ?_⟩⟩
   refine aNi (λμ2 H2=>H2 p=some (.tup vs)/\Rps K μ2 H2 xs vs) ⟨h1,r1⟩ (λμ1 H1 μ2 H2 l z e=>⟨e.keep _ _ (λq=>by obtain⟨us,q,mq⟩:=l p q;rw[z.1]at q;cases q;exact mq) z.1,Rps.ext l e _ _ z.2⟩) λμ1 H1 z=>⟨SqT.of z.1,z.2⟩
  |lst xs =>
   simp only[Rw,Rp]at rw'
   obtain⟨p,vs,rfl,h1,hn,r1⟩:=rw'
   refine⟨p,rfl,.inl ⟨vs,SqL.of h1,p1 μ1 H1 .refl hr1 _ ?_⟩⟩
   refine aIf (λμ2 H2=>H2 p=some (.lst vs)/\p∉μ2/\Rps K μ2 H2 xs vs) ⟨h1,hn,r1⟩ (λμ1 H1 μ2 H2 l z e=>⟨e.keep _ _ z.2.1 z.1,λq=>(e.new p q).elim z.2.1 (λq=>by rw[z.1]at q;cases q),Rps.ext l e _ _ z.2.2⟩) λμ1 H1 z=>⟨SqL.of z.1,z.2.2⟩
  |fz xs =>
   simp only[Rw,Rp]at rw'
   obtain⟨p,vs,rfl,h1,r1⟩:=rw'
   refine⟨p,rfl,.inl ⟨vs,h1.sq,p1 μ1 H1 .refl hr1 _ ?_⟩⟩
   refine aIf (λμ2 H2=>FzL K H2 p vs/\Rps K μ2 H2 xs vs) ⟨h1,r1⟩ (λμ1 H1 μ2 H2 l z e=>⟨z.1.ext l e,Rps.ext l e _ _ z.2⟩) λμ1 H1 z=>⟨z.1.sq,z.2⟩
  |_=>exact p1.elim
variable{K:Frag}
noncomputable def rInts(n:Nat):List Int:=(List.range n).map λk=>(0:Int)+(k:Nat)
variable{n:Nat}
theorem uX:rngD 0 n=(rInts n).map D.int:=by unfold rngD rInts;rw[aCV];rfl
noncomputable section
def rLR:List V->Hp->VK->Prop:=λxs H Q=>∃p j,xs=[.ref p]/\H p=some (.rng 0 j)/\0<=j/\j<=16777216/\∀l,H l=none->Q (.ref l) (upd H l (.lst ((rInts j.toNat).map V.int)))
theorem kN{acc:Array Value}(h:ItemsOf (λi v=>∃t,v=.int ((0:Int)+i*1) t) acc n):Vals ((rInts n).map V.int) acc.toList:=by
 have key:∀(l:List Value) (k:Nat),(∀j v,l[j]?=some v->∃t,v=Value.int ((0:Int)+((k+j:Nat):Int)) t)->Vals ((List.range' k l.length).map λi=>V.int ((0:Int)+(i:Nat))) l:=by
  intro l
  induction l with
  |nil=>intro k _;exact .nil
  |cons x r ih =>
   intro k hk
   rw[aEN,List.range'_succ,aBP]
   refine .cons ?_ (ih (k+1) λj v e=>?_)
   ·obtain⟨t,e⟩:=hk 0 x rfl
    exact⟨t,by simpa using e⟩
   ·obtain⟨t,e'⟩:=hk (j+1) v (by simpa using e)
    exact⟨t,by rw[e'];congr 2;lia⟩
 have hl:acc.toList.length=n:=h.1
 have:=key acc.toList 0 λj v e=>by
  obtain⟨t,e'⟩:=h.2 j v (by simpa using e)
  exact⟨t,by rw[e'];first|rfl|(congr 1 <;> lia)⟩
 rw[hl]at this
 unfold rInts
 rw[aCV,List.range_eq_range']
 exact this
theorem tT(hc:X.calm=true):CallR X (.type "list") rLR:=by
 intro pins s σ H xs us Q I r h
 obtain⟨p,j,rfl,hq,h0,h1,q⟩:=h
 obtain⟨u,rfl,rx⟩:=vals1 r
 cases rx
 obtain⟨t,u,v,ho⟩:=(show ObjOk X.prog X.w H s.heap p (.rng 0 j)from I.hok p _ hq)
 refine call_list_range (n:=j.toNat) (I.ok.hd hc) ho (small_one (by lia) (by lia) (by lia) (by lia)) (by rw[rangeSize_one];split <;> lia) (by lia) λh' tk acc' c' kp hS hacc=>?_
 refine⟨.ref s.heap.objs.size,_,I.laid (t':=tk) kp (aAG _) (show ObjOk X.prog X.w _ h' _ (.lst ((rInts j.toNat).map V.int))from⟨by rw[aBC];simp[rInts];lia,acc'.toList,c',kN hacc,by simpa using hS⟩),rfl,q _ (I.hok.fresh (aAG _))⟩
def cLRR(w:W)(M:Mm):Oc W:=match w with
 |.d (.int j)=>if 0<=j/\j<=16777216 then .ok (.ref M.length) (M++[rngD 0 j.toNat])else .bad
 |_=>.bad
abbrev eListRange1R(f:FE):FE:=e1 cLRR f
end
theorem pF:bootBuiltins "range"=some (.type "range"):=by first|rfl|kernel_rfl
theorem aAn:bootBuiltins "list"=some (.type "list"):=by first|rfl|kernel_rfl
theorem aLz{t:TE}{p:Pos}(hc:X.calm=true)(hm:X.mg "list"=none)(hm2:X.mg "range"=none)(ha:PE X a t)(hg:Gl X "list")(hg2:Gl X "range")(hs:starEach [a] X.env=[(false,eval a X.env)])
  (hs2:starEach [.Call (.Name "range" p2) [a] [] pos2] X.env=[(false,eval (.Call (.Name "range" p2) [a] [] pos2) X.env)]) :
  PE X (.Call (.Name "list" p) [.Call (.Name "range" p2) [a] [] pos2] [] pos) (λσ H Q=>t σ H λv H1=>∃j,[v]=[V.int j]/\∀p,H1 p=none->rLR [.ref p] (upd H1 p (.rng 0 j)) Q) :=
 jX (tT hc) hg hm aAn (bM (jX yZ hg2 hm2 pF (bM ha cH hs) (by decide) (by decide) hs rfl) cH hs2) (by decide) (by decide) hs2 rfl
theorem aIx{Q:VK}{j:Int}{o:Oc W}(hr:HR K μ H M)(p:Pst K Z μ H o (Wk K Q))(h0:0<=j)(h1:j<=16777216)(ho:∀(H':Hp),HR K μ H' M->Pst K Z μ H' o (Wk K Q)->∀l,H' l=none->Q (.ref l) (upd H' l (.lst ((rInts j.toNat).map V.int)))) :
  ∃j',[V.int j]=[V.int j']/\∀p,H p=none->rLR [.ref p] (upd H p (.rng 0 j')) Q :=
 ⟨j,rfl,λq hq=>⟨q,j,rfl,bE,h0,h1,ho _ (hr.lay hq) (Pst.mono (eF hr hq) p)⟩⟩
theorem sP(hc:X.calm=true)(hm:X.mg "list"=none)(hm2:X.mg "range"=none)(ha:Ev X K Z a f)(hg:Gl X "list":=by rfl)(hg2:Gl X "range":=by rfl)(hs:starEach [a] X.env=[(false,eval a X.env)]:=by rfl)
  (hs2:starEach [.Call (.Name "range" p2) [a] [] pos2] X.env=[(false,eval (.Call (.Name "range" p2) [a] [] pos2) X.env)]:=by rfl):Ev X K Z (.Call (.Name "list" p) [.Call (.Name "range" p2) [a] [] pos2] [] pos) (eListRange1R f):=by
 refine⟨ha.k,cqE (aLz hc hm hm2 ha.h hg hg2 hs hs2) ?_⟩
 rintro σ H Q ⟨μ,M,L,hr,lr,p⟩
 refine⟨μ,M,L,hr,lr,p.bind.imp λμ1 H1 M1 w e1 hr1 _ p1 v rw'=>?_⟩
 cases w with
 |ref i=>exact p1.elim
 |ob _ _=>exact p1.elim
 |nest _=>exact p1.elim
 |d x=>cases x with
  |int j =>
   simp only[cLRR]at p1
   split at p1
   ·rename_i hz
    simp only[Rw,Rp]at rw'
    subst rw'
    exact aIx hr1 p1 hz.1 hz.2 λH' hr' p'=>aCv hr' Rps.ints (by rw[uX]at p';exact p')
   ·exact p1.elim
  |_=>exact p1.elim
end EV
end
variable{fi:EV.FI}{QI:EV.Src->EV.Mm->Prop}
namespace EV
open PySem L2
@[irreducible] noncomputable def Okx(EX:D->Mm->Prop)(o:Oc α)(Q:α->Mm->Prop):Prop:=match o with
 |.ok a M=>Q a M
 |.ex x M=>EX x M
 |.bad=>False
noncomputable abbrev NX:D->Mm->Prop:=λ_ _=>False
noncomputable abbrev Ok(o:Oc α)(Q:α->Mm->Prop):Prop:=Okx NX o Q
variable{α β:Type}{EX EX':D->Mm->Prop}{o o':Oc α}{Q Q':α->Mm->Prop}{a:α}{M:Mm}
theorem fV:Okx EX o Q ↔ (∃a M,o=.ok a M/\Q a M)\/∃x M,o=.ex x M/\EX x M:=by
 unfold Okx
 cases o with
 |ok a M=>exact⟨λh=>.inl ⟨a,M,rfl,h⟩,λh=>by rcases h with⟨_,_,e,q⟩|⟨_,_,e,q⟩ <;> cases e;exact q⟩
 |ex x M=>exact⟨λh=>.inr ⟨x,M,rfl,h⟩,λh=>by rcases h with⟨_,_,e,q⟩|⟨_,_,e,q⟩ <;> cases e;exact q⟩
 |bad=>exact⟨λh=>h.elim,λh=>by rcases h with⟨_,_,e,q⟩|⟨_,_,e,q⟩ <;> cases e⟩
theorem lR:Ok o Q ↔ ∃a M,o=.ok a M/\Q a M:=by
 refine Iff.trans (fV (EX:=NX)) ⟨λh=>?_,.inl⟩
 rcases h with h|⟨_,_,_,q⟩
 ·exact h
 ·exact q.elim
theorem aU(q:Q a M):Okx EX (.ok a M) Q:=fV.mpr (.inl ⟨a,M,rfl,q⟩)
theorem jQ{x:D}(q:EX x M):Okx EX (.ex x M:Oc α) Q:=fV.mpr (.inr ⟨x,M,rfl,q⟩)
theorem aV{k:α->Mm->Oc β}{Q:β->Mm->Prop}(h:Okx EX o λa M=>Okx EX (k a M) Q):Okx EX (o.bind k) Q:=by
 rcases fV.mp h with⟨a,M,rfl,q⟩|⟨x,M,rfl,q⟩
 ·exact q
 ·exact jQ q
theorem Okx.mono(h:Okx EX o Q)(f:∀a M,Q a M->Q' a M):Okx EX o Q':=by
 rcases fV.mp h with⟨a,M,rfl,q⟩|⟨x,M,rfl,q⟩
 ·exact aU (f _ _ q)
 ·exact jQ q
theorem Okx.monoX(h:Okx EX o Q)(f:∀a M,Q a M->Q' a M)(g:∀x M,EX x M->EX' x M):Okx EX' o Q':=by
 rcases fV.mp h with⟨a,M,rfl,q⟩|⟨x,M,rfl,q⟩
 ·exact aU (f _ _ q)
 ·exact jQ (g _ _ q)
theorem Ok.mono(h:Ok o Q)(f:∀a M,Q a M->Q' a M):Okx EX o Q':=Okx.monoX h f λ_ _ z=>z.elim
variable{EX:D->Mm->Prop}{c:Bool}
theorem cM{a b:Oc α}{Q:α->Mm->Prop}(h1:c=true->Okx EX a Q)(h2:c=false->Okx EX b Q):Okx EX (if c=true then a else b) Q:=by cases c <;> simp_all
variable{p:Prop}
theorem fE[Decidable p]{a b:Oc α}{Q:α->Mm->Prop}(h1:p->Okx EX a Q)(h2:¬p->Okx EX b Q):Okx EX (if decide p=true then a else b) Q:=by by_cases h:p <;> simp_all
theorem aOv[Decidable p]{a b:Oc α}{Q:α->Mm->Prop}(h1:p->Okx EX b Q)(h2:¬p->Okx EX a Q):Okx EX (if(!decide p)=true then a else b) Q:=by by_cases h:p <;> simp_all
theorem eQ{a b:Oc α}{Q:α->Mm->Prop}(h:c=true)(h1:Okx EX a Q):Okx EX (if c=true then a else b) Q:=by rw[aAI h];exact h1
theorem dO{a b:Oc α}{Q:α->Mm->Prop}(h:c=false)(h1:Okx EX b Q):Okx EX (if c=true then a else b) Q:=by rw[aAL (by simp[h])];exact h1
section
variable{α β:Type}(EX:D->Mm->Prop)(L:Lc)(Q:W->Mm->Prop)(QA:List W->Mm->Prop)(QS:Out->Mm->Prop)(QT:Bool->Mm->Prop)(QG:Lc->Mm->Prop)(QI:Src->Mm->Prop)
noncomputable section
abbrev poA(p:α->Mm->Oc β)(Q:β->Mm->Prop):α->Mm->Prop:=λx M=>Okx EX (p x M) Q
abbrev poF(f:α->β)(Q:β->Mm->Prop):α->Mm->Prop:=λx M=>Q (f x) M
abbrev poK(P:Mm->Prop):α->Mm->Prop:=λ_ M=>P M
abbrev poE(p:W->W->Mm->Oc W)(g:FE):W->Mm->Prop:=λx M=>Okx EX (g L M) (poA EX (p x) Q)
abbrev poC(fs:FA):W->Mm->Prop:=λw M=>Okx EX (fs L M) (poF (List.cons w) QA)
abbrev poB:W->Mm->Prop:=λw M=>∃b,w=.d (.bl b)/\QT b M
abbrev poV:W->Mm->Prop:=λw M=>∃b,tru M w=some b/\QT b M
abbrev poTA(u:FT):Bool->Mm->Prop:=λb M=>(b=true->Okx EX (u L M) QT)/\(b=false->QT false M)
abbrev poTO(u:FT):Bool->Mm->Prop:=λb M=>(b=true->QT true M)/\(b=false->Okx EX (u L M) QT)
abbrev poI(F G:Lc->Mm->Oc α)(Q:α->Mm->Prop):Bool->Mm->Prop:=λb M=>Okx EX (if b=true then F L M else G L M) Q
abbrev poS(G:FS):Out->Mm->Prop:=λo M=>match o with
 |.nx L1=>Okx EX (G L1 M) QS
 |.bk L1=>QS (.bk L1) M
 |.ct L1=>QS (.ct L1) M
 |.rt w=>QS (.rt w) M
abbrev poG(gg:FG):W->Mm->Prop:=λw M=>Okx EX (gg w L M) (poF Out.nx QS)
abbrev poU(i:Nat):W->Mm->Prop:=λz M=>QS (.nx (L.set i (some z))) M
abbrev poP(i j:Nat):List W->Mm->Prop:=λws M=>∃v w,ws=[v,w]/\QS (.nx ((L.set i (some v)).set j (some w))) M
abbrev poL(gg:FG)(B:FS):Src->Mm->Prop:=λs M=>Okx EX (forD s gg B s.ds L M) QS
abbrev poN:W->Mm->Prop:=λw M=>∃s,srcOf M w=some s/\QI s M
abbrev poR:W->Mm->Prop:=λw M=>∃j,w=.d (.int j)/\in62 j=true/\QI ⟨rngD 0 j.toNat,none⟩ M
abbrev poM(p:W->W->Mm->Oc W)(g:FE):W->Mm->Prop:=λx M=>∃k,x=.ref k/\Okx EX (g L M) (poA EX (p (.ref k)) Q)
abbrev poT3(p:W->Option Int->Option Int->Mm->Oc W)(fh:FO)(x:W):Option Int->Mm->Prop:=λlo M=>Okx EX (fh L M) (poA EX (p x lo) Q)
abbrev poT(p:W->Option Int->Option Int->Mm->Oc W)(fl fh:FO):W->Mm->Prop:=λx M=>Okx EX (fl L M) (poT3 EX L Q p fh x)
abbrev poO(J:Lc->Mm->Prop):Out->Mm->Prop:=λo M=>match o with
 |.nx L=>J L M
 |.ct L=>J L M
 |.bk L=>QS (.nx L) M
 |.rt w=>QS (.rt w) M
abbrev poD(n:Nat):Out->Mm->Prop:=λo M'=>match o with
 |.rt w=>Okx EX (retc n w M') Q
 |.nx _=>Q (.d .non) (M'.take n)
 |_=>False
end
end
section
variable{i j:Nat}{w x y:W}{Q:W->Mm->Prop}{QA:List W->Mm->Prop}{QT:Bool->Mm->Prop}{g h:FE}{G:FS}{t u:FT}{fs:FA}{gg:FG}
theorem aSi(h:L[i]?=some (some w))(q:Q w M):Okx EX (eV i L M) Q:=by unfold eV;rw[h];exact aU q
theorem aSg{d:D}(q:Q (.d d) M):Okx EX (eC d L M) Q:=aU q
theorem aLo(q:Q (.d (.lst (ns.map D.int))) M):Okx EX (eInts ns L M) Q:=aU q
theorem aRg{p:W->Mm->Oc W}(h:Okx EX (f L M) (poA EX p Q)):Okx EX (e1 p f L M) Q:=aV h
theorem aMq{p:W->W->Mm->Oc W}(h:Okx EX (f L M) (poE EX L Q p g)):Okx EX (e2 p f g L M) Q:=aV (h.mono λ_ _ z=>aV z)
theorem aSh{p:List W->Mm->Oc W}(h:Okx EX (fs L M) (poA EX p Q)):Okx EX (eA p fs L M) Q:=aV h
theorem aGh(q:QA [] M):Okx EX (aNil L M) QA:=aU q
theorem aRk(h:Okx EX (f L M) (poC EX L QA fs)):Okx EX (aCons f fs L M) QA:=aV (h.mono λ_ _ z=>aV (z.mono λ_ _ z=>aU z))
theorem aRa(h:Okx EX (t L M) (poI EX L f g Q)):Okx EX (eIf t f g L M) Q:=aV h
theorem aMr(h:Okx EX (f L M) (poB QT)):Okx EX (EV.tB f L M) QT:=aV (h.mono λw M1 ⟨b,e,q⟩=>by subst e;exact aU q)
theorem aRu(h:Okx EX (f L M) (poV QT)):Okx EX (tV f L M) QT:=aV (h.mono λw M1 ⟨b,e,q⟩=>by rw[e];exact aU q)
theorem aJt(h:Okx EX (t L M) (poF not QT)):Okx EX (EV.tNot t L M) QT:=aV (h.mono λ_ _ z=>aU z)
theorem aKp(h:Okx EX (t L M) (poTA EX L QT u)):Okx EX (EV.tAnd t u L M) QT:=aV (h.mono λb M1 ⟨h1,h2⟩=>by cases b with|true=>exact h1 rfl|false=>exact aU (h2 rfl))
theorem aPs(h:Okx EX (t L M) (poTO EX L QT u)):Okx EX (EV.tOr t u L M) QT:=aV (h.mono λb M1 ⟨h1,h2⟩=>by cases b with|true=>exact aU (h1 rfl)|false=>exact h2 rfl)
theorem aJv(q:QT true M):Okx EX (EV.tYes L M) QT:=aU q
theorem gG(q:QS (.nx L) M):Okx EX (sNil L M) QS:=aU q
theorem bT(h:Okx EX (F L M) (poS EX QS G)):Okx EX (sSeq F G L M) QS:=aV (h.mono λo M1 z=>by cases o with|nx L1=>exact z|bk L1=>exact aU z|ct L1=>exact aU z|rt w=>exact aU z)
theorem aQu(h:Okx EX (f L M) (poK (QS (.nx L)))):Okx EX (sEx f L M) QS:=aV (h.mono λ_ _ z=>aU z)
theorem aRx(h:Okx EX (f L M) (poF Out.rt QS)):Okx EX (sRt f L M) QS:=aV (h.mono λ_ _ z=>aU z)
theorem dG(h:Okx EX (t L M) (poI EX L F G QS)):Okx EX (sIf t F G L M) QS:=aV h
theorem xF(h:Okx EX (f L M) (poG EX L QS gg)):Okx EX (sAs f gg L M) QS:=aV (h.mono λ_ _ z=>aV (z.mono λ_ _ z=>aU z))
theorem aKq(h:Okx EX (fs L M) (poP L QS i j)):Okx EX (sPar i j fs L M) QS:=aV (h.mono λws M1 ⟨v,w,e,q⟩=>by subst e;exact aU q)
theorem aJx{p:W->W->Mm->Oc W}(h:L[i]?=some (some x))(z:Okx EX (f L M) (poA EX (p x) (poU L QS i))):Okx EX (sAug p i f L M) QS:=by
 unfold sAug eV;rw[h];exact aV (aU (aV (z.mono λ_ _ z=>aV (z.mono λ_ _ z=>aU z))))
theorem pG(q:QG (L.set i (some w)) M):Okx EX (gN i w L M) QG:=aU q
variable{n:Nat}{gs:FGs}
theorem aSa{xs:List D}(hn:xs.length=n)(h:Okx EX (gs xs L M) QG):Okx EX (gT n gs (.d (.tup xs)) L M) QG:=by unfold gT;simp only;rw[aAI hn];exact h
theorem aPq(q:QG L M):Okx EX (gsNil [] L M) QG:=aU q
theorem aNc{d:D}{ds:List D}(h:Okx EX (gg (.d d) L M) (poA EX (gs ds) QG)):Okx EX (gsCons gg gs (d::ds) L M) QG:=aV h
theorem aQw{d:D}(h:Okx EX (f L M) λo M1=>Okx EX (g L M1) λi M2=>∃k j xs t,o=.ref k/\i=.d (.int j)/\M2[k]?=some xs/\ixN xs.length j=some t/\QG L (M2.set k (xs.set t d))):Okx EX (gS f g (.d d) L M) QG:=by
 refine aV (h.mono λo M1 z=>aV (z.mono λi M2 ⟨k,j,xs,t,e1,e2,e3,e4,q⟩=>?_))
 subst e1 e2
 simp only[e3,e4]
 exact aU q
theorem aRm{c:Int->Int->Bool}{gg:Int->Int->D}{i j:Int}(hc:c i j=true)(q:Q (.d (gg i j)) M):Okx EX (pI c gg (.d (.int i)) (.d (.int j)) M) Q:=by unfold pI;simp only;rw[aAI hc];exact aU q
theorem aQd{i j:Int}(q:Q (.d (.int (i+j))) M):Okx EX (pAdd (.d (.int i)) (.d (.int j)) M) Q:=aU q
theorem bA{xs ys:List D}(hz:xs.length+ys.length<=16777216)(q:Q (.d (.tup (xs++ys))) M):Okx EX (pAdd (.d (.tup xs)) (.d (.tup ys)) M) Q:=by unfold pAdd;simp only;rw[aAI hz];exact aU q
theorem qN{xs ys:List D}(h1:lv M x=some xs)(h2:lv M y=some ys)(hz:xs.length+ys.length<=16777216)(q:Q (.d (.lst (xs++ys))) M):Okx EX (pAdd x y M) Q:=by
 have:pAdd x y M=.ok (.d (.lst (xs++ys))) M:=by
  cases x with
  |ref i=>simp only[pAdd,h1,h2];rw[aAI hz]
  |ob _ i=>simp only[pAdd,h1,h2];rw[aAI hz]
  |nest i=>simp only[pAdd,h1,h2];rw[aAI hz]
  |d a=>cases a <;> simp only[lv,reduceCtorEq]at h1
        cases y with
        |ref i=>cases h1;simp only[lv]at h2;simp only[pAdd,lv,h2];rw[aAI hz]
        |ob _ i=>simp[lv]at h2
        |nest i=>simp[lv]at h2
        |d b=>cases b <;> simp only[lv,reduceCtorEq]at h2
              simp only[pAdd,lv];cases h1;cases h2;rw[aAI hz]
 rw[this];exact aU q
theorem aPa{i j:Int}(hz:mulOk i j=true)(q:Q (.d (.int (i*j))) M):Okx EX (pMulA (.d (.int i)) (.d (.int j)) M) Q:=by unfold pMulA pMul;simp only;rw[aAI hz];exact aU q
variable{k:Int}
theorem aDp{xs:List D}(hz:xs.length*k.toNat<=16777216/\k < 9223372036854775808 /\ -9223372036854775808<=k)(q:Q (.d (.tup (List.replicate k.toNat xs).flatten)) M):Okx EX (pMulA (.d (.tup xs)) (.d (.int k)) M) Q:=by
 unfold pMulA;simp only;rw[aAI hz];exact aU q
theorem aOh{i:Int}(q:Q (.d (.int (-i))) M):Okx EX (pNeg (.d (.int i)) M) Q:=aU q
theorem nX{a b:D}(h1:wd M x=some a)(h2:wd M y=some b)(hd:dep a<=100/\dep b<=100)(q:Q (.d (.bl (eqD a b))) M):Okx EX (pEq x y M) Q:=by unfold pEq;rw[h1,h2];simp only;rw[aAI hd];exact aU q
theorem nC{a b:D}(h1:wd M x=some a)(h2:wd M y=some b)(hd:dep a<=100/\dep b<=100)(q:Q (.d (.bl (!eqD a b))) M):Okx EX (pNe x y M) Q:=by unfold pNe;rw[h1,h2];simp only;rw[aAI hd];exact aU q
theorem aNb{i j:Int}(q:Q (.d (.bl (decide (i=j)))) M):Okx EX (pEq (.d (.int i)) (.d (.int j)) M) Q:=nX rfl rfl (by simp[dep]) (by simp only[eqD];exact q)
theorem aPu{i j:Int}(q:Q (.d (.bl (!decide (i=j)))) M):Okx EX (pNe (.d (.int i)) (.d (.int j)) M) Q:=nC rfl rfl (by simp[dep]) (by simp only[eqD];exact q)
theorem aPm{a b:Str}(q:Q (.d (.bl (a==b))) M):Okx EX (pEq (.d (.str a)) (.d (.str b)) M) Q:=nX rfl rfl (by simp[dep]) (by simpa only[eqD]using q)
theorem aNy{a b:Str}(q:Q (.d (.bl (!(a==b)))) M):Okx EX (pNe (.d (.str a)) (.d (.str b)) M) Q:=nC rfl rfl (by simp[dep]) (by simpa only[eqD]using q)
theorem aOo{a b:Bool}(q:Q (.d (.bl (!(a==b)))) M):Okx EX (pNe (.d (.bl a)) (.d (.bl b)) M) Q:=nC rfl rfl (by simp[dep]) (by simpa only[eqD]using q)
theorem aPw{a b:Bool}(q:Q (.d (.bl (a==b))) M):Okx EX (pEq (.d (.bl a)) (.d (.bl b)) M) Q:=nX rfl rfl (by simp[dep]) (by simpa only[eqD]using q)
theorem aQt(q:Q (.d (.bl (isN x))) M):Okx EX (pIs x (.d .non) M) Q:=aU q
theorem yX{neg:Bool}{d:D}{xs:List D}(h:sv M y=some xs)(hf:flatD d=true)(hx:xs.all flatD=true)(q:Q (.d (.bl (if neg then !(xs.any λy=>eqD y d)else xs.any λy=>eqD y d))) M):Okx EX (pInG neg (.d d) y M) Q:=by
 unfold pInG;rw[h];simp only;rw[aAI ⟨hf,hx⟩];exact aU q
theorem mM{xs:List D}{d:D}(h:atI xs k=some d)(q:Q (.d d) M):Okx EX (pIx (.d (.tup xs)) (.d (.int k)) M) Q:=by unfold pIx;simp only[sv,h];exact aU q
theorem aJh{xs:List D}{d:D}(hs:∀z,x≠.d (.str z))(h1:sv M x=some xs)(h:atI xs k=some d)(q:Q (.d d) M):Okx EX (pIx x (.d (.int k)) M) Q:=by
 have:pIx x (.d (.int k)) M=.ok (.d d) M:=by
  cases x with
  |ref i=>simp only[pIx,h1,h]
  |ob _ i=>simp only[pIx,h1,h]
  |nest i=>simp only[pIx,h1,h]
  |d a=>cases a <;> first|(exact(hs _ rfl).elim)|(simp only[pIx,h1,h])
 rw[this];exact aU q
theorem cG{xs:List D}{d:D}(h:atI xs k=some d)(q:Q (.d d) M):Okx EX (pIx (.d (.lst xs)) (.d (.int k)) M) Q:=aJh (by simp) rfl h q
theorem aAp{xs:List D}{d:D}(h:atI xs k=some d)(q:Q (.d d) M):Okx EX (pIx (.d (.fz xs)) (.d (.int k)) M) Q:=aJh (by simp) rfl h q
variable{b:Nat}
theorem aGz{xs:List D}{d:D}(h1:M[b]?=some xs)(h:atI xs k=some d)(q:Q (.d d) M):Okx EX (pIx (.ref b) (.d (.int k)) M) Q:=aJh (by simp) h1 h q
theorem aHu{ws:List W}{ds:List D}(h:allD ws=some ds)(hz:ds.length<=16777216)(q:Q (.d (.tup ds)) M):Okx EX (mkT ws M) Q:=by unfold mkT;rw[h];simp only;rw[aAI hz];exact aU q
theorem aPe{ws:List W}{ds:List D}(h:allD ws=some ds)(hz:ds.length<=16777216)(q:Q (.d (.lst ds)) M):Okx EX (mkL ws M) Q:=by unfold mkL;rw[h];simp only;rw[aAI hz];exact aU q
theorem aOw{ws:List W}{ds:List D}(h:allD ws=some ds)(hz:ds.length<=16777216)(q:Q (.ref M.length) (M++[ds])):Okx EX (mkR ws M) Q:=by unfold mkR;rw[h];simp only;rw[aAI hz];exact aU q
theorem aOr{xs:List D}(hs:∀z,x≠.d (.str z))(h:sv M x=some xs)(q:Q (.d (.int xs.length)) M):Okx EX (cLen [x] M) Q:=by
 have:cLen [x] M=.ok (.d (.int xs.length)) M:=by
  cases x with
  |ref i=>simp only[cLen,h]
  |ob _ i=>simp only[cLen,h]
  |nest i=>simp only[cLen,h]
  |d a=>cases a <;> first|(exact(hs _ rfl).elim)|(simp only[cLen,h])
 rw[this];exact aU q
theorem aJu{xs:List D}(q:Q (.d (.int xs.length)) M):Okx EX (cLen [.d (.tup xs)] M) Q:=aU q
theorem aLk{xs:List D}(q:Q (.d (.int xs.length)) M):Okx EX (cLen [.d (.lst xs)] M) Q:=aU q
theorem aJw{xs:List D}(q:Q (.d (.int xs.length)) M):Okx EX (cLen [.d (.fz xs)] M) Q:=aU q
theorem aCj{xs:List D}(h:M[b]?=some xs)(q:Q (.d (.int xs.length)) M):Okx EX (cLen [.ref b] M) Q:=aOr (by simp) h q
variable{b:Bool}
theorem aLe(q:Q (.d (.int (if b=true then 1 else 0))) M):Okx EX (cInt [.d (.bl b)] M) Q:=aU q
theorem aNa{l:Int}(q:Q (.d (.int (if l > k then l else k))) M):Okx EX (cMax2 [.d (.int k),.d (.int l)] M) Q:=aU q
theorem aPn{l:Int}(q:Q (.d (.int (if l < k then l else k))) M):Okx EX (cMin2 [.d (.int k),.d (.int l)] M) Q:=aU q
theorem jM{xs:List D}(h:sv M x=some xs)(q:Q (.d (.tup xs)) M):Okx EX (cTup [x] M) Q:=by unfold cTup;simp only[h];exact aU q
theorem aPv{T:String}(h:isT T M x=some b)(q:Q (.d (.bl b)) M):Okx EX (pIsI T x M) Q:=by unfold pIsI;rw[h];exact aU q
theorem aSe{p:W->W->Mm->Oc W}(h:Okx EX (f L M) (poM EX L Q p g)):Okx EX (eM1 p f g L M) Q:=aV (h.mono λx M1 ⟨k,e,z⟩=>by subst e;exact aV z)
variable{k:Nat}
theorem kE{d:D}{xs:List D}(h:M[k]?=some xs)(hz:xs.length < 16777216)(q:Q (.d .non) (M.set k (xs++[d]))):Okx EX (pAppend (.ref k) (.d d) M) Q:=by unfold pAppend;simp only[h];rw[aAI hz];exact aU q
theorem uS{xs ys:List D}(h:M[k]?=some xs)(h2:lv M y=some ys)(hz:xs.length+ys.length<=16777216)(q:Q (.d .non) (M.set k (xs++ys))):Okx EX (pExtend (.ref k) y M) Q:=by unfold pExtend;simp only[h,h2];rw[aAI hz];exact aU q
theorem aPt{xs:List D}{d:D}(h:M[k]?=some (xs++[d]))(q:Q (.d d) (M.set k xs)):Okx EX (pPop (.ref k) M) Q:=by
 unfold pPop;simp only[h,List.getLast?_concat,List.dropLast_concat];exact aU q
theorem aRo{fl fh:FO}(z:Okx EX (f L M) (poT EX L Q pSl fl fh)):Okx EX (eSl f fl fh L M) Q:=aV (z.mono λ_ _ z=>aV (z.mono λ_ _ z=>aV z))
theorem aNv(q:QO none M):Okx EX (oNo L M) QO:=aU q
theorem aQn(h:Okx EX (f L M) λw M1=>∃k,w=.d (.int k)/\QO (some k) M1):Okx EX (oAt f L M) QO:=aV (h.mono λw M1 ⟨k,e,q⟩=>by subst e;exact aU q)
theorem aQf{xs:List D}(q:Q (.d (.tup (cut xs lo hi))) M):Okx EX (pSl (.d (.tup xs)) lo hi M) Q:=aU q
theorem aPg{xs:List D}(hs:∀z,x≠.d (.tup z))(h:lr M x=some xs)(q:Q (.d (.lst (cut xs lo hi))) M):Okx EX (pSl x lo hi M) Q:=by
 have:pSl x lo hi M=okD (.lst (cut xs lo hi)) M:=by
  cases x with
  |ref i=>simp only[pSl,h]
  |ob _ i=>simp only[pSl,h]
  |nest i=>simp only[pSl,h]
  |d a=>cases a <;> first|(exact(hs _ rfl).elim)|(simp only[pSl,h])
 rw[this];exact aU q
variable{B:FS}
theorem aPl(h:Okx EX (fi L M) (poL EX L QS gg B)):Okx EX (sFor fi gg B L M) QS:=aV h
theorem aQr{s:Src}(h:Okx EX (f L M) (poN QI)):Okx EX (iE f L M) QI:=aV (h.mono λw M1 ⟨s,e,q⟩=>by rw[e];exact aU q)
theorem aNg(h:Okx EX (f L M) (poR QI)):Okx EX (iR1 f L M) QI:=aV (h.mono λw M1 ⟨j,e,hz,q⟩=>by subst e;simp only;rw[aAI hz];exact aU q)
theorem dS{s:Src}(I:Nat->Lc->Mm->Prop)(h0:I 0 L M)(hc:∀i L M,i<=s.ds.length->I i L M->Chk s M)
  (hs:∀i d L M,s.ds[i]?=some d->I i L M->Okx EX (gg (.d d) L M) (poA EX B (poO QS (I (i+1)))))(hd:∀L M,I s.ds.length L M->QS (.nx L) M):Okx EX (forD s gg B s.ds L M) QS:=by
 have key:∀k i L M,s.ds.length - i=k->i<=s.ds.length->I i L M->Okx EX (forD s gg B (s.ds.drop i) L M) QS:=by
  intro k
  induction k with
  |zero =>
   intro i L M e hi hI
   have:i=s.ds.length:=by lia
   subst this
   rw[aFD (aAG _)]
   unfold forD
   rw[aAI (hc _ L M (aAG _) hI)]
   exact aU (hd L M hI)
  |succ k ih =>
   intro i L M e hi hI
   have hlt:i < s.ds.length:=by lia
   rw[aCI hlt]
   unfold forD
   rw[aAI (hc _ L M hi hI)]
   refine aV ((hs i s.ds[i] L M (by simp[hlt]) hI).mono λL1 M1 z=>aV (z.mono λo M2 z=>?_))
   cases o with
   |nx L2=>exact ih (i+1) L2 M2 (by lia) (by lia) z
   |ct L2=>exact ih (i+1) L2 M2 (by lia) (by lia) z
   |bk L2=>exact aU z
   |rt w=>exact aU z
 simpa using key s.ds.length 0 L M (by lia) (by lia) h0
theorem gJ(I:Nat->Lc->Mm->Prop)(hs:∀m L M,I m L M->Okx EX (t L M) λb M1=>(b=true->Okx EX (B L M1) λo M2=>match o with
   |.nx L2=>∃m',m' < m/\I m' L2 M2
   |.ct L2=>∃m',m' < m/\I m' L2 M2
   |.bk L2=>QS (.nx L2) M2
   |.rt w=>QS (.rt w) M2)/\(b=false->QS (.nx L) M1)):∀(n m:Nat) (L:Lc) (M:Mm),I m L M->m < n->Okx EX (whileD t B n L M) QS:=by
 intro n
 induction n with
 |zero=>intro m L M _ h;lia
 |succ n ih =>
  intro m L M hI hm
  unfold whileD
  refine aV ((hs m L M hI).mono λb M1 ⟨h1,h2⟩=>?_)
  cases b with
  |false=>exact aU (h2 rfl)
  |true =>
   refine aV ((h1 rfl).mono λo M2 z=>?_)
   cases o with
   |nx L2=>obtain⟨m',l,z⟩:=z;exact ih m' L2 M2 z (by lia)
   |ct L2=>obtain⟨m',l,z⟩:=z;exact ih m' L2 M2 z (by lia)
   |bk L2=>exact aU z
   |rt w=>exact aU z
theorem fD{c:FT}(I:Nat->List D->Lc->Mm->Prop)
  (h:Okx EX (fi L M) λs M1=>(I 0 [] (outL js L) M1/\(∀i acc L M,i<=s.ds.length->I i acc L M->M.length=M1.length/\Chk s (M++[acc])/\acc.length<=i)/\s.ds.length<=16777216 /\
   (∀i d acc L M,s.ds[i]?=some d->I i acc L M->Ok (gg (.d d) L (M++[acc])) λL1 M2=>Ok (c L1 M2) λb M3=>(b=true->Ok (f L1 M3) λw M4=>∃x M5,w=.d x/\M4=M5++[acc]/\I (i+1) (acc++[x]) L1 M5)/\(b=false->∃M5,M3=M5++[acc]/\I (i+1) acc L1 M5)) /\
   (∀acc L M,I s.ds.length acc L M->Q (.d (.lst acc)) M))):Okx EX (eComp js fi gg c f L M) Q:=by
 unfold eComp compT
 refine aV (aV (h.mono λs M1 ⟨h0,hc,hz,hs,hd⟩=>?_))
 have key:∀k i acc L M,s.ds.length - i=k->i<=s.ds.length->I i acc L M->∃acc' L' M',compD M1.length s gg c f (s.ds.drop i) L (M++[acc])=.ok () (M'++[acc'])/\I s.ds.length acc' L' M':=by
  intro k
  induction k with
  |zero =>
   intro i acc L M e hi hI
   have:i=s.ds.length:=by lia
   subst this
   rw[aFD (aAG _)]
   unfold compD
   rw[aAI (hc _ acc L M (aAG _) hI).2.1]
   exact⟨acc,L,M,rfl,hI⟩
  |succ k ih =>
   intro i acc L M e hi hI
   have hlt:i < s.ds.length:=by lia
   rw[aCI hlt]
   unfold compD
   obtain⟨hl,hch,hal⟩:=hc _ acc L M hi hI
   rw[aAI hch]
   obtain⟨L1,M2,e1,hh⟩:=lR.mp (hs i s.ds[i] acc L M (by simp[hlt]) hI)
   obtain⟨L1',M3,e2,h1,h2⟩:=lR.mp hh
   rw[e1]
   simp only[eD]
   rw[e2]
   simp only[eD]
   cases L1' with
   |false =>
    obtain⟨M5,e3,hI'⟩:=h2 rfl
    subst e3
    simp only[aCP,aEF]
    exact ih (i+1) acc L1 M5 (by lia) (by lia) hI'
   |true =>
    obtain⟨w,M4,e3,x,M5,rfl,rfl,hI'⟩:=lR.mp (h1 rfl)
    simp only[aEA]
    rw[e3]
    simp only[eD]
    have hl5:=(hc _ _ _ _ (by lia) hI').1
    have g1:(M5++[acc])[M1.length]?=some acc:=by rw[<- hl5];simp
    rw[g1]
    simp only
    rw[aAI (by lia)]
    have g2:(M5++[acc]).set M1.length (acc++[x])=M5++[acc++[x]]:=by rw[<- hl5];simp
    rw[g2]
    exact ih (i+1) (acc++[x]) L1 M5 (by lia) (by lia) hI'
 obtain⟨acc,L',M',e,hI⟩:=key s.ds.length 0 [] (outL js L) M1 (by lia) (by lia) h0
 rw[List.drop_zero]at e
 rw[e]
 have hl:=(hc _ _ _ _ (aAG _) hI).1
 have g1:(M'++[acc])[M1.length]?=some acc:=by rw[<- hl];simp
 have g2:(M'++[acc]).take M1.length=M':=by rw[<- hl];simp
 simp only[g1,g2]
 exact aU (aU (hd acc L' M' hI))
theorem bL{ws:List W}(hm:ws.length=m)(h:Okx EX (F (ws.map some++List.replicate (n - ws.length) none) M) (poD EX Q M.length)):Okx EX (fnD m n F ws M) Q:=by
 unfold fnD
 rw[aAI hm]
 refine aV (h.mono λo M' z=>?_)
 cases o with
 |rt w=>exact z
 |nx L=>exact aU z
 |bk L=>exact z.elim
 |ct L=>exact z.elim
theorem wW{d:D}(q:Q (.d d) (M.take n)):Okx EX (retc n (.d d) M) Q:=aU q
theorem aNo{ws:List W}(hm:ws.length=m)(h:Okx EX (F (ws.map some++List.replicate (n - ws.length) none) M) λo M'=>∃i ds,o=.rt (.ref i)/\M.length<=i/\M'[i]?=some ds/\Q (.ref M.length) (M'.take M.length++[ds])):Okx EX (fnR m n F ws M) Q:=by
 unfold fnR
 rw[aAI hm]
 refine aV (h.mono λo M' ⟨i,ds,e,hi,e2,q⟩=>?_)
 subst e
 simp only[e2]
 rw[aAI hi]
 exact aU q
end
noncomputable def Bx(M:Mm)(b:Nat):Prop:=∃x y z,M[b]?=some [.int x,.int y,.int z]
noncomputable def Nx(b:Nat)(M M':Mm):Prop:=∃x y z,M'=M.set b [.int x,.int y,.int z]
variable{b:Nat}
theorem Bx.lt(h:Bx M b):b < M.length:=by obtain⟨x,y,z,e⟩:=h;exact(aAD.mp e).1
theorem Nx.len(h:Nx b M M'):M'.length=M.length:=by obtain⟨x,y,z,rfl⟩:=h;simp
theorem Nx.bx(h:Nx b M M')(l:Bx M b):Bx M' b:=by
 obtain⟨x,y,z,rfl⟩:=h
 exact⟨x,y,z,aCB l.lt⟩
theorem Nx.trans{M1 M2:Mm}(h:Nx b M M1)(h':Nx b M1 M2):Nx b M M2:=by
 obtain⟨x,y,z,rfl⟩:=h
 obtain⟨x',y',z',rfl⟩:=h'
 exact⟨x',y',z',by rw[List.set_set]⟩
theorem Nx.refl(h:Bx M b):Nx b M M:=by
 obtain⟨x,y,z,e⟩:=h
 refine⟨x,y,z,?_⟩
 apply aIH
 intro i
 by_cases hi:b=i
 ·subst hi;rw[aCB (aAD.mp e).1,e]
 ·rw[aCF hi]
theorem Nx.unapp{J:Mm}(h:Nx b (M++J) M')(l:b < M.length):∃M1,M'=M1++J/\Nx b M M1:=by
 obtain⟨x,y,z,rfl⟩:=h
 exact⟨_,List.set_append_left _ _ l,x,y,z,rfl⟩
theorem Bx.app{J:Mm}(h:Bx M b):Bx (M++J) b:=by
 obtain⟨x,y,z,e⟩:=h
 exact⟨x,y,z,by rw[aAT (aAD.mp e).1];exact e⟩
theorem Nx.take{M M':Mm}{b:Nat}(h:Nx b M M'):M'.take M.length=M':=by rw[<- h.len,aAS]
mutual
noncomputable def sz:D->Nat
 |.tup xs=>szs xs+1
 |.lst xs=>szs xs+1
 |.fz xs=>szs xs+1
 |.exn _ _ xs=>szs xs+1
 |_=>1
noncomputable def szs:List D->Nat
 |[]=>0
 |x::xs=>sz x+szs xs
end
mutual
noncomputable def noL:D->Bool
 |.tup xs=>noLs xs
 |.lst _=>false
 |.fz _=>false
 |.exn _ _ _=>false
 |_=>true
noncomputable def noLs:List D->Bool
 |[]=>true
 |x::xs=>noL x&&noLs xs
end
theorem aIv(d:D):0 < sz d:=by cases d <;> simp[sz]
theorem mI:∀xs ys:List D,szs (xs++ys)=szs xs+szs ys
 |[],ys=>by simp[szs]
 |x::xs,ys=>by simp[szs,mI xs ys];lia
theorem wV:∀xs:List D,xs.length<=szs xs
 |[]=>by simp[szs]
 |x::xs=>by have:=wV xs;have:=aIv x;simp[szs];lia
theorem yH:∀{xs:List D},noLs xs=true->∀{x},x∈xs->noL x=true
 |[],_,_,h=>by cases h
 |y::ys,h,x,hx=>by
  simp only[noLs,aBN]at h
  rcases aAY.mp hx with rfl|hx
  ·exact h.1
  ·exact yH h.2 hx
theorem aKo{xs:List D}(h:noL (.tup xs)=true){x:D}(hx:x∈xs):noL x=true:=yH (by simpa[noL]using h) hx
theorem aPp{x y:W}{xs ys:List D}{Q:W->Mm->Prop}(h1:sv M x=some xs)(h2:sv M y=some ys)(q:Q (.d (.lst (zipT xs ys))) M):Okx EX (pZip x y M) Q:=by unfold pZip;rw[h1,h2];exact aU q
theorem atBox(c:Int):atI [D.int 0,D.int c] (if decide ((10:Int) ^ (Int.toNat 18)<=c)=true then 1 else 0)=some (.int (if(1000000000000000000:Int)<=c then c else 0)):=by
 by_cases hc:(1000000000000000000:Int)<=c <;> simp[hc,atI,ixN]
end EV
section
open PySem PySem.Spec PyProof.Rows
namespace EV
open L2
variable{EX:D->Mm->Prop}{K:Frag}{M:Mm}{Q:W->Mm->Prop}
theorem aNw(h:Okx EX (f L M) λw M1=>∃xs,(w=.d (.tup xs)\/w=.d (.lst xs)\/w=.d (.fz xs))/\QI ⟨xs.reverse,none⟩ M1):Okx EX (iRv f L M) QI:=by
 refine aV (h.mono ?_)
 rintro w M1 ⟨xs,rfl|rfl|rfl,q⟩ <;> exact aU q
theorem aOp{j:Int}(h0:0<=j)(h1:j<=16777216)(q:Q (.ref M.length) (M++[rngD 0 j.toNat])):Okx EX (cLRR (.d (.int j)) M) Q:=by unfold cLRR;simp only;rw[aAI ⟨h0,h1⟩];exact aU q
end EV
set_option maxHeartbeats 4000000
namespace L2
noncomputable def hdl(A:Around):List Addr:=match A.handled with
 |some (.ref e)=>[e]
 |_=>[]
theorem aBb{e:Addr}(q:A.handled=some (.ref e)):hdl A=[e]:=by unfold hdl;rw[q]
theorem Calm.there{A:Around}(c:Calm A h):∀b∈hdl A,∃o,h.get? b=some o:=by
 rcases c with c|⟨e,cc,d,vs,sl,h1,h2,h3⟩
 ·unfold hdl;rw[c];intro b hb;cases hb
 ·rw[aBb h1];intro b hb;rw[aAM.mp hb];exact⟨_,h2⟩
theorem Calm.kept{A:Around}(c:Calm A h)(k:∀b∈hdl A,∀o,h.get? b=some o->h'.get? b=some o):Calm A h' :=
 c.mono λe _ _ _ _ q _ z=>k e (by rw[aBb z];exact aAM.mpr rfl) _ q
theorem Calm.ne{A:Around}{I:Addr}{o:Obj}{x y:Value}(c:Calm A h)(q:h.get? I=some o)(d:o.data=.fields #[x,y]):∀b∈hdl A,b≠I:=by
 rcases c with c|⟨e,cc,dd,vs,sl,h1,h2,h3⟩
 ·unfold hdl;rw[c];intro b hb;cases hb
 ·rw[aBb h1];intro b hb z
  rw[aAM.mp hb]at z
  rw[z,q]at h2;cases h2
  cases d
  simp at h3
variable{prog:Program}
theorem Walks.listQ(I ax:Addr)(hne:ax≠I)(items:Array Value) :
  Walks prog w A I (I::ax::hdl A) [I] items.size (λi v=>items[i]?=some v) (λi h=>h.IsListIter I ax i/\h.IsList ax items/\Calm A h)where
 sub:=λb hb=>by simp at hb;simp[hb]
 frame:=λ_ _ _ st hk=>⟨st.1.at λo e=>hk I (by simp) o e,st.2.1.at λo e=>hk ax (by simp) o e,st.2.2.kept λb hb=>hk b (by simp[hb])⟩
 item:=λi s Q E hi st hQ=>by
  obtain⟨o,ho,hc,hd⟩:=id st.1
  refine wpAny_pyNext_list_item st.1 st.2.1 (x:=items[i]) (by simp[hi]) λh' hit' hs'=>?_
  exact hQ _ h' s.toks (by simp[hi]) ⟨hit',st.2.1.extBut hs'.extBut hne,st.2.2.kept λb hb o e=>hs'.extBut b o (st.2.2.ne ho hd b hb) e⟩ λb o hb e=>hs'.extBut b o (λh=>hb (by simp[h])) e
 done:=λs Q E st hQ=>pV st.2.2 st.1 st.2.1 (by simp) λh' he'=>hQ h' s.toks λb o hb e=>he' b o (λh=>hb (by simp[h])) e
 self:=λ_ _ _ _ st hQ=>wpAny_pyIter_listiter st.1 hQ
theorem Walks.tupleQ(I ax:Addr)(hne:ax≠I)(items:Array Value) :
  Walks prog w A I (I::ax::hdl A) [I] items.size (λi v=>items[i]?=some v) (λi h=>h.IsTupleIter I ax i/\h.IsTuple ax items/\Calm A h)where
 sub:=λb hb=>by simp at hb;simp[hb]
 frame:=λ_ _ _ st hk=>⟨st.1.at λo e=>hk I (by simp) o e,st.2.1.at λo e=>hk ax (by simp) o e,st.2.2.kept λb hb=>hk b (by simp[hb])⟩
 item:=λi s Q E hi st hQ=>by
  obtain⟨o,ho,hc,hd⟩:=id st.1
  refine wpAny_pyNext_tuple_item st.1 st.2.1 (x:=items[i]) (by simp[hi]) λh' hit' hs'=>?_
  exact hQ _ h' s.toks (by simp[hi]) ⟨hit',st.2.1.extBut hs'.extBut hne,st.2.2.kept λb hb o e=>hs'.extBut b o (st.2.2.ne ho hd b hb) e⟩ λb o hb e=>hs'.extBut b o (λh=>hb (by simp[h])) e
 done:=λs Q E st hQ=>hW st.2.2 st.1 st.2.1 (by simp) λh' he'=>hQ h' s.toks λb o hb e=>he' b o (λh=>hb (by simp[h])) e
 self:=λ_ _ _ _ st hQ=>wpAny_pyIter_tupleiter st.1 hQ
end L2
set_option maxHeartbeats 4000000
namespace EV
open L2
variable{EX:D->Mm->Prop}{K:Frag}{M:Mm}{a b c:Expr}{fs:FA}
noncomputable def tPar3(i j k:Nat)(ta:TA):TS:=λD σ H=>ta σ H λvs H1=>∃u v w,vs=[u,v,w]/\D.nx (((σ.set i (some u)).set j (some v)).set k (some w)) H1
variable{k:Nat}
theorem aKf{z:Str}{ta:TA}{px pz pt:Pos}{kt k2 pt2}(hc:X.calm=true)(hN:X.N.Nodup)(hi:X.N[i]?=some x)(hj:X.N[j]?=some y)(hk:X.N[k]?=some z)(hij:i≠j)(hik:i≠k)(hjk:j≠k)
  (hx:X.env.scope.names.lookup x=some .local)(hy:X.env.scope.names.lookup y=some .local)(hz:X.env.scope.names.lookup z=some .local)(ha:PA X [a,b,c] ta)
  (hw:swappedStores [.Tuple [.Name x px,.Name y py,.Name z pz] kt pt] (.Tuple [a,b,c] k2 pt2) X.env=pure (some [x,y,z]))
  (hs:swapsWithSole [.Tuple [.Name x px,.Name y py,.Name z pz] kt pt] (.Tuple [a,b,c] k2 pt2) pos.line X.env=pure false) :
  PS X (.Assign [.Tuple [.Name x px,.Name y py,.Name z pz] kt pt] (.Tuple [a,b,c] k2 pt2) pos) (tPar3 i j k ta):=by
 intro pins s σ H D I h
 rw[exec_Assign_arm]
 refine aAA (aEX ?_)
 rw[hs]
 refine aAA (aAC ?_)
 rw[aAL (by decide)]
 refine aAA (Tuple_ (thn (ha _ pins s σ H _ I h) λus s1 ⟨vs,H1,I1,r1,q1⟩=>?_))
 obtain⟨u,v,w,e1,q1⟩:=q1
 subst e1
 obtain⟨u1,u2,u3,rfl,ru,rv,rw'⟩:∃u1 u2 u3,us=[u1,u2,u3]/\RelV u u1/\RelV v u2/\RelV w u3:=by
  cases r1 with
  |cons p q =>
   cases q with
   |cons p' q' =>
    cases q' with
    |cons p'' q'' =>
     cases q''
     exact⟨_,_,_,rfl,p,p',p''⟩
 refine aBI ?_ (by show 3<=sizeLine;decide)
 have I2:Inv X pins σ H1 {s1 with heap:=s1.heap.push {cls:=.type "tuple",data:=.seq [u1,u2,u3].toArray}}:=I1.kept (t':=s1.toks) λb o e=>aAB _ e
 rw[hw]
 refine aAA (aAC ?_)
 show wpAny (model X.prog X.w) X.A (do rule "assign.swapped-stores";let items <- unpackItems (.ref s1.heap.objs.size) 3 none;assignInOrder [λv=>bindName X.env z v,λv=>bindName X.env y v,λv=>bindName X.env x v] items.reverse;pure Flow.next) _ _ _
 refine aAA (aCJ (aAA (unpackItems_tuple (items:=#[u1,u2,u3]) (I.ok.hd hc) (IsTup.new s1.heap _) λh' hx'=>?_)))
 have I3:=I2.kept (h':=h') (t':=s1.toks) λb o e=>hx' b o (aAJ (aAF e)) e
 show wpAny _ _ (assignInOrder [λv=>bindName X.env z v,λv=>bindName X.env y v,λv=>bindName X.env x v] [u3,u2,u1] >>= λ_=>pure Flow.next) _ _ _
 refine aAA (aDY (aGE (eG I3 hN hk (.inl hz) rw' (λs2 I4=>?_) (.inr hz))))
 refine aDY (aGE (eG I4 hN hj (.inl hy) rv (λs3 I5=>?_) (.inr hy)))
 refine aDY (aGE (eG I5 hN hi (.inl hx) ru (λs4 I6=>aIE (aAC ?_)) (.inr hx)))
 rw[aHX _ _ (Ne.symm hjk),aHX _ _ (Ne.symm hik),aHX _ _ (Ne.symm hij)]at I6
 exact⟨_,H1,I6,q1⟩
noncomputable section
def sPar3(i j k:Nat)(fs:FA):FS:=λL M=>(fs L M).bind λws M1=>match ws with
 |[u,v,w]=>.ok (.nx (((L.set i (some u)).set j (some v)).set k (some w))) M1
 |_=>.bad
theorem aKd{z:Str}{px pz pt:Pos}{kt k2 pt2}(hc:X.calm=true)(hN:X.N.Nodup)(ha:Ea X K Z [a,b,c] fs)(hi:X.N[i]?=some x:=by rfl)(hj:X.N[j]?=some y:=by rfl)(hk:X.N[k]?=some z:=by rfl)(hij:i≠j:=by decide)(hik:i≠k:=by decide)(hjk:j≠k:=by decide)
  (hx:X.env.scope.names.lookup x=some .local:=by rfl)(hy:X.env.scope.names.lookup y=some .local:=by rfl)(hz:X.env.scope.names.lookup z=some .local:=by rfl)
  (hw:swappedStores [.Tuple [.Name x px,.Name y py,.Name z pz] kt pt] (.Tuple [a,b,c] k2 pt2) X.env=pure (some [x,y,z]):=by rfl)
  (hs:swapsWithSole [.Tuple [.Name x px,.Name y py,.Name z pz] kt pt] (.Tuple [a,b,c] k2 pt2) pos.line X.env=pure false:=by rfl) :
  Es X K Z (.Assign [.Tuple [.Name x px,.Name y py,.Name z pz] kt pt] (.Tuple [a,b,c] k2 pt2) pos) (sPar3 i j k fs):=by
 refine⟨ha.k,cqS (aKf hc hN hi hj hk hij hik hjk hx hy hz ha.h hw hs) ?_⟩
 rintro E σ H ⟨μ,M,L,hr,lr,p⟩
 refine⟨μ,M,L,hr,lr,p.bind.imp λμ1 H1 M1 ws e1 hr1 _ p1 vs rx=>?_⟩
 match ws,rx,p1 with
 |[],_,p1=>exact p1.elim
 |[_],_,p1=>exact p1.elim
 |[_,_],_,p1=>exact p1.elim
 |[u,v,w],⟨x1,r1,e1',q1,x2,r2,e2',q2,x3,r3,e3',q3,e4⟩,p1 =>
  cases e4
  subst e3' e2' e1'
  exact⟨x1,x2,x3,rfl,p1 μ1 H1 .refl hr1 _ (LR.set (LR.set (LR.set (lr.ext hr.lsts e1) q1) q2) q3)⟩
 |_::_::_::_::_,_,p1=>exact p1.elim
def srt(ns:List Int):List Int:=ns.mergeSort λa b=>decide (a<=b)
theorem nM(ns:List Int):(srt ns).Perm ns:=List.mergeSort_perm _ _
theorem sE(ns:List Int):(srt ns).Pairwise (·<=·):=by
 have:=List.pairwise_mergeSort (le:=λa b:Int=>decide (a<=b)) (λa b c h1 h2=>by simp at *;lia) (λa b=>by simp;lia) ns
 exact this.imp λh=>by simpa using h
theorem xO{ns':List Int}(p:ns'.Perm ns)(o:ns'.Pairwise (·<=·)):ns'=srt ns :=
 List.Perm.eq_of_pairwise (le:=(·<=·)) (λa b _ _ h1 h2=>Int.le_antisymm h1 h2) o (sE ns) (p.trans (nM ns).symm)
theorem rG(ns:List Int):(srt ns).length=ns.length:=(nM ns).length_eq
theorem aKw{x:Int}:x∈srt ns ↔ x∈ns:=(nM ns).mem_iff
theorem mL:∀{ns:List Int},Vals (ns.map V.int) us->IntsAre us ns:=by
 induction us with
 |nil=>intro ns h;cases ns with
  |nil=>exact .nil
  |cons n r=>cases h
 |cons u us ih=>intro ns h;cases ns with
  |nil=>cases h
  |cons n r =>
   cases h with
   |cons p q =>
    obtain⟨t,rfl⟩:=p
    exact .cons n t (ih q)
theorem qB(h:IntsAre us ns):Vals (ns.map V.int) us:=by
 induction h with
 |nil=>exact .nil
 |cons n t _ ih=>exact .cons ⟨t,rfl⟩ ih
theorem yU:CallR X (.builtin "sorted") (λxs H Q=>∃p ns,xs=[.ref p]/\SqL X.K H p (ns.map V.int)/\ns.length < 64/\∀l,H l=none->Q (.ref l) (upd H l (.lst ((srt ns).map V.int)))):=by
 intro pins s σ H xs us Q I r h
 obtain⟨p,ns,rfl,hq,h64,q⟩:=h
 obtain⟨u,rfl,rx⟩:=vals1 r
 cases rx
 obtain⟨its,r',pl,hz⟩:=I.list hq
 have hI:=mL r'
 have hlen:its.length=ns.length:=by have:=r'.length;simpa using this.symm
 refine sorted_ints pl.isList hI (by lia) λout ns' a1 a2 a3=>?_
 have e:=xO a2 a3
 subst e
 obtain⟨c,hc⟩:=sortedAll_at s.heap its out
 refine⟨.ref (s.heap.objs.size+1),_,I.laid (t':=s.toks) (λb o e=>sortedAll_old e) (aEL _) (show ObjOk X.prog X.w _ _ _ (.lst ((srt ns).map V.int))from⟨by rw[aBC];simp[rG];lia,out.toList,c,qB a1,by simpa using hc⟩),rfl,q _ (I.hok.fresh (aEL _))⟩
def intsOf:List D->Option (List Int)
 |[]=>some []
 |.int i::r=>(intsOf r).map (i::·)
 |_::_=>none
theorem lO(ns:List Int):intsOf (ns.map D.int)=some ns:=by
 induction ns with
 |nil=>rfl
 |cons n r ih=>simp only[aBP,intsOf,ih,aHK]
theorem kM:∀{ds:List D} {ns:List Int},intsOf ds=some ns->ds=ns.map D.int
 |[],ns,h=>by cases h;rfl
 |.int i::r,ns,h=>by
  simp only[intsOf,aBE]at h
  obtain⟨ms,h1,rfl⟩:=h
  rw[kM h1];rfl
 |.non::_,_,h=>by cases h
 |.bl _::_,_,h=>by cases h
 |.str _::_,_,h=>by cases h
 |.tup _::_,_,h=>by cases h
 |.lst _::_,_,h=>by cases h
 |.fz _::_,_,h=>by cases h
 |.exn _ _ _::_,_,h=>by cases h
theorem nZ:∀{ns:List Int} {vs:List V},Rps K μ H (ns.map D.int) vs->vs=ns.map V.int
 |[],vs,h=>by simpa[Rps]using h
 |n::r,vs,h=>by
  simp only[aBP,Rps,Rp]at h
  obtain⟨v,t,rfl,rfl,h3⟩:=h
  rw[nZ h3];rfl
def cSorted(ws:List W)(M:Mm):Oc W:=match ws with
 |[w]=>match lr M w with
  |some xs=>match intsOf xs with
   |some ns=>if ns.length < 64 then okD (.lst ((srt ns).map .int)) M else .bad
   |none=>.bad
  |none=>.bad
 |_=>.bad
theorem callSorted(hc:X.calm=true):ClG X K Z (.builtin "sorted") cSorted:=λhk=>by
 refine⟨_,hk▸yU,?_⟩
 intro μ H M ws vs Q hr rx p
 match ws,rx,p with
 |[],_,p=>exact p.elim
 |[w],⟨v,r,e1,e2,e3⟩,p =>
  cases e3;subst e1
  simp only[cSorted]at p
  cases q:lr M w with
  |none=>rw[q]at p;exact p.elim
  |some xs =>
   rw[q]at p
   simp only at p
   cases q2:intsOf xs with
   |none=>rw[q2]at p;exact p.elim
   |some ns =>
    rw[q2]at p
    simp only at p
    split at p
    ·rename_i hz
     obtain⟨a,us,rfl,h1,r1⟩:=aDj hr e2 q
     have e:=kM q2
     subst e
     have e:=nZ r1
     subst e
     exact⟨a,ns,rfl,h1,hz,gW hr Rps.ints p⟩
    ·exact p.elim
 |_::_::_,_,p=>exact p.elim
theorem aGd{σ:St}{p:Addr}{ys:List V}(hc:cP)(I:Inv X pins σ H s)(hq:SqL X.K H p ys\/SqT X.K H p ys)
  (h:∀(s2:Shared) (J:Addr) (fp:List Addr) (its:Array Value) (St:Nat->Heap->Prop),Vals ys its.toList->Walks X.prog X.w X.A.in1 J fp [J] its.size (λi v=>its[i]?=some v) St->St 0 s2.heap->(∀b∈fp,b < s2.heap.objs.size) ->
   (∀h' tk,(∀b o,b∉[J]->s2.heap.get? b=some o->h'.get? b=some o)->Inv X pins σ H {s2 with heap:=h',toks:=tk})->Q (.ref J) s2):wpAny (model X.prog X.w) X.A.in1 (pyIter (.ref p)) Q X.xe s:=by
 have cm:Calm X.A.in1 s.heap:=I.cm
 rcases hq with hq|hq
 ·obtain⟨its,rv,pl,hz⟩:=I.list hq
  have hp:p < s.heap.objs.size:=by
   obtain⟨o,e,_⟩:=pl.isList
   exact aAF e
  have I1:Inv X pins σ H {s with heap:=s.heap.push {cls:=.type "list_iterator",data:=.fields #[.ref p,rawInt 0]}}:=I.kept (t':=s.toks) λb o e=>aAB _ e
  refine aEH pl.isList (h _ s.heap.objs.size (s.heap.objs.size::p::hdl X.A.in1) its.toArray _ (by simpa using rv) (Walks.listQ s.heap.objs.size p (aAJ hp) its.toArray) ⟨⟨_,aAE _ rfl,rfl,rfl⟩,pl.isList.at λo e=>aAB _ e,cm.kept λb _ o e=>aAB _ e⟩ (λb hb=>?_) λh' tk hk=>?_)
  ·show b < (s.heap.push _).objs.size
   rw[aAW]
   simp only[aAY]at hb
   rcases hb with rfl|rfl|hb
   ·exact aFO _
   ·exact aEI hp
   ·obtain⟨_,z⟩:=cm.there b hb
    exact aEI (aAF z)
  ·obtain⟨f0,f1,f2,f3,f4,f5⟩:=I.fpOk (H':=H) (aAG _) (I.hok.fresh (aAG _))
   exact I1.turned (t':=tk) (it:=s.heap.objs.size) (λb o hb e=>hk b o (by simpa using hb) e) f0 f1 f3 f4 f5
 ·obtain⟨its,rv,pl,hz⟩:=I.tuple hq
  have pl:s.heap.IsTuple p its.toArray:=pl
  have hp:p < s.heap.objs.size:=by
   obtain⟨o,e,_⟩:=pl
   exact aAF e
  have I1:Inv X pins σ H {s with heap:=s.heap.push {cls:=.type "tuple_iterator",data:=.fields #[.ref p,rawInt 0]}}:=I.kept (t':=s.toks) λb o e=>aAB _ e
  refine aCU pl (h _ s.heap.objs.size (s.heap.objs.size::p::hdl X.A.in1) its.toArray _ (by simpa using rv) (Walks.tupleQ s.heap.objs.size p (aAJ hp) its.toArray) ⟨⟨_,aAE _ rfl,rfl,rfl⟩,pl.at λo e=>aAB _ e,cm.kept λb _ o e=>aAB _ e⟩ (λb hb=>?_) λh' tk hk=>?_)
  ·show b < (s.heap.push _).objs.size
   rw[aAW]
   simp only[aAY]at hb
   rcases hb with rfl|rfl|hb
   ·exact aFO _
   ·exact aEI hp
   ·obtain⟨_,z⟩:=cm.there b hb
    exact aEI (aAF z)
  ·obtain⟨f0,f1,f2,f3,f4,f5⟩:=I.fpOk (H':=H) (aAG _) (I.hok.fresh (aAG _))
   exact I1.turned (t':=tk) (it:=s.heap.objs.size) (λb o hb e=>hk b o (by simpa using hb) e) f0 f1 f3 f4 f5
def mxL:List Int->Int
 |[]=>0
 |x::r=>r.foldl max x
theorem fH:∀(r:List Int) (x:Int),x<=r.foldl max x/\(∀a∈r,a<=r.foldl max x)/\(r.foldl max x=x\/r.foldl max x∈r)
 |[],x=>⟨Int.le_refl _,by simp,.inl rfl⟩
 |y::r,x=>by
  obtain⟨h1,h2,h3⟩:=fH r (max x y)
  refine⟨?_,?_,?_⟩
  ·exact Int.le_trans (Int.le_max_left x y) h1
  ·intro a ha
   rcases aAY.mp ha with rfl|ha
   ·exact Int.le_trans (Int.le_max_right x _) h1
   ·exact h2 a ha
  ·simp only[List.foldl_cons]
   rcases h3 with h3|h3
   ·rw[h3]
    by_cases h:x<=y
    ·rw[Int.max_eq_right h];exact .inr (by simp)
    ·rw[Int.max_eq_left (by lia)];exact .inl rfl
   ·exact .inr (by simp[h3])
theorem xE(h:ns≠[]):mxL ns∈ns:=by
 cases ns with
 |nil=>exact(h rfl).elim
 |cons x r=>rcases(fH r x).2.2 with e|e
            ·simp only[mxL];rw[e];simp
            ·simp only[mxL];exact aCH _ e
theorem aAq{a:Int}(h:a∈ns):a<=mxL ns:=by
 cases ns with
 |nil=>cases h
 |cons x r=>rcases aAY.mp h with rfl|h
            ·exact(fH r _).1
            ·exact(fH r x).2.1 a h
theorem aHn{ns:List Int}{m:Int}(h:m∈ns)(g:∀a∈ns,a<=m):m=mxL ns:=Int.le_antisymm (aAq h) (g _ (xE (by rintro rfl;cases h)))
theorem aEn(hc:X.calm=true):CallR X (.builtin "max") (λxs H Q=>∃(p:Addr) (ns:List Int),xs=[.ref p]/\(SqL X.K H p (ns.map V.int)\/SqT X.K H p (ns.map V.int))/\ns≠[]/\Q (.int (mxL ns)) H):=by
 intro pins s σ H xs us Q I r h
 obtain⟨p,ns,rfl,hq,hne,q⟩:=h
 obtain⟨u,rfl,rx⟩:=vals1 r
 cases rx
 refine call_max_walk (aGd hc I hq λs2 J fp its St rv W st0 hfp hI=>?_)
 have hi:=mL rv
 obtain⟨xs,e⟩:=(hi.allInts).items
 have e':its=intItems xs:=by simpa using e
 subst e'
 have hns:ns=xs.toList.map (·.1):=by rw[<- hi.numsOf,<- nums_intItems]
 have hsz:0 < xs.size:=by
  have:0 < ns.length:=List.length_pos_iff.mpr hne
  rw[hns,aAK,aDF]at this;exact this
 refine⟨J,fp,[J],_,_,St,_,rfl,W,st0,hfp,by simpa[intItems]using hsz,CmpOf.ints_gt (numAt xs) (λ_ _=>intItems_at),λv h' tk hP hk=>?_⟩
 obtain⟨t,rfl⟩:=intItems_at (by simpa[intItems]using hP)
 obtain⟨h1,h2⟩:=argBest_gt (numAt xs) (xs.size - 1)
 have hm:numAt xs (argBest (λi j=>decide (numAt xs i > numAt xs j)) (xs.size - 1))=mxL ns:=by
  refine aHn ?_ λa ha=>?_
  ·rw[hns,numAt_eq];exact getD_mem (by rw[aAK,aDF];lia)
  ·rw[hns]at ha
   obtain⟨j,hj,rfl⟩:=mem_getD ha
   rw[aAK,aDF]at hj
   rw[<- numAt_eq];exact h2 j (by lia)
 refine⟨.int (mxL ns),H,hI h' tk hk,⟨t,?_⟩,q⟩
 rw[<- hm]
def cMaxL(ws:List W)(M:Mm):Oc W:=match ws with
 |[w]=>match sv M w with
  |some xs=>match intsOf xs with
   |some ns=>if ns.length≠0 then okD (.int (mxL ns)) M else .bad
   |none=>.bad
  |none=>.bad
 |_=>.bad
end
theorem callMaxL(hc:X.calm=true):ClG X K Z (.builtin "max") cMaxL:=λhk=>by
 refine⟨_,hk▸aEn hc,?_⟩
 intro μ H M ws vs Q hr rx p
 match ws,rx,p with
 |[],_,p=>exact p.elim
 |[w],⟨v,r,e1,e2,e3⟩,p =>
  cases e3;subst e1
  simp only[cMaxL]at p
  cases q:sv M w with
  |none=>rw[q]at p;exact p.elim
  |some xs =>
   rw[q]at p
   simp only at p
   cases q2:intsOf xs with
   |none=>rw[q2]at p;exact p.elim
   |some ns =>
    rw[q2]at p
    simp only at p
    split at p
    ·rename_i hz
     obtain⟨a,us,rfl,h1,r1⟩:=rQ hr e2 q
     have e:=kM q2
     subst e
     have e:=nZ r1
     subst e
     exact⟨a,ns,rfl,h1,λz=>hz (by rw[z];rfl),p μ H .refl hr _ (by simp[Rw,Rp])⟩
    ·exact p.elim
 |_::_::_,_,p=>exact p.elim
variable{w x:W}{Q:W->Mm->Prop}
theorem aMf(h:Okx EX (fs L M) λws M1=>∃u v w,ws=[u,v,w]/\QS (.nx (((L.set i (some u)).set j (some v)).set k (some w))) M1):Okx EX (sPar3 i j k fs L M) QS:=aV (h.mono λws M1 ⟨u,v,w,e,q⟩=>by subst e;exact aU q)
theorem uT{ds:List D}(h:lr M x=some ds)(e:ds=ns.map D.int)(hz:ns.length < 64)(q:Q (.d (.lst ((srt ns).map D.int))) M):Okx EX (cSorted [x] M) Q:=by
 subst e
 unfold cSorted;simp only[h,lO];rw[aAI hz];exact aU q
theorem aCn{ds:List D}(h:sv M x=some ds)(e:ds=ns.map D.int)(hz:ns≠[])(q:Q (.d (.int (mxL ns))) M):Okx EX (cMaxL [x] M) Q:=by
 subst e
 unfold cMaxL;simp only[h,lO];rw[aAI (λz=>hz (List.length_eq_zero_iff.mp z))];exact aU q
end EV
namespace EV
open L2
variable{EX:D->Mm->Prop}{K:Frag}{M:Mm}{a b c o i e:Expr}{fs:FA}{fb fi fe:FE}
end EV
namespace L2
variable{σ:St}
theorem Inv.turnLay{T:Addr}{o:HO}(I:Inv X pins σ H s)(hf:∀b∈fp,FpOk X pins H b)(k:∀b u,b∉fp->s.heap.get? b=some u->h'.get? b=some u)(hT:s.heap.objs.size<=T)(new:ObjOk X.prog X.w (upd H T o) h' T o) :
  Inv X pins σ (upd H T o) {s with heap:=h',toks:=t'}:=by
 have hn:H T=none:=I.hok.fresh hT
 have nfp:∀b u,H b=some u->b∉fp:=λb u e z=>by rw[(hf b z).1]at e;cases e
 have lt:∀b u,s.heap.get? b=some u->b≠T:=λb u e z=>by subst z;exact absurd (aAF e) (Nat.not_lt.mpr hT)
 have neT:∀b u,H b=some u->b≠T:=λb u e z=>by rw[z,hn]at e;cases e
 refine I.step (g':=s.gens) (d':=s.drawn) (ch:=fp) (λb hb=>?_) (λb u _ _ hc e _=>k b u hc e) (λb u _ _ hc e _=>⟨u.slots,k b u hc e⟩) (λb u _ e n=>by rw[aX (lt b u e)];exact n)
  (λb u hc e=>⟨u,k b u hc e⟩) (λb xs e=>by rw[aX (neT b _ e)];exact e) (λb u v e=>by rw[aX (neT b _ e)];exact e) (λb ps e=>⟨#[],by rw[aX (neT b _ e),e];simp⟩) (λb C d e=>by rw[aX (neT b _ e)];exact e) (λm hm=>?_) (λb u e=>?_) I.bare
 ·obtain⟨_,f1,_,f3,f4,f5⟩:=hf b hb
  exact⟨f3,f1,f4,f5⟩
 ·obtain⟨u,es,ep,ho,r⟩:=hm
  exact⟨u,es,ep,k _ u (λz=>(hf _ z).2.1 rfl) ho,r⟩
 ·by_cases hb:b=T
  ·subst hb;rw[bE]at e;cases e;exact new
  ·rw[aX hb]at e
   refine(I.hok b u e).stay (λc v hc q=>k c v ?_ q) (λc q=>by rw[aX (neT c _ q)];exact q) λc xs q=>by rw[aX (neT c _ q)];exact q
   rcases hc with z|z
   ·rw[z];exact nfp b u e
   ·exact nfp c _ z
theorem Inv.turnedL(I:Inv X pins σ H s)(hf:∀b∈fp,FpOk X pins H b)(k:∀b u,b∉fp->s.heap.get? b=some u->h'.get? b=some u):Inv X pins σ H {s with heap:=h',toks:=t'}:=by
 have nfp:∀b u,H b=some u->b∉fp:=λb u e z=>by rw[(hf b z).1]at e;cases e
 refine I.step (g':=s.gens) (d':=s.drawn) (ch:=fp) (λb hb=>?_) (λb u _ _ hc e _=>k b u hc e) (λb u _ _ hc e _=>⟨u.slots,k b u hc e⟩) (λ_ _ _ _ n=>n)
  (λb u hc e=>⟨u,k b u hc e⟩) (λ_ _ e=>e) (λ_ _ _ e=>e) (λb ps e=>⟨#[],by rw[e];simp⟩) (λ_ _ _ e=>e) (λm hm=>?_) (λb u e=>?_) I.bare
 ·obtain⟨_,f1,_,f3,f4,f5⟩:=hf b hb
  exact⟨f3,f1,f4,f5⟩
 ·obtain⟨u,es,ep,ho,r⟩:=hm
  exact⟨u,es,ep,k _ u (λz=>(hf _ z).2.1 rfl) ho,r⟩
 ·refine(I.hok b u e).stay (λc v hc q=>k c v ?_ q) (λ_ q=>q) λ_ _ q=>q
  rcases hc with z|z
  ·rw[z];exact nfp b u e
  ·exact nfp c _ z
noncomputable section
def SqB(b:Bool)(K:Frag)(H:Hp)(a:Addr)(xs:List V):Prop:=if b=true then SqL K H a xs else SqT K H a xs
def It0(b:Bool)(h:Heap)(it src:Addr)(i:Nat):Prop:=if b=true then h.IsListIter it src i else h.IsTupleIter it src i
def IsB(b:Bool)(h:Heap)(a:Addr)(xs:Array Value):Prop:=if b=true then h.IsList a xs else h.IsTuple a xs
end
theorem It0.at{b:Bool}{h h':Heap}{it src:Addr}{i:Nat}(x:It0 b h it src i)(k:∀o,h.get? it=some o->h'.get? it=some o):It0 b h' it src i:=by
 cases b
 ·exact Heap.IsTupleIter.at x k
 ·exact Heap.IsListIter.at x k
variable{b:Bool}
theorem It0.obj(x:It0 b h it src i):∃o,h.get? it=some o/\∀v,o.data≠.cell v:=by
 cases b
 ·obtain⟨o,e,c,d⟩:=(show h.IsTupleIter it src i from x)
  exact⟨o,e,λv z=>by rw[d]at z;cases z⟩
 ·obtain⟨o,e,c,d⟩:=(show h.IsListIter it src i from x)
  exact⟨o,e,λv z=>by rw[d]at z;cases z⟩
theorem aIh(x:It0 b h it src i)(y:IsB b h src xs):ZP.It1 h it src i xs:=by
 cases b
 ·exact .inr ⟨x,y⟩
 ·exact .inl ⟨x,y⟩
theorem aOi(y:IsB b h src ys)(x:ZP.It1 h it src i xs):It0 b h it src i:=by
 cases b
 ·rcases x with⟨_,o,e,c,_⟩|⟨x,_⟩
  ·obtain⟨o',e',c',_⟩:=(show h.IsTuple src ys from y)
   rw[e]at e';cases e';rw[c]at c';simp at c'
  ·exact x
 ·rcases x with⟨x,_⟩|⟨_,o,e,c,_⟩
  ·exact x
  ·obtain⟨o',e',c',_⟩:=(show h.IsList src ys from y)
   rw[e]at e';cases e';rw[c]at c';simp at c'
variable{a:Addr}
theorem IsB.at(x:IsB b h a xs)(k:∀o,h.get? a=some o->h'.get? a=some o):IsB b h' a xs:=by
 cases b
 ·obtain⟨o,e,r⟩:=(show h.IsTuple a xs from x);exact⟨o,k o e,r⟩
 ·obtain⟨o,e,r⟩:=(show h.IsList a xs from x);exact⟨o,k o e,r⟩
theorem IsB.lt(x:IsB b h a xs):a < h.objs.size:=by
 cases b
 ·obtain⟨o,e,r⟩:=(show h.IsTuple a xs from x);exact aAF e
 ·obtain⟨o,e,r⟩:=(show h.IsList a xs from x);exact aAF e
theorem SqB.inv{xs:List V}(I:Inv X pins σ H s)(h:SqB b X.K H a xs):∃its:List Value,Vals xs its/\IsB b s.heap a its.toArray/\xs.length<=sizeLine:=by
 cases b
 ·obtain⟨its,r,pl,hz⟩:=I.tuple (show SqT X.K H a xs from h);exact⟨its,r,pl,hz⟩
 ·obtain⟨its,r,pl,hz⟩:=I.list (show SqL X.K H a xs from h);exact⟨its,r,pl.isList,hz⟩
variable{prog:Program}{E:Value->Shared->Prop}
end L2
namespace EV
open L2
variable{EX:D->Mm->Prop}
section
variable{K:Frag}{M:Mm}{a b:Expr}{g:FE}{tg:Expr}
noncomputable def dz:W->Option (List D)
 |.d (.tup xs)=>some xs
 |.d (.lst xs)=>some xs
 |.d (.fz xs)=>some xs
 |_=>none
theorem aPj{w:W}{ds:List D}(r:Rw K μ H w v)(h:dz w=some ds):∃(b:Bool) (a:Addr) (vs:List V) (S:List Addr->Hp->Prop),v=.ref a/\S μ H/\(∀μ1 H1 μ2 H2,Lsts μ1 H1->S μ1 H1->Ext μ1 H1 μ2 H2->S μ2 H2)/\∀μ1 H1,S μ1 H1->SqB b K H1 a vs/\Rps K μ1 H1 ds vs:=by
 cases w with
 |ref i=>cases h
 |ob _ _=>cases h
 |nest _=>cases h
 |d x=>cases x with
  |tup xs =>
   cases h
   simp only[Rw,Rp]at r
   obtain⟨p,vs,rfl,h1,r1⟩:=r
   exact⟨false,p,vs,λμ2 H2=>H2 p=some (.tup vs)/\Rps K μ2 H2 ds vs,rfl,⟨h1,r1⟩,λμ1 H1 μ2 H2 l z e=>⟨e.keep _ _ (λq=>by obtain⟨us,q,mq⟩:=l p q;rw[z.1]at q;cases q;exact mq) z.1,Rps.ext l e _ _ z.2⟩,λμ1 H1 z=>⟨SqT.of z.1,z.2⟩⟩
  |lst xs =>
   cases h
   simp only[Rw,Rp]at r
   obtain⟨p,vs,rfl,h1,hn,r1⟩:=r
   exact⟨true,p,vs,λμ2 H2=>H2 p=some (.lst vs)/\p∉μ2/\Rps K μ2 H2 ds vs,rfl,⟨h1,hn,r1⟩,λμ1 H1 μ2 H2 l z e=>⟨e.keep _ _ z.2.1 z.1,λq=>(e.new p q).elim z.2.1 (λq=>by rw[z.1]at q;cases q),Rps.ext l e _ _ z.2.2⟩,λμ1 H1 z=>⟨SqL.of z.1,z.2.2⟩⟩
  |fz xs =>
   cases h
   simp only[Rw,Rp]at r
   obtain⟨p,vs,rfl,h1,r1⟩:=r
   exact⟨true,p,vs,λμ2 H2=>FzL K H2 p vs/\Rps K μ2 H2 ds vs,rfl,⟨h1,r1⟩,λμ1 H1 μ2 H2 l z e=>⟨z.1.ext l e,Rps.ext l e _ _ z.2⟩,λμ1 H1 z=>⟨z.1.sq,z.2⟩⟩
  |_=>cases h
theorem aIp{T:Addr}{x y:D}{u:V}(hr:HR K μ H M)(hT:H T=none)(r1:Rp K μ H x u)(r2:Rp K μ H y v):Ext μ H μ (upd H T (.tup [u,v]))/\HR K μ (upd H T (.tup [u,v])) M/\Rp K μ (upd H T (.tup [u,v])) (.tup [x,y]) (.ref T):=by
 have e:=eF (o:=.tup [u,v]) hr hT
 refine⟨e,hr.lay hT,?_⟩
 simp only[Rp]
 exact⟨T,[u,v],rfl,bE,.cons (Rp.ext hr.lsts e _ _ r1) (.cons (Rp.ext hr.lsts e _ _ r2) .nil)⟩
end
section
variable{M:Mm}{g:FE}
end
end EV
namespace L2
variable{prog:Program}{E:Value->Shared->Prop}{e:Addr}{c:Int}{old:Value}
theorem aEv{x:Value}(he:IsEnum s.heap e it c old)(h1:ZP.It1 s.heap it src i xs)(hx:xs[i]?=some x)(hne:e≠it)(hes:src≠e)
  (hQ:∀h',IsEnumOut h' e it (c+1) x s.heap.objs.size->ZP.It1 h' it src (i+1) xs->h'.get? s.heap.objs.size=some {cls:=.type "tuple",data:=.seq #[.int c s.toks,x]} ->
   (∀b o,b≠e->b≠it->s.heap.get? b=some o->h'.get? b=some o)->Q (.ref s.heap.objs.size) {s with heap:=h',toks:=s.toks+1}) :
  wpAny (model prog w) A (Builtin.«enumerate.__next__» ⟨[.ref e],[]⟩) (λfin s'=>∃v,fin=.done (.ret v)/\Q v s') E s:=by
 obtain⟨hp,g,d,tk,os⟩:=s
 show wpAny _ _ (field (.ref e) 2 >>= _) _ _ _
 refine aAA (aAN he rfl (x:=.ref it) rfl (aAA (h1.next hx λk1 hit1 hs1=>?_)))
 have hs1:Heap.SameBut it hp k1:=hs1
 have he1:IsEnum k1 e it c old:=(hs1.2 e hne).trans he
 show wpAny _ _ (field (.ref e) 3 >>= _) _ _ ⟨k1,g,d,tk,os⟩
 refine aAA (aAN he1 rfl (x:=rawInt c) rfl ?_)
 show wpAny _ _ (field (.ref e) 4 >>= _) _ _ ⟨k1,g,d,tk,os⟩
 refine aAA (aAN he1 rfl (x:=.none) rfl ?_)
 show wpAny _ _ (mkInt c >>= _) _ _ ⟨k1,g,d,tk,os⟩
 refine aAA (wpAny_mkInt ?_)
 show wpAny _ _ (setField (.ref e) 3 (rawInt (c+1)) >>= _) _ _ ⟨k1,g,d,tk+1,os⟩
 refine aAA (aBV he1 (by simp) λk2 he2 hs2=>?_)
 have hs2:Heap.SameBut e k1 k2:=hs2
 have he2:IsEnum k2 e it (c+1) old:=he2
 show wpAny _ _ (setField (.ref e) 4 .none >>= _) _ _ ⟨k2,g,d,tk+1,os⟩
 refine aAA (aBV he2 (by simp) λk3 he3 hs3=>?_)
 have hs3:Heap.SameBut e k2 k3:=hs3
 have he3:IsEnum k3 e it (c+1) old:=he3
 show wpAny _ _ (newTuple [.int c tk,x] >>= _) _ _ ⟨k3,g,d,tk+1,os⟩
 refine aAA (wpAny_newTuple ?_)
 have hsz:k3.objs.size=hp.objs.size:=by rw[hs3.1,hs2.1,hs1.1]
 have hel:e < hp.objs.size:=aAF he
 obtain⟨k4,hk4⟩:∃k4,k4=k3.push {cls:=.type "tuple",data:=.seq #[.int c tk,x]}:=⟨_,rfl⟩
 rw[<- hk4]
 have he4:IsEnum k4 e it (c+1) old:=by rw[hk4];exact aAB _ he3
 have ht4:k4.get? hp.objs.size=some {cls:=.type "tuple",data:=.seq #[.int c tk,x]}:=by rw[hk4,<- hsz];exact aAE _ rfl
 have kp4:∀b o,b≠e->b≠it->hp.get? b=some o->k4.get? b=some o:=λb o q1 q2 q=>by
  rw[hk4];exact aAB _ (hs3.extBut b o q1 (hs2.extBut b o q1 (hs1.extBut b o q2 q)))
 have it4:ZP.It1 k4 it src (i+1) xs:=by
  rw[hk4]
  exact hit1.at (λo q=>aAB _ (hs3.extBut it o hne.symm (hs2.extBut it o hne.symm q))) λo q=>aAB _ (hs3.extBut src o hes (hs2.extBut src o hes q))
 show wpAny _ _ (Builtin.SmallTypes.ownedTupleIsFree (.ref e) >>= _) _ _ ⟨k4,g,d,tk+1,os⟩
 rw[hsz]
 clear hk4 he3 hs3 he2 hs2 he1 hs1 hit1 hsz
 refine aAA ?_
 unfold Builtin.SmallTypes.ownedTupleIsFree
 refine aAA (aAN he4 rfl (x:=.none) rfl (aAC ?_))
 simp only[aEA]
 refine aAA (aCJ (aAA (aAN he4 rfl (x:=old) rfl (aAA (aBV he4 (by simp) λk5 he5 hs5=>?_)))))
 have hs5:Heap.SameBut e k4 k5:=hs5
 have he5:IsEnum k5 e it (c+1) x:=he5
 show wpAny _ _ (Builtin.SmallTypes.ownedTupleHandOut (.ref e) (.ref hp.objs.size) >>= _) _ _ ⟨k5,g,d,tk+1,os⟩
 refine aAA ?_
 unfold Builtin.SmallTypes.ownedTupleHandOut
 refine aAA (aBV he5 (by simp) λk6 he6 hs6=>?_)
 have hs6:Heap.SameBut e k5 k6:=hs6
 have he6:IsEnumOut k6 e it (c+1) x hp.objs.size:=he6
 refine aBV he6 (by simp) λk7 he7 hs7=>?_
 have hs7:Heap.SameBut e k6 k7:=hs7
 have he7:IsEnumOut k7 e it (c+1) x hp.objs.size:=he7
 have up:∀b o,b≠e->k4.get? b=some o->k7.get? b=some o:=λb o q1 q=>hs7.extBut b o q1 (hs6.extBut b o q1 (hs5.extBut b o q1 q))
 refine aAA (aHS (aAC ⟨_,rfl,hQ k7 he7 (it4.at (λo q=>up it o hne.symm q) λo q=>up src o hes q) (up _ _ (aBF hel) ht4) λb o q1 q2 q=>up b o q1 (kp4 b o q1 q2 q)⟩))
theorem aFt{Q:Option Value->Shared->Prop}(hh:A.handled=none)(he:IsEnum s.heap e it c old)(h1:ZP.It1 s.heap it src i xs)(hx:xs[i]?=none)
  (hQ:∀h',Heap.ExtBut it s.heap h'->Q none {s with heap:=h'}):wpAny (model prog w) A (pyNext (.ref e)) Q E s:=by
 have hT:s.TypeIs (.ref e) "enumerate":=⟨_,he,rfl⟩
 unfold pyNext
 refine aAA (aBT (aAU (name:=Str.ofString "__next__") hT aEB (aAZ aEB hT F.entry_enumerate_next ?_ (F.args_enumerate_next_1 _))))
 show wpAny _ _ (field (.ref e) 2 >>= _) _ _ _
 refine aAA (aAN he rfl (x:=.ref it) rfl (aAA (h1.stop hh hx λh' x he' hx'=>?_)))
 obtain⟨o,ho,hc⟩:=hx'
 refine aAA (aDA (T:="StopIteration") (b:=true) ⟨o,ho,hc⟩ aEM (aAC (hQ _ he')))
noncomputable def tne(b:Bool)(e it src:Addr)(c:Int)(i:Nat)(h:Heap):Prop:=(∃old,IsEnum h e it (c+i) old)/\It0 b h it src i
noncomputable def Ite(b:Bool)(K:Frag)(src:Addr)(c:Int)(xs:List V):It :=
 ⟨λi H=>SqB b K H src xs/\i < xs.length,λi H x H'=>∃T u,H T=none/\x=.ref T/\xs[i]?=some u/\H'=upd H T (.tup [.int (c+i),u]),λi H=>SqB b K H src xs/\xs.length<=i⟩
theorem uW{elts:List Expr}{x1}{b:Bool}(c:Int)(hne:e≠it)(hes:src≠e)(his:src≠it)(xs:List V):Turn P w K (.Tuple elts x1 pos) (Ite b K src c xs) [e,it] e (tne b e it src c)where
 mem:=by simp
 obj:=λi h st q hb=>by
  simp only[aAY,aCX,aGA]at hb
  rcases hb with rfl|rfl
  ·obtain⟨old,he⟩:=st.1;exact⟨_,he,λv z=>by cases z⟩
  ·exact st.2.obj
 keep:=λi h h' st k=>by
  obtain⟨⟨old,he⟩,h1⟩:=st
  exact⟨⟨old,k e (by simp) _ he⟩,h1.at λo q=>k it (by simp) o q⟩
 item:=by
  intro X hP hw hK hc i pins s σ H E I hf st hg
  subst hP hw hK
  obtain⟨sx,hx⟩:=hg
  obtain⟨its,r1,y1,z1⟩:=sx.inv I
  obtain⟨⟨old,he⟩,h1⟩:=st
  have hT:s.TypeIs (.ref e) "enumerate":=⟨_,he,rfl⟩
  obtain⟨u,hu,ru⟩:=r1.get (aAR hx)
  have elt:e < s.heap.objs.size:=aAF he
  unfold pyNext
  refine aAA (aBT (aAU (name:=Str.ofString "__next__") hT aEB (aAZ aEB hT F.entry_enumerate_next
   (aEv he (aIh h1 y1) (x:=u) (by simpa using hu) hne hes λh' he' a1 ht k'=>aAC ?_) (F.args_enumerate_next_1 _))))
  refine⟨_,rfl,?_⟩
  have y1':IsB b h' src its.toArray:=y1.at λo q=>k' src o hes his q
  refine wpAny_letOwnedTupleGo_enum (s:={s with heap:=h',toks:=s.toks+1}) he' λh2 he2 sb=>?_
  have sb:Heap.SameBut e h' h2:=sb
  have kk:∀q o,q∉[e,it]->s.heap.get? q=some o->h2.get? q=some o:=λq o hb z=>by
   simp only[aAY,aCX,aGA,not_or]at hb
   exact sb.extBut q o hb.1 (k' q o hb.1 hb.2 z)
  have hp2:=sb.extBut _ _ (aBF elt) ht
  refine⟨.ref s.heap.objs.size,upd H s.heap.objs.size (.tup [.int (c+i),xs[i]]),I.turnLay (t':=s.toks+1) hf kk (aAG _) (show ObjOk X.prog X.w _ h2 _ (.tup [.int (c+i),xs[i]])from⟨by show 2<=sizeLine;decide,[.int (c+i) s.toks,u],.cons ⟨_,rfl⟩ (.cons ru .nil),_,hp2,rfl,_,rfl⟩),rfl,⟨_,xs[i],I.hok.fresh (aAG _),rfl,aAR hx,rfl⟩,?_,λq hb=>?_⟩
  ·refine⟨⟨_,by rw[show c+((i+1:Nat):Int)=c+i+1 by lia];exact he2⟩,(aOi y1' a1).at λo q=>sb.extBut it o hne.symm q⟩
  ·rw[aX]
   ·exact(hf q hb).1
   ·rintro rfl
    simp only[aAY,aCX,aGA]at hb
    rcases hb with q|q
    ·rw[q]at elt;exact absurd elt (aEG _)
    ·obtain⟨o,z,_⟩:=h1.obj
     rw[<- q]at z
     exact absurd (aAF z) (aEG _)
 done:=by
  intro X hP hw hK hc i pins s σ H E I hf st hg
  subst hP hw hK
  obtain⟨sx,hend⟩:=hg
  obtain⟨its,r1,y1,z1⟩:=sx.inv I
  obtain⟨⟨old,he⟩,h1⟩:=st
  have l1:=r1.length
  refine aFt (I.ok.hd (hc.resolve_right id)) he (aIh h1 y1) (by simp;lia) λh' hk=>⟨rfl,I.turnedL (t':=s.toks) hf λq o hb z=>?_⟩
  simp only[aAY,aCX,aGA,not_or]at hb
  exact hk q o hb.2 z
 self:=λA i s Q E st hQ=>by
  obtain⟨⟨old,he⟩,_⟩:=st
  have hT:s.TypeIs (.ref e) "enumerate":=⟨_,he,rfl⟩
  refine aIF hT F.slot_enumerate_iter (aAZ F.slot_enumerate_iter hT F.entry_enumerate_iter ?_ (F.args_enumerate_iter_1 _))
  show wpAny _ _ (ret (.ref e)) _ _ s
  exact aAC ⟨_,rfl,"enumerate",_,hT,aEB.lookup,hQ⟩
end L2
namespace L2
open AutoSeq1 (wpAny_loadPart')
noncomputable abbrev eH1(b:Bool)(h:Heap)(l:Addr):Heap:=h.push {cls:=.type (if b=true then "list_iterator"else "tuple_iterator"),data:=.fields #[.ref l,.int 0 0]}
noncomputable abbrev eH2(b:Bool)(h:Heap)(l:Addr)(c:Int):Heap:=(eH1 b h l).push {cls:=.type "enumerate",data:=.fields #[.none,.bool false,.ref h.objs.size,rawInt c,.none,.none]}
theorem zB(l:Addr)(items:Array Value) :
  Meets (Builtin.«enumerate.__new__» ⟨[.type "enumerate",.ref l],[]⟩) (λ_ R s=>s.heap.IsTuple l items/\R (.ok (.ret (.ref (eH1 false s.heap l).objs.size))) {s with heap:=eH2 false s.heap l 0}) :=
 .of_wp λprog w A R s h=>by
  obtain⟨hp,g,d,tk,os⟩:=s;obtain⟨hl,h⟩:=h
  have hsub:=sub_enumerate
  have hL:Heap.IsTuple (Shared.heap ⟨hp,g,d,tk,os⟩) l items:=hl
  wp_walk
  refine wpAny_stack_any λst=>aAC ?_
  split
  ·rename_i c _ _ _ _ _
   cases(c==Value.type "enumerate") <;> (wp_walk using aCU hL;exact⟨_,rfl,h⟩)
  ·wp_walk using aCU hL
   exact⟨_,rfl,h⟩
variable{prog:Program}{E:Value->Shared->Prop}
theorem aIz(b:Bool)(h:Heap)(l:Addr)(c:Int):(eH1 b h l).objs.size=h.objs.size+1/\IsEnum (eH2 b h l c) (h.objs.size+1) h.objs.size c .none/\It0 b (eH2 b h l c) h.objs.size l 0/\∀q o,h.get? q=some o->(eH2 b h l c).get? q=some o:=by
 have z1:(eH1 b h l).objs.size=h.objs.size+1:=aAW ..
 refine⟨z1,?_,?_,λq o x=>aAB _ (aAB _ x)⟩
 ·have:=aAE (eH1 b h l) (o:={cls:=.type "enumerate",data:=.fields #[.none,.bool false,.ref h.objs.size,rawInt c,.none,.none]}) rfl
  rw[z1]at this;exact this
 ·cases b
  ·exact⟨_,aAB _ (aAE _ rfl),rfl,rfl⟩
  ·exact⟨_,aAB _ (aAE _ rfl),rfl,rfl⟩
theorem aFi{b:Bool}(hl:IsB b s.heap l items)
  (h:∀h',IsEnum h' (s.heap.objs.size+1) s.heap.objs.size 0 .none->It0 b h' s.heap.objs.size l 0->(∀q o,s.heap.get? q=some o->h'.get? q=some o)->Q (.ref (s.heap.objs.size+1)) {s with heap:=h'}) :
  wpAny (model prog w) A (call (.type "enumerate") [.ref l]) Q E s:=by
 cases b with
 |true=>exact call_enumerate_list (show s.heap.IsList l items from hl) λh' a1 a2 _ k=>h h' a1 a2 k
 |false =>
  obtain⟨z1,f1,f2,f3⟩:=aIz false s.heap l 0
  refine aFK F.called_enumerate (by decide) (F.typeCall_enumerate_1 _) (F.newCall_enumerate_1 _) (λobj=>aGY obj _) F.entry_enumerate_new (zB l items) ⟨hl,?_⟩
  show _/\_
  rw[z1]
  exact⟨⟨_,f1,rfl⟩,h _ f1 f2 f3⟩
theorem aLs{elts:List Expr}{x1}{a:Expr}(hg:Gl X "enumerate")(hm:X.mg "enumerate"=none)(ha:PE X a ta)(hs:starEach [a] X.env=[(false,eval a X.env)]) :
  PI X (.Tuple elts x1 tpos) (.Call (.Name "enumerate" p) [a] [] pos) (λσ H R=>ta σ H λx H1=>∃l b xs,x=.ref l/\SqB b X.K H1 l xs/\R (Ite b X.K l 0 xs) H1):=by
 intro pins s σ H R I h
 refine Call_ (fN I hg hm wP (aBQ (thn (bM ha cH hs pos pins s σ H (λvs H2=>match vs with|[x]=>∃l b xs,x=.ref l/\SqB b X.K H2 l xs/\R (Ite b X.K l 0 xs) H2|_=>False) I h) λus s1 ⟨vs,H1,I1,r1,hr⟩=>?_) hs rfl))
 match vs,r1,hr with
 |[],_,hr=>exact hr.elim
 |_::_::_,_,hr=>exact hr.elim
 |[x],r1,hr =>
 obtain⟨l,b,xs,rfl,sx,hq⟩:=hr
 obtain⟨u,rfl,rx⟩:=vals1 r1
 cases rx
 obtain⟨its,q1,p1,z1⟩:=sx.inv I1
 have hl:l < s1.heap.objs.size:=p1.lt
 refine aFi p1 λh' a1 a2 k=>?_
 have hne:s1.heap.objs.size+1≠s1.heap.objs.size:=Nat.succ_ne_self _
 have hes:l≠s1.heap.objs.size+1:=aAJ (aEI hl)
 have his:l≠s1.heap.objs.size:=aAJ hl
 have tz:tne b (s1.heap.objs.size+1) s1.heap.objs.size l 0 0 h':=⟨⟨_,by simpa using a1⟩,a2⟩
 refine(uW (P:=X.prog) (w:=X.w) (K:=X.K) (elts:=elts) (x1:=x1) (pos:=tpos) 0 hne hes his xs).self _ 0 _ _ _ tz ?_
 refine⟨s1.heap.objs.size+1,_,_,_,H1,rfl,I1.kept (t':=s1.toks) λq o e=>k q o e,uW 0 hne hes his xs,tz,λq hb=>?_,hq⟩
 refine I1.fpOk ?_ (I1.hok.fresh ?_) <;>
 ·simp only[aAY,aCX,aGA]at hb
  rcases hb with rfl|rfl <;> (show(_:Nat)<=(_:Nat);lia)
end L2
namespace EV
open L2
variable{EX:D->Mm->Prop}
section
variable{K:Frag}{M:Mm}{a b:Expr}{g:FE}{tg:Expr}
noncomputable def enumT(c:Int)(xs:List D):List D:=xs.mapIdx λi d=>.tup [.int (c+i),d]
variable{c:Int}
theorem uD{xs:List D}{d:D}(h:(enumT c xs)[i]?=some d):∃x,xs[i]?=some x/\d=.tup [.int (c+i),x]:=by
 unfold enumT at h
 rw[List.getElem?_mapIdx,aBE]at h
 obtain⟨x,h1,rfl⟩:=h
 exact⟨x,h1,rfl⟩
theorem mT{xs:List D}:(enumT c xs).length=xs.length:=by simp[enumT]
theorem aKx{w:W}{xs:List D}(r:Rw K μ H w v)(q:dz w=some xs):∃l b vs,v=.ref l/\SqB b K H l vs/\ItOk K μ H ⟨enumT c xs,none⟩ (Ite b K l c vs):=by
 obtain⟨b1,l1,vs1,S1,rfl,s1,x1,d1⟩:=aPj r q
 refine⟨l1,b1,vs1,rfl,(d1 _ _ s1).1,S1,s1,x1,λμ3 H3 M3 i hr3 hS hc=>?_⟩
 obtain⟨c1,r1⟩:=d1 _ _ hS
 refine⟨λd hd=>?_,λhl=>?_⟩
 ·obtain⟨x,hx,rfl⟩:=uD hd
  obtain⟨u,hu,ru⟩:=r1.get hx
  refine⟨⟨c1,(aAD.mp hu).1⟩,λx' H4 hy4=>?_⟩
  obtain⟨T,u',hT,rfl,hu',rfl⟩:=hy4
  rw[hu]at hu';cases hu'
  exact aIp hr3 hT (by simp[Rp]) ru
 ·refine⟨c1,?_⟩
  simp only[mT]at hl
  rw[<- r1.length]
  exact hl
noncomputable def iEnum(f:FE):FI:=λL M=>(f L M).bind λx M1=>match dz x with
 |some xs=>.ok ⟨enumT 0 xs,none⟩ M1
 |_=>.bad
theorem aMa{elts:List Expr}{x1}(hm:X.mg "enumerate"=none)(ha:Ev X K Z a f)(hg:Gl X "enumerate":=by rfl)(hs:starEach [a] X.env=[(false,eval a X.env)]:=by rfl):Ei X K Z (.Tuple elts x1 tpos) (.Call (.Name "enumerate" p) [a] [] pos) (iEnum f):=by
 have h':=aLs (elts:=elts) (x1:=x1) (tpos:=tpos) (p:=p) (pos:=pos) hg hm ha.h hs
 rw[ha.k]at h'
 refine⟨ha.k,cqI h' ?_⟩
 rintro σ H R ⟨μ,M,L,hr,lr,p⟩
 refine⟨μ,M,L,hr,lr,p.bind.imp λμ1 H1 M1 w e1 hr1 _ p1 v rw'=>?_⟩
 cases q1:dz w with
 |none=>simp only[q1]at p1;exact p1.elim
 |some xs =>
  simp only[q1]at p1
  obtain⟨l,b,vs,rfl,h1,h2⟩:=aKx (c:=0) rw' q1
  exact⟨l,b,vs,rfl,h1,p1 μ1 H1 .refl hr1 _ h2⟩
end
section
variable{M:Mm}{g:FE}
theorem aGs(h:Okx EX (f L M) λx M1=>∃xs,dz x=some xs/\QI ⟨enumT 0 xs,none⟩ M1):Okx EX (iEnum f L M) QI :=
 aV (h.mono λx M1 ⟨xs,e1,q⟩=>by simp only[e1];exact aU q)
end
end EV
namespace L2
open AutoSeq1 (wpAny_loadPart')
theorem aCh(l b:Addr)(xs ys:Array Value)(n n2:Nat)(dd:Option Addr)(sl:Array (Option Value))(h0:¬(!xs.isEmpty&&Builtin.List.listTooLong (xs.size+ys.size))=true)(h1:xs.size<=sizeLine)(h2:xs.size+ys.size<=sizeLine+1) :
  Meets (Builtin.«list.extend» ⟨[.ref l,.ref b],[]⟩) (λ_ R s=>s.heap.get? l=some {cls:=.type "list",dict:=none,data:=.seq xs n,slots:=#[]}/\s.heap.get? b=some {cls:=.type "tuple",dict:=dd,data:=.seq ys n2,slots:=sl}/\R (.ok (.ret Value.none)) {s with heap:=s.heap.update l (Obj.mapSeq λx=>x++ys),toks:=s.toks}) :=
 .of_wp λprog w A R s h=>by
  obtain⟨hp,g,d,tk,os⟩:=s;obtain⟨hl,hb,h⟩:=h
  have f1:=aGR;have f2:=AutoSeq1.sub_tuple_tuple;have f3:=AutoSeq1.sub_list_list;have f4:=AutoSeq1.sub_tuple_list;have f5:=AutoSeq1.sub_list_tuple
  have hz':(xs++ys).size<=sizeLine+1:=by rw[Array.size_append];exact h2
  wp_walk using(aDZ hl rfl (hz:=h1) (_hz':=hz')),aBO hl,aBO hb
  exact⟨_,rfl,h⟩
noncomputable def rExtendT(K:Frag):V->List V->Hp->VK->Prop:=λx vs H Q=>∃l b xs zs,x=.ref l/\vs=[.ref b]/\H l=some (.lst xs)/\SqT K H b zs/\xs.length+zs.length<=sizeLine/\Q .non (upd H l (.lst (xs++zs)))
theorem aBm:MtM X "list.extend" (λx vs H Q=>rExtend x vs H Q\/rExtendT X.K x vs H Q):=by
 intro pins s σ H x vs v us Q I rx rv h
 rcases h with h|h
 ·exact aFp pins s σ H x vs v us Q I rx rv h
 obtain⟨l,b,xs,zs,rfl,rfl,hH,hB,hz,q⟩:=h
 cases rx
 obtain⟨u,rfl,ru⟩:=rv.one
 cases ru
 obtain⟨z,its,n,r,hl,e⟩:=I.lstM hH
 obtain⟨its2,r2,⟨o,e2,c2,n2,d2⟩,z2⟩:=I.tuple hB
 obtain⟨oc,od,odt,osl⟩:=o
 have c2:oc=.type "tuple":=c2
 have d2:odt=.seq its2.toArray n2:=d2
 subst c2 d2
 have l1:=r.length
 have l2:=r2.length
 have hsz:its.toArray.size+its2.toArray.size<=sizeLine:=by rw[aAH,aAH];lia
 have hlong:¬(!its.toArray.isEmpty&&Builtin.List.listTooLong (its.toArray.size+its2.toArray.size))=true:=by
  rw[notLongL hsz,aFG]
  exact aBA
 refine aDM F.slot_list_extend ⟨_,e,rfl⟩ F.entry_list_extend (F.args_list_extend_2 _ _) (aCh l b its.toArray its2.toArray n n2 od osl hlong (by rw[aAH];lia) (by lia)) ⟨e,e2,?_⟩
 refine⟨.non,_,I.lset (its':=its++its2) hH e (by simp) (r.append r2) ?_,rfl,q⟩
 rw[aAP]
 lia
end L2
namespace EV
open L2
variable{EX:D->Mm->Prop}{K:Frag}{M:Mm}{a b c o e i:Expr}{es:List Expr}{fs:FA}{fb fe fi:FE}{tg:Expr}
noncomputable def pExtendA(x y:W)(M:Mm):Oc W:=match x,y with
 |.ref k,.d (.tup ys)=>match M[k]? with
  |some xs=>if xs.length+ys.length<=16777216 then .ok (.d .non) (M.set k (xs++ys))else .bad
  |_=>.bad
 |x,y=>pExtend x y M
theorem sK(ho:Ev X K Z o fo)(he:Ev X K Z e fa)(hbase:attributeBase o "extend" X.env (eval o X.env)=eval o X.env:=by rfl)
  (hfew:((backTo cpos (starEach [e] X.env)).all (λx=>!x.1)&&(backToKw cpos (keywordEach [] X.env)).all (λx=>x.1.isSome)&&decide ([e].length+([]:List Keyword).length+(if([]:List Keyword).isEmpty then 0 else 1) < 30))=true:=by rfl)
  (hline:(apos.endLine==cpos.line)=true:=by rfl)(hs:starEach [e] X.env=(false,eval e X.env)::starEach [] X.env:=by rfl)(hplain:(backTo cpos (starEach [] X.env)).any (·.1)=false:=by rfl) :
  Ev X K Z (.Call (.Attribute o "extend" apos) [e] [] cpos) (eM1 pExtendA fo fa):=by
 have h:=aHv aEU PySem.F.slot_list_extend PySem.F.type_list_extend aBm ho.h (bM he.h cH hs) hbase hfew hline hs hplain
 rw[ho.k]at h
 refine⟨ho.k,cqE h ?_⟩
 rintro σ H Q ⟨μ,M,L,hr,lr,p⟩
 refine⟨μ,M,L,hr,lr,p.bind.imp λμ1 H1 M1 x e1 hr1 _ p1 v rx=>?_⟩
 cases x with
 |d x=>exact p1.elim
 |ob _ _=>exact p1.elim
 |nest _=>exact p1.elim
 |ref k =>
  refine⟨vZ hr1 rx,μ1,M1,L,hr1,lr.ext hr.lsts e1,p1.bind.imp λμ2 H2 M2 y e2 hr2 _ p2 u ry=>?_⟩
  have lst:Pst K Z μ2 H2 (pExtend (.ref k) y M2) (λμ' H' _ w=>∀v,Rw K μ' H' w v->Q v H')->rExtend v [u] H2 Q:=λp2=>by
   simp only[pExtend]at p2
   cases q1:M2[k]? with
   |none=>simp only[q1]at p2;exact p2.elim
   |some xs =>
    cases q2:lv M2 y with
    |none=>simp only[q1,q2]at p2;exact p2.elim
    |some ys =>
     simp only[q1,q2]at p2
     split at p2
     ·rename_i hz
      obtain⟨a,qa,rfl,il⟩:=rx.ext hr1.lsts e2
      obtain⟨a',vs,qa',h1,r1⟩:=hr2.at q1 qa
      rw[qa]at qa';cases qa'
      obtain⟨b,us,rfl,h2,r2⟩:=yN hr2 ry q2
      refine⟨a,b,vs,us,rfl,rfl,h1,h2,by rw[<- r1.length,<- r2.length,aBC];exact hz,?_⟩
      exact p2 μ2 _ (cY qa) (hr2.set qa (r1.append r2)) _ (by simp[Rw,Rp])
     ·exact p2.elim
  cases y with
  |ref j=>exact .inl (lst p2)
  |ob _ _=>exact .inl (lst p2)
  |nest _=>exact .inl (lst p2)
  |d y=>cases y with
   |tup ys =>
    simp only[pExtendA]at p2
    cases q1:M2[k]? with
    |none=>simp only[q1]at p2;exact p2.elim
    |some xs =>
     simp only[q1]at p2
     split at p2
     ·rename_i hz
      obtain⟨a,qa,rfl,il⟩:=rx.ext hr1.lsts e2
      obtain⟨a',vs,qa',h1,r1⟩:=hr2.at q1 qa
      rw[qa]at qa';cases qa'
      simp only[Rw,Rp]at ry
      obtain⟨b,us,rfl,h2,r2⟩:=ry
      refine .inr ⟨a,b,vs,us,rfl,rfl,h1,SqT.of h2,by rw[<- r1.length,<- r2.length,aBC];exact hz,?_⟩
      exact p2 μ2 _ (cY qa) (hr2.set qa (r1.append r2)) _ (by simp[Rw,Rp])
     ·exact p2.elim
   |_=>exact .inl (lst p2)
variable{x y:W}{Q:W->Mm->Prop}
theorem aAx{k:Nat}{xs ys:List D}(hy:∀z,y≠.d (.tup z))(h:M[k]?=some xs)(h2:lv M y=some ys)(hz:xs.length+ys.length<=16777216)(q:Q (.d .non) (M.set k (xs++ys))):Okx EX (pExtendA (.ref k) y M) Q:=by
 have:pExtendA (.ref k) y M=pExtend (.ref k) y M:=by
  unfold pExtendA
  split
  ·exact(hy _ rfl).elim
  ·rfl
 rw[this];exact uS h h2 hz q
end EV
namespace L2
variable{prog:Program}{E:Value->Shared->Prop}
end L2
namespace EV
open L2
variable{EX:D->Mm->Prop}{K:Frag}{es:List Expr}{M:Mm}
end EV
namespace L2
end L2
namespace EV
open L2
variable{EX:D->Mm->Prop}{K:Frag}{M:Mm}{x:W}{Q:W->Mm->Prop}
end EV
namespace EV
open L2
variable{EX:D->Mm->Prop}{K:Frag}{M:Mm}{a tg:Expr}
end EV
namespace EV
open L2
variable{EX:D->Mm->Prop}{K:Frag}{M:Mm}{Q:W->Mm->Prop}
end EV
namespace EV
open L2
noncomputable section
def ZR(K:Frag)(R:Addr->Hp->Prop):Zt:=⟨λx M μ H=>∀μ' H',Ext μ H μ' H'->HR K μ' H' M->∀a,Rp K μ' H' x (.ref a)->R a H',λe h μ' H' e' hr a ra=>h μ' H' (e.trans e') hr a ra⟩
abbrev wishR(E:XK):Addr->Hp->Prop:=λa H'=>E (.ref a) none H'
def spX(K:Frag)(m:Nat)(Fm:Fn):Sp:=λvs H Q E=>vs.length=m/\∃μ M ws,HR K μ H M/\Rws K μ H ws vs/\Pst K (ZR K (wishR E)) μ H (Fm ws M) (Wk K Q)
end
section
variable{K:Frag}{M:Mm}{e a b:Expr}{es:List Expr}{fb:FE}{fs:FA}{rest:List Stmt}{G:FS}
theorem Pst.never{o:Oc α}{Q:List Addr->Hp->Mm->α->Prop}(h:Pst K Z0 μ H o Q):Pst K Z μ H o Q:=by
 cases o with
 |ok a M=>exact h
 |ex x M=>exact h.elim
 |bad=>exact h
noncomputable def fnX(m n:Nat)(F:FS):Fn:=λws M=>match fnD m n F ws M with
 |.ok w M'=>.ok w M'
 |.ex x M'=>.ex x (M'.take M.length)
 |.bad=>.bad
structure FunG(K:Frag)(x qual:Str)(st:Stmt)(f:Addr)(fd:FuncData):Prop where
 ex:∃(oc:Value) (od:Option Addr) (dV kV doc pm:Value) (an:Option Addr) (cdv ct:Value) (osl:Array (Option Value)),
  fd=fnOf x qual (defArgs st) (defBody st) (defScope st) dV kV doc pm an cdv ct/\K.lookup f=some ⟨oc,od,.func fd,osl⟩/\codeIn K cdv qual=true
theorem _root_.L2.Fun.g{f:Addr}(F:Fun K x qual st f fd):FunG K x qual st f fd:=by
 obtain⟨oc,od,kV,doc,pm,an,cdv,ct,osl,h⟩:=F.ex
 exact⟨oc,od,_,kV,doc,pm,an,cdv,ct,osl,h⟩
structure FunD(K:Frag)(x qual:Str)(st:Stmt)(f:Addr)(fd:FuncData)(d:Value):Prop where
 ex:∃(T:Addr) (oc:Value) (od:Option Addr) (kV doc pm:Value) (an:Option Addr) (cdv ct:Value) (osl:Array (Option Value)),
  fd=fnOf x qual (defArgs st) (defBody st) (defScope st) (.ref T) kV doc pm an cdv ct/\K.lookup f=some ⟨oc,od,.func fd,osl⟩/\codeIn K cdv qual=true/\∃c dd n sl,K.lookup T=some ⟨c,dd,.seq #[d] n,sl⟩
variable{d:Value}
theorem FunD.g{f:Addr}(F:FunD K x qual st f fd d):FunG K x qual st f fd:=by
 obtain⟨T,oc,od,kV,doc,pm,an,cdv,ct,osl,h1,h2,h3,_⟩:=F.ex
 exact⟨oc,od,_,kV,doc,pm,an,cdv,ct,osl,h1,h2,h3⟩
theorem FunD.binds{f:Addr}(F:FunD K x qual st f fd d)
  (h:∀(T:Addr) (kV doc pm:Value) (an:Option Addr) (cdv ct:Value) (us:List Value),us.length=ps.length->∃k,bindArgs (fnOf x qual (defArgs st) (defBody st) (defScope st) (.ref T) kV doc pm an cdv ct) ⟨us,[]⟩=seqItems? (.ref T) >>= k/\k (some #[d])=pure (ps.zip us)):Binds K fd ps []:=by
 obtain⟨T,oc,od,kV,doc,pm,an,cdv,ct,osl,rfl,h2,h3,c,dd,n,sl,hT⟩:=F.ex
 intro s us X hl
 rw[aEE]at hl ⊢
 obtain⟨k,h1,h2⟩:=h T kV doc pm an cdv ct us hl
 exact PySem.W.binds_K X rfl hT rfl h1 h2
theorem FunD.binds1{f:Addr}(F:FunD K x qual st f fd d)
  (h:∀(T:Addr) (kV doc pm:Value) (an:Option Addr) (cdv ct:Value) (us:List Value),(us++[d]).length=ps.length->∃k,bindArgs (fnOf x qual (defArgs st) (defBody st) (defScope st) (.ref T) kV doc pm an cdv ct) ⟨us,[]⟩=seqItems? (.ref T) >>= k/\k (some #[d])=pure (ps.zip (us++[d]))):Binds K fd ps [d]:=by
 obtain⟨T,oc,od,kV,doc,pm,an,cdv,ct,osl,rfl,h2,h3,c,dd,n,sl,hT⟩:=F.ex
 intro s us X hl
 obtain⟨k,h1,h2⟩:=h T kV doc pm an cdv ct us hl
 exact PySem.W.binds_K X rfl hT rfl h1 h2
variable{n:Nat}
theorem aLh{f T:Addr}{kV c:Value}{dd:Option Addr}(l:K.lookup f=some ⟨oc,od,.func (fnOf x qual (defArgs st) (defBody st) (defScope st) (.ref T) kV doc pm an cdv ct),osl⟩)
  (h:codeIn K cdv qual=true)(t:K.lookup T=some ⟨c,dd,.seq #[d] n,sl⟩):FunD K x qual st f (fnOf x qual (defArgs st) (defBody st) (defScope st) (.ref T) kV doc pm an cdv ct) d:=⟨T,oc,od,kV,doc,pm,an,cdv,ct,osl,rfl,l,h,c,dd,n,sl,t⟩
theorem aLr{ws:List W}(h:ws.length≠m):fnX m n F ws M=.bad:=by unfold fnX fnD;rw[aAL h]
variable{k:Nat}
theorem aNq{fa:Addr}(hf:FunG K x qual st fa fd)(S:FnScope N ps (defScope st))
  (hb:∀(cdv:Value) (A:Around) (outer:List Env) (s:Shared) (H:Hp) (E:XK),Room k (A.deeper (envOfC qual (defScope st) s.heap.objs.size fa cdv))->Xz (cxOf (CX1 P w) P w K mg base N qual (defScope st) fa cdv A outer s H E) (wishR E) ->
   Ess (cxOf (CX1 P w) P w K mg base N qual (defScope st) fa cdv A outer s H E) K (ZR K (wishR E)) (defBody st) F) :
  FnOk P w K mg base (CX1 P w) (k+1) fa fd ps (spX K ps.length (fnX ps.length N.length F)):=by
 obtain⟨oc,od,dV,kV,doc,pm,an,cdv,ct,osl,rfl,lk,hcd⟩:=hf.ex
 refine aCl lk hcd S (λvs H Q E h=>h.1) λA outer s H vs Q E hr hsp=>⟨_,(hb cdv A outer s H E hr aRz).h,?_⟩
 obtain⟨hv,μ,M,ws,hr,rx,p⟩:=hsp
 refine⟨μ,M,_,hr,sM rx,?_⟩
 unfold fnX fnD at p
 rw[aAI (by rw[rx.length];exact hv)]at p
 cases q:F (ws.map some++List.replicate (N.length - ws.length) none) M with
 |bad=>rw[q]at p;exact p
 |ex z M' =>
  rw[q]at p
  intro μ1 H1 e1 hr1 a ra
  have hb:=hr1.back e1
  rw[hr.len]at hb
  have hsub:∀a,a∈μ->a∈μ1:=λa ha=>by rw[<- e1.take]at ha;exact aBZ ha
  exact p μ H1 e1.back hb a (Rp.sub hsub z _ ra)
 |ok o M' =>
  rw[q]at p
  simp only[eD]at p
  intro μ1 H1 e1 hr1
  have hb:=hr1.back e1
  rw[hr.len]at hb
  cases o with
  |nx L'=>exact λσ' lr'=>p μ H1 e1.back hb _ (by simp[Rw,Rp])
  |bk L'=>exact p.elim
  |ct L'=>exact p.elim
  |rt w =>
   intro v rv
   have hsub:∀a,a∈μ->a∈μ1:=λa ha=>by rw[<- e1.take]at ha;exact aBZ ha
   cases w with
   |ob c i=>exact kH (Z:=ZR K (wishR E)) hr e1 hr1 (.inl ⟨_,_,rfl⟩) rv (by revert p;simp only[retc];by_cases hi:i < M.length <;> simp only[hi,aEA,aEF] <;> exact λp=>p)
   |nest c=>exact kH (Z:=ZR K (wishR E)) hr e1 hr1 (.inr ⟨_,rfl⟩) rv (by
     cases c with
     |ls c=>revert p;simp only[retc];cases nestD M.length M' c <;> exact λp=>p
     |pr x i=>revert p;simp only[retc];by_cases hi:i < M.length;(simp only[aAI hi];exact λp=>p);(simp only[aAL hi];cases M'[i]? <;> exact λp=>p))
   |d x=>exact p μ H1 e1.back hb v (Rp.sub hsub x v rv)
   |ref i =>
    simp only[retc]at p
    by_cases hi:i < M.length
    ·rw[aAI hi]at p
     obtain⟨a,qa,rfl,il⟩:=rv
     refine p μ H1 e1.back hb _ ⟨a,?_,rfl,il⟩
     rw[<- hr.len]at hi
     rw[<- e1.take,aGC hi];exact qa
    ·rw[aAL hi]at p
     cases q2:M'[i]? with
     |none=>rw[q2]at p;exact p.elim
     |some ds =>
      rw[q2]at p
      obtain⟨a,qa,rfl,il⟩:=rv
      obtain⟨a',vs',qa',h1,r1⟩:=hr1.at q2 qa
      rw[qa]at qa';cases qa'
      have hna:a∉μ:=λz=>by
       obtain⟨j,h2⟩:=List.mem_iff_getElem?.mp z
       have hj:=(aAD.mp h2).1
       have h2:=e1.pre j a h2
       have l1:=(aAD.mp qa).1
       have l2:=(aAD.mp h2).1
       have g1:=(aAD.mp qa).2
       have g2:=(aAD.mp h2).2
       have pw:=aDI.mp hr1.nd
       rw[hr.len]at hj
       exact pw j i l2 l1 (by lia) (g2.trans g1.symm)
      refine p μ H1 e1.back hb _ ?_
      simp only[Rw,Rp]
      exact⟨a,vs',rfl,h1,hna,Rps.sub hsub _ _ r1⟩
theorem aJm{f:Addr}(hl:ps.length=m):FnOk P w K mg base CX k f fd ps (spX K m (λ_ _=>.bad)) :=
 ⟨λvs H Q E h=>by rw[h.1,hl],λA outer s H args us vs Q E _ _ _ _ h=>by obtain⟨_,μ,M,ws,_,_,p⟩:=h;exact p.elim⟩
theorem aJe{ws:List W}{M1:Mm}{Q:VK}{E:XK}(hlen:∀ws M,ws.length≠m->Fm ws M=.bad)(hr1:HR K μ1 H1 M1)(rx:Rws K μ1 H1 ws vs)(p1:Pst K (ZR K (wishR E)) μ1 H1 (Fm ws M1) (Wk K Q)):spX K m Fm vs H1 Q E:=by
 refine⟨?_,μ1,M1,ws,hr1,rx,p1⟩
 by_cases hw:ws.length=m
 ·rw[<- rx.length];exact hw
 ·rw[hlen ws M1 hw]at p1;exact p1.elim
noncomputable section
abbrev EofR(R:Addr->Hp->Prop):XK:=λv _ H'=>∃a,v=.ref a/\R a H'
theorem ZR.to(h:∀a H,R a H->wishR (EofR R) a H:=λa H h=>⟨a,rfl,h⟩){o:Oc α}{Q:List Addr->Hp->Mm->α->Prop}(p:Pst K (ZR K R) μ H o Q):Pst K (ZR K (wishR (EofR R))) μ H o Q:=by
 cases o with
 |ok a M=>exact p
 |ex x M=>exact λμ' H' e hr a ra=>h a H' (p μ' H' e hr a ra)
 |bad=>exact p
theorem aIg{fa:Addr}(hz:Xz X R)(Gf:FnOk X.prog X.w X.K X.mg X.base (CX1 X.prog X.w) k fa fd ps (spX K m Fm))(hr:Room k X.A)(hm:X.mg x=some (.ref fa))(hk:keepIn X.K (.ref fa)=true)(hb:Binds X.K fd ps [])
  (ha:Ea X K (ZR K R) (e::es) fs)(hg:Gl X x:=by rfl)(hdb:(x==("__debug__":Str))=false:=by decide)(he:starEach (e::es) X.env=(false,eval e X.env)::starEach es X.env:=by rfl)(hpl:(backTo pos (starEach es X.env)).any (·.1)=false:=by rfl)
  (hlen:∀ws M,ws.length≠m->Fm ws M=.bad:=by intro ws M h;first|exact aAL h|rfl):Ev X K (ZR K R) (.Call (.Name x p) (e::es) [] pos) (eA Fm fs):=by
 refine⟨ha.k,cqE (wY (E:=EofR R) Gf hr hg hm hk hb .nil (tX rfl rfl ⟨λpins σ ev s' h=>hz.go pins σ ev s' (h.imp λa H ⟨a',q1,q2⟩=>by cases q1;exact q2)⟩) ha.h hdb he hpl) ?_⟩
 rintro σ H Q ⟨μ,M,L,hr,lr,p⟩
 refine⟨μ,M,L,hr,lr,p.bind.imp λμ1 H1 M1 ws e1 hr1 _ p1 vs rx=>?_⟩
 show spX K m Fm (vs++[]) H1 Q (EofR R)
 rw[aEE]
 exact aJe hlen hr1 rx (ZR.to (p:=p1))
def aDef(fs:FA)(ds:List D):FA:=λL M=>(fs L M).bind λws M1=>.ok (ws++ds.map W.d) M1
theorem Rws.append:∀{ws us:List W} {vs zs:List V},Rws K μ H ws vs->Rws K μ H us zs->Rws K μ H (ws++us) (vs++zs)
 |[],_,_,_,h,t=>by cases h;exact t
 |_::_,_,_,_,⟨v,r,e1,e2,e3⟩,t=>by subst e1;exact⟨v,_,rfl,e2,Rws.append e3 t⟩
def nx(Fm:Fn):Fn:=λws M=>match Fm ws M with
 |.ok w M'=>.ok w M'
 |_=>.bad
theorem aJa{fa:Addr}(Gf:FnOk X.prog X.w X.K X.mg X.base CX0 k fa fd ps (spF K Z0 m Fm))(hr:Room k X.A)(hm:X.mg x=some (.ref fa))(hk:keepIn X.K (.ref fa)=true)(hb:Binds X.K fd ps [])
  (ha:Ea X K Z (e::es) fs)(hg:Gl X x:=by rfl)(hdb:(x==("__debug__":Str))=false:=by decide)(he:starEach (e::es) X.env=(false,eval e X.env)::starEach es X.env:=by rfl)(hpl:(backTo pos (starEach es X.env)).any (·.1)=false:=by rfl)
  (hlen:∀ws M,ws.length≠m->Fm ws M=.bad:=by intro ws M h;first|exact aAL h|rfl):Ev X K Z (.Call (.Name x p) (e::es) [] pos) (eA (nx Fm) fs):=by
 refine⟨ha.k,cqE (wY Gf hr hg hm hk hb .nil pass0 ha.h hdb he hpl) ?_⟩
 rintro σ H Q ⟨μ,M,L,hr,lr,p⟩
 refine⟨μ,M,L,hr,lr,p.bind.imp λμ1 H1 M1 ws e1 hr1 _ p1 vs rx=>?_⟩
 show spF K Z0 m Fm (vs++[]) H1 Q E0
 rw[aEE]
 have p2:Pst K Z0 μ1 H1 (Fm ws M1) (Wk K Q):=by
  unfold nx at p1
  cases q:Fm ws M1 with
  |ok w M'=>rw[q]at p1;exact p1
  |ex z M'=>rw[q]at p1;exact p1.elim
  |bad=>rw[q]at p1;exact p1.elim
 refine⟨?_,μ1,M1,ws,hr1,rx,p2⟩
 by_cases hw:ws.length=m
 ·rw[<- rx.length];exact hw
 ·rw[hlen ws M1 hw]at p2;exact p2.elim
theorem aDc(hr:HR K μ H M){p:Addr}{o:HO}(hp:H p=none):Ext μ H μ (upd H p o)/\HR K μ (upd H p o) M:=⟨eF hr hp,hr.lay hp⟩
def sRaise(c f:Str)(fe:FE):FS:=λL M=>(fe L M).bind λw M1=>match w with
 |.d d=>.ex (.exn c f [d]) M1
 |_=>.bad
end
theorem jF{c:Str}(hz:Xz X R)(F:Xc K c C LE)(hO:xcB X.K C (.ref LE::vb) (some (.ref fI))=true)(hF:LeF X.K LE)(hf:PySem.W.typeIn X.K (.ref fI)=some (.type "function"))
  (G:FnOk X.prog X.w X.K X.mg X.base (CX1 X.prog X.w) k fI fd ps (spXI C ff))(hn:PySem.W.findIn K (.ref C) ff=some none)(hr:Room (k+1) X.A)(hb:Binds X.K fd ps [])(hm:X.mg c=some (.ref C))(hk:keepIn X.K (.ref C)=true)(hc:X.calm=true)(ha:Ev X K (ZR K R) a fa)
  (hg:Gl X c:=by rfl)(hdb:(c==("__debug__":Str))=false:=by decide)(he:starEach [a] X.env=[(false,eval a X.env)]:=by rfl):Es X K (ZR K R) (.Raise (some (.Call (.Name c p) [a] [] cpos)) none pos) (sRaise c ff fa):=by
 refine⟨ha.k,cqS (aGk (pos:=pos) (R:=R) (ini:=some (.ref fI)) hO hc hz (aIt (E:=E0) hO hF hf G hr hb (tX rfl rfl (aHx λ_ _ z=>z)) hm hk (bM ha.h cH he) hg hdb he)) ?_⟩
 rintro E σ H ⟨μ,M,L,hr,lr,p⟩
 refine⟨μ,M,L,hr,lr,p.bind.imp λμ1 H1 M1 w e1 hr1 _ p1 y ry=>?_⟩
 cases w with
 |ref i=>exact p1.elim
 |ob _ _=>exact p1.elim
 |nest _=>exact p1.elim
 |d d =>
  refine⟨y,rfl,λe dx he hd ne=>⟨e,some dx,upd H1 dx (.xd [(ff,y)]),rfl,rfl,?_⟩⟩
  obtain⟨x1,h1⟩:=aDc (o:=.xd [(ff,y)]) hr1 hd
  have he':upd H1 dx (.xd [(ff,y)]) e=none:=by rw[aX (Ne.symm ne)];exact he
  obtain⟨x2,h2⟩:=aDc (o:=XO e C (some dx)) h1 he'
  have x3:=x1.trans x2
  refine p1 μ1 _ x3 h2 e ?_
  simp only[Rp]
  exact⟨e,[y],C,LE,some dx,rfl,bE,F,.inr ⟨dx,y,rfl,rfl,by rw[aX ne];exact bE,hn⟩,.cons (Rp.ext hr1.lsts x3 _ _ ry) .nil⟩
end
noncomputable section
def noX(f:Lc->Mm->Oc α):Lc->Mm->Oc α:=λL M=>match f L M with
 |.ok a M1=>.ok a M1
 |_=>.bad
theorem Pst.noX{α:Type}{K:Frag}{Z:Zt}{μ:List Addr}{H:Hp}{f:Lc->Mm->Oc α}{L:Lc}{M:Mm}{Q:List Addr->Hp->Mm->α->Prop}(p:Pst K Z μ H (noX f L M) Q):Pst K Z0 μ H (f L M) Q:=by
 unfold EV.noX at p
 cases q:f L M with
 |ok a M'=>rw[q]at p;exact p
 |ex x M'=>rw[q]at p;exact p.elim
 |bad=>rw[q]at p;exact p
def liftX(K:Frag)(f:FE)(σ:L2.St)(H:Hp)(Q:VK)(R:Addr->Hp->Prop):Prop:=∃μ M L,HR K μ H M/\LR K μ H L σ/\Pst K (ZR K R) μ H (f L M) (Wk K Q)
def liftB(K:Frag)(F:FS)(D:Ends)(R:Addr->Hp->Prop)(σ:L2.St)(H:Hp):Prop:=∃μ M L,HR K μ H M/\LR K μ H L σ/\Pst K (ZR K R) μ H (F L M) (Sk K D)
end
structure Exx(X:Cx)(K:Frag)(e:Expr)(f:FE):Prop where
 k:X.K=K
 h:PEx X e (liftX K f)
structure Tb(X:Cx)(K:Frag)(b:List Stmt)(F:FS):Prop where
 k:X.K=K
 h:PBx X b (liftB K F)
section
variable{K:Frag}{M:Mm}{e a b:Expr}{es:List Expr}{fb:FE}{fs:FA}{rest:List Stmt}{G:FS}{k:Nat}
theorem aGq{fa:Addr}{dvs:List V}{ds:List Value}{dd:List D}(Gf:FnOk X.prog X.w X.K X.mg X.base (CX1 X.prog X.w) k fa fd ps (spX K m Fm))(hr:Room k X.A)(hm:X.mg x=some (.ref fa))(hk:keepIn X.K (.ref fa)=true)(hb:Binds X.K fd ps ds)(hd:Vals dvs ds)(hdd:∀μ H,Rws K μ H (dd.map W.d) dvs)
  (ha:Ea X.nox K Z0 (e::es) fs)(hg:Gl X x:=by rfl)(hdb:(x==("__debug__":Str))=false:=by decide)(he:starEach (e::es) X.env=(false,eval e X.env)::starEach es X.env:=by rfl)(hpl:(backTo pos (starEach es X.env)).any (·.1)=false:=by rfl)
  (hlen:∀ws M,ws.length≠m->Fm ws M=.bad:=by intro ws M h;first|exact aAL h|rfl):Exx X K (.Call (.Name x p) (e::es) [] pos) (eA Fm (aDef (noX fs) dd)):=by
 refine⟨ha.k,?_⟩
 rintro pins s σ H Q R I ⟨μ,M,L,hr0,lr,p⟩
 refine aCY (kG I hg hm ?_ hdb)
 have p:Pst K (ZR K R) μ H ((noX fs L M).bind λws M1=>Fm (ws++dd.map W.d) M1) (Wk K Q):=by
  unfold eA aDef at p
  cases q:noX fs L M with
  |ok ws M1=>rw[q]at p;exact p
  |ex x M1=>rw[q]at p;exact p
  |bad=>rw[q]at p;exact p
 have hA:=ha.h pos pins s σ H (λvs H1=>spX K m Fm (vs++dvs) H1 Q (EofR R)) (I.wish _) ⟨μ,M,L,hr0,lr,(p.bind.noX).imp λμ1 H1 M1 ws e1 hr1 _ p1 vs rx=>aJe hlen hr1 (rx.append (hdd μ1 H1)) (ZR.to (p:=p1))⟩
 refine aHV (h₀:=X.base) I.ok.mod.kin hk (aCT hA (λus s1 ⟨vs,H1,I1,r,q⟩=>?_) λ_ _ z=>z.elim) he hpl
 have I1:=I1.unwish
 refine⟨I1.kIn,?_⟩
 have r2:Vals (vs++dvs) (us++ds):=r.append hd
 have hl:(us++ds).length=ps.length:=by rw[<- r2.length];exact Gf.len _ _ _ _ q
 refine aFQ (aHO (Gf.run X.A X.stack s1 H1 ⟨us,[]⟩ (us++ds) (vs++dvs) Q (EofR R) hr I1.env0 (hb s1 us I1.kIn hl) r2 q) λrr s' hq=>?_)
 cases rr with
 |error ev=>exact(XE.call I1 hq).imp λa H ⟨a',q1,q2⟩=>by cases q1;exact q2
 |ok fl =>
  cases fl with
  |ret u=>exact I1.after hq
  |next=>exact False.elim hq
  |brk=>exact False.elim hq
  |cont=>exact False.elim hq
theorem aLp{fa:Addr}(Gf:FnOk X.prog X.w X.K X.mg X.base (CX1 X.prog X.w) k fa fd ps (spX K m Fm))(hr:Room k X.A)(hm:X.mg x=some (.ref fa))(hk:keepIn X.K (.ref fa)=true)(hb:Binds X.K fd ps [])
  (ha:Ea X.nox K Z0 (e::es) fs)(hg:Gl X x:=by rfl)(hdb:(x==("__debug__":Str))=false:=by decide)(he:starEach (e::es) X.env=(false,eval e X.env)::starEach es X.env:=by rfl)(hpl:(backTo pos (starEach es X.env)).any (·.1)=false:=by rfl)
  (hlen:∀ws M,ws.length≠m->Fm ws M=.bad:=by intro ws M h;first|exact aAL h|rfl):Exx X K (.Call (.Name x p) (e::es) [] pos) (eA Fm (aDef (noX fs) [])) :=
 aGq Gf hr hm hk hb .nil (λ_ _=>rfl) ha hg hdb he hpl hlen
theorem aMd{x1}(ha:Ev X.nox K Z0 a fa)(hb:Exx X K b fb)(hs:starEach [a,b] X.env=[(false,eval a X.env),(false,eval b X.env)]:=by rfl):Exx X K (.Tuple [a,b] x1 pos) (eA mkT (aCons (noX fa) (aCons fb aNil))):=by
 refine⟨hb.k,?_⟩
 rintro pins s σ H Q R I ⟨μ,M,L,hr0,lr,p⟩
 refine wpAny_Tuple_spliced ?_
 rw[hs]
 refine aEZ (aCT (ha.h pins s σ H (λv1 H1=>∃μ1 M1 w1,HR K μ1 H1 M1/\LR K μ1 H1 L σ/\Rw K μ1 H1 w1 v1/\Pst K (ZR K R) μ1 H1 ((fb L M1).bind λw2 M2=>mkT [w1,w2] M2) (Wk K Q)) (I.wish _) ⟨μ,M,L,hr0,lr,?_⟩) (λu1 s1 ⟨v1,H1,I1,r1,μ1,M1,w1,hr1,lr1,rw1,p1⟩=>?_) λ_ _ z=>z.elim)
 ·have p:Pst K (ZR K R) μ H ((noX fa L M).bind λw1 M1=>(fb L M1).bind λw2 M2=>mkT [w1,w2] M2) (Wk K Q):=by
   unfold eA aCons aNil at p
   cases q:noX fa L M with
   |ok w1 M1 =>
    rw[q]at p
    simp only[eD]at p ⊢
    cases q2:fb L M1 with
    |ok w2 M2=>rw[q2]at p;exact p
    |ex x M2=>rw[q2]at p;exact p
    |bad=>rw[q2]at p;exact p
   |ex x M1=>rw[q]at p;exact p
   |bad=>rw[q]at p;exact p
  exact(p.bind.noX).imp λμ1 H1 M1 w1 e1 hr1 _ p1 v rv=>⟨μ1,M1,w1,hr1,lr.ext hr0.lsts e1,rv,p1⟩
 ·have I1:=I1.unwish
  refine aEZ (aCT (hb.h pins s1 σ H1 (λv2 H2=>∃μ2 M2 w2,HR K μ2 H2 M2/\Rw K μ2 H2 w1 v1/\Rw K μ2 H2 w2 v2/\Pst K (ZR K R) μ2 H2 (mkT [w1,w2] M2) (Wk K Q)) R I1 ⟨μ1,M1,L,hr1,lr1,p1.bind.imp λμ2 H2 M2 w2 e2 hr2 _ p2 v rv=>⟨μ2,M2,w2,hr2,rw1.ext hr1.lsts e2,rv,p2⟩⟩) (λu2 s2 ⟨v2,H2,I2,r2,μ2,M2,w2,hr2,rw1,rw2,p2⟩=>aGH ⟨by show 2<=sizeLine;decide,?_⟩) λ_ _ z=>z)
  cases w1 with
  |ref i=>exact p2.elim
  |ob _ _=>exact p2.elim
  |nest _=>exact p2.elim
  |d d1 =>
   cases w2 with
   |ref i=>exact p2.elim
   |ob _ _=>exact p2.elim
   |nest _=>exact p2.elim
   |d d2 =>
    have hf:H2 s2.heap.objs.size=none:=I2.hok.fresh (aAG _)
    refine⟨.ref s2.heap.objs.size,upd H2 s2.heap.objs.size (.tup [v1,v2]),I2.laid (t':=s2.toks) (λb u e=>aAB _ e) (aAG _) ⟨by show 2<=sizeLine;decide,[u1,u2],.cons r1 (.cons r2 .nil),⟨_,aAE _ rfl,rfl,_,rfl⟩⟩,rfl,?_⟩
    have q2:Pst K (ZR K R) μ2 H2 (okD (.tup [d1,d2]) M2) (Wk K Q):=p2
    have x:=eF (o:=.tup [v1,v2]) hr2 hf
    refine q2 μ2 _ x (hr2.lay hf) _ ?_
    simp only[Rw,Rp]
    exact⟨_,[v1,v2],rfl,bE,.cons (Rp.ext hr2.lsts x _ _ rw1) (.cons (Rp.ext hr2.lsts x _ _ rw2) .nil)⟩
theorem aQg(he:Exx X K e f):Tb X K [.Return (some e) pos] (sRt f):=by
 refine⟨he.k,?_⟩
 rintro pins s σ H D R I ⟨μ,M,L,hr0,lr,p⟩
 exact wpAny_execs_cons (wpAny_Return_some (thn (he.h pins s σ H D.rt R I ⟨μ,M,L,hr0,lr,p.bind.imp λμ1 H1 M1 w e1 hr1 _ p1 v rv=>p1 μ1 H1 .refl hr1 v rv⟩) λv s1 ⟨x,H1,I1,r1,q1⟩=>⟨x,σ,H1,I1,r1,q1⟩))
end
noncomputable def mt(cn c:Str):Bool:=c==cn || cn=="LentError" || cn=="ValueError"
noncomputable def mtD(cn:Str):D->Bool
 |.exn c _ _=>mt cn c
 |_=>false
variable{K:Frag}
noncomputable def CtD(K:Frag)(cn:Str)(Dc:Addr):Prop:=∀c C LE,Xc K c C LE->mt cn c=true->XM K C Dc
noncomputable def Ct(K:Frag)(cn:Str)(cv:Value):Prop:=∀c C LE,Xc K c C LE->PySem.W.kitOne K (.ref C) cv=some (mt cn c)
variable{c:Str}
theorem aKi{C' LE':Addr}(F:Xc K c C LE)(G:Xc K c C' LE'):C=C':=by
 have:=F.nm.symm.trans G.nm
 cases this;rfl
theorem aRh{c':Str}{C' LE':Addr}(F:Xc K c C LE)(G:Xc K c' C' LE')(n:c≠c'):C≠C':=by
 rintro rfl
 obtain⟨d1,a1,a2,_⟩:=F.cd
 obtain⟨d2,b1,b2,_⟩:=G.cd
 rw[a1]at b1;cases b1
 exact n (a2.symm.trans b2)
theorem aHp{c':Str}{C' LE':Addr}(F:Xc K c C LE)(G:Xc K c' C' LE'):LE≠C':=by
 rintro rfl
 obtain⟨d1,a1,a2⟩:=F.le
 obtain⟨d2,b1,b2,_⟩:=G.cd
 rw[a1]at b1;cases b1
 exact G.ne (b2.symm.trans a2)
theorem aSb(q:xcB K C bm ini=true):PySem.W.typeIn K (.ref C)=some (.type "type")/\(PySem.W.clsIn K C).isSome=true:=by
 unfold xcB at q
 split at q
 ·rename_i dd cd sl ho
  exact⟨by simp[PySem.W.typeIn,ho],by simp[PySem.W.clsIn,ho]⟩
 ·cases q
theorem aNe(h:nsIn K mainGlobals "LentError"=some (some (.ref Dc))):CtD K "LentError" Dc:=λc C LE F _=>by
 have:=h.symm.trans F.leN
 cases this
 obtain⟨ini,ob⟩:=F.ob
 exact⟨⟨_,ini,ob,by simp⟩,⟨_,none,F.leO,rfl⟩⟩
theorem iA(G:Xc K cn Dc LE)(hv:cn≠"ValueError":=by decide):Ct K cn (.ref Dc):=λc C LE' F=>by
 have e1:(cn==("LentError":Str))=false:=by simpa using G.ne
 have e2:(cn==("ValueError":Str))=false:=by simpa using hv
 unfold PySem.W.kitOne mt
 rw[e1,e2,aHZ,aHZ]
 by_cases hc:c=cn
 ·subst hc
  cases aKi F G
  rw[aAI (by simp)];simp
 ·have n:=aRh F G hc
  have n2:=aHp F G
  obtain⟨ini,ob⟩:=G.ob
  obtain⟨t1,t2⟩:=aSb ob
  rw[aAL (by simpa using n)]
  unfold PySem.W.kitCls
  dsimp only
  rw[aAI (by rw[t1,t2];decide)]
  show PySem.W.mroIn K C (.ref Dc)=_
  rw[F.mro]
  have hcc:(c==cn)=false:=by simpa using hc
  rw[hcc]
  simp[n,n2]
  exact⟨λz=>n z.symm,λz=>n2 z.symm⟩
theorem aJy:PySem.W.kitMeta "ValueError"=true:=by decide +kernel
theorem aRs:Ct K "ValueError" (.type "ValueError"):=λc C LE F=>by
 unfold PySem.W.kitOne
 have e:mt "ValueError" c=true:=by simp[mt]
 rw[e,aAL (by simp)]
 unfold PySem.W.kitCls
 dsimp only
 rw[aAI aJy]
 show PySem.W.mroIn K C (.type "ValueError")=_
 rw[F.mro]
 rfl
structure Ecs(X:Cx)(K:Frag)(es:List Expr)(cns:List Str):Prop where
 k:X.K=K
 h:∃ys cvs,PA X es (λ_ H Q=>Q ys H)/\ys.map clV=cvs.map some/\ys.length<=es.length/\∀c C LE,Xc K c C LE->PySem.W.kitAny K (.ref C) cvs=some (cns.any λn=>mt n c)
section
variable{K:Frag}{M:Mm}{e a b:Expr}{es:List Expr}{fb:FE}{fs:FA}{rest:List Stmt}{G:FS}
theorem aKt(hk:X.K=K:=by rfl):Ecs X K [] []:=⟨hk,[],[],cH,rfl,aAG _,λ_ _ _ _=>rfl⟩
theorem fB(ct:Ct K cn (.ref Dc))(hm:X.mg cn=some (.ref Dc))(h:Ecs X K es cns)(hg:Gl X cn:=by rfl)(hd:(cn==("__debug__":Str))=false:=by decide)
  (hs:starEach (.Name cn q::es) X.env=(false,eval (.Name cn q) X.env)::starEach es X.env:=by rfl):Ecs X K (.Name cn q::es) (cn::cns):=by
 obtain⟨ys,cvs,h1,h2,h3,h4⟩:=h.h
 refine⟨h.k,.ref Dc::ys,.ref Dc::cvs,?_,by simp[clV,h2],by simpa using h3,λc C LE F=>?_⟩
 ·exact cqA (bM (aCk (v:=.ref Dc) hg hm rfl hd) h1 hs) λσ H Q q=>q
 ·unfold PySem.W.kitAny
  rw[ct c C LE F]
  rw[aEW]
  cases mt cn c with
  |true=>rfl
  |false=>exact h4 c C LE F
noncomputable section
def pIsX(cns:List Str)(w:W)(M:Mm):Oc W:=match w with
 |.d (.exn c _ _)=>.ok (.d (.bl (cns.any λn=>mt n c))) M
 |_=>.bad
theorem aMn{f:Str}(h:XFl K H C f d vs):d=none\/∃dx fs,d=some dx/\H dx=some (.xd fs):=by
 rcases h with h|⟨dx,u,h1,_,h3,_⟩
 ·exact .inl h.1
 ·exact .inr ⟨dx,_,h1,h3⟩
theorem aCy{cv:Value}{y:V}(hy:clV y=some cv)(ct:Ct K cn cv)(hp:PE X (.Name cn q) (tC y))(hm:X.mg "isinstance"=none)(he:Ev X K Z e f)(hg:Gl X "isinstance":=by rfl)
  (hs:starEach [e,.Name cn q] X.env=(false,eval e X.env)::starEach [.Name cn q] X.env:=by rfl)(hs2:starEach [.Name cn q] X.env=(false,eval (.Name cn q) X.env)::starEach [] X.env:=by rfl)(hpl:(backTo pos (starEach [.Name cn q] X.env)).any (·.1)=false:=by rfl) :
  Ev X K Z (.Call (.Name "isinstance" p) [e,.Name cn q] [] pos) (e1 (pIsX [cn]) f):=by
 have h:=nF (pos:=pos) (p:=p) aIs hg hm fZ (bM he.h (bM hp cH hs2) hs) (by decide) (by decide) hs hpl
 rw[he.k]at h
 refine⟨he.k,cqE h ?_⟩
 rintro σ H Q ⟨μ,M,L,hr,lr,p⟩
 refine⟨μ,M,L,hr,lr,p.bind.imp λμ1 H1 M1 x e1 hr1 _ p1 v rx=>?_⟩
 cases x with
 |ref i=>exact p1.elim
 |ob _ _=>exact p1.elim
 |nest _=>exact p1.elim
 |d x=>cases x with
  |exn c ff xs =>
   simp only[Rw,Rp]at rx
   obtain⟨a,vs,C,LE,d,rfl,hx,F,xf,rs⟩:=rx
   exact⟨a,C,LE,c,d,y,cv,_,rfl,hx,aMn xf,F,hy,ct c C LE F,p1 μ1 H1 .refl hr1 _ (by simp[Rw,Rp])⟩
  |_=>exact p1.elim
theorem aOj(ct:Ct K cn (.ref Dc))(hmc:X.mg cn=some (.ref Dc))(hm:X.mg "isinstance"=none)(he:Ev X K Z e f)(hg:Gl X "isinstance":=by rfl)(hgc:Gl X cn:=by rfl)(hd:(cn==("__debug__":Str))=false:=by decide)
  (hs:starEach [e,.Name cn q] X.env=(false,eval e X.env)::starEach [.Name cn q] X.env:=by rfl)(hs2:starEach [.Name cn q] X.env=(false,eval (.Name cn q) X.env)::starEach [] X.env:=by rfl)(hpl:(backTo pos (starEach [.Name cn q] X.env)).any (·.1)=false:=by rfl) :
  Ev X K Z (.Call (.Name "isinstance" p) [e,.Name cn q] [] pos) (e1 (pIsX [cn]) f):=aCy (y:=.ref Dc) rfl ct (aCk (v:=.ref Dc) hgc hmc rfl hd) hm he hg hs hs2 hpl
theorem aRc:bootBuiltins "ValueError"=some (.type "ValueError"):=PyProof.Rows.Boot.«ValueError»
theorem aKn(hmc:X.mg "ValueError"=none)(hm:X.mg "isinstance"=none)(he:Ev X K Z e f)(hg:Gl X "isinstance":=by rfl)(hgc:Gl X "ValueError":=by rfl)
  (hs:starEach [e,.Name "ValueError" q] X.env=(false,eval e X.env)::starEach [.Name "ValueError" q] X.env:=by rfl)(hs2:starEach [.Name "ValueError" q] X.env=(false,eval (.Name "ValueError" q) X.env)::starEach [] X.env:=by rfl)(hpl:(backTo pos (starEach [.Name "ValueError" q] X.env)).any (·.1)=false:=by rfl) :
  Ev X K Z (.Call (.Name "isinstance" p) [e,.Name "ValueError" q] [] pos) (e1 (pIsX ["ValueError"]) f):=aCy (y:=.ty "ValueError") rfl aRs (aDw (v:=.ty "ValueError") hgc hmc aRc rfl) hm he hg hs hs2 hpl
theorem aJl{x1}(hc:Ecs X K es cns)(hm:X.mg "isinstance"=none)(he:Ev X K Z e f)(hl:es.length<=100:=by decide)(hg:Gl X "isinstance":=by rfl)
  (hs:starEach [e,.Tuple es x1 q] X.env=(false,eval e X.env)::starEach [.Tuple es x1 q] X.env:=by rfl)(hs2:starEach [.Tuple es x1 q] X.env=(false,eval (.Tuple es x1 q) X.env)::starEach [] X.env:=by rfl)(hpl:(backTo pos (starEach [.Tuple es x1 q] X.env)).any (·.1)=false:=by rfl) :
  Ev X K Z (.Call (.Name "isinstance" p) [e,.Tuple es x1 q] [] pos) (e1 (pIsX cns) f):=by
 obtain⟨ys,cvs,h1,h2,h3,h4⟩:=hc.h
 have h:=nF (pos:=pos) (p:=p) aFn hg hm fZ (bM he.h (bM (aIj h1) cH hs2) hs) (by decide) (by decide) hs hpl
 rw[he.k]at h
 refine⟨he.k,cqE h ?_⟩
 rintro σ H Q ⟨μ,M,L,hr,lr,p⟩
 refine⟨μ,M,L,hr,lr,p.bind.imp λμ1 H1 M1 x e1 hr1 _ p1 v rx=>⟨?_,λt ht=>?_⟩⟩
 ·have:(100:Nat)<=sizeLine:=by decide
  lia
 cases x with
 |ref i=>exact p1.elim
 |ob _ _=>exact p1.elim
 |nest _=>exact p1.elim
 |d x=>cases x with
  |exn c ff xs =>
   have x:=eF (o:=.tup ys) hr1 ht
   have rx:=Rp.ext hr1.lsts x _ _ rx
   simp only[Rp]at rx
   obtain⟨a,vs,C,LE,d,rfl,hx,F,xf,rs⟩:=rx
   exact⟨a,C,LE,c,d,t,ys,cvs,_,rfl,hx,aMn xf,F,bE,h2,h4 c C LE F,p1 μ1 _ x (hr1.lay ht) _ (by simp[Rw,Rp])⟩
  |_=>exact p1.elim
def pFld(ff:Str)(w:W)(M:Mm):Oc W:=match w with
 |.d (.exn _ g [d])=>if g=ff then .ok (.d d) M else .bad
 |_=>.bad
theorem aLq{d:D}(h:Rp K μ H d v):∀i,v≠.ty i:=by
 cases d <;> simp only[Rp]at h <;> first|(subst h;intro i z;cases z)|(obtain⟨a,vs,rfl,_⟩:=h;intro i z;cases z)|(obtain⟨a,vs,_,_,_,rfl,_⟩:=h;intro i z;cases z)
theorem aQe(he:Ev X K Z e f)(hb:attributeBase e ff X.env (eval e X.env)=eval e X.env:=by rfl):Ev X K Z (.Attribute e ff p) (e1 (pFld ff) f):=by
 have h:=aJo (pos:=p) he.h hb
 rw[he.k]at h
 refine⟨he.k,cqE h ?_⟩
 rintro σ H Q ⟨μ,M,L,hr,lr,p⟩
 refine⟨μ,M,L,hr,lr,p.bind.imp λμ1 H1 M1 x e1 hr1 _ p1 v rx=>?_⟩
 cases x with
 |ref i=>exact p1.elim
 |ob _ _=>exact p1.elim
 |nest _=>exact p1.elim
 |d x=>cases x with
  |exn c g xs =>
   rcases xs with _|⟨d,_|⟨d2,xs⟩⟩
   ·exact p1.elim
   ·simp only[pFld]at p1
    split at p1
    ·rename_i hg
     subst hg
     simp only[Rw,Rp]at rx
     obtain⟨a,vs,C,LE,dd,rfl,hx,F,xf,rs⟩:=rx
     rcases xf with⟨_,rfl⟩|⟨dx,u,rfl,rfl,h3,h4⟩
     ·simp[Rps]at rs
     ·simp only[Rps]at rs
      obtain⟨v',r',e1',e2',e3'⟩:=rs
      cases e1'
      exact⟨a,C,LE,c,dx,u,rfl,hx,h3,F,h4,aLq e2',p1 μ1 H1 .refl hr1 u e2'⟩
    ·exact p1.elim
   ·exact p1.elim
  |_=>exact p1.elim
def unset(i:Nat):Out->Out
 |.nx L=>.nx (L.set i none)
 |.bk L=>.bk (L.set i none)
 |.ct L=>.ct (L.set i none)
 |.rt w=>.rt w
theorem LR.unset{σ:L2.St}(h:LR K μ H L σ):LR K μ H (L.set i none) (σ.set i none)where
 len:=by simp[h.len]
 ent:=λj w q=>by
  by_cases hj:i=j
  ·subst hj
   rw[List.getElem?_set_self']at q
   cases z:L[i]? <;> rw[z]at q <;> cases q
  ·rw[aCF hj]at q
   obtain⟨v,a,b⟩:=h.ent j w q
   exact⟨v,by rw[aCF hj];exact a,b⟩
def sTryAs(i:Nat)(cn:Str)(FB FH:FS):FS:=λL M=>match FB L M with
 |.ok o M'=>.ok o M'
 |.ex x M'=>if mtD cn x=true then(noX FH (L.set i (some (.d x))) M').bind λo M2=>.ok (unset i o) M2 else .bad
 |.bad=>.bad
end
theorem aRf{x:D}{a:Addr}(ct:CtD K cn Dc)(hm:mtD cn x=true)(r:Rp K μ H x (.ref a)):∃C d,H a=some (XO a C d)/\XM K C Dc:=by
 cases x with
 |exn c f xs =>
  simp only[Rp]at r
  obtain⟨a',vs,C,LE,d,e,hx,F,_⟩:=r
  cases e
  exact⟨C,d,hx,ct c C LE F hm⟩
 |_=>cases hm
theorem aHg{suite:List Stmt}{b₀:Stmt}{n:Str}{np hpos:Pos}{FB FH:FS}(ct:CtD K cn Dc)(hm:X.mg cn=some (.ref Dc))(hN:X.N.Nodup)(hb:Tb X K body FB)(hs:∀a,Ess (X.hnd a) K Z0 (b₀::suite) FH)
  (hi:X.N[i]?=some n:=by rfl)(hl:X.env.scope.names.lookup n=some .local:=by rfl)(hg:Gl X cn:=by rfl)(hst:X.stack=X.env::X.outer:=by rfl)(hfm:X.env.frame=some X.env.locals:=by rfl)(hdb:(cn==("__debug__":Str))=false:=by decide)(hc:X.calm=true:=by rfl) :
  Es X K Z (.Try body [.ExceptHandler (some (.Name cn np)) (some n) (b₀::suite) hpos] [] [] pos) (sTryAs i cn FB FH):=by
 have h:=aIn (np:=np) (pos:=pos) (hpos:=hpos) hN hb.h (λa=>(hs a).h) hm hi hl hg hst hfm hdb hc
 rw[hb.k]at h
 refine⟨hb.k,cqS h ?_⟩
 rintro E σ H ⟨μ,M,L,hr,lr,p⟩
 refine⟨μ,M,L,hr,lr,?_⟩
 unfold sTryAs at p
 cases q:FB L M with
 |bad=>rw[q]at p;exact p
 |ok o M'=>rw[q]at p;exact p
 |ex x M' =>
  rw[q]at p
  simp only at p
  split at p
  ·rename_i hmt
   intro μ1 H1 e1 hr1 a ra
   refine⟨aRf ct hmt ra,μ1,M',_,hr1,LR.set (lr.ext hr.lsts e1) (w:=.d x) ra,((Pst.mono e1 p).bind.noX).imp λμ2 H2 M2 o e2 hr2 _ p2=>?_⟩
   have p2:=p2 μ2 H2 .refl hr2
   cases o with
   |nx L'=>exact λσ' l'=>p2 _ l'.unset
   |bk L'=>exact λσ' l'=>p2 _ l'.unset
   |ct L'=>exact λσ' l'=>p2 _ l'.unset
   |rt w=>exact p2
  ·exact p.elim
theorem aKg{a:Addr}(hO:Only H)(hS:SqL K H a (ns.map V.int))(h:∃M',Fm [.d (.fz (ns.map D.int))] []=.ok (.d (.bl true)) M'):spX K 1 Fm [.ref a] H (λv _=>v=.bl true) λ_ _ _=>False:=by
 obtain⟨h1,μ,M,ws,h2,h3,h4⟩:=aQp (K:=K) hO hS h
 exact⟨h1,μ,M,ws,h2,h3,Pst.never h4⟩
end
end EV
end
namespace EV
open PySem L2
section
variable{EX:D->Mm->Prop}{M:Mm}{i j:Nat}{w x y:W}{Q:W->Mm->Prop}{QA:List W->Mm->Prop}{g h:FE}{G FB FH:FS}{fs:FA}{ws:List W}
theorem aRe(h:Ok (Fm ws M) Q):Okx EX (nx Fm ws M) Q:=by
 obtain⟨a,M',e,q⟩:=lR.mp h
 unfold nx;rw[e];exact aU q
theorem aHt{f:Lc->Mm->Oc α}{Q:α->Mm->Prop}(h:Ok (f L M) Q):Okx EX (noX f L M) Q:=by
 obtain⟨a,M',e,q⟩:=lR.mp h
 unfold noX;rw[e];exact aU q
theorem aJp{ds:List D}(h:Okx EX (fs L M) λws M1=>QA (ws++ds.map W.d) M1):Okx EX (aDef fs ds L M) QA:=aV (h.mono λ_ _ z=>aU z)
theorem gB{n:Nat}(hm:ws.length=m)(h:Okx (λx M'=>EX x (M'.take M.length)) (F (ws.map some++List.replicate (n - ws.length) none) M) λo M'=>match o with
  |.rt w=>Ok (retc M.length w M') Q
  |.nx _=>Q (.d .non) (M'.take M.length)
  |_=>False):Okx EX (fnX m n F ws M) Q:=by
 unfold fnX fnD
 rw[aAI hm]
 rcases fV.mp h with⟨o,M',e,q⟩|⟨x,M',e,q⟩
 ·rw[e]
  simp only[eD]
  cases o with
  |rt w =>
   obtain⟨a,M2,e2,q2⟩:=lR.mp q
   simp only[e2]
   exact aU q2
  |nx L=>exact aU q
  |bk L=>exact q.elim
  |ct L=>exact q.elim
 ·rw[e]
  simp only[aLg]
  exact jQ q
variable{c:Str}
theorem aFf(h:Okx EX (f L M) λw M1=>∃d,w=.d d/\EX (.exn c ff [d]) M1):Okx EX (sRaise c ff f L M) QS:=aV (h.mono λw M1 ⟨d,e,q⟩=>by subst e;exact jQ q)
theorem aEl(h:Okx (λx M'=>mtD cn x=true/\Ok (FH (L.set i (some (.d x))) M') λo M2=>QS (unset i o) M2) (FB L M) QS):Okx EX (sTryAs i cn FB FH L M) QS:=by
 unfold sTryAs
 rcases fV.mp h with⟨o,M',e,q⟩|⟨x,M',e,hm,q⟩
 ·rw[e];exact aU q
 ·rw[e]
  simp only
  rw[aAI hm]
  exact aV (aHt (q.mono λ_ _ z=>aU z))
theorem aPh{xs:List D}(q:Q (.d (.bl (cns.any λn=>mt n c))) M):Okx EX (pIsX cns (.d (.exn c ff xs)) M) Q:=aU q
theorem aOs{d:D}(q:Q (.d d) M):Okx EX (pFld ff (.d (.exn c ff [d])) M) Q:=by
 have:pFld ff (.d (.exn c ff [d])) M=.ok (.d d) M:=aAI rfl
 rw[this];exact aU q
end
end EV
section
open PySem PySem.Spec PyProof.Rows
namespace EV
open PySem.W L2
noncomputable def xkB(K:Frag)(c:Str)(C LE:Addr):Bool:=(match clsIn K C with
  |some cd=>cd.name==c&&cd.mro==.ref C::.ref LE::vb&&cd.hasDict
  |none=>false)&&(match clsIn K LE with
  |some cl=>cl.name==("LentError":Str)
  |none=>false)&&findIn K (.ref C) "__getattribute__"==some (some (.builtin "BaseException.__getattribute__"))&&findIn K (.ref C) "__getattr__"==some none&&findIn K (.ref C) "__class__"==some (some (.builtin "object.__class__"))
variable{c:Str}
theorem mV(nm:nsIn K mainGlobals c=some (some (.ref C)))(leN:nsIn K mainGlobals "LentError"=some (some (.ref LE)))(q:xkB K c C LE=true)(ob:xcB K C (.ref LE::vb) ini=true)(leO:xcB K LE vb none=true)(ne:c≠"LentError"):Xc K c C LE:=by
 unfold xkB at q
 simp only[aBN,aEY]at q
 obtain⟨⟨⟨⟨q1,q2⟩,q3⟩,q4⟩,q5⟩:=q
 cases h1:clsIn K C with
 |none=>rw[h1]at q1;cases q1
 |some cd =>
  rw[h1]at q1
  simp only[aBN,aEY]at q1
  cases h2:clsIn K LE with
  |none=>rw[h2]at q2;cases q2
  |some cl =>
   rw[h2]at q2
   simp only[aEY]at q2
   exact⟨nm,⟨cd,h1,q1.1.1,q1.1.2⟩,⟨cl,h2,q2⟩,leN,ne,by unfold hasDictIn;rw[h1];exact q1.2,q3,q4,q5,⟨ini,ob⟩,leO⟩
variable{K:Frag}
theorem aRl(xc:Xc K c C LE)(hc:clsIn K C=some cd):cd.hasDict=true:=by have:=xc.hd;unfold hasDictIn at this;rw[hc]at this;exact this
end EV
end
namespace LS
open PySem L2 EV
noncomputable def Cg(n a b:Int):Prop:=∃k,a=b+n*k
variable{a:Int}
theorem Cg.rfl:Cg n a a:=⟨0,by simp⟩
variable{b:Int}
theorem Cg.symm(h:Cg n a b):Cg n b a:=by obtain⟨k,rfl⟩:=h;exact⟨-k,by grind⟩
variable{c:Int}
theorem Cg.trans(h:Cg n a b)(g:Cg n b c):Cg n a c:=by obtain⟨k,rfl⟩:=h;obtain⟨l,rfl⟩:=g;exact⟨k+l,by grind⟩
theorem Cg.add{d:Int}(h:Cg n a b)(g:Cg n c d):Cg n (a+c) (b+d):=by obtain⟨k,rfl⟩:=h;obtain⟨l,rfl⟩:=g;exact⟨k+l,by grind⟩
theorem Cg.sub{d:Int}(h:Cg n a b)(g:Cg n c d):Cg n (a - c) (b - d):=by obtain⟨k,rfl⟩:=h;obtain⟨l,rfl⟩:=g;exact⟨k - l,by grind⟩
theorem Cg.mul{d:Int}(h:Cg n a b)(g:Cg n c d):Cg n (a*c) (b*d):=by obtain⟨k,rfl⟩:=h;obtain⟨l,rfl⟩:=g;exact⟨b*l+d*k+n*k*l,by grind⟩
theorem Cg.mod:Cg n (a % n) a:=⟨-(a / n),by have:=Int.emod_def a n;grind⟩
theorem Cg.emod(h:Cg n a b):a % n=b % n:=by obtain⟨k,rfl⟩:=h;simp[Int.add_mul_emod_self_left]
theorem Cg.of(h:a % n=b % n):Cg n a b:=Cg.mod.symm.trans (h▸Cg.mod)
theorem Cg.of_eq(h:a=b):Cg n a b:=h▸Cg.rfl
inductive Dd
 |add (s:Nat) (c:Int) (gs ts:List Nat)
 |scale (s:Nat) (u:Int)
noncomputable section
def natsD(xs:List Nat):D:=.tup (xs.map λk=>.int (k:Nat))
def encD:Dd->D
 |.add s c gs ts=>.tup [.str "add",.int s,.int c,natsD gs,natsD ts]
 |.scale s u=>.tup [.str "scale",.int s,.int u]
def pr(xs:List Int)(is:List Nat):Int:=is.foldl (λa i=>a*xs.getD i 0) 1
def Rs(n:Int)(cs:List Int):Prop:=∀c∈cs,0<=c/\c < n
theorem Rs.getD{n:Int}{cs:List Int}(h:Rs n cs){i:Nat}(hi:i < cs.length):0<=cs.getD i 0/\cs.getD i 0 < n:=h _ (by simp[hi])
def IsIv(n u v:Int):Prop:=0<=v/\v < n/\(u*v) % n=1 % n
end
variable{u:Int}
theorem IsIv.uniq{v w:Int}(h:IsIv n u v)(g:IsIv n u w):v=w:=by
 obtain⟨l,k,e⟩:=h
 obtain⟨l',k',e'⟩:=g
 have e1:Cg n (u*v) 1:=Cg.of e
 have e2:Cg n (u*w) 1:=Cg.of e'
 have:Cg n v w:=by
  have h1:Cg n v (v*(u*w)):=by simpa using Cg.mul (Cg.rfl (a:=v)) e2.symm
  have h2:Cg n ((u*v)*w) (1*w):=Cg.mul e1 Cg.rfl
  exact h1.trans ((Cg.of_eq (by grind)).trans (h2.trans (Cg.of_eq (by grind))))
 have:=this.emod
 rwa[aGG l k,aGG l' k']at this
open Classical in
noncomputable def iv(n u:Int):Int:=if h:∃v,IsIv n u v then Classical.choose h else 0
theorem aGb{v:Int}(h:IsIv n u v):iv n u=v:=by
 have hx:∃v,IsIv n u v:=⟨v,h⟩
 unfold iv
 rw[dif_pos hx]
 exact(Classical.choose_spec hx).uniq h
theorem aKc(h:∃v,IsIv n u v):IsIv n u (iv n u):=by obtain⟨v,h⟩:=h;rw[aGb h];exact h
noncomputable section
def Un(n u:Int):Prop:=0<=u/\u < n/\∃v,IsIv n u v
theorem Un.iv{n u:Int}(h:Un n u):Un n (iv n u):=by
 have h':=aKc h.2.2
 exact⟨h'.1,h'.2.1,u,h.1,h.2.1,by rw[aHN];exact h'.2.2⟩
def OkD(n:Int)(G S:Nat):Dd->Prop
 |.add s c g t=>s < S/\0<=c/\c < n/\(∀i∈g,i < G)/\(∀i∈t,i < S)/\s∉t/\g.length<=4/\t.length<=4
 |.scale s u=>s < S/\Un n u
def bD(n:Int):Dd->Dd
 |.add s c g t=>.add s (-c % n) g t
 |.scale s u=>.scale s (iv n u)
def bDs(n:Int)(ds:List Dd):List Dd:=ds.reverse.map (bD n)
end
theorem OkD.back{S:Nat}(hn:0 < n){d:Dd}(h:OkD n G S d):OkD n G S (bD n d):=by
 cases d with
 |add s c g t=>obtain⟨a,b,c,r⟩:=h;exact⟨a,aBR _ (by lia),aBB _ hn,r⟩
 |scale s u=>exact⟨h.1,h.2.iv⟩
theorem OkD.backs{n:Int}{S:Nat}(hn:0 < n){ds:List Dd}(h:∀d∈ds,OkD n G S d):∀d∈bDs n ds,OkD n G S d:=by
 intro d hd
 obtain⟨x,hx,rfl⟩:=aEP.mp hd
 exact(h x (aEQ.mp hx)).back hn
theorem bK{ds:List Dd}:(bDs n ds).length=ds.length:=by simp[bDs]
inductive Wd|sum|less|times
noncomputable def Wd.str:Wd->Str
 |.sum=>"sum"
 |.less=>"less"
 |.times=>"times"
noncomputable def Wd.ev(n:Int):Wd->Int->Int->Int
 |.sum,x,y=>(x+y) % n
 |.less,x,y=>(x - y) % n
 |.times,x,y=>x*y % n
inductive E
 |num (c:Int)
 |giv (i:Nat)
 |op (w:Wd) (a b:E)
noncomputable section
def enc:E->D
 |.num c=>.tup [.str "num",.int c]
 |.giv i=>.tup [.str "given",.int i]
 |.op w a b=>.tup [.str w.str,enc a,enc b]
def val(n:Int)(gs:List Int):E->Int
 |.num c=>c % n
 |.giv i=>gs.getD i 0
 |.op w a b=>w.ev n (val n gs a) (val n gs b)
def dp:E->Nat
 |.num _=>0
 |.giv _=>0
 |.op _ a b=>max (dp a) (dp b)+1
def wf(m:Nat):E->Prop
 |.num c=>0<=c/\c < 1000000
 |.giv i=>i < m
 |.op _ a b=>wf m a/\wf m b
def rowBy(n:Int):E->Nat->Nat->Nat->List Dd
 |.num c,s,b,_=>[.add s (c % n) [] [b]]
 |.giv i,s,b,_=>[.add s 1 [i] [b]]
 |.op .sum x y,s,b,c=>rowBy n x s b c++rowBy n y s b c
 |.op .less x y,s,b,c=>rowBy n x s b c++bDs n (rowBy n y s b c)
 |.op .times x y,s,b,c=>rowBy n y c b s++rowBy n x s c b++bDs n (rowBy n y c b s)++bDs n (rowBy n x s c b)
def rowAl(n:Int):E->Nat->Nat->Nat->List Dd
 |.num c,s,_,_=>[.add s (c % n) [] []]
 |.giv i,s,_,_=>[.add s 1 [i] []]
 |.op .sum x y,s,b,c=>rowAl n x s b c++rowAl n y s b c
 |.op .less x y,s,b,c=>rowAl n x s b c++bDs n (rowAl n y s b c)
 |.op .times x y,s,b,c=>rowAl n y c b s++rowBy n x s c b++bDs n (rowAl n y c b s)++bDs n (rowBy n x s c b)
def many:E->Nat
 |.num _=>1
 |.giv _=>1
 |.op .times a b=>2*(many a+many b)
 |.op _ a b=>many a+many b
end
theorem aY{n:Int}:∀{e:E} {s b c:Nat},(rowBy n e s b c).length=many e
 |.num _,_,_,_=>rfl
 |.giv _,_,_,_=>rfl
 |.op .sum x y,s,b,c=>by simp[rowBy,many,aY (e:=x),aY (e:=y)]
 |.op .less x y,s,b,c=>by simp[rowBy,many,bK,aY (e:=x),aY (e:=y)]
 |.op .times x y,s,b,c=>by simp[rowBy,many,bK,aY (e:=x),aY (e:=y)];lia
theorem bI{n:Int}:∀{e:E} {s b c:Nat},(rowAl n e s b c).length=many e
 |.num _,_,_,_=>rfl
 |.giv _,_,_,_=>rfl
 |.op .sum x y,s,b,c=>by simp[rowAl,many,bI (e:=x),bI (e:=y)]
 |.op .less x y,s,b,c=>by simp[rowAl,many,bK,bI (e:=x),bI (e:=y)]
 |.op .times x y,s,b,c=>by simp[rowAl,many,bK,aY (e:=x),bI (e:=y)];lia
theorem qK:∀{e:E},many e<=4 ^ dp e
 |.num _=>by simp[many,dp]
 |.giv _=>by simp[many,dp]
 |.op w a b=>by
  have h1:=qK (e:=a)
  have h2:=qK (e:=b)
  have h3:4 ^ dp a<=4 ^ max (dp a) (dp b):=aDC (by lia) (by lia)
  have h4:4 ^ dp b<=4 ^ max (dp a) (dp b):=aDC (by lia) (by lia)
  have h5:4 ^ dp (.op w a b)=4 ^ max (dp a) (dp b)*4:=by simp only[dp,Nat.pow_succ]
  rw[h5]
  cases w <;> simp only[many] <;> lia
theorem aGm{e:E}(h:dp e<=8):many e<=65536:=aAV qK (aAV (aDC (by lia) h) (by decide))
theorem sU:∀{e:E},0 < many e
 |.num _=>by simp[many]
 |.giv _=>by simp[many]
 |.op w a b=>by
  have h1:=sU (e:=a)
  have h2:=sU (e:=b)
  cases w <;> simp only[many] <;> lia
theorem bJ{P:Dd->Prop}{a b:List Dd}(h:∀d∈a,P d)(g:∀d∈b,P d):∀d∈a++b,P d:=λd hd=>(aAX.mp hd).elim (h d) (g d)
theorem dB{n:Int}{G S:Nat}(hn:1 < n):∀{e:E} {s b c:Nat},wf G e->s < S->b < S->c < S->s≠b->s≠c->b≠c->∀d∈rowBy n e s b c,OkD n G S d
 |.num k,s,b,c,_,hs,hb,_,h1,_,_=>by
  intro d hd
  simp only[rowBy,aAM]at hd
  subst hd
  exact⟨hs,aBR _ (by lia),aBB _ (by lia),by simp,by simpa using hb,by simpa using h1,by simp,by simp⟩
 |.giv i,s,b,c,hw,hs,hb,_,h1,_,_=>by
  intro d hd
  simp only[rowBy,aAM]at hd
  subst hd
  exact⟨hs,by lia,hn,by simpa[wf]using hw,by simpa using hb,by simpa using h1,by simp,by simp⟩
 |.op .sum x y,s,b,c,hw,hs,hb,hc,h1,h2,h3=>bJ (dB hn hw.1 hs hb hc h1 h2 h3) (dB hn hw.2 hs hb hc h1 h2 h3)
 |.op .less x y,s,b,c,hw,hs,hb,hc,h1,h2,h3=>bJ (dB hn hw.1 hs hb hc h1 h2 h3) (OkD.backs (by lia) (dB hn hw.2 hs hb hc h1 h2 h3))
 |.op .times x y,s,b,c,hw,hs,hb,hc,h1,h2,h3 =>
  bJ (bJ (bJ (dB hn hw.2 hc hb hs h3.symm h2.symm h1.symm) (dB hn hw.1 hs hc hb h2 h1 h3.symm)) (OkD.backs (by lia) (dB hn hw.2 hc hb hs h3.symm h2.symm h1.symm))) (OkD.backs (by lia) (dB hn hw.1 hs hc hb h2 h1 h3.symm))
theorem fM{n:Int}{G S:Nat}(hn:1 < n):∀{e:E} {s b c:Nat},wf G e->s < S->b < S->c < S->s≠b->s≠c->b≠c->∀d∈rowAl n e s b c,OkD n G S d
 |.num k,s,b,c,_,hs,hb,_,h1,_,_=>by
  intro d hd
  simp only[rowAl,aAM]at hd
  subst hd
  exact⟨hs,aBR _ (by lia),aBB _ (by lia),by simp,by simp,by simp,by simp,by simp⟩
 |.giv i,s,b,c,hw,hs,hb,_,h1,_,_=>by
  intro d hd
  simp only[rowAl,aAM]at hd
  subst hd
  exact⟨hs,by lia,hn,by simpa[wf]using hw,by simp,by simp,by simp,by simp⟩
 |.op .sum x y,s,b,c,hw,hs,hb,hc,h1,h2,h3=>bJ (fM hn hw.1 hs hb hc h1 h2 h3) (fM hn hw.2 hs hb hc h1 h2 h3)
 |.op .less x y,s,b,c,hw,hs,hb,hc,h1,h2,h3=>bJ (fM hn hw.1 hs hb hc h1 h2 h3) (OkD.backs (by lia) (fM hn hw.2 hs hb hc h1 h2 h3))
 |.op .times x y,s,b,c,hw,hs,hb,hc,h1,h2,h3 =>
  bJ (bJ (bJ (fM hn hw.2 hc hb hs h3.symm h2.symm h1.symm) (dB hn hw.1 hs hc hb h2 h1 h3.symm)) (OkD.backs (by lia) (fM hn hw.2 hc hb hs h3.symm h2.symm h1.symm))) (OkD.backs (by lia) (dB hn hw.1 hs hc hb h2 h1 h3.symm))
variable{EX:D->Mm->Prop}
theorem at2I(x y:Int)(c:Bool):atI [D.int x,D.int y] (if c=true then 1 else 0)=some (D.int (if c=true then y else x)):=by cases c <;> rfl
variable{d:Int}
theorem at2(l:0<=d)(u:d < 2)(x y:D):∃w,atI [x,y] d=some w/\(w=x\/w=y):=by
 have:d=0\/d=1:=by lia
 rcases this with rfl|rfl
 ·exact⟨x,rfl,by simp⟩
 ·exact⟨y,rfl,by simp⟩
theorem at3(l:0<=d)(u:d < 3)(x y z:D):∃w,atI [x,y,z] d=some w/\(w=x\/w=y\/w=z):=by
 have:d=0\/d=1\/d=2:=by lia
 rcases this with rfl|rfl|rfl
 ·exact⟨x,rfl,by simp⟩
 ·exact⟨y,rfl,by simp⟩
 ·exact⟨z,rfl,by simp⟩
theorem at4(l:0<=d)(u:d < 4)(x y z t:D):∃w,atI [x,y,z,t] d=some w/\(w=x\/w=y\/w=z\/w=t):=by
 have:d=0\/d=1\/d=2\/d=3:=by lia
 rcases this with rfl|rfl|rfl|rfl
 ·exact⟨x,rfl,by simp⟩
 ·exact⟨y,rfl,by simp⟩
 ·exact⟨z,rfl,by simp⟩
 ·exact⟨t,rfl,by simp⟩
variable{i:Int}
theorem atInts(l:0<=i)(u:i < ns.length):∃n,atI (ns.map D.int) i=some (.int n)/\n∈ns:=by
 have hi:i.toNat < ns.length:=by lia
 refine⟨ns[i.toNat],?_,by simp⟩
 simp only[atI,ixN,aAK]
 rw[aAI l,aAI u]
 simp[hi]
theorem aFb(l:List Int):∀i:Nat,(l.map D.int).eraseIdx i=(l.eraseIdx i).map D.int:=by
 induction l with
 |nil=>intro i;rfl
 |cons x r ih=>intro i;cases i with
  |zero=>rfl
  |succ i=>simp[List.eraseIdx,ih]
theorem aCb(l:List Int):∀(i:Nat) (h:i < l.length),List.Perm (l[i]::l.eraseIdx i) l:=by
 induction l with
 |nil=>intro i h;simp at h
 |cons x r ih=>intro i h;cases i with
  |zero=>exact .refl _
  |succ i=>exact(List.Perm.swap x (r[i]'(by simpa using h)) (r.eraseIdx i)).trans ((ih i (by simpa using h)).cons x)
variable{M:Mm}
theorem aJf{Q:W->Mm->Prop}{k:Nat}{xs:List D}{d:D}(h:M[k]?=some xs)(h0:0<=i)(hi:i < xs.length)(hz:xs.length<=16777216)(hd:xs[i.toNat]?=some d)(q:Q (.d d) (M.set k (xs.eraseIdx i.toNat))):Okx EX (pPopAt (.ref k) (.d (.int i)) M) Q:=by
 unfold pPopAt
 simp only[h]
 rw[aGL h0 hi]
 simp only[hd]
 rw[aAI (by lia)]
 exact aU q
theorem aDv{w:Wd}{x y:E}:many x+many y<=many (.op w x y):=by cases w <;> simp only[many] <;> lia
mutual
theorem jH:∀d:D,eqD d d=true
 |.non=>by simp[eqD]
 |.bl b=>by simp[eqD]
 |.int i=>by simp[eqD]
 |.str x=>by simp[eqD]
 |.tup xs=>by simp only[eqD];exact gO xs
 |.lst xs=>by simp only[eqD];exact gO xs
 |.fz xs=>by simp only[eqD];exact gO xs
 |.exn c f xs=>by simp only[eqD];rw[gO xs];simp
theorem gO:∀ds:List D,eqDs ds ds=true
 |[]=>by simp[eqDs]
 |d::ds=>by simp only[eqDs,jH d,gO ds,aIB]
end
variable{x y:W}{Q:W->Mm->Prop}
end LS
variable{ds:List LS.Dd}
namespace LS
open PySem L2 EV
variable{EX:D->Mm->Prop}
theorem aEo(ns:List Nat):deps (ns.map λx=>D.int (x:Nat))<=1:=by
 induction ns with
 |nil=>simp[deps]
 |cons x r ih=>simp[deps,dep];lia
theorem natsOf{xs:List Int}(h:∀x∈xs,0<=x):∃ks:List Nat,xs=ks.map (λk:Nat=>(k:Int)):=by
 refine⟨xs.map Int.toNat,?_⟩
 rw[aCV]
 conv=>lhs;rw[<- List.map_id xs]
 exact aFX λx hx=>by simp;have:=h x hx;lia
noncomputable def SrtD:Dd->Prop
 |.add _ _ g t=>g.Pairwise (·<=·)/\t.Pairwise (·<=·)
 |.scale _ _=>True
theorem nO(ns:List Nat):∃ks:List Nat,srt (ns.map λk:Nat=>(k:Int))=ks.map (λk:Nat=>(k:Int))/\ks.Perm ns/\ks.Pairwise (·<=·):=by
 obtain⟨ks,e⟩:=natsOf (xs:=srt (ns.map λk:Nat=>(k:Int))) (λx hx=>by
  rw[aKw]at hx;obtain⟨k,_,rfl⟩:=aEP.mp hx;lia)
 refine⟨ks,e,?_,?_⟩
 ·have p:=nM (ns.map λk:Nat=>(k:Int))
  rw[e]at p
  have:=p.map Int.toNat
  simpa[aCV,Function.comp_def]using this
 ·have o:=sE (ns.map λk:Nat=>(k:Int))
  rw[e,List.pairwise_map]at o
  exact o.imp λh=>by lia
theorem dY(ns:List Nat):(ns.map λx=>D.int (x:Nat))=(ns.map λk:Nat=>(k:Int)).map D.int:=by rw[aCV];rfl
noncomputable def othersL(S ks:Nat):List Nat:=(List.range S).filter (·≠ks)
theorem aBj{S ks x:Nat}:x∈othersL S ks ↔ x < S/\x≠ks:=by simp[othersL]
theorem aJd{ds:List D}:(!eqD (.lst ds) (.lst []))=decide (ds≠[]):=by
 cases ds with
 |nil=>rfl
 |cons d r=>simp[eqD,eqDs]
theorem qL{ns:List Nat}{i:Int}(l:0<=i)(u:i < ns.length):∃k∈ns,atI (ns.map λx=>D.int (x:Nat)) i=some (.int (k:Nat)):=by
 have hi:i.toNat < ns.length:=by lia
 refine⟨ns[i.toNat],List.getElem_mem hi,?_⟩
 simp only[atI,ixN,aAK]
 rw[aAI l,aAI u]
 simp[hi]
end LS
namespace LS
open PySem L2 EV
variable{EX:D->Mm->Prop}
end LS
namespace LS
open PySem L2 EV
variable{EX:D->Mm->Prop}
noncomputable def srtN(ns:List Nat):List Nat:=(srt (ns.map λk:Nat=>(k:Int))).map Int.toNat
theorem uC(ns:List Nat):srt (ns.map λk:Nat=>(k:Int))=(srtN ns).map λk:Nat=>(k:Int):=by
 obtain⟨ks,e,_,_⟩:=nO ns
 unfold srtN
 rw[e,aCV,aCV]
 exact aFX λx _=>by simp
theorem aFs(ns:List Nat):(srtN ns).Perm ns:=by
 obtain⟨ks,e,p,_⟩:=nO ns
 have:srtN ns=ks:=by unfold srtN;rw[e,aCV];conv=>rhs;rw[<- List.map_id ks]
                     exact aFX λx _=>by simp
 rw[this];exact p
theorem zA{ns:List Nat}{x:Nat}:x∈srtN ns ↔ x∈ns:=(aFs ns).mem_iff
noncomputable def pl(ps:List Nat)(i:Nat):Nat:=ps.getD i 0
end LS
namespace LS
open PySem L2 EV
variable{EX:D->Mm->Prop}
noncomputable def ho:Dd->Dd->Bool
 |.scale _ _,_=>false
 |.add s _ _ t,.scale s' _=>decide (s'=s) || decide (s'∈t)
 |.add _ _ _ t,.add s' _ _ _=>decide (s'∈t)
end LS
namespace LS
open PySem L2 EV
variable{EX:D->Mm->Prop}
end LS
namespace LS
open PySem L2 EV
end LS
section
open PySem PySem.Spec PyProof.Rows
namespace L2
open AutoSeq1 (wpAny_loadPart')
variable{prog:Program}{E:Value->Shared->Prop}
theorem yK:CallR X (.type "range") (λxs H Q=>∃i j,xs=[.int i,.int j]/\∀p,H p=none->Q (.ref p) (upd H p (.rng i j))):=by
 intro pins s σ H xs us Q I r h
 obtain⟨i,j,e,q⟩:=h
 subst e
 obtain⟨u1,u2,rfl,r1,r2⟩:=r.two
 obtain⟨t1,rfl⟩:=r1
 obtain⟨t2,rfl⟩:=r2
 refine call_range_2 ⟨.ref s.heap.objs.size,upd H s.heap.objs.size (.rng i j),?_,rfl,q _ (I.hok.fresh (aAG _))⟩
 exact I.laid (λb u e=>aAB _ e) (aAG _) ⟨_,_,_,aAE _ rfl⟩
end L2
namespace EV
open L2
section
variable{K:Frag}{M:Mm}{a b:Expr}{g:FE}
theorem zC:bootBuiltins "tuple"=some (.type "tuple"):=by first|rfl|kernel_rfl
end
variable{M:Mm}{EX:D->Mm->Prop}
end EV
end
namespace EV
open PySem
variable{P:List Value->Prop}
theorem exS{k:Nat}(h:∀a us,us.length=k->P (a::us)):∀us:List Value,us.length=k+1->P us
 |a::us,e=>h a us (Nat.succ.inj e)
theorem ex0(h:P [])(us:List Value)(e:us.length=0):P us:=by rw[List.eq_nil_of_length_eq_zero e];exact h
theorem ex1(h:∀a,P [a]):∀us:List Value,us.length=1->P us:=exS λa=>ex0 (P:=λus=>P (a::us)) (h a)
theorem ex2(h:∀a b,P [a,b]):∀us:List Value,us.length=2->P us:=exS λa=>ex1 (P:=λus=>P (a::us)) (h a)
theorem ex3(h:∀a b c,P [a,b,c]):∀us:List Value,us.length=3->P us:=exS λa=>ex2 (P:=λus=>P (a::us)) (h a)
theorem ex4(h:∀a b c d,P [a,b,c,d]):∀us:List Value,us.length=4->P us:=exS λa=>ex3 (P:=λus=>P (a::us)) (h a)
theorem ex5(h:∀a b c d e,P [a,b,c,d,e]):∀us:List Value,us.length=5->P us:=exS λa=>ex4 (P:=λus=>P (a::us)) (h a)
theorem ex6(h:∀a b c d e f,P [a,b,c,d,e,f]):∀us:List Value,us.length=6->P us:=exS λa=>ex5 (P:=λus=>P (a::us)) (h a)
theorem ex7(h:∀a b c d e f g,P [a,b,c,d,e,f,g]):∀us:List Value,us.length=7->P us:=exS λa=>ex6 (P:=λus=>P (a::us)) (h a)
end EV
set_option maxHeartbeats 4000000
section
open PySem PySem.Spec PyProof.Rows
namespace ZP
variable{prog:Program}{E:Value->Shared->Prop}
noncomputable abbrev IsTrip(h:Heap)(T:Addr)(a b c:Value):Prop:=h.get? T=some {cls:=.type "tuple",data:=.seq #[a,b,c]}
set_option genSizeOf false in
set_option genInjectivity false in
structure Ap3(z TI TO i1 i2 i3 l1 l2 l3:Addr):Prop where
 z_TI:z≠TI
 z_TO:z≠TO
 z_i1:z≠i1
 z_i2:z≠i2
 z_i3:z≠i3
 TI_z:TI≠z
 TI_TO:TI≠TO
 TI_i1:TI≠i1
 TI_i2:TI≠i2
 TI_i3:TI≠i3
 TO_z:TO≠z
 TO_TI:TO≠TI
 TO_i1:TO≠i1
 TO_i2:TO≠i2
 TO_i3:TO≠i3
 i1_z:i1≠z
 i1_TI:i1≠TI
 i1_TO:i1≠TO
 i1_i2:i1≠i2
 i1_i3:i1≠i3
 i2_z:i2≠z
 i2_TI:i2≠TI
 i2_TO:i2≠TO
 i2_i1:i2≠i1
 i2_i3:i2≠i3
 i3_z:i3≠z
 i3_TI:i3≠TI
 i3_TO:i3≠TO
 i3_i1:i3≠i1
 i3_i2:i3≠i2
 l1_z:l1≠z
 l1_TI:l1≠TI
 l1_TO:l1≠TO
 l1_i1:l1≠i1
 l1_i2:l1≠i2
 l1_i3:l1≠i3
 l2_z:l2≠z
 l2_TI:l2≠TI
 l2_TO:l2≠TO
 l2_i1:l2≠i1
 l2_i2:l2≠i2
 l2_i3:l2≠i3
 l3_z:l3≠z
 l3_TI:l3≠TI
 l3_TO:l3≠TO
 l3_i1:l3≠i1
 l3_i2:l3≠i2
 l3_i3:l3≠i3
structure Zs3(h:Heap)(z TI TO i1 i2 i3 l1 l2 l3:Addr)(i:Nat)(xs ys us:Array Value):Prop where
 z:∃f0 f1,h.get? z=some (zobj TI TO f0 f1)/\(f0=.none\/∃T:Nat,f0=rawInt T)
 ti:IsTrip h TI (.ref i1) (.ref i2) (.ref i3)
 to:∃a b c,IsTrip h TO a b c
 a:It1 h i1 l1 i xs
 b:It1 h i2 l2 i ys
 c:It1 h i3 l3 i us
end ZP
namespace L2
end L2
namespace EV
open L2
variable{EX:D->Mm->Prop}
section
variable{K:Frag}{M:Mm}{a b c:Expr}{g k:FE}{tg:Expr}
end
section
variable{M:Mm}{g k:FE}
end
end EV
namespace RT
theorem aGl:typeLookup (.type "reversed") "__len__"=pure none:=by rw[aDJ,aCL];kernel_rfl
theorem nV:Slot "reversed" "__length_hint__" "reversed.__length_hint__" :=
 .of (owner:="reversed") (n:="__length_hint__") (by rw[aDJ,aCL];kernel_rfl) (by decide +kernel) (by decide +kernel) (by decide +kernel)
  (by first|exact .inl (by decide +kernel)|exact .inr (by decide +kernel)) (by rw[aDU];kernel_rfl)
theorem tR:entryFor table "reversed.__length_hint__"=some Builtin.«reversed.__length_hint__»:=entryFor_of_tree (by kernel_rfl)
theorem wJ(a:Value):argsOk "reversed.__length_hint__" ⟨[a],[]⟩:=by
 unfold argsOk;rw[signature?_of (id:="reversed.__length_hint__") (n:=['_','_','t','n','i','h','_','h','t','g','n','e','l','_','_']) (o:=['d','e','s','r','e','v','e','r']) (by kernel_rfl) rP];kernel_rfl
theorem wU(self:Value):bindSpecial (.builtin "reversed.__length_hint__") self=pure (.builtin "reversed.__length_hint__",[self]):=by
 have hop:withoutEnding? "reversed.__length_hint__" "#opaque"=none:=by decide +kernel
 have hdat:withoutEnding? "reversed.__length_hint__" "#data"=none:=by decide +kernel
 have hk:builtinKind "reversed.__length_hint__"=some .method:=by decide +kernel
 simp only[bindSpecial,typeOf,builtinType,hop,hdat,hk];rfl
variable{prog:Program}{E:Value->Shared->Prop}
theorem aEw(hit:IsRvT s.heap it l ((items.size:Int) - 1))(hl:IsTup s.heap l items)(hz:(items.size:Int) < 2 ^ 63)
  (hQ:∀u tk,s.toks<=tk->Q (.int items.size u) {s with toks:=tk}):wpAny (model prog w) A (call (.builtin "reversed.__length_hint__") [.ref it]) Q E s:=by
 obtain⟨o,ho,hc,hd⟩:=id hit
 refine aAZ nV hit.typeIs tR ?_ (wJ _)
 unfold Builtin.«reversed.__length_hint__»
 refine aAA (aBY (a:=Value.ref it) rfl ?_)
 refine aAA (aAN ho hd (x:=.ref l) rfl ?_)
 show wpAny _ _ (call (.builtin "len") [.ref l] >>= _) _ _ _
 refine aAA (len_tuple hl hz ?_)
 refine aAA (aBY (a:=some (items.size:Int)) (by first|rfl|kernel_rfl) ?_)
 show wpAny _ _ (field (.ref it) 1 >>= _) _ _ _
 refine aAA (aAN ho hd (x:=rawInt ((items.size:Int) - 1)) rfl ?_)
 show wpAny _ _ (if(items.size:Int) < (items.size:Int) - 1+1 then _ else _) _ _ _
 rw[aAL (by lia)]
 rw[show(items.size:Int) - 1+1=items.size by lia]
 unfold retInt
 refine aAA (wpAny_mkInt (aAC ⟨_,rfl,hQ _ _ ?_⟩))
 show s.toks<=s.toks+1+1+1
 lia
theorem aBh{x:Value}{Q:Option Value->Shared->Prop}(hit:IsRvT s.heap it l (i:Int))(hl:IsTup s.heap l items)(hz:(items.size:Int) < 2 ^ 63)(hx:items[i]?=some x)
  (hQ:∀h' tk,s.toks<=tk->IsRvT h' it l ((i:Int) - 1)->Heap.SameBut it s.heap h'->Q (some x) {s with heap:=h',toks:=tk}):wpAny (model prog w) A (pyNext (.ref it)) Q E s:=by
 obtain⟨o,ho,hc,hd⟩:=id hit
 have hlt:i < items.size:=by
  rcases Nat.lt_or_ge i items.size with h|h
  ·exact h
  ·rw[Array.getElem?_eq_none h]at hx;cases hx
 unfold pyNext
 refine aAA (aBT (aAU (name:=Str.ofString "__next__") hit.typeIs cJ
  (aAZ cJ hit.typeIs gC ?_ (gZ _))))
 unfold Builtin.«reversed.__next__»
 refine aAA (aBY (a:=(Value.ref it,[])) rfl ?_)
 try dsimp only
 refine aAA (aAN ho hd (x:=.ref l) rfl ?_)
 refine aAA (aAN ho hd (x:=rawInt (i:Int)) rfl ?_)
 show wpAny _ _ (if(i:Int) < 0 then _ else _) _ _ s
 rw[aAL (by lia)]
 show wpAny _ _ (specialOf (.ref l) (Str.ofString "__getitem__") >>= _) _ _ s
 refine aAA (aCS hl.typeIs aHE.lookup ?_)
 show wpAny _ _ (mkInt (i:Int) >>= _) _ _ s
 refine aAA (wpAny_mkInt ?_)
 refine aAA (aBT (getItem_tuple (j:=i) (x:=x) hl (by lia) (by lia) ?_ hx ?_))
 ·rw[aGL (by lia) (by lia)];simp
 try dsimp only
 refine aAA (aAN ho hd (x:=rawInt (i:Int)) rfl ?_)
 show wpAny _ _ (setField _ _ _ >>= _) _ _ _
 refine aAA (aBX ho hd (by simp) ?_)
 refine aAC ⟨x,rfl,aAC (hQ _ _ (by first|exact aEL _|exact aAG _|lia) ?_ (aDR ..))⟩
 exact⟨_,aBG _ ho (aFF (aCW hd _)),(aID ..).trans hc,by
  rw[aCW hd];simp⟩
noncomputable def rvSt(it l:Addr)(items:Array Value)(i:Nat)(s:Shared):Prop:=IsRvT s.heap it l ((items.size:Int) - 1 - i)/\IsTup s.heap l items/\it≠l
theorem walksRv(hh:A.handled=none)(it l:Addr)(items:Array Value)(hz:(items.size:Int) < 2 ^ 63) :
  WalksS prog w A it [it,l] [it] (λa b=>b=a) items.size (λi v=>items[items.size - 1 - i]?=some v) (rvSt it l items)where
 sub:=by simp
 grefl:=λ_=>rfl
 gtrans:=λ_ _ _ h1 h2=>h2.trans h1
 frame:=λi s h' tk st _ hk=>⟨st.1.at λo e=>hk it (by simp) o e,(by obtain⟨o,ho,r⟩:=st.2.1;exact⟨o,hk l (by simp) o ho,r⟩),st.2.2⟩
 item:=λi s Q E hi st hQ=>by
  obtain⟨h1,h2,h3⟩:=st
  have e:(items.size:Int) - 1 - i=((items.size - 1 - i:Nat):Int):=by lia
  rw[e]at h1
  have hlt:items.size - 1 - i < items.size:=by lia
  refine aBh h1 h2 hz (aBU hlt) λh' tk htk hr sb=>hQ _ _ (aBU hlt) ⟨?_,?_,h3⟩ ?_
  ·rw[show(items.size:Int) - 1 - ((i+1:Nat):Int)=((items.size - 1 - i:Nat):Int) - 1 by lia];exact hr
  ·obtain⟨o,ho,r⟩:=h2;exact⟨o,sb.extBut l o (Ne.symm h3) ho,r⟩
  ·exact⟨λb o hb e=>sb.extBut b o (by simpa using hb) e,rfl,rfl,rfl,htk⟩
 done:=λs Q E st hQ=>by
  obtain⟨h1,h2,h3⟩:=st
  rw[show(items.size:Int) - 1 - (items.size:Nat) = -1 by lia]at h1
  refine next_end hh h1 λh' k=>hQ _ ⟨λb o hb e=>k b o (by simpa using hb) e,rfl,rfl,rfl,aAG _⟩
 self:=λi s Q E st hQ=>iter_self st.1 hQ
theorem aAc{Q:List Value->Shared->Prop}(hh:A.handled=none)(hit:IsRvT s.heap it l ((items.size:Int) - 1))(hl:IsTup s.heap l items)(hne:it≠l)(hn:items.size<=16777216)
  (hQ:∀s' acc,Moved [it] (λa b=>b=a) s s'->ItemsOf (λi v=>items[items.size - 1 - i]?=some v) acc items.size->s.heap.objs.size<=s'.heap.objs.size->Q acc.toList s'):wpAny (model prog w) A (collect (.ref it)) Q E s:=by
 have hz:(items.size:Int) < 2 ^ 63:=by lia
 have W:=walksRv (prog:=prog) (w:=w) (A:=A.in1.in1) hh it l items hz
 have W1:=WalksS.of_in1 W
 have hst:rvSt it l items 0 s:=⟨by simpa using hit,hl,hne⟩
 obtain⟨o,ho,hc,hd⟩:=id hit
 obtain⟨ol,hol,rl⟩:=id hl
 have lit:it < s.heap.objs.size:=aAF ho
 have ll:l < s.heap.objs.size:=aAF hol
 have hSf:s.heap.objs.size∉[it,l]:=by simp;exact⟨aBF lit,aBF ll⟩
 have hSI:s.heap.objs.size≠it:=aBF lit
 unfold collect
 refine aAA (wpAny_runValue (aDL F.entry_proto_collect ?_))
 rw[aEK F.plain_proto_collect _]
 show wpAny _ A.in1 (newList [] >>= λl=>again (.builtin "list.__iadd__" ⟨[l,.ref it],[]⟩)) _ _ s
 refine aAA (aBI ?_)
 refine aAC ⟨aFW F.plain_list_iadd _,aDL F.entry_list_iadd ?_⟩
 rw[aEK F.plain_list_iadd _]
 have hst₁:=W1.frame 0 s (s.heap.push {cls:=.type "list",data:=.seq ([]:List Value).toArray}) s.toks hst (aAG _) λb _ o e=>aAB _ e
 have hS₁:(s.heap.push {cls:=.type "list",data:=.seq ([]:List Value).toArray}).get? s.heap.objs.size=some {cls:=.type "list",data:=.seq ([]:List Value).toArray}:=aAE _ rfl
 have h1:Builtin.List.listSameRef (.ref s.heap.objs.size) (.ref it)=false:=by simp[Builtin.List.listSameRef,hSI]
 show wpAny _ A.in1 (Builtin.List.listExtendWith (.ref s.heap.objs.size) (.ref it) (.ref s.heap.objs.size)) _ _ _
 unfold Builtin.List.listExtendWith
 refine aAA (aEO hst₁.1.typeIs ?_)
 rw[aAL (by rw[h1];decide)]
 refine aAA (W1.self 0 _ _ _ hst₁ ?_)
 refine aAA (aBL ?_)
 unfold Builtin.List.listLengthHint
 refine aAA (aCS hst₁.1.typeIs aGl ?_)
 show wpAny _ A.in1 (specialOf (Value.ref it) (Str.ofString "__length_hint__") >>= _) _ _ _
 refine aAA (aCS hst₁.1.typeIs nV.lookup ?_)
 (generalize hid:("reversed.__length_hint__":String)=id0;(fail_if_success (clear hid id0));wp_delta;rw[show splitId id0=some ("reversed","__length_hint__")from by subst hid;decide +kernel];subst hid)
 refine aAA (aDA (b:=true) hst₁.1.typeIs (by rw[aDU];kernel_rfl) ?_)
 rw[aAL (by decide)]
 dsimp only
 rw[aAL (by decide +kernel)]
 refine aAA (aCJ ?_)
 refine aAA (aBY (wU _) ?_)
 dsimp only
 refine aAA (aBT (aEw (items:=items) (l:=l) (by simpa using hst₁.1) hst₁.2.1 hz λu tk htk=>?_))
 dsimp only
 have k0:(0:Int)<=(items.size:Int):=by lia
 have k1:Builtin.List.listFitsIndex (items.size:Int)=true:=by simp only[Builtin.List.listFitsIndex,aBN,aBH];lia
 have k2:Builtin.List.listTooLong (items.size:Int).toNat=false:=by simp only[Builtin.List.listTooLong,aBC,decide_eq_false_iff_not];lia
 generalize(items.size:Int)=kk at k0 k1 k2
 refine aAA (m:=asInt? (.int kk u)) (aAC ?_)
 dsimp only
 rw[aAL (by rw[k1];decide)]
 rw[aAL (by lia)]
 rw[aAL (by rw[k2];decide)]
 refine aAC ?_
 have fin:∀(h'':Heap) (c:Nat),(∀b o,b≠s.heap.objs.size->s.heap.get? b=some o->h''.get? b=some o)->h''.objs.size=s.heap.objs.size+1->h''.get? s.heap.objs.size=some {cls:=.type "list",dict:=none,data:=.seq #[] c,slots:=#[]} ->
   codeAny (model prog w) A (.builtin "list.extend.loop" ⟨[.ref s.heap.objs.size,.ref it,.ref s.heap.objs.size],[]⟩) (λr s'=>match r with
    |.ok (.ret v)=>wpAny (model prog w) A (match v with
      |.ref a=>do
       let o <- load a
       match o.data with
        |.seq xs _=>pure xs.toList
        |_=>unsupported "internal:collect"
      |_=>unsupported "internal:collect") Q E s'
    |.ok _=>False
    |.error e=>E e s') ⟨h'',s.gens,s.drawn,tk,s.os⟩:=by
  intro h'' c hk hsz hS
  have st2:rvSt it l items 0 ⟨h'',s.gens,s.drawn,tk,s.os⟩:=⟨hst.1.at λo e=>hk it o (Ne.symm hSI) e,(by obtain⟨o,ho,r⟩:=hst.2.1;exact⟨o,hk l o (aAJ ll) ho,r⟩),hne⟩
  refine codeAny_extend_loopS W1 (by rw[aBC];lia) _ hSf _ items.size 0 _ _ _ rfl (aDB _) st2 hS (ItemsOf.nil _) λs' acc' c' hm hS' hacc=>?_
  show wpAny _ A (load s.heap.objs.size >>= _) _ _ s'
  refine aAA (wpAny_load hS' ?_)
  refine aAC (hQ s' acc' ⟨λb o hb e=>?_,hm.gens,hm.drawn,hm.os,aAV htk hm.toks⟩ hacc (aHB (aAF hS')))
  exact hm.heap b o (by simp at hb ⊢;exact⟨aAJ (aAF e),hb⟩) (hk b o (aAJ (aAF e)) e)
 split
 ·refine aAA (aCJ ?_)
  refine aAA ?_
  show wpAny _ _ (updateSeq s.heap.objs.size (·.push .none) >>= λ_=>updateSeq s.heap.objs.size (·.pop)) _ _ _
  refine aAA (aDZ hS₁ rfl ?_)
  have hS₃:=aBG (Obj.mapSeq (·.push Value.none)) hS₁ rfl
  refine aDZ (hz:=by seq_fits) hS₃ rfl ?_
  have hS₄:=aBG (Obj.mapSeq (·.pop)) hS₃ rfl
  exact aAC ⟨aFW aDS _,fin _ _ (λb o hb e=>(aCA _ _ (Ne.symm hb)).trans ((aCA _ _ (Ne.symm hb)).trans (aAB _ e))) (by simp[Heap.update,Heap.push]) hS₄⟩
 ·exact aAC ⟨aFW aDS _,fin _ _ (λb o hb e=>aAB _ e) (aAW ..) hS₁⟩
theorem qV(it l:Addr)(items:Array Value)(hn:items.size<=16777216) :
  Meets (Builtin.«tuple.__new__» ⟨[.type "tuple",.ref it],[]⟩)
   (λA R s=>A.handled=none/\IsRvT s.heap it l ((items.size:Int) - 1)/\IsTup s.heap l items/\it≠l/\∀(s':Shared) (acc:Array Value),Moved [it] (λa b=>b=a) s s'->ItemsOf (λi v=>items[items.size - 1 - i]?=some v) acc items.size->s.heap.objs.size<=s'.heap.objs.size ->
    R (.ok (.ret (.ref s'.heap.objs.size))) {s' with heap:=s'.heap.push {cls:=.type "tuple",data:=.seq acc}}) :=
 .of_wp λprog w A R s h=>by
  obtain⟨hh,hr,hl,hne,h⟩:=h
  have hsub:=sub_tuple_self
  have hinit:=init_tuple_lookup
  have hmh:=madeHere_tuple
  have hT:s.TypeIs (.ref it) "reversed":=hr.typeIs
  have hh1:A.in1.handled=none:=hh
  wp_walk using aEO hT,aAc hh1 hr hl hne hn
  intro s' acc hm hacc hle
  show wpAny _ _ (Builtin.Tuple.tupleExact acc.toList.toArray >>= λv=>ret v) _ _ _
  unfold Builtin.Tuple.tupleExact
  refine aAA (aBI ?_ (show acc.toList.toArray.size<=sizeLine by simp only[Array.toArray_toList];rw[hacc.1,aBC];lia))
  refine aAC ⟨_,rfl,?_⟩
  have e:acc.toList.toArray=acc:=by simp
  rw[e]
  exact h s' acc hm hacc hle
theorem call_tuple_rv(hh:A.handled=none)(hit:IsRvT s.heap it l ((items.size:Int) - 1))(hl:IsTup s.heap l items)(hne:it≠l)(hn:items.size<=16777216)
  (h:∀(h':Heap) (tk:Nat) (acc:Array Value),(∀b o,b≠it->s.heap.get? b=some o->h'.get? b=some o)->s.heap.objs.size<=h'.objs.size->ItemsOf (λi v=>items[items.size - 1 - i]?=some v) acc items.size->Q (.ref h'.objs.size) {s with heap:=h'.push {cls:=.type "tuple",data:=.seq acc},toks:=tk}) :
  wpAny (model prog w) A (call (.type "tuple") [.ref it]) Q E s:=by
 refine aFK F.called_tuple (by decide) (F.typeCall_tuple_1 _) (F.newCall_tuple_1 _) (λobj=>aGY obj _) F.entry_tuple_new
  (qV it l items hn) ⟨hh,hit,hl,hne,λs' acc hm hacc hle=>⟨⟨_,aAE _ rfl,rfl⟩,?_⟩⟩
 obtain⟨h',g',d',tk',os'⟩:=s'
 have e1:g'=s.gens:=hm.gens
 have e2:d'=s.drawn:=hm.drawn
 have e3:os'=s.os:=hm.os
 subst e1 e2 e3
 exact h h' tk' acc (λb o hb e=>hm.heap b o (by simpa using hb) e) hle hacc
end RT
namespace L2
theorem aEf{xs:List V}{acc:Array Value}(r:Vals xs its)(h:ItemsOf (λi v=>its.toArray[its.toArray.size - 1 - i]?=some v) acc its.toArray.size):Vals xs.reverse acc.toList:=by
 have hl:acc.toList.length=its.length:=by have:=h.1;simpa using this
 have e:acc.toList=its.reverse:=by
  apply aIH
  intro i
  by_cases hi:i < its.length
  ·have hi':i < acc.toList.length:=by lia
   have q:=h.2 i acc.toList[i] (by rw[<- aFI];exact aAR hi')
   rw[aAR hi',aGT hi]
   simpa using q.symm
  ·rw[aDH (by lia),aDH (by simpa using hi)]
 rw[e]
 exact r.reverse
noncomputable def tTupRev(K:Frag)(ta:TA):TE:=λσ H Q=>ta σ H λvs H1=>∃a xs,vs=[.ref a]/\SqT K H1 a xs/\xs.length<=16777216/\∀l,H1 l=none->Q (.ref l) (upd H1 l (.tup xs.reverse))
theorem aEr{a:Expr}{ta:TA}(hc:X.calm=true)(hg:Gl X "tuple")(hm:X.mg "tuple"=none)(hg2:Gl X "reversed")(hm2:X.mg "reversed"=none)(ha:PA X [a] ta)(hs:starEach [a] X.env=[(false,eval a X.env)]:=by rfl)
  (hs2:starEach [.Call (.Name "reversed" p2) [a] [] pos2] X.env=[(false,eval (.Call (.Name "reversed" p2) [a] [] pos2) X.env)]:=by rfl):PE X (.Call (.Name "tuple" p) [.Call (.Name "reversed" p2) [a] [] pos2] [] pos) (tTupRev X.K ta):=by
 intro pins s σ H Q I h
 refine aCY (fN I hg hm EV.zC ?_)
 refine aBQ ?_ hs2 rfl
 rw[hs2]
 show wpAny _ _ (spliced ((false,eval (.Call (.Name "reversed" p2) [a] [] pos2) X.env)::backTo pos [])) _ _ s
 refine aEZ ?_
 refine Call_ (fN I hg2 hm2 rA (aBQ (thn (ha pos2 pins s σ H _ I h) λus s1 ⟨vs,H1,I1,r1,q1⟩=>?_) hs rfl))
 obtain⟨b,xs,e,hq,hx,q⟩:=q1
 subst e
 cases r1 with
 |cons r rr =>
  cases rr
  cases r
  obtain⟨its,rv,pt,hz⟩:=I1.tuple hq
  have hlen:=rv.length
  refine RT.call_rev_tuple pt (by rw[aAH,<- hlen];lia) ?_
  refine aGH ?_
  have I2:Inv X pins σ H1 {s1 with heap:=s1.heap.push (RT.rvObj b ((its.toArray.size:Int) - 1)),toks:=s1.toks+1+1}:=I1.kept (t':=s1.toks+1+1) λb o e=>aAB _ e
  have fo:FpOk X pins H1 s1.heap.objs.size:=I1.fpOk (aAG _) (I1.hok.fresh (aAG _))
  have hb:b < s1.heap.objs.size:=by obtain⟨o,ho,_⟩:=pt;exact aAF ho
  refine RT.call_tuple_rv (it:=s1.heap.objs.size) (l:=b) (items:=its.toArray) (I2.ok.hd hc) ⟨_,aAE _ rfl,rfl,rfl⟩ (by obtain⟨o,ho,r⟩:=pt;exact⟨o,aAB _ ho,r⟩) (aBF hb) (by rw[aAH];lia) λh' tk acc kp hle hacc=>?_
  have hT:H1 h'.objs.size=none:=I2.hok.fresh hle
  refine⟨.ref h'.objs.size,upd H1 h'.objs.size (.tup xs.reverse),?_,rfl,q _ hT⟩
  refine I2.turnLay (fp:=[s1.heap.objs.size]) (t':=tk) (λc hc=>by rw[aAM.mp hc];exact fo) (λc u hc e=>aAB _ (kp c u (by simpa using hc) e)) hle ?_
  exact⟨by rw[List.length_reverse,aBC];lia,acc.toList,aEf rv hacc,_,aAE _ rfl,rfl,0,by simp⟩
end L2
namespace EV
open L2
variable{K:Frag}{M:Mm}{a:Expr}
noncomputable def cTupRev(w:W)(M:Mm):Oc W:=match w with
 |.d (.tup xs)=>if xs.length<=16777216 then okD (.tup xs.reverse) M else .bad
 |_=>.bad
theorem aEg(hc:X.calm=true)(hm:X.mg "tuple"=none)(hm2:X.mg "reversed"=none)(ha:Ev X K Z a f)(hg:Gl X "tuple":=by rfl)(hg2:Gl X "reversed":=by rfl)(hs:starEach [a] X.env=[(false,eval a X.env)]:=by rfl)
  (hs2:starEach [.Call (.Name "reversed" p2) [a] [] pos2] X.env=[(false,eval (.Call (.Name "reversed" p2) [a] [] pos2) X.env)]:=by rfl):Ev X K Z (.Call (.Name "tuple" p) [.Call (.Name "reversed" p2) [a] [] pos2] [] pos) (e1 cTupRev f):=by
 have h':=aEr (pos:=pos) (p:=p) hc hg hm hg2 hm2 (bM ha.h cH hs) hs hs2
 rw[ha.k]at h'
 refine⟨ha.k,cqE h' ?_⟩
 rintro σ H Q ⟨μ,M,L,hr,lr,p⟩
 refine⟨μ,M,L,hr,lr,p.bind.imp λμ1 H1 M1 w e1 hr1 _ p1 v rw'=>?_⟩
 cases w with
 |ref i=>exact p1.elim
 |ob _ _=>exact p1.elim
 |nest _=>exact p1.elim
 |d x=>cases x with
  |tup xs =>
   simp only[cTupRev]at p1
   split at p1
   ·rename_i hz
    simp only[Rw,Rp]at rw'
    obtain⟨q,vs,rfl,h1,r1⟩:=rw'
    exact⟨q,vs,rfl,SqT.of h1,by rw[<- r1.length];exact hz,jZ hr1 r1.reverse p1⟩
   ·exact p1.elim
  |_=>exact p1.elim
variable{EX:D->Mm->Prop}
theorem vQ{xs:List D}{Q:W->Mm->Prop}(hz:xs.length<=16777216)(q:Q (.d (.tup xs.reverse)) M):Okx EX (cTupRev (.d (.tup xs)) M) Q:=by
 simp only[cTupRev];rw[aAI hz];exact aU q
end EV
end
namespace EV
open PySem
end EV
section
open PySem PySem.Spec PyProof.Rows
namespace L2
structure CompOkC(p:Str)(N0:List Str)(sc0:Scope)(scope:Scope)(Nc:List Str)(js:List (Option Nat)):Prop where
 kind:scope.kind=.function
 one:scope.names.filter (λy=>y.2==.cell)=[(p,.cell)]
 pc:scope.names.lookup p=some .cell
 names:∀y∈scope.names,y.2=.local->scope.names.lookup y.1=some .local
 free:∀y∈scope.names,y.2=.free->sc0.names.lookup y.1=some .cell
 len:js.length=Nc.length
 slots:∀p∈Nc.zip js,∀j∈p.2,N0[j]?=some p.1/\scope.names.lookup p.1=some .free/\sc0.names.lookup p.1=some .cell
variable{σ:St}{H₂:Hp}{scope:Scope}{js:List (Option Nat)}{Cc:Addr}{p:Str}{tg iter elt:Expr}{ifs:List Expr}{js:List (Option Nat)}{g:TG}{ti:TT}{wi:TI}{pn:Str}
end L2
namespace EV
open L2
variable{K:Frag}{pn:Str}
end EV
namespace L2
end L2
namespace EV
open L2
variable{K:Frag}{M:Mm}{EX:D->Mm->Prop}
end EV
namespace L2
open PySem.W PySem.Calls Builtin Builtin.ObjectAttr
variable{e:Expr}
end L2
namespace L2
end L2
namespace EV
open L2
variable{K:Frag}{M:Mm}{a:Expr}{EX:D->Mm->Prop}
end EV
end
namespace EV
open PySem
variable{EX:D->Mm->Prop}{M:Mm}{gg:FG}{Q:W->Mm->Prop}
end EV
section
open PySem PySem.Spec PyProof.Rows
namespace L2
variable{M:Model}{E:Value->Shared->Prop}{env':Env}{L e:Addr}{P:Addr->Prop}{Q:Unit->Shared->Prop}{σ:List (Option V)}{scope:Scope}{H₂:Hp}{tg iter elt:Expr}{ifs:List Expr}{js:List (Option Nat)}{g:TG}{ti:TT}{wi:TI}
end L2
namespace EV
open L2
variable{K:Frag}{M:Mm}
end EV
namespace L2
structure RoomH(k:Nat)(A:Around):Prop where
 dp:A.depth+3*k+5 < recursionLimit
 un:A.units+16*k+200 < cLine
theorem _root_.L2.Inv.hh{σ:St}(I:Inv X pins σ H s):X.A.handled=none\/∃e C d,X.A.handled=some (.ref e)/\H e=some (.xo C d):=by
 cases z:X.calm with
 |true=>exact .inl (I.ok.hd z)
 |false=>exact I.hx z
structure FnOkH(P:Program)(w:World)(K:Frag)(mg:Str->Option Value)(base:Heap)(k:Nat)(f:Addr)(fd:FuncData)(ps:List Str)(sp:Sp):Prop where
 len:∀vs H Q E,sp vs H Q E->vs.length=ps.length
 run:∀(A:Around) (outer:List Env) (s:Shared) (H:Hp) (args:Args) (us:List Value) (vs:List V) (Q:VK) (E:XK),RoomH k A->Env0 P w K mg base A outer s H->(A.handled=none\/∃e C d,A.handled=some (.ref e)/\H e=some (.xo C d))->BindsTo s fd args (ps.zip us)->Vals vs us->sp vs H Q E ->
  codeAny (model P w) A (.call (.ref f) args) (CR CX0 outer P w H s Q E) s
section
variable{k:Nat}{f:Addr}{e:Expr}{es:List Expr}{t:TA}
end
end L2
namespace EV
open L2
variable{K:Frag}{e:Expr}{es:List Expr}{fs:FA}{EX:D->Mm->Prop}{M:Mm}{Q:W->Mm->Prop}{gg:FG}
end EV
namespace L2
variable{prog:Program}{E:Value->Shared->Prop}
theorem aBg{t:Addr}{Q:List Value->Shared->Prop}(it:IsTup s.heap t us.toArray)(few:us.length<=sizeLine)
  (q:Q us {s with heap:=(s.heap.push (seqObj "list" #[] 0)).update s.heap.objs.size (Obj.mapSeq (·++us.toArray))}) :
  wpAny (model prog w) A (collect (.ref t)) Q E s:=by
 obtain⟨ob,g,gc,k,gd⟩:=id it
 have g1:=aAB (seqObj "list" #[] 0) g
 have g0:(s.heap.push (seqObj "list" #[] 0)).get? s.heap.objs.size=some (seqObj "list" #[] 0):=aAE _ rfl
 unfold collect
 refine aAA (wpAny_runValue (aDL (id:="proto.collect") entry_proto_collect' ?_))
 show wpAny _ _ (do again (.builtin "list.__iadd__" ⟨[<- newList [],.ref t],[]⟩)) _ _ s
 refine aAA (wpAny_newList (aAC ⟨aHW _ (by decide +kernel),?_⟩))
 refine aDL (id:="list.__iadd__") entry_list_iadd' ?_
 show wpAny _ _ (Builtin.List.listExtendWith (.ref s.heap.objs.size) (.ref t) (.ref s.heap.objs.size)) _ _ {s with heap:=s.heap.push (seqObj "list" #[] 0)}
 delta Builtin.List.listExtendWith
 refine aAA (aEO (T:="tuple") ⟨ob,g1,gc⟩ ?_)
 rw[aAI (by rw[show(Value.type "tuple"==Value.type "tuple")=true from rfl];simp)]
 refine aAA (listItems_at g1 gd (aAA (listItems_at g0 rfl ?_)))
 rw[aAL (by simp)]
 refine aAA (listUpdate_at g0 rfl (aAC ?_) (aDB _) ?_)
 ·refine aAA (wpAny_load (get?_update_seq g0 _) ?_)
  dsimp only
  have e:((#[]:Array Value)++us.toArray).toList=us:=by simp
  rw[e]
  exact aAC q
 ·simp only[Array.size_append,aAH,aHJ]
  lia
theorem aGw{t:Addr}(it:IsTup s.heap t us.toArray)(hI:IntsAre us ns)(few:us.length < 64)
  (q:∀(out:Array Value) (ms:List Int),IntsAre out.toList ms->ms.Perm ns->ms.Pairwise (·<=·)->Q (.ref (s.heap.objs.size+1)) {s with heap:=sortedAll s.heap us out}) :
  wpAny (model prog w) A (call (.builtin "sorted") [.ref t]) Q E s:=by
 refine Calls.call_function_entry (id:="sorted") kind_sorted plain_sorted entry_sorted (args_sorted1 (.ref t)) ?_
 unfold Builtin.«sorted»
 refine aAA (m:=checkCount "sorted" 1 1 _) (aAC (aAA (aBg it (by rw[aBC];lia) (aAA (wpAny_newList ?_)))))
 generalize eg:(s.heap.push (seqObj "list" #[] 0)).update s.heap.objs.size (Obj.mapSeq (·++us.toArray))=G
 have gz:G.objs.size=s.heap.objs.size+1:=by rw[<- eg,Heap.size_update,size_push']
 have go:(G.push (seqObj "list" us.toArray 0)).get? G.objs.size=some (seqObj "list" us.toArray 0):=aAE _ rfl
 show wpAny _ _ _ _ _ {s with heap:=G.push (seqObj "list" us.toArray 0)}
 refine aAA (aBL (aAZ slot_list_sort ⟨_,go,rfl⟩ entry_list_sort (list_sort_tree go hI few λout ms a1 a2 a3=>⟨_,rfl,?_⟩) (args_list_sort _)))
 refine aAC ⟨.ref _,rfl,?_⟩
 have z:=q out ms a1 a2 a3
 unfold sortedAll at z
 rw[eg]at z
 rw[gz]
 exact z
end L2
namespace EV
open L2
variable{K:Frag}
theorem aCa:CallR X (.builtin "sorted") (λxs H Q=>∃p ns,xs=[.ref p]/\SqT X.K H p (ns.map V.int)/\ns.length < 64/\∀l,H l=none->Q (.ref l) (upd H l (.lst ((srt ns).map V.int)))):=by
 intro pins s σ H xs us Q I r h
 obtain⟨p,ns,rfl,hq,h64,q⟩:=h
 obtain⟨u,rfl,rx⟩:=vals1 r
 cases rx
 obtain⟨its,r',pl,hz⟩:=I.tuple hq
 have hI:=mL r'
 have hlen:its.length=ns.length:=by have:=r'.length;simpa using this.symm
 refine aGw (us:=its) pl hI (by lia) λout ns' a1 a2 a3=>?_
 have e:=xO a2 a3
 subst e
 obtain⟨c,hc⟩:=sortedAll_at s.heap its out
 refine⟨.ref (s.heap.objs.size+1),_,I.laid (t':=s.toks) (λb o e=>sortedAll_old e) (aEL _) (show ObjOk X.prog X.w _ _ _ (.lst ((srt ns).map V.int))from⟨by rw[aBC];simp[rG];lia,out.toList,c,qB a1,by simpa using hc⟩),rfl,q _ (I.hok.fresh (aEL _))⟩
noncomputable def cSortT(ws:List W)(M:Mm):Oc W:=match ws with
 |[w]=>match w with
  |.d (.tup xs)=>match intsOf xs with
   |some ns=>if ns.length < 64 then okD (.lst ((srt ns).map .int)) M else .bad
   |none=>.bad
  |_=>.bad
 |_=>.bad
theorem callSortT(hc:X.calm=true):ClG X K Z (.builtin "sorted") cSortT:=λhk=>by
 refine⟨_,hk▸aCa,?_⟩
 intro μ H M ws vs Q hr rx p
 match ws,rx,p with
 |[],_,p=>exact p.elim
 |[.ref _],_,p=>exact p.elim
 |[.d x],⟨v,r,e1,e2,e3⟩,p =>
  cases e3;subst e1
  cases x with
  |tup xs =>
   simp only[cSortT]at p
   cases q2:intsOf xs with
   |none=>rw[q2]at p;exact p.elim
   |some ns =>
    rw[q2]at p
    simp only at p
    split at p
    ·rename_i hz
     simp only[Rw,Rp]at e2
     obtain⟨a,us,rfl,h1,r1⟩:=e2
     have e:=kM q2
     subst e
     have e:=nZ r1
     subst e
     exact⟨a,ns,rfl,SqT.of h1,hz,gW hr Rps.ints p⟩
    ·exact p.elim
  |_=>exact p.elim
 |_::_::_,_,p=>exact p.elim
variable{EX:D->Mm->Prop}{M:Mm}{Q:W->Mm->Prop}
theorem zS{ds:List D}(e:ds=ns.map D.int)(hz:ns.length < 64)(q:Q (.d (.lst ((srt ns).map D.int))) M):Okx EX (cSortT [.d (.tup ds)] M) Q:=by
 subst e
 unfold cSortT
 simp only[lO]
 rw[aAI hz]
 exact aU q
end EV
set_option maxHeartbeats 4000000
namespace L2
variable{prog:Program}{E:Value->Shared->Prop}
theorem aHb{i j:Int}(h0:i<=j):Builtin.Range.rangeSize i j 1=j - i:=by
 unfold Builtin.Range.rangeSize
 rw[aAI (by decide)]
 split
 ·lia
 ·lia
variable{r:Addr}{m:Int}{u v:Tok}
theorem qF{t:Tok}(hl:s.heap.get? r=some {cls:=.type "range",data:=.fields #[.int m t,.int n u,.int 1 v]})(hm:0<=m)(h0:m<=n)(h1:n < 2 ^ 62)
  (h:Q (.ref s.heap.objs.size) {s with heap:=s.heap.push {cls:=.type "range_iterator",data:=.fields #[rawInt (n - 1),rawInt (n - m),rawInt (-1)]}}):wpAny (model prog w) A (call (.builtin "range.__reversed__") [.ref r]) Q E s:=by
 have hT:s.TypeIs (.ref r) "range":=⟨_,hl,rfl⟩
 have hf:(Builtin.Range.rangeFitsLong m&&Builtin.Range.rangeFitsLong n&&Builtin.Range.rangeFitsLong 1&&Builtin.Range.rangeFitsLong (-1)&&Builtin.Range.rangeFitsLong (m - 1)&&Builtin.Range.rangeFitsLong (Builtin.Range.rangeSize m n 1))=true:=by
  rw[aHb h0,fits62 (a:=m) (by lia) (by lia),fits62 (a:=n) (by lia) h1,fits62 (a:=1) (by decide) (by decide),fits62 (a := -1) (by decide) (by decide),fits62 (a:=m - 1) (by lia) (by lia),fits62 (a:=n - m) (by lia) (by lia)]
  all_goals rfl
 refine aDM aGV hT F.entry_range_reversed (F.args_range_reversed_1 _) (iS r m n 1 t u v (by rw[hf];simp)) ⟨hl,?_⟩
 rw[aHb h0,show m+(n - m - 1)*1=n - 1 by lia]
 exact h
theorem mE{t:Tok}{Q₁:Value->Shared->Prop}(hl:s.heap.get? r=some {cls:=.type "range",data:=.fields #[.int m t,.int n u,.int 1 v]})(hm:0<=m)(h0:m<=n)(h1:n < 2 ^ 62)
  (h:Q₁ (.ref s.heap.objs.size) {s with heap:=s.heap.push {cls:=.type "range_iterator",data:=.fields #[rawInt (n - 1),rawInt (n - m),rawInt (-1)]}}) :
  codeAny (model prog w) A (.call (.builtin "reversed.__new__") ⟨[.type "reversed",.ref r],[]⟩) (wants Q₁ E) s:=by
 have hT:s.TypeIs (.ref r) "range":=⟨_,hl,rfl⟩
 refine codeAny_of_tree ?_
 show wpAny _ A.in1 (do checkBuiltinCall "reversed.__new__" ⟨[.type "reversed",.ref r],[]⟩;again (.builtin "reversed.__new__" ⟨[.type "reversed",.ref r],[]⟩)) _ _ s
 refine aAA (aBY (F.newCall_reversed_1 _) (aAC ⟨aFW F.plain_reversed_new _,aDL F.entry_reversed_new ?_⟩))
 rw[aEK F.plain_reversed_new _]
 unfold Builtin.«reversed.__new__»
 refine aAA (aBY (newClass_reversed _) ?_)
 try dsimp only
 refine aAA (aBY (a:=()) (by first|rfl|kernel_rfl) ?_)
 refine aAA (aBY (a:=()) (by first|rfl|kernel_rfl) ?_)
 try dsimp only
 refine aAA (aCS hT aGV.lookup ?_)
 try dsimp only
 refine aAA (aBY (aGV.bind _) ?_)
 try dsimp only
 first
 |rw[aAL (show ¬((Value.builtin "range.__reversed__"==Value.none)=true)from aBA)]
 |(show wpAny _ _ (if(Value.builtin "range.__reversed__"==Value.none)=true then _ else _) _ _ _;rw[aAL (show ¬((Value.builtin "range.__reversed__"==Value.none)=true)from aBA)])
 refine aAA (aCJ ?_)
 refine aAA (m:=runValue (.call (.builtin "range.__reversed__") ⟨[.ref r],[]⟩)) (show wpAny _ _ (call (.builtin "range.__reversed__") [.ref r]) _ _ _ from qF hl hm h0 h1 ?_)
 first
 |exact aAC h
 |exact aAA (aAC (aAC h))
theorem iV{t:Tok}(hl:s.heap.get? r=some {cls:=.type "range",data:=.fields #[.int m t,.int n u,.int 1 v]})(hm:0<=m)(h0:m<=n)(h1:n < 2 ^ 62)
  (h:Q (.ref s.heap.objs.size) {s with heap:=s.heap.push {cls:=.type "range_iterator",data:=.fields #[rawInt (n - 1),rawInt (n - m),rawInt (-1)]}}):wpAny (model prog w) A (call (.type "reversed") [.ref r]) Q E s:=by
 refine callType_other (U:="range_iterator") (Q₁:=λobj s₁=>obj=.ref s.heap.objs.size/\s₁={s with heap:=s.heap.push {cls:=.type "range_iterator",data:=.fields #[rawInt (n - 1),rawInt (n - m),rawInt (-1)]}}) (by decide +kernel) F.create_reversed ⟨_,_,F.mro_reversed⟩ F.made_reversed qE (F.typeCall_reversed_1 _) (mE hl hm h0 h1 ⟨rfl,rfl⟩) ?_
 rintro obj s₁ ⟨rfl,rfl⟩
 exact⟨⟨_,aAE _ rfl,rfl⟩,h⟩
variable{tg:Expr}
noncomputable def ItE2(b:Int)(n:Nat):It:=⟨λi _=>i < n,λi H x H'=>H'=H/\x=.int (b - 1 - i),λi _=>n<=i⟩
theorem aAj(it:Addr)(z:Int)(n:Nat):Turn P w K tg (ItE2 z n) [it] it (λi h=>IsRangeIter h it (z - 1+(i:Nat)*(-1)) ((n:Int) - (i:Nat)) (-1))where
 mem:=by simp
 obj:=λi h st b hb=>by
  have e:b=it:=by simpa using hb
  subst e
  exact⟨_,st,λv z=>by
   have z':Data.fields _=Data.cell v:=z
   cases z'⟩
 keep:=λi h h' st k=>k it (by simp) _ st
 item:=by
  intro X hP hw hK hc i pins s σ H E I hf st hg
  subst hP hw hK
  obtain⟨f0,f1,f2,f3,f4,f5⟩:=hf it (by simp)
  have W:=Walks.range (prog:=X.prog) (w:=X.w) (I.ok.hd (hc.resolve_right id)) it (z - 1) (-1) n
  refine W.item i s _ _ hg st λv h' tk hv st' kk=>?_
  obtain⟨t,rfl⟩:=hv
  have I1:Inv X pins σ H {s with heap:=h',toks:=tk}:=I.turned (λb o hb e=>kk b o (by simpa using hb) e) f0 f1 f3 f4 f5
  refine⟨_,rfl,tZ (s:={s with heap:=h',toks:=tk}) (n:="range_iterator") st' rfl rfl (by decide) ⟨.int (z - 1 - i),H,I1,⟨t,?_⟩,⟨rfl,rfl⟩,st',λb hb=>(hf b hb).1⟩⟩
  rw[show z - 1+(i:Int) * -1=z - 1 - i by lia]
 done:=by
  intro X hP hw hK hc i pins s σ H E I hf st hg
  subst hP hw hK
  obtain⟨f0,f1,f2,f3,f4,f5⟩:=hf it (by simp)
  exact wpAny_pyNext_range_end (I.ok.hd (hc.resolve_right id)) st (by have:n<=i:=hg;lia) λh' eb=>⟨rfl,I.turned (t':=s.toks) (λb o hb e=>eb b o hb e) f0 f1 f3 f4 f5⟩
 self:=λ_ _ _ _ _ st h=>aGM st h
noncomputable def iRevR2(ta:TA):TI:=λσ H R=>ta σ H λvs H1=>∃a i j,vs=[.ref a]/\H1 a=some (.rng i j)/\0<=i/\i<=j/\j < 2 ^ 62/\R (ItE2 j (j - i).toNat) H1
theorem aIk{a:Expr}{ta:TA}(hg:Gl X "reversed")(hm:X.mg "reversed"=none)(ha:PA X [a] ta)(hs:starEach [a] X.env=[(false,eval a X.env)]:=by rfl):PI X tg (.Call (.Name "reversed" p) [a] [] pos) (iRevR2 ta):=by
 intro pins s σ H R I h
 refine Call_ (fN I hg hm rA (aBQ (thn (ha pos pins s σ H _ I h) λus s1 ⟨vs,H1,I1,r1,q1⟩=>?_) hs rfl))
 obtain⟨b,i,j,e,hq,i0,j0,j1,q⟩:=q1
 subst e
 cases r1 with
 |cons r rr =>
  cases rr
  cases r
  obtain⟨t,u,v,ho⟩:=(show ObjOk X.prog X.w H1 s1.heap b (.rng i j)from I1.hok b _ hq)
  have I2:Inv X pins σ H1 {s1 with heap:=s1.heap.push {cls:=.type "range_iterator",data:=.fields #[rawInt (j - 1),rawInt (j - i),rawInt (-1)]}}:=I1.kept (t':=s1.toks) λb o e=>aAB _ e
  refine iV ho i0 j0 j1 (aGM (aAE _ rfl) ?_)
  refine⟨s1.heap.objs.size,[s1.heap.objs.size],_,_,H1,rfl,I2,aAj _ j (j - i).toNat,?_,λc hb=>?_,q⟩
  ·show IsRangeIter _ _ (j - 1+((0:Nat):Int)*(-1)) ((((j - i).toNat:Nat):Int) - ((0:Nat):Int)) (-1)
   rw[show j - 1+((0:Nat):Int)*(-1)=j - 1 by lia,show(((j - i).toNat:Nat):Int) - ((0:Nat):Int)=j - i by lia]
   exact aAE _ rfl
  ·have e:c=s1.heap.objs.size:=by simpa using hb
   subst e
   exact I1.fpOk (aAG _) (I1.hok.fresh (aAG _))
end L2
namespace EV
open L2
variable{EX:D->Mm->Prop}
section
variable{K:Frag}{M:Mm}{a b tg:Expr}{g:FE}
noncomputable def downE(b:Int)(n:Nat):List D:=(List.range n).map λi=>D.int (b - 1 - (i:Nat))
variable{n:Nat}
theorem aEy{b:Int}{d:D}(h:(downE b n)[i]?=some d):i < n/\d=.int (b - 1 - (i:Nat)):=by
 unfold downE at h
 rw[aBJ,aBE]at h
 obtain⟨k,h1,rfl⟩:=h
 obtain⟨h2,h3⟩:=aAD.mp h1
 simp only[aBS]at h2
 simp only[List.getElem_range]at h3
 subst h3
 exact⟨h2,rfl⟩
theorem wS{b:Int}:(downE b n).length=n:=by simp[downE]
theorem aLm{b:Int}:ItOk K μ H ⟨downE b n,none⟩ (ItE2 b n) :=
 ⟨λ_ _=>True,trivial,λ_ _ _ _ _ _ _=>trivial,λμ1 H1 M1 i hr _ _=>⟨λd hd=>by
  obtain⟨h1,rfl⟩:=aEy hd
  refine⟨h1,λx H2 y=>?_⟩
  obtain⟨rfl,rfl⟩:=y
  exact⟨.refl,hr,by simp[Rp]⟩,λh=>by rw[show(Src.ds ⟨downE b n,none⟩)=downE b n from rfl,wS]at h;exact h⟩⟩
noncomputable def iDown2(f g:FE):FI:=λL M=>(f L M).bind λw M1=>(g L M1).bind λu M2=>match w,u with
 |.d (.int i),.d (.int j)=>if 0<=i/\i<=j/\j < 4611686018427387904 then .ok ⟨downE j (j - i).toNat,none⟩ M2 else .bad
 |_,_=>.bad
theorem aHe(hm:X.mg "reversed"=none)(hm2:X.mg "range"=none)(ha:Ev X K Z a f)(hb:Ev X K Z b g)(hg:Gl X "reversed":=by rfl)(hg2:Gl X "range":=by rfl)(hs:starEach [a,b] X.env=[(false,eval a X.env),(false,eval b X.env)]:=by rfl)(hs3:starEach [b] X.env=[(false,eval b X.env)]:=by rfl)
  (hs2:starEach [.Call (.Name "range" p2) [a,b] [] pos2] X.env=[(false,eval (.Call (.Name "range" p2) [a,b] [] pos2) X.env)]:=by rfl):Ei X K Z tg (.Call (.Name "reversed" p) [.Call (.Name "range" p2) [a,b] [] pos2] [] pos) (iDown2 f g):=by
 refine⟨ha.k,cqI (aIk (tg:=tg) (p:=p) (pos:=pos) hg hm (bM (jX yK hg2 hm2 pF (bM ha.h (bM hb.h cH hs3) (by rw[hs,hs3])) (by decide) (by decide) (by rw[hs,hs3]) (by rw[hs3];rfl)) cH hs2) hs2) ?_⟩
 rintro σ H R ⟨μ,M,L,hr,lr,p⟩
 refine⟨μ,M,L,hr,lr,p.bind.imp λμ1 H1 M1 w e1 hr1 _ p1 v rw'=>?_⟩
 refine⟨μ1,M1,L,hr1,lr.ext hr.lsts e1,p1.bind.imp λμ2 H2 M2 u e2 hr2 _ p2 v2 ru=>?_⟩
 have rw':=rw'.ext hr1.lsts e2
 cases w with
 |ref i=>exact p2.elim
 |ob _ _=>exact p2.elim
 |nest _=>exact p2.elim
 |d x=>cases x with
  |int i=>cases u with
   |ref j=>exact p2.elim
   |ob _ _=>exact p2.elim
   |nest _=>exact p2.elim
   |d y=>cases y with
    |int j =>
     simp only at p2
     split at p2
     ·rename_i hz
      simp only[Rw,Rp]at rw' ru
      subst rw' ru
      refine⟨i,j,rfl,λq hq=>⟨q,i,j,rfl,bE,hz.1,hz.2.1,by simpa using hz.2.2,?_⟩⟩
      exact p2 μ2 _ (eF hr2 hq) (hr2.lay hq) _ aLm
     ·exact p2.elim
    |_=>exact p2.elim
  |_=>exact p2.elim
end
section
variable{M:Mm}{g:FE}
theorem aEu(h:Okx EX (f L M) λx M1=>∃i:Int,x=.d (.int i)/\Okx EX (g L M1) λy M2=>∃j:Int,y=.d (.int j)/\0<=i/\i<=j/\j < 4611686018427387904/\QI ⟨downE j (j - i).toNat,none⟩ M2):Okx EX (iDown2 f g L M) QI :=
 aV (h.mono λx M1 ⟨i,e,h2⟩=>aV (h2.mono λy M2 ⟨j,e',h0,h1,h3,q⟩=>by subst e;subst e';simp only;rw[aAI ⟨h0,h1,h3⟩];exact aU q))
end
end EV
end
namespace EV
open PySem
variable{EX:D->Mm->Prop}{M:Mm}{gg:FG}{Q:W->Mm->Prop}
theorem Okx.self{o:Oc α}{Q:α->Mm->Prop}(h:Okx EX o Q):Okx EX o λa M=>o=.ok a M/\Q a M:=by
 unfold Okx at h ⊢
 cases o with
 |ok a M=>exact⟨rfl,h⟩
 |ex x M=>exact h
 |bad=>exact h
theorem Chk.app{s:Src}{J:Mm}(h:Chk s M):Chk s (M++J):=λt e=>by
 have:=h t e
 cases t with
 |one t =>
  show(M++J)[t]?=_
  rw[aAT (aAD.mp this).1]
  exact this
 |two t ys =>
  show(M++J)[t]?=_
  rw[aAT (aAD.mp this).1]
  exact this
theorem aGx(h:Okx EX (fi L M) λs M1=>∃g:D->D,s.ds.length<=16777216/\Chk s M1/\(∀d∈s.ds,∀acc,Ok (f (some (.d d)::outL js L) (M1++[acc])) λw M'=>w=.d (g d)/\M'=M1++[acc])/\Q (.d (.lst (s.ds.map g))) M1):Okx EX (eComp (none::js) fi (gN 0) tYes f L M) Q:=by
 refine fD (λi acc L' M'=>∃s M1 g,fi L M=.ok s M1/\(s.ds.length<=16777216/\Chk s M1/\(∀d∈s.ds,∀acc,Ok (f (some (.d d)::outL js L) (M1++[acc])) λw M'=>w=.d (g d)/\M'=M1++[acc])/\Q (.d (.lst (s.ds.map g))) M1)/\acc=(s.ds.take i).map g/\M'=M1/\∃a,L'=a::outL js L) (h.self.mono ?_)
 rintro s M1 ⟨e,g,hz,hc,hf,q⟩
 refine⟨⟨s,M1,g,e,⟨hz,hc,hf,q⟩,rfl,rfl,none,rfl⟩,?_,hz,?_,?_⟩
 ·rintro i acc L' M' hi ⟨s',M1',g',e',_,rfl,rfl,_⟩
  rw[e]at e'
  cases e'
  exact⟨rfl,hc.app,by simp;lia⟩
 ·rintro i d acc L' M' hd ⟨s',M1',g',e',⟨_,_,hf',q'⟩,rfl,rfl,a,rfl⟩
  rw[e]at e'
  cases e'
  refine pG (aU ⟨λ_=>(hf' d (aBM hd) _).mono ?_,λh=>by cases h⟩)
  rintro _ _ ⟨rfl,rfl⟩
  refine⟨_,_,rfl,rfl,s,_,g',e,⟨hz,hc,hf',q'⟩,?_,rfl,_,rfl⟩
  rw[aDO,hd];simp
 ·rintro acc L' M' ⟨s',M1',g',e',⟨_,_,_,q'⟩,rfl,rfl,_⟩
  rw[e]at e'
  cases e'
  rw[aAS]
  exact q'
end EV
section
open PySem PySem.Spec PyProof.Rows
namespace EV
open L2
variable{K:Frag}{EX:D->Mm->Prop}{M:Mm}{Q:W->Mm->Prop}
end EV
namespace L2
variable{e st:Expr}{ts:TO}
end L2
namespace EV
open L2
variable{K:Frag}{e st:Expr}{fs:FO}{EX:D->Mm->Prop}{M:Mm}{Q:W->Mm->Prop}
end EV
end
namespace EV
open PySem
end EV
section
open PySem PySem.Spec PyProof.Rows
namespace L2
variable{o i:Expr}{to ti:TE}
end L2
namespace EV
open L2
variable{K:Frag}{o i:Expr}{fi:FE}{EX:D->Mm->Prop}{M:Mm}{Q:Out->Mm->Prop}
end EV
namespace L2
variable{prog:Program}{E:Value->Shared->Prop}{o:Expr}{lo hi:Option Expr}{to:TE}{tl th:TO}
end L2
namespace EV
open L2
variable{K:Frag}{o:Expr}{lo hi:Option Expr}{fl fh:FO}{EX:D->Mm->Prop}{M:Mm}
end EV
namespace L2
variable{tg:Expr}
end L2
namespace EV
open L2
variable{EX:D->Mm->Prop}{K:Frag}{a b c tg:Expr}{fb:FE}{M:Mm}
end EV
end
namespace HT
open PySem PyProof.Rows
noncomputable def RcLt(A:Around)(s:Shared)(v w:Value)(r:Bool):Prop:=∀(prog:Program) (wo:World) (E:Value->Shared->Prop) (Q:Value->Shared->Prop),Q (.bool r) s->wpAny (model prog wo) A (richCompare .Lt v w) Q E s
inductive LtOk(A:Around)(s:Shared):List Value->List Value->Bool->Prop where
 |nn:LtOk A s [] [] false
 |nc {w ws:_}:LtOk A s [] (w::ws) true
 |cn {v vs:_}:LtOk A s (v::vs) [] false
 |eq {v w vs ws r:_}:SeqAt.EqAt A s v w true->LtOk A s vs ws r->LtOk A s (v::vs) (w::ws) r
 |ne {v w vs ws r:_}:SeqAt.EqAt A s v w false->RcLt A s v w r->LtOk A s (v::vs) (w::ws) r
section
open PySem.SeqAt
open PySem.AutoSeq1 (wpAny_loadPart')
open PySem.MeetsSeq PySem.MeetsSeq2 PySem.MeetsSeq3
end
variable{prog:Program}{E:Value->Shared->Prop}
end HT
section
open PySem PySem.Spec PyProof.Rows
namespace EV
open L2
variable{K:Frag}
noncomputable def ltE(x y:D):Option Bool:=match x,y with
 |.int a,.int b=>some (decide (a < b))
 |.bl a,.bl b=>some (decide (b2i a < b2i b))
 |.tup xs,.tup ys=>match intsOf xs,intsOf ys with
  |some ns,some ms=>some (HT.lexLt ns ms)
  |_,_=>none
 |_,_=>none
noncomputable def ltT:List D->List D->Option Bool
 |[],[]=>some false
 |[],_::_=>some true
 |_::_,[]=>some false
 |x::xs,y::ys=>if eqD x y=true then ltT xs ys else ltE x y
variable{EX:D->Mm->Prop}{M:Mm}{Q:W->Mm->Prop}
end EV
set_option maxHeartbeats 4000000
end
namespace L2
open PySem PySem.W PyProof.Rows
structure Lin(lt:Nat->Nat->Bool)(n:Nat):Prop where
 tot:∀i j,i < n->j < n->i≠j->lt i j=!lt j i
 tr:∀i j k,i < n->j < n->k < n->lt i j=true->lt j k=true->lt i k=true
structure PPm(n:Nat)(p:Array Nat):Prop where
 sz:p.size=n
 pm:p.toList.Perm (List.range n)
section
variable{lt:Nat->Nat->Bool}{n:Nat}{p:Array Nat}
end
end L2
section
open PySem PySem.Spec PyProof.Rows
namespace L2
open PySem.W
section
variable{prog:Program}{E:Value->Shared->Prop}{lt:Nat->Nat->Bool}
end
end L2
namespace EV
open L2 PySem.W
variable{prog:Program}
noncomputable def tl:D->List D
 |.tup xs=>xs
 |_=>[]
noncomputable def tLt(xs:List D)(i j:Nat):Bool:=ltT (tl (xs.getD i .non)) (tl (xs.getD j .non))==some true
structure TS(xs:List D):Prop where
 l2:2<=xs.length
 l64:xs.length < 64
 it:∀x∈xs,∃ys zs,x=.tup (.tup ys::zs)/\deps (.tup ys::zs)<=50
 so:∀i j,i < xs.length->j < xs.length->ltT (tl (xs.getD i .non)) (tl (xs.getD j .non))≠none
 lin:Lin (tLt xs) xs.length
variable{K:Frag}{EX:D->Mm->Prop}{M:Mm}{Q:W->Mm->Prop}{x:W}
end EV
namespace EV
open L2
variable{K:Frag}{o:Expr}{EX:D->Mm->Prop}{M:Mm}{Q:W->Mm->Prop}
end EV
set_option maxHeartbeats 1000000
namespace L2
open AutoSeq1 (wpAny_loadPart')
variable{prog:Program}{E:Value->Shared->Prop}
end L2
namespace L2
variable{prog:Program}{E:Value->Shared->Prop}
end L2
set_option maxHeartbeats 4000000
namespace L2
end L2
namespace EV
open L2
section
variable{K:Frag}{a b:Expr}{g:FE}{EX:D->Mm->Prop}{M:Mm}
end
variable{K:Frag}
theorem aNl{fa:Addr}{k:Nat}(hf:FunG K x qual st fa fd)(S:FnScope N ps (defScope st))
  (hb:∀(cdv:Value) (A:Around) (outer:List Env) (s:Shared) (H:Hp) (E:XK),Room k (A.deeper (envOfC qual (defScope st) s.heap.objs.size fa cdv))->Ess (cxOf CX0 P w K mg base N qual (defScope st) fa cdv A outer s H E).nox K Z0 (defBody st) F) :
  FnOk P w K mg base CX0 (k+1) fa fd ps (spF K Z0 ps.length (fnD ps.length N.length F)):=by
 obtain⟨oc,od,dV,kV,doc,pm,an,cdv,ct,osl,rfl,lk,hcd⟩:=hf.ex
 refine aCl lk hcd S (λvs H Q E h=>h.1) λA outer s H vs Q E hr hsp=>⟨_,(hb cdv A outer s H E hr).h.nox,?_⟩
 obtain⟨hv,μ,M,ws,hr,rx,p⟩:=hsp
 refine⟨μ,M,_,hr,sM rx,?_⟩
 unfold fnD at p
 rw[aAI (by rw[rx.length];exact hv)]at p
 cases q:F (ws.map some++List.replicate (N.length - ws.length) none) M with
 |bad=>rw[q]at p;exact p
 |ex z M'=>rw[q]at p;exact p
 |ok o M' =>
  rw[q]at p
  simp only[eD]at p
  intro μ1 H1 e1 hr1
  have hb:=hr1.back e1
  rw[hr.len]at hb
  cases o with
  |nx L'=>exact λσ' lr'=>p μ H1 e1.back hb _ (by simp[Rw,Rp])
  |bk L'=>exact p.elim
  |ct L'=>exact p.elim
  |rt w =>
   intro v rv
   have hsub:∀a,a∈μ->a∈μ1:=λa ha=>by rw[<- e1.take]at ha;exact aBZ ha
   cases w with
   |ob c i=>exact kH hr e1 hr1 (.inl ⟨_,_,rfl⟩) rv p
   |nest c=>exact kH hr e1 hr1 (.inr ⟨_,rfl⟩) rv p
   |d x=>exact p μ H1 e1.back hb v (Rp.sub hsub x v rv)
   |ref i =>
    simp only[retc]at p
    split at p
    ·rename_i hi
     obtain⟨a,qa,rfl,il⟩:=rv
     refine p μ H1 e1.back hb _ ⟨a,?_,rfl,il⟩
     rw[<- hr.len]at hi
     have:=e1.pre i μ[i] (by simp[hi])
     rw[qa]at this;cases this
     simp[hi]
    ·rename_i hi
     cases q2:M'[i]? with
     |none=>simp only[q2]at p;exact p.elim
     |some ds =>
      simp only[q2]at p
      obtain⟨a,qa,rfl,il⟩:=rv
      obtain⟨a',vs',qa',h1,r1⟩:=hr1.at q2 qa
      rw[qa]at qa';cases qa'
      refine p μ H1 e1.back hb _ ?_
      simp only[Rw,Rp]
      refine⟨a,vs',rfl,h1,λha=>?_,Rps.sub hsub _ _ r1⟩
      obtain⟨j,hj,ej⟩:=aFP.mp ha
      have h2:=e1.pre j a (by rw[<- ej];simp[hj])
      have l1:=(aAD.mp qa).1
      have l2:=(aAD.mp h2).1
      have g1:=(aAD.mp qa).2
      have g2:=(aAD.mp h2).2
      have pw:=aDI.mp hr1.nd
      rw[hr.len]at hj
      exact pw j i l2 l1 (by lia) (g2.trans g1.symm)
end EV
namespace L2
variable{prog:Program}{E:Value->Shared->Prop}
end L2
namespace EV
open L2
variable{K:Frag}{e:Expr}{EX:D->Mm->Prop}{M:Mm}
end EV
set_option maxHeartbeats 4000000
namespace L2
noncomputable def nR3(a b c:Int):Nat:=(if a < b then(b - a - 1) / c+1 else 0).toNat
noncomputable def r3(a b c:Int):List Int:=(List.range (nR3 a b c)).map λi=>a+(i:Nat)*c
variable{a b c:Expr}{ta:TA}
end L2
namespace EV
open L2
variable{EX:D->Mm->Prop}{K:Frag}{a b c:Expr}{fb:FE}{M:Mm}{Q:W->Mm->Prop}
end EV
namespace EV
open L2
variable{K:Frag}{e:Expr}{es:List Expr}{fs:FA}
end EV
set_option maxHeartbeats 4000000
namespace EV
open L2
variable{K:Frag}{e a b o:Expr}{es:List Expr}{fb:FE}{fs:FA}
section
variable{Q:W->Mm->Prop}{M:Mm}{g:FE}{x y:W}
end
variable{K:Frag}{tg:Expr}{K:Frag}{f:Str}
structure OCl(K:Frag)(c:Str)(C:Addr):Prop where
 nm:nsIn K mainGlobals c=some (some (.ref C))
 cl:Cls K C
 nd:c≠"dict"/\c≠"dictK"
variable{K:Frag}{f:FE}
section
variable{Q:W->Mm->Prop}{M:Mm}{g fv:FE}{F:Fn}{c m:Str}{i:Nat}{ds:List D}{x:D}
end
end EV
set_option maxHeartbeats 4000000
namespace L2
section
variable(P:Program)(w:World)
end
variable{a:Addr}{o:HO}{x e:Addr}{o':HO}
section
variable{fs fs' ex ex':List Addr}{h1 h2:Heap}
end
variable{σ:List (Option V)}
section
variable{a b:Expr}{tA tB':TT}{rest:List Expr}
end
variable{σ:St}{xs ys:List V}{E:Value->Shared->Prop}
section
variable{rest:List Stmt}{t u:TS}{e:Expr}
end
variable{tg:Expr}{a b c:Expr}{tc:TE}{prog:Program}{K:Frag}{f:Addr}{v:Value}
section
variable{a:Addr}{fs fs':List (Str×V)}
end
section
variable{a:Addr}{fs:List (Str×V)}{f:Str}{v:V}
end
variable{o e value:Expr}{f:Str}{tv:TE}{c:Value}{b:Bool}
section
variable{es:List Expr}{t:TA}
end
section
variable{k:Nat}{f:Addr}{dvs:List V}{ds:List Value}{E:XK}{x m:Str}{es:List Expr}{t:TA}
end
section
variable{k:Nat}{f:Addr}{ks:List Str}{E:XK}{x m:Str}{kpos:Pos}{es:List Expr}{kws:List Keyword}{t tk:TA}{nm:Option Str}{g:List Value->List Value->List Value}{gV:List V->List V->List V}
end
section
variable{x:Str}{es:List Expr}{t:TA}{id T:String}
end
section
variable{κ:Type}[DecidableEq κ]
noncomputable section
def valV(kvs:List (κ×V))(k:κ):Option V:=(kvs.find? λkv=>decide (kv.1=k)).map (·.2)
def putK(kvs:List (κ×V))(k:κ)(v:V):List (κ×V) :=
 if(kvs.any λkv=>decide (kv.1=k))=true then kvs.map (λkv=>if kv.1=k then(kv.1,v)else kv)else kvs++[(k,v)]
def dropK(kvs:List (κ×V))(k:κ):List (κ×V):=kvs.filter λkv=>decide (kv.1≠k)
end
theorem xS{p:κ×V}{r:List (κ×V)}{k:κ}(e:p.1=k):valV (p::r) k=some p.2:=by simp[valV,aFB,e]
theorem zN{p:κ×V}{r:List (κ×V)}{k:κ}(e:¬p.1=k):valV (p::r) k=valV r k:=by simp[valV,aFB,e]
theorem RelO.getD{o:Option V}{u:Option Value}{d:V}{d':Value}(r:RelO o u)(rd:RelV d d'):RelV (o.getD d) (u.getD d'):=by
 cases o with
 |none=>cases u with
  |none=>exact rd
  |some _=>exact(show False from r).elim
 |some _=>cases u with
  |none=>exact(show False from r).elim
  |some _=>exact r
theorem KV.val{kvs:List (κ×V)}{vs:List (κ×Value)}(r:KV kvs vs)(k:κ):RelO (valV kvs k) (valueAt vs k):=by
 unfold KV at r
 induction r with
 |nil=>exact True.intro
 |@cons p q ps qs h t ih =>
  obtain⟨h1,h2⟩:=h
  by_cases e:p.1=k
  ·have e':q.1=k:=h1.symm.trans e
   have b:valueAt (q::qs) k=some q.2:=by simp[valueAt,aFB,e']
   rw[xS e,b];exact h2
  ·have e':¬q.1=k:=λz=>e (h1.trans z)
   have b:valueAt (q::qs) k=valueAt qs k:=by simp[valueAt,aFB,e']
   rw[zN e,b];exact ih
theorem KV.any{kvs:List (κ×V)}{vs:List (κ×Value)}(r:KV kvs vs)(k:κ):(kvs.any λkv=>decide (kv.1=k))=vs.any λkv=>decide (kv.1=k):=by
 unfold KV at r
 induction r with
 |nil=>rfl
 |cons h t ih=>rw[aEW,aEW,ih,h.1]
theorem KV.drop{kvs:List (κ×V)}{vs:List (κ×Value)}(r:KV kvs vs)(k:κ):KV (dropK kvs k) (without vs k):=by
 unfold KV at r ⊢
 unfold dropK without
 induction r with
 |nil=>exact .nil
 |@cons p q ps qs h t ih =>
  obtain⟨h1,h2⟩:=h
  rw[List.filter_cons,List.filter_cons]
  by_cases e:p.1=k
  ·have a:¬decide (p.1≠k)=true:=by simp[e]
   have b:¬decide (q.1≠k)=true:=by simp[h1.symm.trans e]
   rw[aAL a,aAL b];exact ih
  ·have e':¬q.1=k:=λz=>e (h1.trans z)
   have a:decide (p.1≠k)=true:=by simp[e]
   have b:decide (q.1≠k)=true:=by simp[e']
   rw[aAI a,aAI b];exact .cons ⟨h1,h2⟩ ih
theorem KV.length{kvs:List (κ×V)}{vs:List (κ×Value)}(r:KV kvs vs):kvs.length=vs.length:=Paired.length r
end
noncomputable abbrev KT(H:Hp):List (List Key×V)->List (List Key×Addr×Value)->Prop:=Paired λp q=>p.1=q.1/\H q.2.1=some (.tup (p.1.map kV))/\RelV p.2 q.2.2
variable{kvs:List (List Key×V)}
theorem KT.val{xs:List (List Key×Addr×Value)}(r:KT H kvs xs)(k:List Key):RelO (valV kvs k) ((atKey xs k).map (·.2)):=by
 induction r with
 |nil=>exact True.intro
 |@cons p q ps qs h t ih =>
  obtain⟨h1,_,h2⟩:=h
  by_cases e:p.1=k
  ·have e':q.1=k:=h1.symm.trans e
   have b:atKey (q::qs) k=some q.2:=by simp[atKey,aFB,e']
   rw[xS e,b];exact h2
  ·have e':¬q.1=k:=λz=>e (h1.trans z)
   have b:atKey (q::qs) k=atKey qs k:=by simp[atKey,aFB,e']
   rw[zN e,b];exact ih
variable{a:Addr}
noncomputable def DGet(H:Hp)(a:Addr)(y:V)(r:Option V):Prop :=
 (∃kvs k,Rd H a (.dK kvs)/\y=kV k/\r=valV kvs k)\/∃kvs k b,Rd H a (.dT kvs)/\y=.ref b/\H b=some (.tup (k.map kV))/\r=valV kvs k
noncomputable def DPut(H:Hp)(a:Addr)(y v:V)(H':Hp):Prop :=
 (∃kvs k,H a=some (.dK kvs)/\y=kV k/\kvs.length < sizeLine/\H'=upd H a (.dK (putK kvs k v))) \/
 ∃kvs k b,H a=some (.dT kvs)/\y=.ref b/\H b=some (.tup (k.map kV))/\kvs.length < sizeLine/\H'=upd H a (.dT (putK kvs k v))
theorem DGet.k{H:Hp}{a:Addr}{kvs:List (Key×V)}{k:Key}(e:H a=some (.dK kvs)):DGet H a (kV k) (valV kvs k):=.inl ⟨kvs,k,.inl e,rfl,rfl⟩
theorem DGet.t{b:Addr}{k:List Key}(e:H a=some (.dT kvs))(eb:H b=some (.tup (k.map kV))):DGet H a (.ref b) (valV kvs k):=.inr ⟨kvs,k,b,.inl e,rfl,eb,rfl⟩
theorem DPut.k{H:Hp}{a:Addr}{kvs:List (Key×V)}{k:Key}{v:V}(e:H a=some (.dK kvs))(hl:kvs.length < sizeLine):DPut H a (kV k) v (upd H a (.dK (putK kvs k v))):=.inl ⟨kvs,k,e,rfl,hl,rfl⟩
variable{v:V}
theorem DPut.t{b:Addr}{k:List Key}(e:H a=some (.dT kvs))(eb:H b=some (.tup (k.map kV)))(hl:kvs.length < sizeLine) :
  DPut H a (.ref b) v (upd H a (.dT (putK kvs k v))):=.inr ⟨kvs,k,b,e,rfl,eb,hl,rfl⟩
variable{y:V}{r:Value}{o:Option V}
section
variable{kvs:List (Key×V)}{k:Key}
end
variable{o i:Expr}{td ty:TE}
structure M1(X:Cx)(o:Expr)(m:Str)(apos:Pos)(e:Expr)(cpos:Pos):Prop where
 base:attributeBase o m X.env (eval o X.env)=eval o X.env
 few:((backTo cpos (starEach [e] X.env)).all (λx=>!x.1)&&(backToKw cpos (keywordEach [] X.env)).all (λx=>x.1.isSome)
  && decide (([e]:List Expr).length+([]:List Keyword).length+(if([]:List Keyword).isEmpty then 0 else 1) < 30))=true
 line:(apos.endLine==cpos.line)=true
 trees:backTo cpos (starEach [e] X.env)=[(false,eval e X.env)]
structure M2(X:Cx)(o:Expr)(m:Str)(apos:Pos)(e f:Expr)(cpos:Pos):Prop where
 base:attributeBase o m X.env (eval o X.env)=eval o X.env
 few:((backTo cpos (starEach [e,f] X.env)).all (λx=>!x.1)&&(backToKw cpos (keywordEach [] X.env)).all (λx=>x.1.isSome)
  && decide (([e,f]:List Expr).length+([]:List Keyword).length+(if([]:List Keyword).isEmpty then 0 else 1) < 30))=true
 line:(apos.endLine==cpos.line)=true
 trees:backTo cpos (starEach [e,f] X.env)=[(false,eval e X.env),(false,eval f X.env)]
variable{d:V}{o:Option V}{o f:Expr}{tx:TE}{kvs:List (Key×V)}
end L2
end
namespace Att
open PySem PySem.W PySem.Calls PyProof.Rows
variable{prog:Program}{E:Value->Shared->Prop}{K:Frag}
end Att
section
open PySem PySem.Spec PyProof.Rows
namespace L2
variable{K:Frag}
section
variable{κ:Type}[DecidableEq κ]
end
end L2
set_option maxHeartbeats 4000000
namespace EV
open L2
variable{K:Frag}{k:List Key}
theorem SameK.dT{xs ys:List (List Key×V)}:SameK (.dT xs) (.dT ys):=⟨λ_ h=>(nomatch h),λ_ _ _ h=>(nomatch h),λ_ _=>⟨ys,rfl⟩,λ_ h=>(nomatch h)⟩
section
variable{K:Frag}{e a b o i:Expr}{fi fv:FE}
end
variable{K:Frag}{K:Frag}{o i:Expr}{fi:FE}
section
variable{Q:W->Mm->Prop}{M:Mm}{fv:FE}
end
end EV
namespace L2
noncomputable abbrev TJ:=Str->St->Hp->(Str->Hp->Prop)->Prop
noncomputable def PJ(X:Cx)(es:List Expr)(t:TJ):Prop :=
 ∀(pins:List (Addr×Obj)) (s:Shared) (σ:St) (H:Hp) (acc:Str) (Q:Str->Hp->Prop),Inv X pins σ H s->t acc σ H Q ->
  wpAny (model X.prog X.w) X.A (joinParts acc (evalEach es X.env)) (EP X pins σ λv H'=>∃out,v=.str out/\Q out H') X.xe s
section
variable{e:Expr}{es:List Expr}{t:TJ}
end
end L2
namespace EV
open L2
section
variable{K:Frag}{e o:Expr}{es:List Expr}
noncomputable abbrev FJ:=Str->Lc->Mm->Oc Str
noncomputable def liftJ(K:Frag)(Z:Zt)(f:FJ):TJ:=λacc σ H Q=>∃μ M L,HR K μ H M/\LR K μ H L σ/\Pst K Z μ H (f acc L M) λμ' H' _ out=>Q out H'
structure Ej(X:Cx)(K:Frag)(Z:Zt)(es:List Expr)(f:FJ):Prop where
 k:X.K=K
 h:PJ X es (liftJ K Z f)
variable{g:FJ}
end
end EV
namespace L2
noncomputable abbrev Tbl:=List (Str×Str)
variable{σ:St}{d:Addr}{tb:Tbl}{i:Expr}{ti:TE}
end L2
namespace EV
open L2
variable{K:Frag}{i:Expr}{fi:FE}{d:Addr}{tb:Tbl}
end EV
namespace L2
variable{prog:Program}{E:Value->Shared->Prop}{e st:Expr}{ts:TO}
end L2
namespace EV
open L2
variable{K:Frag}{e st:Expr}{fs:FO}
noncomputable abbrev T(l:List Nat):Str:=⟨l.toArray⟩
variable{K:Frag}
section
variable{Q:W->Mm->Prop}{QJ:Str->Mm->Prop}{M:Mm}{g:FE}{fl fh:FO}{j:FJ}
end
end EV
namespace LS
open L2 EV
open PySem.NumText
noncomputable section
def isF(c:Nat):Bool:=decide (48<=c/\c<=57)
def dig(n:Nat):List Nat:=(Nat.toDigits 10 n).map Char.toNat
def num?(most:Nat)(ds:List Nat):Option Nat:=if ds=[]\/most < ds.length\/¬ds.all isF\/(ds.head?=some 48/\1 < ds.length)then none else some (digitsVal ds)
def sg:Wd->List Nat
 |.sum=>[32,43,32]
 |.less=>[32,45,32]
 |.times=>[32,42,32]
def txt:E->List Nat
 |.num c=>dig c.toNat
 |.giv i=>120::dig i
 |.op w a b=>40::(txt a++(sg w++(txt b++[41])))
def wd?(s:List Nat):Option Wd:=if s=[32,43,32]then some .sum else if s=[32,45,32]then some .less else if s=[32,42,32]then some .times else none
def rdG(s:List Nat):Option (E×List Nat):=match num? 1 (s.takeWhile isF)with
 |some n=>if n<=7 then some (.giv n,s.dropWhile isF)else none
 |none=>none
def rdN(s:List Nat):Option (E×List Nat):=match num? 6 (s.takeWhile isF)with
 |some n=>some (.num n,s.dropWhile isF)
 |none=>none
def rdP(r:List Nat->Option (E×List Nat))(s:List Nat):Option (E×List Nat):=match r s with
 |some (a,s1)=>match wd? (s1.take 3)with
  |some w=>match r (s1.drop 3)with
   |some (b,s2)=>if s2.take 1=[41]then some (.op w a b,s2.drop 1)else none
   |none=>none
  |none=>none
 |none=>none
def rd:Nat->List Nat->Option (E×List Nat)
 |k,s=>if s.take 1=[40]then(match k with
   |0=>none
   |k+1=>rdP (rd k) (s.drop 1))
  else if s.take 1=[120]then rdG (s.drop 1)else rdN s
def calm(s:List Nat):Prop:=∀c,s.head?=some c->isF c=false
end
end LS
end
namespace LS
open PySem L2 EV
end LS
section
open PySem PySem.Spec PyProof.Rows
namespace L2
variable{tg l:Expr}{tl:TE}
end L2
namespace EV
open L2
variable{K:Frag}{e tg:Expr}{M:Mm}{K:Frag}
end EV
namespace LS
open L2 EV
open PySem.NumText
end LS
namespace L2
end L2
namespace EV
open L2
variable{K:Frag}{M:Mm}
end EV
namespace LS
open L2 EV
noncomputable def bal(s:List Nat):Int:=(s.count 40:Int) - (s.count 41:Int)
noncomputable def Bd(k:Int)(s:List Nat):Prop:=∀n,bal (s.take n)<=k
theorem Bd.none{s:List Nat}(h:Bd 0 s):¬s.take 1=[40]:=λe=>by have:=h 1;rw[e]at this;exact absurd this (by decide)
end LS
namespace L2
noncomputable def two(a:Nat)(xs:List α):List α:=(List.range ((xs.length+1 - a) / 2)).filterMap λk=>xs[a+2*k]?
variable{e lo st:Expr}{tl ts:TO}
end L2
namespace EV
open L2
variable{K:Frag}{e o lo st:Expr}{fl fs:FO}{Q:W->Mm->Prop}{M:Mm}
end EV
set_option maxHeartbeats 1000000
namespace L2
open AutoSeq1 (wpAny_loadPart')
variable{prog:Program}{E:Value->Shared->Prop}
end L2
namespace EV
open L2
section
variable{K:Frag}{a b:Expr}{g:FE}{EX:D->Mm->Prop}{M:Mm}
end
end EV
set_option maxHeartbeats 4000000
namespace LS
open L2 EV
open PySem.NumText
noncomputable section
def joinL(c:Nat):List (List Nat)->List Nat
 |[]=>[]
 |[w]=>w
 |w::r=>w++c::joinL c r
def spl(c:Nat):List Nat->List (List Nat)
 |[]=>[[]]
 |x::r=>if x=c then[]::spl c r else match spl c r with
  |[]=>[[x]]
  |w::ws=>(x::w)::ws
def nb(c:Nat)(w:List Nat):Option Nat:=if w.head?=some c then num? 7 (w.drop 1)else none
def hx(w:List Nat):Bool:=decide (w.head?=some 120)
def wRest:List Nat:=[114,101,115,116]
def wGivens:List Nat:=[103,105,118,101,110,115]
def wShelves:List Nat:=[115,104,101,108,118,101,115]
def xw(g:Nat):List Nat:=120::dig g
def sw(s:Nat):List Nat:=115::dig s
def dw:Dd->List (List Nat)
 |.add s c gs ts=>sw s::[43]::dig c.toNat::(gs.map xw++ts.map sw)
 |.scale s u=>[sw s,[42],dig u.toNat]
def hw(n g s:Nat):List (List Nat):=[wRest,dig n,wGivens,dig g,wShelves,dig s]
def row(d:Dd):List Nat:=joinL 32 (dw d)
def headR(n g s:Nat):List Nat:=joinL 32 (hw n g s)
def prog(n g s:Nat)(ds:List Dd):List Nat:=joinL 10 (headR n g s::ds.map row)
end
end LS
namespace L2
end L2
namespace EV
open L2
variable{K:Frag}{o e:Expr}{Q:W->Mm->Prop}{M:Mm}
end EV
namespace L2
end L2
namespace EV
open L2
variable{K:Frag}{o e:Expr}{Q:W->Mm->Prop}{M:Mm}
end EV
namespace L2
variable{prog:Program}{E:Value->Shared->Prop}
section
variable{κ:Type}[DecidableEq κ]{knd:KeyKind prog w κ}{R:Result->Shared->Prop}
inductive PairsAt(knd:KeyKind prog w κ)(h:Heap):List Value->List (κ×Value)->Prop
 |nil:PairsAt knd h [] []
 |cons {b:Addr} {key v:Value} {k:κ} {xs:List Value} {kvs:List (κ×Value)} (hb:h.IsTuple b #[key,v]) (hk:knd.is k key=true) (r:PairsAt knd h xs kvs):PairsAt knd h (.ref b::xs) ((k,v)::kvs)
end
end L2
namespace EV
open L2
variable{EX:D->Mm->Prop}{K:Frag}{k:Key}{K:Frag}{e a o i:Expr}{fi:FE}{M:Mm}{Q:W->Mm->Prop}
end EV
namespace EV
open L2
variable{K:Frag}{es:List Expr}{fs:FA}{Q:W->Mm->Prop}{M:Mm}
end EV
end
namespace TS
open PySem PyProof.Rows
structure Ask(M:Model)(A:Around)(E:Value->Shared->Prop)(s:Shared)(κ:SortKind)(ky:Keyed->Int)(S:Keyed->Prop):Prop where
 lt:∀(st:SortSt) (x y:Keyed) (Q:Option Bool->SortSt->Prop),kindOf st=κ->S x->S y->Q (some (decide (ky x < ky y))) st->wpS M A E s (lt' x y) Q st
variable{M:Model}{E:Value->Shared->Prop}
noncomputable def bey(left:Bool)(key:Keyed)(arr:Array Keyed)(i:Nat):StateT SortSt Sem (Option Bool):=do
 let x <- elem' arr i
 if left then lt' x key else return(<- lt' key x).map (!·)
structure MI(ky:Keyed->Int)(full out ra rb:List Keyed):Prop where
 pm:(out++ra++rb).Perm full
 so:out.Pairwise λx y=>ky x<=ky y
 sa:ra.Pairwise λx y=>ky x<=ky y
 sb:rb.Pairwise λx y=>ky x<=ky y
 ba:∀x∈out,∀y∈ra,ky x<=ky y
 bb:∀x∈out,∀y∈rb,ky x<=ky y
variable{full out ra rb:List Keyed}
theorem MI.swap(m:MI ky full out ra rb):MI ky full out rb ra :=
 ⟨(by rw[aEJ];exact(List.Perm.append_left out List.perm_append_comm).trans (by rw[<- aEJ];exact m.pm)),m.so,m.sb,m.sa,m.bb,m.ba⟩
theorem MI.a{u:List Keyed}(m:MI ky full out (u++ra) rb)(h:∀x∈u,∀y∈rb,ky x<=ky y):MI ky full (out++u) ra rb:=by
 obtain⟨s1,s2,s3⟩:=List.pairwise_append.mp m.sa
 refine⟨by simpa[aEJ]using m.pm,List.pairwise_append.mpr ⟨m.so,s1,λx hx y hy=>m.ba x hx y (by simp[hy])⟩,s2,m.sb,λx hx y hy=>?_,λx hx y hy=>?_⟩
 ·rcases aAX.mp hx with hx|hx
  ·exact m.ba x hx y (by simp[hy])
  ·exact s3 x hx y hy
 ·rcases aAX.mp hx with hx|hx
  ·exact m.bb x hx y hy
  ·exact h x hx y hy
theorem MI.b{u:List Keyed}(m:MI ky full out ra (u++rb))(h:∀x∈u,∀y∈ra,ky x<=ky y):MI ky full (out++u) ra rb:=(m.swap.a h).swap
noncomputable def Done(ky:Keyed->Int)(full res:List Keyed):Prop:=res.Perm full/\res.Pairwise λx y=>ky x<=ky y
theorem MI.done(m:MI ky full out ra rb)(h:∀x∈ra,∀y∈rb,ky x<=ky y):Done ky full (out++ra++rb):=by
 have m1:=MI.a (ra:=[]) (u:=ra) (by simpa using m) h
 have m2:=MI.b (rb:=[]) (u:=rb) (by simpa using m1) (by simp)
 exact⟨by simpa using m2.pm,m2.so⟩
section
structure Same(st st':SortSt):Prop where
 k:kindOf st'=kindOf st
 a:arrOf st'=arrOf st
 p:pendingOf st'=pendingOf st
 f:failedOf st'=failedOf st
structure Two(ky:Keyed->Int)(S:Keyed->Prop)(a b:Array Keyed):Prop where
 a0:0 < a.size
 b0:0 < b.size
 sa:a.toList.Pairwise λx y=>ky x<=ky y
 sb:b.toList.Pairwise λx y=>ky x<=ky y
 first:ky b[0]<=ky a[0]
 last:∀y∈b.toList,ky y<=ky a[a.size - 1]
 ina:∀x∈a.toList,S x
 inb:∀x∈b.toList,S x
variable{a b:Array Keyed}
end
end TS
namespace TS
open PySem PyProof.Rows
noncomputable abbrev RS7:=Option (Array Keyed)×Array Keyed×Nat×Nat×Nat×Nat×Nat
section
variable{M:Model}{E:Value->Shared->Prop}{a b:Array Keyed}
structure LI(ky:Keyed->Int)(a b out:Array Keyed)(ia ib:Nat):Prop where
 ha:ia+1 < a.size
 hb:ib < b.size
 m:MI ky (a.toList++b.toList) out.toList (a.toList.drop ia) (b.toList.drop ib)
noncomputable def Rq(ky:Keyed->Int)(a b:Array Keyed)(st0:SortSt)(p:Nat):ForInStep RS7->SortSt->Prop
 |.done c,st=>Same st0 st/\((∃res,c.1=some res/\Done ky (a.toList++b.toList) res.toList)\/(c.1=none/\LI ky a b c.2.1 c.2.2.1 c.2.2.2.1/\p < c.2.2.1+c.2.2.2.1))
 |.yield c,st=>Same st0 st/\c.1=none/\LI ky a b c.2.1 c.2.2.1 c.2.2.2.1/\p < c.2.2.1+c.2.2.2.1
end
noncomputable abbrev FB(a b out:Array Keyed)(na nb:Nat):Array Keyed:=b.extract 0 nb++a.extract 0 na++out.reverse
section
variable{M:Model}{E:Value->Shared->Prop}{a b:Array Keyed}
noncomputable abbrev MH(ky:Keyed->Int)(a b out:Array Keyed)(na nb:Nat):Prop:=MI (λx => - ky x) (a.toList++b.toList) out.toList (a.toList.take na).reverse (b.toList.take nb).reverse
structure LH(ky:Keyed->Int)(a b out:Array Keyed)(na nb:Nat):Prop where
 ha:0 < na
 hal:na<=a.size
 hb:1 < nb
 hbl:nb<=b.size
 m:MH ky a b out na nb
end
section
variable{M:Model}{E:Value->Shared->Prop}{a b:Array Keyed}
noncomputable def K'(ky:Keyed->Int)(xs:Array Keyed)(i:Nat):Int:=match xs[i]? with|some p=>ky p|none=>0
noncomputable def SG(ky:Keyed->Int)(xs:Array Keyed)(l h:Nat):Prop:=∀i j,l<=i->i<=j->j < h->K' ky xs i<=K' ky xs j
end
structure RS(κ:SortKind)(lo hi:Nat)(st0 st:SortSt):Prop where
 k:kindOf st=κ
 f:failedOf st=none
 pm:(arrOf st).Perm (arrOf st0)
 pd:pendingOf st=pendingOf st0
 out:∀k,k < lo\/hi<=k->(arrOf st)[k]?=(arrOf st0)[k]?
variable{M:Model}{E:Value->Shared->Prop}{st0 st:SortSt}{lo hi nrem:Nat}{a₀:Array Keyed}
noncomputable def Segs(ky:Keyed->Int)(xs:Array Keyed):List (Nat×Nat×Nat)->Nat->Nat->Prop
 |[],l,h=>l=h
 |(t,n,_)::r,l,h=>t=l/\0 < n/\SG ky xs l (l+n)/\Segs ky xs r (l+n) h
structure SI(ky:Keyed->Int)(κ:SortKind)(a₀:Array Keyed)(st:SortSt)(p:List (Nat×Nat×Nat))(h:Nat):Prop where
 k:kindOf st=κ
 f:failedOf st=none
 pm:(arrOf st).Perm a₀
 pd:pendingOf st=p.toArray
 sg:Segs ky (arrOf st) p 0 h
end TS
section
open PySem PySem.Spec PyProof.Rows
namespace L2
open TS
variable{prog:Program}{E:Value->Shared->Prop}
end L2
namespace EV
open L2
variable{K:Frag}{EX:D->Mm->Prop}{M:Mm}{Q:W->Mm->Prop}
structure Dsc where
 py:Str
 st:Stmt
 ps:List Str
 N:List Str
 df:Option Int:=none
structure Sc(D:Dsc):Prop where
 s:FnScope D.N D.ps (defScope D.st)
 b:∀(kV doc pm:Value) (an:Option Addr) (cdv ct:Value) (us:List Value),us.length=D.ps.length->bindArgs (fnOf D.py D.py (defArgs D.st) (defBody D.st) (defScope D.st) .none kV doc pm an cdv ct) ⟨us,[]⟩=pure (D.ps.zip us)
 n:D.df=none
structure ScD(D:Dsc)(i:Int):Prop where
 s:FnScope D.N D.ps (defScope D.st)
 b:∀(tk:Tok) (T:Addr) (kV doc pm:Value) (an:Option Addr) (cdv ct:Value) (us:List Value),us.length=D.ps.length->∃k,bindArgs (fnOf D.py D.py (defArgs D.st) (defBody D.st) (defScope D.st) (.ref T) kV doc pm an cdv ct) ⟨us,[]⟩=seqItems? (.ref T) >>= k/\k (some #[.int i tk])=pure (D.ps.zip us)
 c:∀(tk:Tok) (T:Addr) (kV doc pm:Value) (an:Option Addr) (cdv ct:Value) (us:List Value),us.length=D.ps.length - 1->∃k,bindArgs (fnOf D.py D.py (defArgs D.st) (defBody D.st) (defScope D.st) (.ref T) kV doc pm an cdv ct) ⟨us,[]⟩=seqItems? (.ref T) >>= k/\k (some #[.int i tk])=pure (D.ps.zip (us++[.int i tk]))
 n:D.df=some i
noncomputable def Dk(K:Frag)(py:Str)(st:Stmt):Prop:=∃(f:Addr) (oc:Value) (od an:Option Addr) (osl:Array (Option Value)) (kV doc pm cdv ct:Value),nsIn K mainGlobals py=some (some (.ref f)) /\
 K.lookup f=some ⟨oc,od,.func (fnOf py py (defArgs st) (defBody st) (defScope st) .none kV doc pm an cdv ct),osl⟩/\codeIn K cdv py=true/\keepIn K (.ref f)=true
theorem Dk.mk{py:Str}{f:Addr}{kV:Value}(a:nsIn K mainGlobals py=some (some (.ref f)))
  (l:K.lookup f=some ⟨oc,od,.func (fnOf py py (defArgs st) (defBody st) (defScope st) .none kV doc pm an cdv ct),osl⟩)(c:codeIn K cdv py=true)(k:keepIn K (.ref f)=true):Dk K py st:=⟨_,_,_,_,_,_,_,_,_,_,a,l,c,k⟩
noncomputable def Dd(K:Frag)(py:Str)(st:Stmt)(i:Int):Prop:=∃(f T:Addr) (oc:Value) (od an:Option Addr) (osl:Array (Option Value)) (kV doc pm cdv ct c:Value) (tk:Tok) (dd:Option Addr) (n:Nat) (sl:Array (Option Value)),nsIn K mainGlobals py=some (some (.ref f)) /\
 K.lookup f=some ⟨oc,od,.func (fnOf py py (defArgs st) (defBody st) (defScope st) (.ref T) kV doc pm an cdv ct),osl⟩/\codeIn K cdv py=true/\keepIn K (.ref f)=true/\K.lookup T=some ⟨c,dd,.seq #[.int i tk] n,sl⟩
structure Hk(K:Frag)(mg:Str->Option Value):Prop where
 ex:∃h:Heap,K.In h/\h.Ns mainGlobals mg
theorem Hk.no(T:Hk K mg)(h:nsIn K mainGlobals x=some none):mg x=none:=by
 obtain⟨h0,X,G⟩:=T.ex
 exact PySem.W.mg_none_of X G h
section
variable{K:Frag}{D:Dsc}{F:Fn}{j k:Nat}
noncomputable def Dy(K:Frag)(mg:Str->Option Value)(D:Dsc):Prop:=∃a d,mg D.py=some (.ref a)/\keepIn K (.ref a)=true/\Binds K d D.ps []/\(∀i,D.df=some i->∃tk,Binds K d D.ps [.int i tk])/\(∃oc od osl,K.lookup a=some ⟨oc,od,.func d,osl⟩) /\
 FunG K D.py D.py D.st a d/\(D.df=none->Fun K D.py D.py D.st a d)
theorem dk(h:Dk K D.py D.st)(T:Hk K mg)(S:Sc D):Dy K mg D:=by
 obtain⟨f,oc,od,an,osl,kV,doc,pm,cdv,ct,a,l,c,k⟩:=h
 obtain⟨h0,X,G⟩:=T.ex
 have m:=aBi l c k
 exact⟨f,_,aCK X G a,k,m.binds S.b,λi z=>(by rw[S.n]at z;cases z),⟨_,_,_,l⟩,m.g,λ_=>m⟩
theorem dd{i:Int}(h:Dd K D.py D.st i)(T:Hk K mg)(S:ScD D i):Dy K mg D:=by
 obtain⟨f,t,oc,od,an,osl,kV,doc,pm,cdv,ct,c,tk,dd,n,sl,a,l,c',k,ht⟩:=h
 obtain⟨h0,X,G⟩:=T.ex
 have m:=aLh l c' ht
 refine⟨f,_,aCK X G a,k,m.binds (S.b tk),λj z=>?_,⟨_,_,_,l⟩,m.g,λz=>(by rw[S.n]at z;cases z)⟩
 rw[S.n]at z;cases z
 exact⟨tk,m.binds1 λT kV doc pm an cdv ct us hl=>S.c tk T kV doc pm an cdv ct us (by simp at hl;lia)⟩
structure Qx(K:Frag)(mg:Str->Option Value)(D:Dsc)(F:Fn)(G:Addr->FuncData->Prop):Prop where
 ex:∃a d,mg D.py=some (.ref a)/\keepIn K (.ref a)=true/\Binds K d D.ps []/\(∀i,D.df=some i->∃tk,Binds K d D.ps [.int i tk])/\(∃oc od osl,K.lookup a=some ⟨oc,od,.func d,osl⟩)/\G a d
 len:∀ws M,ws.length≠D.ps.length->F ws M=.bad
noncomputable section
abbrev Q0(P:Program)(w:World)(K:Frag)(mg:Str->Option Value)(base:Heap)(l:Nat)(D:Dsc)(F:Fn):Prop:=Qx K mg D F λa d=>FnOk P w K mg base CX0 l a d D.ps (spF K Z0 D.ps.length F)
abbrev Q1(P:Program)(w:World)(K:Frag)(mg:Str->Option Value)(base:Heap)(l:Nat)(D:Dsc)(F:Fn):Prop:=Qx K mg D F λa d=>FnOk P w K mg base (CX1 P w) l a d D.ps (spX K D.ps.length F)
abbrev B0(P:Program)(w:World)(K:Frag)(mg:Str->Option Value)(base:Heap)(k:Nat)(D:Dsc)(b:FS):Prop:=∀{fa:Addr} {cdv:Value} {A:Around} {outer:List Env} {s:Shared} {H:Hp} {E:XK},Room k (A.deeper (envOfC D.py (defScope D.st) s.heap.objs.size fa cdv)) ->
 Ess (cxOf CX0 P w K mg base D.N D.py (defScope D.st) fa cdv A outer s H E).nox K Z0 (defBody D.st) b
abbrev B1(P:Program)(w:World)(K:Frag)(mg:Str->Option Value)(base:Heap)(k:Nat)(D:Dsc)(b:FS):Prop:=∀{fa:Addr} {cdv:Value} {A:Around} {outer:List Env} {s:Shared} {H:Hp} {E:XK},Room k (A.deeper (envOfC D.py (defScope D.st) s.heap.objs.size fa cdv))->Xz (cxOf (CX1 P w) P w K mg base D.N D.py (defScope D.st) fa cdv A outer s H E) (wishR E) ->
 Ess (cxOf (CX1 P w) P w K mg base D.N D.py (defScope D.st) fa cdv A outer s H E) K (ZR K (wishR E)) (defBody D.st) b
end
variable{b:FS}
theorem q0(h:Dy K mg D)(S:FnScope D.N D.ps (defScope D.st))(hb:B0 P w K mg base k D b):Q0 P w K mg base (k+1) D (fnD D.ps.length D.N.length b):=by
 obtain⟨a,d,h1,h2,h3,h4,h5,h6,h7⟩:=h
 exact⟨⟨a,d,h1,h2,h3,h4,h5,aNl h6 S λcdv A outer s H E hr=>hb hr⟩,λws M h=>aAL h⟩
theorem q0R(h:Dy K mg D)(S:FnScope D.N D.ps (defScope D.st))(hn:D.df=none)(hb:B0 P w K mg base k D b):Q0 P w K mg base (k+1) D (fnR D.ps.length D.N.length b):=by
 obtain⟨a,d,h1,h2,h3,h4,h5,h6,h7⟩:=h
 exact⟨⟨a,d,h1,h2,h3,h4,h5,aQh (h7 hn) S λcdv A outer s H E hr=>hb hr⟩,λws M h=>aAL h⟩
theorem q1(h:Dy K mg D)(S:FnScope D.N D.ps (defScope D.st))(hb:B1 P w K mg base k D b):Q1 P w K mg base (k+1) D (fnX D.ps.length D.N.length b):=by
 obtain⟨a,d,h1,h2,h3,h4,h5,h6,h7⟩:=h
 exact⟨⟨a,d,h1,h2,h3,h4,h5,aNq h6 S λcdv A outer s H E hr hz=>hb hr hz⟩,λws M h=>aLr h⟩
theorem q0b(h:Dy K mg D):Q0 P w K mg base k D λ_ _=>.bad:=by
 obtain⟨a,d,h1,h2,h3,h4,h5,h6,h7⟩:=h
 exact⟨⟨a,d,h1,h2,h3,h4,h5,aNj rfl⟩,λ_ _ _=>rfl⟩
theorem q1b(h:Dy K mg D):Q1 P w K mg base k D λ_ _=>.bad:=by
 obtain⟨a,d,h1,h2,h3,h4,h5,h6,h7⟩:=h
 exact⟨⟨a,d,h1,h2,h3,h4,h5,aJm rfl⟩,λ_ _ _=>rfl⟩
theorem aKa{fa:Addr}{l:Nat}(h:Dk K D.py D.st)(S:Sc D)(hfa:mg D.py=some (.ref fa))(hps:D.ps=[x])(T:Hk K mg)(H:∀base:Heap,Qx K mg D F λa d=>FnOk P w K mg base CX l a d D.ps sp) :
  ∃fd:FuncData,(∀(s:Shared) (v:Value),BindsTo s fd ⟨[v],[]⟩ [(x,v)])/\∀base:Heap,K.In base->base.Ns mainGlobals mg->FnOk P w K mg base CX l fa fd [x] sp:=by
 obtain⟨f,oc,od,an,osl,kV,doc,pm,cdv,ct,a,lk,c,k⟩:=h
 obtain⟨h0,X,G⟩:=T.ex
 have e:=hfa.symm.trans (aCK X G a)
 cases e
 refine⟨fnOf D.py D.py (defArgs D.st) (defBody D.st) (defScope D.st) .none kV doc pm an cdv ct,λs v=>.of_eq ?_,λbase _ _=>?_⟩
 ·have:=S.b kV doc pm an cdv ct [v] (by rw[hps];rfl)
  rw[hps]at this
  exact this
 ·obtain⟨a',d',h1,h2,h3,h4,⟨oc',od',osl',h5⟩,h6⟩:=(H base).ex
  have e:=hfa.symm.trans h1
  cases e
  rw[lk]at h5
  cases h5
  rw[<- hps]
  exact h6
end
section
variable{K:Frag}{D:Dsc}{F:Fn}{j k:Nat}{e:Expr}{es:List Expr}{fs:FA}{i:Int}
theorem qc(G:Q0 X.prog X.w K X.mg X.base j D F)(hr:Room k X.A)(ha:Ea X K Z0 (e::es) fs)(hj:j<=k:=by lia)(hx:D.py=x:=by rfl)(hg:Gl X x:=by rfl)(hdb:(x==("__debug__":Str))=false:=by decide)
  (he:starEach (e::es) X.env=(false,eval e X.env)::starEach es X.env:=by rfl)(hpl:(backTo pos (starEach es X.env)).any (·.1)=false:=by rfl):Ev X K Z0 (.Call (.Name x p) (e::es) [] pos) (eA F fs):=by
 have eK:=ha.k
 subst eK
 obtain⟨⟨a,d,h1,h2,h3,_,_,h4⟩,hl⟩:=G
 subst hx
 exact aLb (h4.mono hj) hr h1 h2 h3 ha rfl hg hdb he hpl hl
theorem qcP(G:Q0 X.prog X.w K X.mg X.base j D F)(hr:Room k X.A)(ha:Ea X K Z (e::es) fs)(hj:j<=k:=by lia)(hx:D.py=x:=by rfl)(hg:Gl X x:=by rfl)(hdb:(x==("__debug__":Str))=false:=by decide)
  (he:starEach (e::es) X.env=(false,eval e X.env)::starEach es X.env:=by rfl)(hpl:(backTo pos (starEach es X.env)).any (·.1)=false:=by rfl):Ev X K Z (.Call (.Name x p) (e::es) [] pos) (eA (nx F) fs):=by
 have eK:=ha.k
 subst eK
 obtain⟨⟨a,d,h1,h2,h3,_,_,h4⟩,hl⟩:=G
 subst hx
 exact aJa (h4.mono hj) hr h1 h2 h3 ha hg hdb he hpl hl
theorem qcX(hz:Xz X R)(G:Q1 X.prog X.w K X.mg X.base j D F)(hr:Room k X.A)(ha:Ea X K (ZR K R) (e::es) fs)(hj:j<=k:=by lia)(hx:D.py=x:=by rfl)(hg:Gl X x:=by rfl)(hdb:(x==("__debug__":Str))=false:=by decide)
  (he:starEach (e::es) X.env=(false,eval e X.env)::starEach es X.env:=by rfl)(hpl:(backTo pos (starEach es X.env)).any (·.1)=false:=by rfl):Ev X K (ZR K R) (.Call (.Name x p) (e::es) [] pos) (eA F fs):=by
 have eK:=ha.k
 subst eK
 obtain⟨⟨a,d,h1,h2,h3,_,_,h4⟩,hl⟩:=G
 subst hx
 exact aIg hz (h4.mono hj) hr h1 h2 h3 ha hg hdb he hpl hl
theorem qx(G:Q1 X.prog X.w K X.mg X.base j D F)(hr:Room k X.A)(ha:Ea X.nox K Z0 (e::es) fs)(hj:j<=k:=by lia)(hx:D.py=x:=by rfl)(hg:Gl X x:=by rfl)(hdb:(x==("__debug__":Str))=false:=by decide)
  (he:starEach (e::es) X.env=(false,eval e X.env)::starEach es X.env:=by rfl)(hpl:(backTo pos (starEach es X.env)).any (·.1)=false:=by rfl):Exx X K (.Call (.Name x p) (e::es) [] pos) (eA F (aDef (noX fs) [])):=by
 have eK:=ha.k
 subst eK
 obtain⟨⟨a,d,h1,h2,h3,_,_,h4⟩,hl⟩:=G
 subst hx
 exact aLp (h4.mono hj) hr h1 h2 h3 ha hg hdb he hpl hl
end
end EV
set_option maxHeartbeats 4000000
end
namespace K33
open PySem L2 EV
noncomputable section
def top(i:Nat):Stmt:=PySem.Challenge.pw_lentshelf_k33_papers_refused.main.body.getD i (.Pass ⟨0,0,0,0⟩)
abbrev uV:Stmt:=top 12
abbrev gX:Stmt:=top 14
abbrev pK:Stmt:=top 15
abbrev aDn:Stmt:=top 17
abbrev aCp:Stmt:=top 18
abbrev pN:Stmt:=top 19
abbrev kX:Stmt:=top 20
abbrev nK:Stmt:=top 21
abbrev aDx:Stmt:=top 23
abbrev zQ:Stmt:=top 24
abbrev aMo:Stmt:=top 25
abbrev xY:Stmt:=top 26
abbrev yJ:Stmt:=top 27
abbrev rN:Stmt:=top 28
abbrev yO:Stmt:=top 29
abbrev iW:Stmt:=top 30
abbrev pL:Stmt:=top 31
abbrev iT:Stmt:=top 32
abbrev rM:Stmt:=top 33
abbrev lF:Stmt:=top 34
abbrev uI:Stmt:=top 35
abbrev jN:Stmt:=top 36
abbrev mC:Stmt:=top 37
abbrev kZ:Stmt:=top 38
abbrev vI:Stmt:=top 39
abbrev uY:Stmt:=top 40
abbrev uO:Stmt:=top 41
abbrev mH:Stmt:=top 42
abbrev uG:Stmt:=top 43
abbrev zL:Stmt:=top 44
abbrev lC:Stmt:=top 45
abbrev pM:Stmt:=top 46
abbrev yF:Stmt:=top 47
abbrev cW:Stmt:=top 48
abbrev tD:Stmt:=top 49
abbrev zT:Stmt:=top 50
abbrev aCx:Stmt:=top 51
abbrev uQ:Stmt:=top 52
abbrev uM:Stmt:=top 53
abbrev aMp:Stmt:=top 54
abbrev cK:Stmt:=inClass (top 5) 0
end
set_option genInjectivity false in
set_option genSizeOf false in
structure Adr where
 e_LentError:Addr
 e_BadText:Addr
 e_NoDeed:Addr
 e_NoInverse:Addr
 e_NoMove:Addr
 e_NoPaper:Addr
 j_NoPaper:Addr
 g_NoPaper:FuncData
 e_NoRest:Addr
 e_NoRoot:Addr
 e_NoRow:Addr
 e_TooMany:Addr
structure Tk(K:Frag):Prop where
 z_ValueError:nsIn K mainGlobals "ValueError"=some none
 z_bool:nsIn K mainGlobals "bool"=some none
 z_enumerate:nsIn K mainGlobals "enumerate"=some none
 z_int:nsIn K mainGlobals "int"=some none
 z_isinstance:nsIn K mainGlobals "isinstance"=some none
 z_len:nsIn K mainGlobals "len"=some none
 z_list:nsIn K mainGlobals "list"=some none
 z_max:nsIn K mainGlobals "max"=some none
 z_min:nsIn K mainGlobals "min"=some none
 z_range:nsIn K mainGlobals "range"=some none
 z_reversed:nsIn K mainGlobals "reversed"=some none
 z_sorted:nsIn K mainGlobals "sorted"=some none
 z_tuple:nsIn K mainGlobals "tuple"=some none
 z_zip:nsIn K mainGlobals "zip"=some none
 d_inverse:Dk K "inverse" uV
 d_deeds_back:Dk K "deeds_back" gX
 d_deed_back:Dk K "deed_back" pK
 d_shown:Dk K "shown" aDn
 d_along:Dk K "along" aCp
 d_along_one:Dk K "along_one" pN
 d_along_times:Dk K "along_times" kX
 d_just_these:Dk K "just_these" nK
 d_l_box:Dk K "_law_box" aDx
 d_l_take:Dk K "_law_take" zQ
 d_l_n:Dk K "_law_n" aMo
 d_l_rest:Dk K "_law_rest" xY
 d_l_expr:Dk K "_law_expr" yJ
 d_l_shared:Dk K "_law_shared" rN
 d_l_unit:Dk K "_law_unit" yO
 d_l_deed:Dk K "_law_deed" iW
 d_l_inverse:Dk K "_law_inverse" pL
 d_l_deeds_back:Dk K "_law_deeds_back" iT
 d_l_row_by:Dk K "_law_row_by" rM
 d_l_row_alone:Dk K "_law_row_alone" lF
 d_l_alike:Dk K "_law_alike" uI
 d_l_shelves:Dk K "_law_shelves" jN
 d_l_triple:Dk K "_law_triple" mC
 d_l_some_expr:Dk K "_law_some_expr" kZ
 d_l_great:Dk K "_law_great" vI
 d_l_paper:Dk K "_law_paper" uY
 d_l_count:Dk K "_law_count" uO
 d_l_turned:Dk K "_law_turned" mH
 d_l_roles:Dk K "_law_roles" uG
 d_l_leaf:Dk K "_law_leaf" zL
 d_l_first_bad:Dk K "_law_first_bad" lC
 d_l_spelled:Dk K "_law_spelled" pM
 d_l_told:Dk K "_law_told" yF
 d_l_other_shelves:Dk K "_law_other_shelves" cW
 d_l_spoilt:Dk K "_law_spoilt" tD
 d_l_bent:Dk K "_law_bent" zT
 d_l_row:Dk K "_law_row" aCx
 d_l_heard:Dk K "_law_heard" uQ
 d_l_right:Dk K "_law_right" uM
 d_law:Dk K "law" aMp
structure Tx(K:Frag)(mg:Str->Option Value)(a:Adr):Prop where
 t:Tk K
 h:Hk K mg
 nm_LentError:nsIn K mainGlobals "LentError"=some (some (.ref a.e_LentError))
 m_LentError:mg "LentError"=some (.ref a.e_LentError)
 le:LeF K a.e_LentError
 xc_BadText:Xc K "BadText" a.e_BadText a.e_LentError
 m_BadText:mg "BadText"=some (.ref a.e_BadText)
 xc_NoDeed:Xc K "NoDeed" a.e_NoDeed a.e_LentError
 m_NoDeed:mg "NoDeed"=some (.ref a.e_NoDeed)
 xc_NoInverse:Xc K "NoInverse" a.e_NoInverse a.e_LentError
 m_NoInverse:mg "NoInverse"=some (.ref a.e_NoInverse)
 xc_NoMove:Xc K "NoMove" a.e_NoMove a.e_LentError
 m_NoMove:mg "NoMove"=some (.ref a.e_NoMove)
 xc_NoPaper:Xc K "NoPaper" a.e_NoPaper a.e_LentError
 m_NoPaper:mg "NoPaper"=some (.ref a.e_NoPaper)
 fi_NoPaper:Fun K "__init__" "NoPaper.__init__" cK a.j_NoPaper a.g_NoPaper
 bi_NoPaper:Binds K a.g_NoPaper aIJ []
 ti_NoPaper:PySem.W.typeIn K (.ref a.j_NoPaper)=some (.type "function")
 nf_NoPaper:PySem.W.findIn K (.ref a.e_NoPaper) "at"=some none
 sa_NoPaper:PySem.W.findIn K (.ref a.e_NoPaper) "__setattr__"=some (some (.builtin "object.__setattr__"))
 xb_NoPaper:xcB K a.e_NoPaper (.ref a.e_LentError::vb) (some (.ref a.j_NoPaper))=true
 kc_NoPaper:keepIn K (.ref a.e_NoPaper)=true
 xc_NoRest:Xc K "NoRest" a.e_NoRest a.e_LentError
 m_NoRest:mg "NoRest"=some (.ref a.e_NoRest)
 xc_NoRoot:Xc K "NoRoot" a.e_NoRoot a.e_LentError
 m_NoRoot:mg "NoRoot"=some (.ref a.e_NoRoot)
 xc_NoRow:Xc K "NoRow" a.e_NoRow a.e_LentError
 m_NoRow:mg "NoRow"=some (.ref a.e_NoRow)
 xc_TooMany:Xc K "TooMany" a.e_TooMany a.e_LentError
 m_TooMany:mg "TooMany"=some (.ref a.e_TooMany)
 z_ValueError:mg "ValueError"=none
 z_bool:mg "bool"=none
 z_enumerate:mg "enumerate"=none
 z_int:mg "int"=none
 z_isinstance:mg "isinstance"=none
 z_len:mg "len"=none
 z_list:mg "list"=none
 z_max:mg "max"=none
 z_min:mg "min"=none
 z_range:mg "range"=none
 z_reversed:mg "reversed"=none
 z_sorted:mg "sorted"=none
 z_tuple:mg "tuple"=none
 z_zip:mg "zip"=none
theorem yB:FnScope aIJ aIJ (defScope cK):=by constructor<;>first|rfl|decide +kernel
noncomputable section
def oF:Dsc:=⟨"inverse",uV,["n","k"],["n","k","high","low","past","now","times"],none⟩
theorem dH:Sc oF:=⟨⟨rfl,rfl,rfl,by decide +kernel,rfl,by decide +kernel,by decide +kernel⟩,λ_ _ _ _ _ _=>ex2 λ_ _=>rfl,rfl⟩
def iK:Dsc:=⟨"deeds_back",gX,["n","deeds"],["n","deeds"],none⟩
theorem lG:Sc iK:=⟨⟨rfl,rfl,rfl,by decide +kernel,rfl,by decide +kernel,by decide +kernel⟩,λ_ _ _ _ _ _=>ex2 λ_ _=>rfl,rfl⟩
def jE:Dsc:=⟨"deed_back",pK,["n","deed"],["n","deed"],none⟩
theorem mO:Sc jE:=⟨⟨rfl,rfl,rfl,by decide +kernel,rfl,by decide +kernel,by decide +kernel⟩,λ_ _ _ _ _ _=>ex2 λ_ _=>rfl,rfl⟩
def xD:Dsc:=⟨"shown",aDn,["program","paper","S","B","C","by"],["program","paper","S","B","C","by","n","deeds","expr","end"],none⟩
theorem jL:Sc xD:=⟨⟨rfl,rfl,rfl,by decide +kernel,rfl,by decide +kernel,by decide +kernel⟩,λ_ _ _ _ _ _=>ex6 λ_ _ _ _ _ _=>rfl,rfl⟩
def kK:Dsc:=⟨"along",aCp,aIK,["n","deeds","at","paper","shelves","by","back","word","other","one"],none⟩
theorem cN:Sc kK:=⟨⟨rfl,rfl,rfl,by decide +kernel,rfl,by decide +kernel,by decide +kernel⟩,λ_ _ _ _ _ _=>ex7 λ_ _ _ _ _ _ _=>rfl,rfl⟩
def jB:Dsc:=⟨"along_one",pN,["n","deeds","at","shelves","by","back"],["n","deeds","at","shelves","by","back","ts","deed","number"],none⟩
theorem eE:Sc jB:=⟨⟨rfl,rfl,rfl,by decide +kernel,rfl,by decide +kernel,by decide +kernel⟩,λ_ _ _ _ _ _=>ex6 λ_ _ _ _ _ _=>rfl,rfl⟩
def dQ:Dsc:=⟨"along_times",kX,aIK,["n","deeds","at","paper","shelves","by","back","S","B","C","one","middle","other","end","undone"],none⟩
theorem bB:Sc dQ:=⟨⟨rfl,rfl,rfl,by decide +kernel,rfl,by decide +kernel,by decide +kernel⟩,λ_ _ _ _ _ _=>ex7 λ_ _ _ _ _ _ _=>rfl,rfl⟩
def iJ:Dsc:=⟨"just_these",nK,["deeds","at","asked"],["deeds","at","asked","deed"],none⟩
theorem eY:Sc iJ:=⟨⟨rfl,rfl,rfl,by decide +kernel,rfl,by decide +kernel,by decide +kernel⟩,λ_ _ _ _ _ _=>ex3 λ_ _ _=>rfl,rfl⟩
def wT:Dsc:=⟨"_law_box",aDx,["_law_script","_law_k"],["_law_script","_law_k","_law_cell","_law_seed"],none⟩
theorem gM:Sc wT:=⟨⟨rfl,rfl,rfl,by decide +kernel,rfl,by decide +kernel,by decide +kernel⟩,λ_ _ _ _ _ _=>ex2 λ_ _=>rfl,rfl⟩
def qZ:Dsc:=⟨"_law_take",zQ,["_law_box_here","_law_many"],["_law_box_here","_law_many","_law_digit","_law_one"],none⟩
theorem jY:Sc qZ:=⟨⟨rfl,rfl,rfl,by decide +kernel,rfl,by decide +kernel,by decide +kernel⟩,λ_ _ _ _ _ _=>ex2 λ_ _=>rfl,rfl⟩
def aId:Dsc:=⟨"_law_n",aMo,["_law_box_here"],["_law_box_here","_law_form","_law_some","_law_number"],none⟩
theorem sO:Sc aId:=⟨⟨rfl,rfl,rfl,by decide +kernel,rfl,by decide +kernel,by decide +kernel⟩,λ_ _ _ _ _ _=>ex1 λ_=>rfl,rfl⟩
def rX:Dsc:=⟨"_law_rest",xY,aIL,["_law_box_here","_law_n_here","_law_form"],none⟩
theorem oK:Sc rX:=⟨⟨rfl,rfl,rfl,by decide +kernel,rfl,by decide +kernel,by decide +kernel⟩,λ_ _ _ _ _ _=>ex2 λ_ _=>rfl,rfl⟩
def nJ:Dsc:=⟨"_law_expr",yJ,["_law_box_here","_law_givens","_law_room","_law_deep"],["_law_box_here","_law_givens","_law_room","_law_deep","_law_form","_law_number","_law_one","_law_word","_law_first"],none⟩
theorem dZ:Sc nJ:=⟨⟨rfl,rfl,rfl,by decide +kernel,rfl,by decide +kernel,by decide +kernel⟩,λ_ _ _ _ _ _=>ex4 λ_ _ _ _=>rfl,rfl⟩
def lW:Dsc:=⟨"_law_shared",rN,["_law_one","_law_other"],["_law_one","_law_other"],none⟩
theorem iX:Sc lW:=⟨⟨rfl,rfl,rfl,by decide +kernel,rfl,by decide +kernel,by decide +kernel⟩,λ_ _ _ _ _ _=>ex2 λ_ _=>rfl,rfl⟩
def sH:Dsc:=⟨"_law_unit",yO,aIL,["_law_box_here","_law_n_here","_law_u"],none⟩
theorem jU:Sc sH:=⟨⟨rfl,rfl,rfl,by decide +kernel,rfl,by decide +kernel,by decide +kernel⟩,λ_ _ _ _ _ _=>ex2 λ_ _=>rfl,rfl⟩
def sI:Dsc:=⟨"_law_deed",iW,["_law_box_here","_law_n_here","_law_givens","_law_shelves_here"],aIM,none⟩
theorem dJ:Sc sI:=⟨⟨rfl,rfl,rfl,by decide +kernel,rfl,by decide +kernel,by decide +kernel⟩,λ_ _ _ _ _ _=>ex4 λ_ _ _ _=>rfl,rfl⟩
def jT:Dsc:=⟨"_law_inverse",pL,["_law_n_here","_law_u"],["_law_n_here","_law_u","_law_one","_law_other","_law_before","_law_here","_law_many"],none⟩
theorem bW:Sc jT:=⟨⟨rfl,rfl,rfl,by decide +kernel,rfl,by decide +kernel,by decide +kernel⟩,λ_ _ _ _ _ _=>ex2 λ_ _=>rfl,rfl⟩
def fQ:Dsc:=⟨"_law_deeds_back",iT,["_law_n_here","_law_deeds"],["_law_n_here","_law_deeds","_law_found","_law_deed_here"],none⟩
theorem dU:Sc fQ:=⟨⟨rfl,rfl,rfl,by decide +kernel,rfl,by decide +kernel,by decide +kernel⟩,λ_ _ _ _ _ _=>ex2 λ_ _=>rfl,rfl⟩
def gY:Dsc:=⟨"_law_row_by",rM,aIN,aIO,none⟩
theorem dX:Sc gY:=⟨⟨rfl,rfl,rfl,by decide +kernel,rfl,by decide +kernel,by decide +kernel⟩,λ_ _ _ _ _ _=>ex5 λ_ _ _ _ _=>rfl,rfl⟩
def eX:Dsc:=⟨"_law_row_alone",lF,aIN,aIO,none⟩
theorem cF:Sc eX:=⟨⟨rfl,rfl,rfl,by decide +kernel,rfl,by decide +kernel,by decide +kernel⟩,λ_ _ _ _ _ _=>ex5 λ_ _ _ _ _=>rfl,rfl⟩
def oV:Dsc:=⟨"_law_alike",uI,["_law_found","_law_due"],["_law_found","_law_due","_law_left","_law_one","_law_other"],none⟩
theorem fP:Sc oV:=⟨⟨rfl,rfl,rfl,by decide +kernel,rfl,by decide +kernel,by decide +kernel⟩,λ_ _ _ _ _ _=>ex2 λ_ _=>rfl,rfl⟩
def jI:Dsc:=⟨"_law_shelves",jN,["_law_box_here","_law_deeds"],aIP,none⟩
theorem iC:Sc jI:=⟨⟨rfl,rfl,rfl,by decide +kernel,rfl,by decide +kernel,by decide +kernel⟩,λ_ _ _ _ _ _=>ex2 λ_ _=>rfl,rfl⟩
def lX:Dsc:=⟨"_law_triple",mC,["_law_box_here","_law_shelves_here"],aIQ,none⟩
theorem iQ:Sc lX:=⟨⟨rfl,rfl,rfl,by decide +kernel,rfl,by decide +kernel,by decide +kernel⟩,λ_ _ _ _ _ _=>ex2 λ_ _=>rfl,rfl⟩
def gF:Dsc:=⟨"_law_some_expr",kZ,aIR,aIR,none⟩
theorem jS:Sc gF:=⟨⟨rfl,rfl,rfl,by decide +kernel,rfl,by decide +kernel,by decide +kernel⟩,λ_ _ _ _ _ _=>ex2 λ_ _=>rfl,rfl⟩
def oW:Dsc:=⟨"_law_great",vI,aIR,["_law_box_here","_law_givens","_law_expr_here","_law_turn","_law_side"],none⟩
theorem dI:Sc oW:=⟨⟨rfl,rfl,rfl,by decide +kernel,rfl,by decide +kernel,by decide +kernel⟩,λ_ _ _ _ _ _=>ex2 λ_ _=>rfl,rfl⟩
def kF:Dsc:=⟨"_law_paper",uY,["_law_expr_here"],["_law_expr_here"],none⟩
theorem lT:Sc kF:=⟨⟨rfl,rfl,rfl,by decide +kernel,rfl,by decide +kernel,by decide +kernel⟩,λ_ _ _ _ _ _=>ex1 λ_=>rfl,rfl⟩
def kO:Dsc:=⟨"_law_count",uO,["_law_paper_here"],["_law_paper_here"],none⟩
theorem mF:Sc kO:=⟨⟨rfl,rfl,rfl,by decide +kernel,rfl,by decide +kernel,by decide +kernel⟩,λ_ _ _ _ _ _=>ex1 λ_=>rfl,rfl⟩
def mD:Dsc:=⟨"_law_turned",mH,aIS,aIS,none⟩
theorem pU:Sc mD:=⟨⟨rfl,rfl,rfl,by decide +kernel,rfl,by decide +kernel,by decide +kernel⟩,λ_ _ _ _ _ _=>ex2 λ_ _=>rfl,rfl⟩
def kL:Dsc:=⟨"_law_roles",uG,["_law_paper_here","_law_at","_law_places","_law_by","_law_forth"],["_law_paper_here","_law_at","_law_places","_law_by","_law_forth","_law_ks","_law_kb","_law_kc","_law_first","_law_second","_law_middle","_law_end","_law_found"],none⟩
theorem bQ:Sc kL:=⟨⟨rfl,rfl,rfl,by decide +kernel,rfl,by decide +kernel,by decide +kernel⟩,λ_ _ _ _ _ _=>ex5 λ_ _ _ _ _=>rfl,rfl⟩
def tE:Dsc:=⟨"_law_leaf",zL,["_law_n_here","_law_deed_here","_law_role"],["_law_n_here","_law_deed_here","_law_role","_law_number"],none⟩
theorem oN:Sc tE:=⟨⟨rfl,rfl,rfl,by decide +kernel,rfl,by decide +kernel,by decide +kernel⟩,λ_ _ _ _ _ _=>ex3 λ_ _ _=>rfl,rfl⟩
def gA:Dsc:=⟨"_law_first_bad",lC,["_law_program","_law_all_roles"],["_law_program","_law_all_roles","_law_n_here","_law_deeds","_law_at","_law_role"],none⟩
theorem dC:Sc gA:=⟨⟨rfl,rfl,rfl,by decide +kernel,rfl,by decide +kernel,by decide +kernel⟩,λ_ _ _ _ _ _=>ex2 λ_ _=>rfl,rfl⟩
def fX:Dsc:=⟨"_law_spelled",pM,["_law_paper_here","_law_at","_law_forth"],["_law_paper_here","_law_at","_law_forth","_law_ways","_law_other","_law_one"],none⟩
theorem cL:Sc fX:=⟨⟨rfl,rfl,rfl,by decide +kernel,rfl,by decide +kernel,by decide +kernel⟩,λ_ _ _ _ _ _=>ex3 λ_ _ _=>rfl,rfl⟩
def nQ:Dsc:=⟨"_law_told",yF,["_law_program","_law_numbers","_law_all_roles"],["_law_program","_law_numbers","_law_all_roles","_law_one"],none⟩
theorem kR:Sc nQ:=⟨⟨rfl,rfl,rfl,by decide +kernel,rfl,by decide +kernel,by decide +kernel⟩,λ_ _ _ _ _ _=>ex3 λ_ _ _=>rfl,rfl⟩
def eB:Dsc:=⟨"_law_other_shelves",cW,["_law_box_here","_law_shelves_here","_law_deed_here","_law_form"],aIT,none⟩
theorem bS:Sc eB:=⟨⟨rfl,rfl,rfl,by decide +kernel,rfl,by decide +kernel,by decide +kernel⟩,λ_ _ _ _ _ _=>ex4 λ_ _ _ _=>rfl,rfl⟩
def mK:Dsc:=⟨"_law_spoilt",tD,["_law_box_here","_law_program"],["_law_box_here","_law_program","_law_n_here","_law_givens","_law_shelves_here","_law_deeds","_law_at","_law_form","_law_deed_here","_law_other","_law_number","_law_gs"],none⟩
theorem bH:Sc mK:=⟨⟨rfl,rfl,rfl,by decide +kernel,rfl,by decide +kernel,by decide +kernel⟩,λ_ _ _ _ _ _=>ex2 λ_ _=>rfl,rfl⟩
def mZ:Dsc:=⟨"_law_bent",zT,["_law_box_here","_law_paper_here","_law_deep"],["_law_box_here","_law_paper_here","_law_deep","_law_form"],none⟩
theorem kJ:Sc mZ:=⟨⟨rfl,rfl,rfl,by decide +kernel,rfl,by decide +kernel,by decide +kernel⟩,λ_ _ _ _ _ _=>ex3 λ_ _ _=>rfl,rfl⟩
def xH:Dsc:=⟨"_law_row",aCx,aIU,aIU,none⟩
theorem yP:Sc xH:=⟨⟨rfl,rfl,rfl,by decide +kernel,rfl,by decide +kernel,by decide +kernel⟩,λ_ _ _ _ _ _=>ex4 λ_ _ _ _=>rfl,rfl⟩
def pB:Dsc:=⟨"_law_heard",uQ,aIV,["_law_program","_law_paper_here","_law_places","_law_by","_law_caught","e","_law_others"],none⟩
theorem eP:Sc pB:=⟨⟨rfl,rfl,rfl,by decide +kernel,rfl,by decide +kernel,by decide +kernel⟩,λ_ _ _ _ _ _=>ex4 λ_ _ _ _=>rfl,rfl⟩
def oO:Dsc:=⟨"_law_right",uM,aIV,["_law_program","_law_paper_here","_law_places","_law_by","_law_all_roles","_law_due"],none⟩
theorem fO:Sc oO:=⟨⟨rfl,rfl,rfl,by decide +kernel,rfl,by decide +kernel,by decide +kernel⟩,λ_ _ _ _ _ _=>ex4 λ_ _ _ _=>rfl,rfl⟩
def aDo:Dsc:=⟨"law",aMp,["_law_script"],["_law_script","_law_k","_law_box_here","_law_n_here","_law_givens","_law_by","_law_places","_law_expr_here","_law_row_here","_law_paper_here","_law_good","_law_asked","_law_turn","_law_bad","_law_program","_law_own","_law_triple_here"],none⟩
end
theorem dA:Sc aDo:=⟨⟨rfl,rfl,rfl,by decide +kernel,rfl,by decide +kernel,by decide +kernel⟩,λ_ _ _ _ _ _=>ex1 λ_=>rfl,rfl⟩
variable{a:Adr}
theorem cO(T:Tx K mg a):FnOk P w K mg base (CX1 P w) 1 a.j_NoPaper a.g_NoPaper aIJ (spXI a.e_NoPaper "at"):=by
 obtain⟨cd,hc,_,hm⟩:=T.xc_NoPaper.cd
 exact aKu T.fi_NoPaper yB λcdv A outer s H E=>zX (aEc (aHd T.le T.m_LentError T.xb_NoPaper (bM (pv 0) (bM aGf cH)))) (aDh (aLu hc hm (aRl T.xc_NoPaper hc) T.sa_NoPaper T.nf_NoPaper (pv 0) (pv 1)))
noncomputable section
abbrev uZ:{b:FS // ∀{P:Program} {w:World} {K:Frag} {mg:Str->Option Value} {base:Heap} {a:Adr},Tx K mg a->B0 P w K mg base 0 oF b}:=⟨_,λT=>λhr =>
  (aE (cV (cP:=True) (i:=2) (j:=3) trivial dH.s.nd (aA (aB 0) (aA (aK opMod (aB 1) (aB 0)) aC)))
  (aE (cS (aH (aA aD (aA aD aC))) (dE (n:=2) rfl (aW (aT (i:=4) dH.s.nd) (aW (aT (i:=5) dH.s.nd) bZ))))
  (aE (jA NW PassesOwn.never (aM opGt (aB 3) aD (nomark _))
  (aE (aR (i:=6) dH.s.nd (aK opDiv (aB 2) (aB 3)))
  (aE (cV (cP:=True) (i:=2) (j:=3) trivial dH.s.nd (aA (aB 3) (aA (aK opSub (aB 2) (aK opMulA (aB 6) (aB 3))) aC)))
  (aF (cV (cP:=True) (i:=4) (j:=5) trivial dH.s.nd (aA (aB 5) (aA (aK opSub (aB 4) (aK opMulA (aB 6) (aB 5))) aC)))))))
  (aE (aZ (aM (opNe (aJ hr)) (aB 2) aD (nomark _))
  (aF (aN lU))
  aQ)
  (aF (aN (aK opMod (aB 4) (aB 0))))))))⟩
def uJ:FS:=uZ.1
def kI:Fn:=fnD 2 7 uJ
theorem aBs(T:Tx K mg a):Q0 P w K mg base 1 oF kI:=q0 (dk T.t.d_inverse T.h dH) dH.s (uZ.2 T)
abbrev pP:{b:FS // ∀{P:Program} {w:World} {K:Frag} {mg:Str->Option Value} {base:Heap} {a:Adr},Tx K mg a->B0 P w K mg base 1 jE b}:=⟨_,λT=>λhr =>
  (aE (aZ (aM (opEq (aJ hr)) (aG (aB 1) aD) aS (nomark _))
  (aF (aN (aH (aA aS (aA (aG (aB 1) aD) (aA (qc (aBs T) hr (aA (aB 0) (aA (aG (aB 1) aD) aC))) aC))))))
  aQ)
  (aF (aN (aH (aA aS (aA (aG (aB 1) aD) (aA (aK opMod (aBw (aG (aB 1) aD)) (aB 0)) (aA (aG (aB 1) aD) (aA (aG (aB 1) aD) aC)))))))))⟩
def iR:FS:=pP.1
def fY:Fn:=fnD 2 2 iR
theorem xG(T:Tx K mg a):Q0 P w K mg base 2 jE fY:=q0 (dk T.t.d_deed_back T.h mO) mO.s (pP.2 T)
abbrev nP:{b:FS // ∀{P:Program} {w:World} {K:Frag} {mg:Str->Option Value} {base:Heap} {a:Adr},Tx K mg a->B0 P w K mg base 2 iK b}:=⟨_,λT=>λhr =>
  (aF (aN (bV callTup rfl T.z_tuple dR (aA (iH rfl (CompOk.of (N0:=["n","deeds"]) (sc0:=defScope gX) (Nc:=["deed","n"]) (js:=[none,some 0]) (by decide +kernel)) (aIr T.z_reversed (aB 1)) (λ_ _ _ _ _ _=>(aT (i:=0) (show(["deed","n"]:List Str).Nodup by decide +kernel))) (λ_ _ _ _ _ _=>jV) (λ_ _ _ _ _ _=>(qc (xG T) hr (aA (aB 1) (aA (aB 0) aC))))) aC))))⟩
def nU:FS:=nP.1
def hZ:Fn:=fnD 2 2 nU
theorem lI(T:Tx K mg a):Q0 P w K mg base 3 iK hZ:=q0 (dk T.t.d_deeds_back T.h lG) lG.s (nP.2 T)
abbrev qC:{b:FS // ∀{P:Program} {w:World} {K:Frag} {mg:Str->Option Value} {base:Heap} {a:Adr},Tx K mg a->B1 P w K mg base 2 jB b}:=⟨_,λT=>λhr hz =>
  (aE (aR (i:=6) eE.s.nd (aMu (eW (aB 4)) (aH (aA (aG (aB 3) aD) aC)) (aH aC)))
  (aE (aZ (aM (opEq (aJ hr)) (aB 2) (bC callLen rfl T.z_len aBD (aA (aB 1) aC)) (nomark _))
  (aF (jF hz T.xc_NoPaper T.xb_NoPaper T.le T.ti_NoPaper (cO T) T.nf_NoPaper (hr.mono (by lia)) T.bi_NoPaper T.m_NoPaper T.kc_NoPaper rfl (aB 2)))
  aQ)
  (aE (aR (i:=7) eE.s.nd (aG (aB 1) (aB 2)))
  (aE (aZ (iP (fR (aM (opNe (aJ hr)) (aG (aB 7) aD) aS (nomark _)) (fR (aM (opNe (aJ hr)) (aG (aB 7) aD) (aG (aB 3) aD) (nomark _)) (fJ (aM (opNe (aJ hr)) (aG (aB 7) aD) (aB 6) (nomark _))))))
  (aF (jF hz T.xc_NoPaper T.xb_NoPaper T.le T.ti_NoPaper (cO T) T.nf_NoPaper (hr.mono (by lia)) T.bi_NoPaper T.m_NoPaper T.kc_NoPaper rfl (aB 2)))
  aQ)
  (aE (aR (i:=8) eE.s.nd (aMu (eW (aB 5)) (aK opMod (aBw (aG (aB 7) aD)) (aB 0)) (aG (aB 7) aD)))
  (aE (aZ (aM (opEq (aJ hr)) (bC callLen rfl T.z_len aBD (aA (aG (aB 7) aD) aC)) aD (nomark _))
  (aF (aN (aH (aA (aH (aA aS (aA (aB 8) aC))) (aA (aK opAdd (aB 2) aD) aC)))))
  aQ)
  (aE (aZ (iP (fR (aM opGt (bC callLen rfl T.z_len aBD (aA (aG (aB 7) aD) aC)) aD (nomark _)) (fJ (aM (opNe (aJ hr)) (aB 8) aD (nomark _)))))
  (aF (jF hz T.xc_NoPaper T.xb_NoPaper T.le T.ti_NoPaper (cO T) T.nf_NoPaper (hr.mono (by lia)) T.bi_NoPaper T.m_NoPaper T.kc_NoPaper rfl (aB 2)))
  aQ)
  (aF (aN (aH (aA (aH (aA aS (aA (aG (aG (aB 7) aD) aD) aC))) (aA (aK opAdd (aB 2) aD) aC))))))))))))⟩
def pX:FS:=qC.1
def fW:Fn:=fnX 6 9 pX
theorem wA(T:Tx K mg a):Q1 P w K mg base 3 jB fW:=q1 (dk T.t.d_along_one T.h eE) eE.s (qC.2 T)
abbrev nG:{b:FS // ∀{P:Program} {w:World} {K:Frag} {mg:Str->Option Value} {base:Heap} {a:Adr},Tx K mg a->B1 P w K mg base 2 iJ b}:=⟨_,λT=>λhr hz =>
  (aE (iD aFE rfl (aNn (aB 2)) (aT (i:=3) eY.s.nd)
  (aE (aZ (aM (opNe (aJ hr)) (bG (aB 0) (bY (aB 1)) (bY (aK opAdd (aB 1) aD))) (aH (aA (aB 3) aC)) (nomark _))
  (aF (jF hz T.xc_NoPaper T.xb_NoPaper T.le T.ti_NoPaper (cO T) T.nf_NoPaper (hr.mono (by lia)) T.bi_NoPaper T.m_NoPaper T.kc_NoPaper rfl (aB 1)))
  aQ)
  (aF (aKh (i:=1) eY.s.nd aOz aD))))
  (aF (aN (aB 1))))⟩
def mW:FS:=nG.1
def iI:Fn:=fnX 3 4 mW
theorem tU(T:Tx K mg a):Q1 P w K mg base 3 iJ iI:=q1 (dk T.t.d_just_these T.h eY) eY.s (nG.2 T)
abbrev aEd:{b:Fn->Fn->FS // ∀{P:Program} {w:World} {K:Frag} {mg:Str->Option Value} {base:Heap} {a:Adr} (T:Tx K mg a) (r_along r_along_times:Fn) (l:Nat) (hl:3<=l) (ih_along:Q1 P w K mg base l kK r_along) (ih_along_times:Q1 P w K mg base l dQ r_along_times),B1 P w K mg base l kK (b r_along r_along_times)}:=⟨λr_along r_along_times=>_,λT r_along r_along_times l hl ih_along ih_along_times=>λhr hz =>
  (aE (aR (i:=7) cN.s.nd (aG (aB 3) aD))
  (aE (aZ (aM (opEq (aJ hr)) (aB 7) aS (nomark _))
  (aF (aN (qcX hz (wA T) hr (aA (aB 0) (aA (aB 1) (aA (aB 2) (aA (aB 4) (aA (aB 5) (aA (aB 6) aC)))))))))
  aQ)
  (aE (aZ (aM (opEq (aJ hr)) (aB 7) aS (nomark _))
  (aF (aN (qcX hz ih_along_times hr (aA (aB 0) (aA (aB 1) (aA (aB 2) (aA (aB 3) (aA (aB 4) (aA (aB 5) (aA (aB 6) aC))))))))))
  aQ)
  (aE (aZ (eW (aB 6))
  (aE (cS (qcX hz ih_along hr (aA (aB 0) (aA (aB 1) (aA (aB 2) (aA (aG (aB 3) aD) (aA (aB 4) (aA (aB 5) (aA (dN (opEq (aJ hr)) (aB 7) aS (nomark _)) aC)))))))) (dE (n:=2) rfl (aW (aT (i:=8) cN.s.nd) (aW (aT (i:=2) cN.s.nd) bZ))))
  (aF (cS (qcX hz ih_along hr (aA (aB 0) (aA (aB 1) (aA (aB 2) (aA (aG (aB 3) aD) (aA (aB 4) (aA (aB 5) (aA dM aC)))))))) (dE (n:=2) rfl (aW (aT (i:=9) cN.s.nd) (aW (aT (i:=2) cN.s.nd) bZ))))))
  (aE (cS (qcX hz ih_along hr (aA (aB 0) (aA (aB 1) (aA (aB 2) (aA (aG (aB 3) aD) (aA (aB 4) (aA (aB 5) (aA dM aC)))))))) (dE (n:=2) rfl (aW (aT (i:=9) cN.s.nd) (aW (aT (i:=2) cN.s.nd) bZ))))
  (aF (cS (qcX hz ih_along hr (aA (aB 0) (aA (aB 1) (aA (aB 2) (aA (aG (aB 3) aD) (aA (aB 4) (aA (aB 5) (aA (dN (opEq (aJ hr)) (aB 7) aS (nomark _)) aC)))))))) (dE (n:=2) rfl (aW (aT (i:=8) cN.s.nd) (aW (aT (i:=2) cN.s.nd) bZ)))))))
  (aF (aN (aH (aA (aH (aA (aB 7) (aA (aB 9) (aA (aB 8) aC)))) (aA (aB 2) aC)))))))))⟩
def qP(r_along r_along_times:Fn):FS:=aEd.1 r_along r_along_times
abbrev kW:{b:Fn->Fn->FS // ∀{P:Program} {w:World} {K:Frag} {mg:Str->Option Value} {base:Heap} {a:Adr} (T:Tx K mg a) (r_along r_along_times:Fn) (l:Nat) (hl:3<=l) (ih_along:Q1 P w K mg base l kK r_along) (ih_along_times:Q1 P w K mg base l dQ r_along_times),B1 P w K mg base l dQ (b r_along r_along_times)}:=⟨λr_along r_along_times=>_,λT r_along r_along_times l hl ih_along ih_along_times=>λhr hz =>
  (aE (cS (aB 4) (dE (n:=3) rfl (aW (aT (i:=7) bB.s.nd) (aW (aT (i:=8) bB.s.nd) (aW (aT (i:=9) bB.s.nd) bZ)))))
  (aE (aZ (eW (aB 6))
  (aE (cS (qcX hz ih_along hr (aA (aB 0) (aA (aB 1) (aA (aB 2) (aA (aG (aB 3) aD) (aA (aH (aA (aB 7) (aA (aB 9) (aA (aB 8) aC)))) (aA dM (aA dM aC)))))))) (dE (n:=2) rfl (aW (aT (i:=10) bB.s.nd) (aW (aT (i:=11) bB.s.nd) bZ))))
  (aF (cS (qcX hz ih_along hr (aA (aB 0) (aA (aB 1) (aA (aB 11) (aA (aG (aB 3) aD) (aA (aH (aA (aB 9) (aA (aB 8) (aA (aB 7) aC)))) (aA (aB 5) (aA dM aC)))))))) (dE (n:=2) rfl (aW (aT (i:=12) bB.s.nd) (aW (aT (i:=13) bB.s.nd) bZ))))))
  (aE (cS (qcX hz ih_along hr (aA (aB 0) (aA (aB 1) (aA (aB 2) (aA (aG (aB 3) aD) (aA (aH (aA (aB 9) (aA (aB 8) (aA (aB 7) aC)))) (aA (aB 5) (aA dM aC)))))))) (dE (n:=2) rfl (aW (aT (i:=12) bB.s.nd) (aW (aT (i:=11) bB.s.nd) bZ))))
  (aF (cS (qcX hz ih_along hr (aA (aB 0) (aA (aB 1) (aA (aB 11) (aA (aG (aB 3) aD) (aA (aH (aA (aB 7) (aA (aB 9) (aA (aB 8) aC)))) (aA dM (aA dM aC)))))))) (dE (n:=2) rfl (aW (aT (i:=10) bB.s.nd) (aW (aT (i:=13) bB.s.nd) bZ)))))))
  (aE (aR (i:=14) bB.s.nd (aK opAdd (qcP (lI T) hr (aA (aB 0) (aA (bG (aB 1) (bY (aB 2)) (bY (aB 11))) aC))) (qcP (lI T) hr (aA (aB 0) (aA (bG (aB 1) (bY (aB 11)) (bY (aB 13))) aC)))))
  (aF (aN (aH (aA (aH (aA aS (aA (aB 10) (aA (aB 12) aC)))) (aA (qcX hz (tU T) hr (aA (aB 1) (aA (aB 13) (aA (aB 14) aC)))) aC))))))))⟩
def lL(r_along r_along_times:Fn):FS:=kW.1 r_along r_along_times
end
mutual
noncomputable def fA:Nat->Fn
 |0=>λ_ _=>.bad
 |d+1=>fnX 7 10 (qP (fA d) (cR d))
noncomputable def cR:Nat->Fn
 |0=>λ_ _=>.bad
 |d+1=>fnX 7 15 (lL (fA d) (cR d))
end
theorem nW{P:Program}{w:World}{K:Frag}{mg:Str->Option Value}{base:Heap}{a:Adr}(T:Tx K mg a):∀d:Nat,Q1 P w K mg base (d+3) kK (fA (d))/\Q1 P w K mg base (d+3) dQ (cR (d))
 |0=>⟨q1b (dk T.t.d_along T.h cN),q1b (dk T.t.d_along_times T.h bB)⟩
 |d+1=>by
  have ih:=nW (P:=P) (w:=w) (base:=base) T d
  rw[aCG]
  exact⟨q1 (dk T.t.d_along T.h cN) cN.s (aEd.2 T (fA d) (cR d) (d+3) (aCM ..) ih.1 ih.2),
   q1 (dk T.t.d_along_times T.h bB) bB.s (kW.2 T (fA d) (cR d) (d+3) (aCM ..) ih.1 ih.2)⟩
theorem aGa(d:Nat)(T:Tx K mg a):Q1 P w K mg base (d+3) kK (fA d):=(nW T d).1
noncomputable section
abbrev aCt:{b:FS // ∀{P:Program} {w:World} {K:Frag} {mg:Str->Option Value} {base:Heap} {a:Adr},Tx K mg a->B1 P w K mg base 53 xD b}:=⟨_,λT=>λhr hz =>
  (aE (cV (cP:=True) (i:=6) (j:=7) trivial jL.s.nd (aA (aG (aB 0) aD) (aA (aG (aB 0) aD) aC)))
  (aE (cS (qcX hz (aGa 50 T) hr (aA (aB 6) (aA (aB 7) (aA aD (aA (aB 1) (aA (aH (aA (aB 2) (aA (aB 3) (aA (aB 4) aC)))) (aA (aB 5) (aA dM aC)))))))) (dE (n:=2) rfl (aW (aT (i:=8) jL.s.nd) (aW (aT (i:=9) jL.s.nd) bZ))))
  (aE (aZ (aM opLt (aB 9) (bC callLen rfl T.z_len aBD (aA (aB 7) aC)) (nomark _))
  (aF (jF hz T.xc_NoPaper T.xb_NoPaper T.le T.ti_NoPaper (cO T) T.nf_NoPaper (hr.mono (by lia)) T.bi_NoPaper T.m_NoPaper T.kc_NoPaper rfl (aB 9)))
  aQ)
  (aF (aN (aB 8))))))⟩
def aDl:FS:=aCt.1
def vY:Fn:=fnX 6 10 aDl
theorem aFx(T:Tx K mg a):Q1 P w K mg base 54 xD vY:=q1 (dk T.t.d_shown T.h jL) jL.s (aCt.2 T)
abbrev aDz:{b:FS // ∀{P:Program} {w:World} {K:Frag} {mg:Str->Option Value} {base:Heap} {a:Adr},Tx K mg a->B0 P w K mg base 0 wT b}:=⟨_,λT=>λhr =>
  (aE (aR (i:=2) gM.s.nd (aK opAdd (aK opMulA aD (aB 1)) aD))
  (aE (aZ (aM opLt (aB 1) (bC callLen rfl T.z_len aBD (aA (aB 0) aC)) (nomark _))
  (aF (aR (i:=2) gM.s.nd (aG (aB 0) (aB 1))))
  (aF (aZ (aM opGt (bC callLen rfl T.z_len aBD (aA (aB 0) aC)) aD (nomark _))
  (aF (aR (i:=2) gM.s.nd (aK opAdd (aB 2) (aK opMulA (aK opMod (aG (aB 0) (aK opMod (aB 1) (bC callLen rfl T.z_len aBD (aA (aB 0) aC)))) aD) aD))))
  aQ)))
  (aE (aR (i:=3) gM.s.nd (aK opAdd (aK opMod (aK opAdd (aK opMulA (aK opMod (aB 2) aD) aD) (aK opMulA aD (aB 1))) aD) aD))
  (aF (aN (qO (aA (aG (cU (aA aD (aA (aB 2) aC))) (bV callInt rfl T.z_int fF (aA (dN opGe (aB 2) (aK opPow aD aD) (nomark _)) aC))) (aA (aB 3) (aA aD aC)))))))))⟩
def aDq:FS:=aDz.1
def aDk:Fn:=fnR 2 4 aDq
theorem aGy(T:Tx K mg a):Q0 P w K mg base 1 wT aDk:=q0R (dk T.t.d_l_box T.h gM) gM.s rfl (aDz.2 T)
abbrev yW:{b:FS // ∀{P:Program} {w:World} {K:Frag} {mg:Str->Option Value} {base:Heap} {a:Adr},Tx K mg a->B0 P w K mg base 0 qZ b}:=⟨_,λT=>λhr =>
  (aE (aZ (aM opGt (aG (aB 0) aD) aD (nomark _))
  (aE (aR (i:=2) jY.s.nd (aK opMod (aG (aB 0) aD) (aB 1)))
  (aE (cS (aK opDiv (aG (aB 0) aD) (aB 1)) (aBl (aB 0) aD))
  (aF (aN (aB 2)))))
  aQ)
  (aE (cS (aK opAdd (aG (aB 0) aD) aD) (aBl (aB 0) aD))
  (aE (aR (i:=3) jY.s.nd (aK opMod (aK opMulA (aK opAdd (aG (aB 0) aD) (aK opMulA aD (aG (aB 0) aD))) aD) aD))
  (aE (cS (aK opAdd (aK opMod (aK opAdd (aK opMulA (aB 3) aD) aD) aD) aD) (aBl (aB 0) aD))
  (aF (aN (aK opMod (aK opDiv (aK opAdd (aK opMulA (aB 3) aD) (aG (aB 0) aD)) aD) (aB 1))))))))⟩
def yT:FS:=yW.1
def rJ:Fn:=fnD 2 4 yT
theorem aP(T:Tx K mg a):Q0 P w K mg base 1 qZ rJ:=q0 (dk T.t.d_l_take T.h jY) jY.s (yW.2 T)
abbrev aMk:{b:FS // ∀{P:Program} {w:World} {K:Frag} {mg:Str->Option Value} {base:Heap} {a:Adr},Tx K mg a->B0 P w K mg base 1 aId b}:=⟨_,λT=>λhr =>
  (aE (aR (i:=1) sO.s.nd (qc (aP T) hr (aA (aB 0) (aA aD aC))))
  (aE (aR (i:=2) sO.s.nd (aKs (ns:=[2,3,4,5,6,7,8,9,12,16,30,36,49,64,91,97,210,1009,65536,999983,999999,1000000]) (by repeat constructor)))
  (aE (aR (i:=3) sO.s.nd (aG (aB 2) (qc (aP T) hr (aA (aB 0) (aA aD aC)))))
  (aE (aZ (aM (opEq (aJ hr)) (aB 1) aD (nomark _))
  (aF (aN (aK opAdd aD (qc (aP T) hr (aA (aB 0) (aA aD aC))))))
  aQ)
  (aE (aZ (aM opLt (aB 1) aD (nomark _))
  (aF (aN (aK opAdd aD (qc (aP T) hr (aA (aB 0) (aA aD aC))))))
  aQ)
  (aF (aN (aB 3))))))))⟩
def aMl:FS:=aMk.1
def aHs:Fn:=fnD 1 4 aMl
theorem aNx(T:Tx K mg a):Q0 P w K mg base 2 aId aHs:=q0 (dk T.t.d_l_n T.h sO) sO.s (aMk.2 T)
abbrev xX:{b:FS // ∀{P:Program} {w:World} {K:Frag} {mg:Str->Option Value} {base:Heap} {a:Adr},Tx K mg a->B0 P w K mg base 1 rX b}:=⟨_,λT=>λhr =>
  (aE (aR (i:=2) oK.s.nd (qc (aP T) hr (aA (aB 0) (aA aD aC))))
  (aE (aZ (aM (opEq (aJ hr)) (aB 2) aD (nomark _))
  (aF (aN (aG (cU (aA aD (aA (aK opMod aD (aB 1)) (aA (aK opSub (aB 1) aD) (aA (aK opMod (aK opSub (aB 1) aD) (aB 1)) aC))))) (qc (aP T) hr (aA (aB 0) (aA aD aC))))))
  aQ)
  (aF (aN (qc (aP T) hr (aA (aB 0) (aA (aB 1) aC)))))))⟩
def yI:FS:=xX.1
def qU:Fn:=fnD 2 3 yI
theorem aEk(T:Tx K mg a):Q0 P w K mg base 2 rX qU:=q0 (dk T.t.d_l_rest T.h oK) oK.s (xX.2 T)
abbrev zP:{b:Fn->FS // ∀{P:Program} {w:World} {K:Frag} {mg:Str->Option Value} {base:Heap} {a:Adr} (T:Tx K mg a) (r_l_expr:Fn) (l:Nat) (hl:1<=l) (ih_l_expr:Q0 P w K mg base l nJ r_l_expr),B0 P w K mg base l nJ (b r_l_expr)}:=⟨λr_l_expr=>_,λT r_l_expr l hl ih_l_expr=>λhr =>
  (aE (aR (i:=4) dZ.s.nd (qc (aP T) hr (aA (aB 0) (aA aD aC))))
  (aE (aZ (iP (fR (aM opLt (aB 2) aD (nomark _)) (fR (aM (opEq (aJ hr)) (aB 3) aD (nomark _)) (fJ (aM (opEq (aJ hr)) (aB 4) aD (nomark _))))))
  (aE (aR (i:=5) dZ.s.nd (aG (cU (aA (qc (aP T) hr (aA (aB 0) (aA aD aC))) (aA (qc (aP T) hr (aA (aB 0) (aA aD aC))) aC))) (bV callInt rfl T.z_int fF (aA (dN (opEq (aJ hr)) (qc (aP T) hr (aA (aB 0) (aA aD aC))) aD (nomark _)) aC))))
  (aE (aZ (iP (jG (aM opGt (aB 1) aD (nomark _)) (gR (aM opGt (qc (aP T) hr (aA (aB 0) (aA aD aC))) aD (nomark _)))))
  (aF (aN (aH (aA aS (aA (qc (aP T) hr (aA (aB 0) (aA (aB 1) aC))) aC)))))
  aQ)
  (aF (aN (aH (aA aS (aA (aB 5) aC)))))))
  aQ)
  (aE (aR (i:=6) dZ.s.nd (aK opAdd aD (qc (aP T) hr (aA (aB 0) (aA (aK opSub (aB 2) aD) aC)))))
  (aE (aR (i:=7) dZ.s.nd (aG (cU (aA aS (aA aS (aA aS (aA aS aC))))) (qc (aP T) hr (aA (aB 0) (aA aD aC)))))
  (aE (aR (i:=8) dZ.s.nd (qc ih_l_expr hr (aA (aB 0) (aA (aB 1) (aA (aB 6) (aA (aK opSub (aB 3) aD) aC))))))
  (aF (aN (aH (aA (aB 7) (aA (aB 8) (aA (qc ih_l_expr hr (aA (aB 0) (aA (aB 1) (aA (aK opSub (aK opSub (aB 2) aD) (aB 6)) (aA (aK opSub (aB 3) aD) aC))))) aC)))))))))))⟩
def xP(r_l_expr:Fn):FS:=zP.1 r_l_expr
def iZ:Nat->Fn
 |0=>λ_ _=>.bad
 |d+1=>fnD 4 9 (xP (iZ d))
theorem gH{P:Program}{w:World}{K:Frag}{mg:Str->Option Value}{base:Heap}{a:Adr}:∀(d:Nat) (T:Tx K mg a),Q0 P w K mg base (d+1) nJ (iZ (d))
 |0,T=>q0b (dk T.t.d_l_expr T.h dZ)
 |d+1,T=>by
  have ih:=gH (P:=P) (w:=w) (base:=base) d T
  rw[aCG]
  exact q0 (dk T.t.d_l_expr T.h dZ) dZ.s (zP.2 T (iZ d) (d+1) (aCM ..) ih)
abbrev rW:{b:FS // ∀{P:Program} {w:World} {K:Frag} {mg:Str->Option Value} {base:Heap} {a:Adr},Tx K mg a->B0 P w K mg base 0 lW b}:=⟨_,λT=>λhr =>
  (aE (jA NW PassesOwn.never (aM opGt (aB 1) aD (nomark _))
  (aF (cV (cP:=True) (i:=0) (j:=1) trivial iX.s.nd (aA (aB 1) (aA (aK opMod (aB 0) (aB 1)) aC)))))
  (aF (aN (aB 0))))⟩
def rB:FS:=rW.1
def lP:Fn:=fnD 2 2 rB
theorem yY(T:Tx K mg a):Q0 P w K mg base 1 lW lP:=q0 (dk T.t.d_l_shared T.h iX) iX.s (rW.2 T)
abbrev yL:{b:FS // ∀{P:Program} {w:World} {K:Frag} {mg:Str->Option Value} {base:Heap} {a:Adr},Tx K mg a->B0 P w K mg base 1 sH b}:=⟨_,λT=>λhr =>
  (aE (aR (i:=2) jU.s.nd (qc (aP T) hr (aA (aB 0) (aA (aB 1) aC))))
  (aE (jA NW PassesOwn.never (aM (opNe (aJ hr)) (qc (yY T) hr (aA (aB 2) (aA (aB 1) aC))) aD (nomark _))
  (aF (aR (i:=2) jU.s.nd (aK opMod (aK opAdd (aB 2) aD) (aB 1)))))
  (aF (aN (aB 2)))))⟩
def zG:FS:=yL.1
def sB:Fn:=fnD 2 3 zG
theorem aFu(T:Tx K mg a):Q0 P w K mg base 2 sH sB:=q0 (dk T.t.d_l_unit T.h jU) jU.s (yL.2 T)
abbrev zO:{b:FS // ∀{P:Program} {w:World} {K:Frag} {mg:Str->Option Value} {base:Heap} {a:Adr},Tx K mg a->B0 P w K mg base 2 sI b}:=⟨_,λT=>λhr =>
  (aE (aR (i:=4) dJ.s.nd (qc (aP T) hr (aA (aB 0) (aA (aB 3) aC))))
  (aE (aR (i:=5) dJ.s.nd (qc (aP T) hr (aA (aB 0) (aA aD aC))))
  (aE (aZ (aM (opEq (aJ hr)) (aB 5) aD (nomark _))
  (aF (aN (aH (aA aS (aA (aB 4) (aA (qc (aFu T) hr (aA (aB 0) (aA (aB 1) aC))) aC))))))
  aQ)
  (aE (aR (i:=6) dJ.s.nd (aK opMulA (qc (aP T) hr (aA (aB 0) (aA (aG (cU (aA aD (aA aD (aA aD aC)))) (qc (aP T) hr (aA (aB 0) (aA aD aC)))) aC))) (bV callInt rfl T.z_int fF (aA (dN opGt (aB 2) aD (nomark _)) aC))))
  (aE (aR (i:=7) dJ.s.nd (bC (callSorted rfl) rfl T.z_sorted jW (aA (iH rfl (CompOk.of (N0:=aIM) (sc0:=defScope iW) (Nc:=aIW) (js:=[none,some 0,some 2]) (by decide +kernel)) (cE T.z_range (aB 6)) (λ_ _ _ _ _ _=>(aT (i:=0) (show(aIW:List Str).Nodup by decide +kernel))) (λ_ _ _ _ _ _=>jV) (λ_ _ _ _ _ _=>(qc (aP T) hr (aA (aB 1) (aA (aB 2) aC))))) aC)))
  (aE (aR (i:=8) dJ.s.nd (iH rfl (CompOk.of (N0:=aIM) (sc0:=defScope iW) (Nc:=["_law_kt","_law_ks"]) (js:=[none,some 4]) (by decide +kernel)) (cE T.z_range (aB 3)) (λ_ _ _ _ _ _=>(aT (i:=0) (show(["_law_kt","_law_ks"]:List Str).Nodup by decide +kernel))) (λ_ _ _ _ _ _=>(wC (aM (opNe (aJ hr)) (aB 0) (aB 1) (nomark _)))) (λ_ _ _ _ _ _=>(aB 0))))
  (aE (aR (i:=9) dJ.s.nd (cU aC))
  (aE (aZ (aM (opNe (aJ hr)) (aB 8) (cU aC) (nomark _))
  (aF (aR (i:=9) dJ.s.nd (bC (callSorted rfl) rfl T.z_sorted jW (aA (iH rfl (CompOk.of (N0:=aIM) (sc0:=defScope iW) (Nc:=aIX) (js:=[none,some 8,some 0]) (by decide +kernel)) (cE T.z_range (qc (aP T) hr (aA (aB 0) (aA (aG (cU (aA aD (aA aD (aA aD aC)))) (qc (aP T) hr (aA (aB 0) (aA aD aC)))) aC)))) (λ_ _ _ _ _ _=>(aT (i:=0) (show(aIX:List Str).Nodup by decide +kernel))) (λ_ _ _ _ _ _=>jV) (λ_ _ _ _ _ _=>(aG (aB 1) (qc (aP T) hr (aA (aB 2) (aA (bC callLen rfl T.z_len aBD (aA (aB 1) aC)) aC)))))) aC))))
  aQ)
  (aF (aN (aH (aA aS (aA (aB 4) (aA (qc (aEk T) hr (aA (aB 0) (aA (aB 1) aC))) (aA (bV callTup rfl T.z_tuple dR (aA (aB 7) aC)) (aA (bV callTup rfl T.z_tuple dR (aA (aB 9) aC)) aC))))))))))))))))⟩
def zV:FS:=zO.1
def sA:Fn:=fnD 4 10 zV
theorem uK(T:Tx K mg a):Q0 P w K mg base 3 sI sA:=q0 (dk T.t.d_l_deed T.h dJ) dJ.s (zO.2 T)
abbrev pD:{b:FS // ∀{P:Program} {w:World} {K:Frag} {mg:Str->Option Value} {base:Heap} {a:Adr},Tx K mg a->B0 P w K mg base 0 jT b}:=⟨_,λT=>λhr =>
  (aE (cS (aH (aA (aB 0) (aA (aK opMod (aB 1) (aB 0)) (aA aD (aA aD aC))))) (dE (n:=4) rfl (aW (aT (i:=2) bW.s.nd) (aW (aT (i:=3) bW.s.nd) (aW (aT (i:=4) bW.s.nd) (aW (aT (i:=5) bW.s.nd) bZ))))))
  (aE (jA NW PassesOwn.never (aM opGt (aB 3) aD (nomark _))
  (aE (aR (i:=6) bW.s.nd (aK opDiv (aB 2) (aB 3)))
  (aE (cV (cP:=True) (i:=2) (j:=3) trivial bW.s.nd (aA (aB 3) (aA (aK opSub (aB 2) (aK opMulA (aB 6) (aB 3))) aC)))
  (aF (cV (cP:=True) (i:=4) (j:=5) trivial bW.s.nd (aA (aB 5) (aA (aK opSub (aB 4) (aK opMulA (aB 6) (aB 5))) aC)))))))
  (aF (aN (aK opMod (aB 4) (aB 0))))))⟩
def pQ:FS:=pD.1
def jJ:Fn:=fnD 2 7 pQ
theorem xI(T:Tx K mg a):Q0 P w K mg base 1 jT jJ:=q0 (dk T.t.d_l_inverse T.h bW) bW.s (pD.2 T)
abbrev jO:{b:FS // ∀{P:Program} {w:World} {K:Frag} {mg:Str->Option Value} {base:Heap} {a:Adr},Tx K mg a->B0 P w K mg base 1 fQ b}:=⟨_,λT=>λhr =>
  (aE (aR (i:=2) dU.s.nd (qO aC))
  (aE (iD PassesOwn.never rfl (aIr T.z_reversed (aB 1)) (aT (i:=3) dU.s.nd)
  (aF (aZ (aM (opEq (aJ hr)) (aG (aB 3) aD) aS (nomark _))
  (aF (mY (oM (aB 2) (aH (aA aS (aA (aG (aB 3) aD) (aA (qc (xI T) hr (aA (aB 0) (aA (aG (aB 3) aD) aC))) aC)))))))
  (aF (mY (oM (aB 2) (aK opAdd (aK opAdd (bG (aB 3) cZ (bY aD)) (aH (aA (aK opMod (aK opSub aD (aG (aB 3) aD)) (aB 0)) aC))) (bG (aB 3) (bY aD) cZ))))))))
  (aF (aN (bV callTup rfl T.z_tuple dR (aA (aB 2) aC))))))⟩
def fL:FS:=jO.1
def dD:Fn:=fnD 2 4 fL
theorem bU(T:Tx K mg a):Q0 P w K mg base 2 fQ dD:=q0 (dk T.t.d_l_deeds_back T.h dU) dU.s (jO.2 T)
abbrev sW:{b:Fn->FS // ∀{P:Program} {w:World} {K:Frag} {mg:Str->Option Value} {base:Heap} {a:Adr} (T:Tx K mg a) (r_l_row_by:Fn) (l:Nat) (hl:2<=l) (ih_l_row_by:Q0 P w K mg base l gY r_l_row_by),B0 P w K mg base l gY (b r_l_row_by)}:=⟨λr_l_row_by=>_,λT r_l_row_by l hl ih_l_row_by=>λhr =>
  (aE (aR (i:=5) dX.s.nd (aG (aB 1) aD))
  (aE (aZ (aM (opEq (aJ hr)) (aB 5) aS (nomark _))
  (aF (aN (aH (aA (aH (aA aS (aA (aB 2) (aA (aK opMod (aG (aB 1) aD) (aB 0)) (aA (aH aC) (aA (aH (aA (aB 3) aC)) aC)))))) aC))))
  aQ)
  (aE (aZ (aM (opEq (aJ hr)) (aB 5) aS (nomark _))
  (aF (aN (aH (aA (aH (aA aS (aA (aB 2) (aA aD (aA (aH (aA (aG (aB 1) aD) aC)) (aA (aH (aA (aB 3) aC)) aC)))))) aC))))
  aQ)
  (aE (aZ (aM (opNe (aJ hr)) (aB 5) aS (nomark _))
  (aE (cV (cP:=True) (i:=6) (j:=7) trivial dX.s.nd (aA (qc ih_l_row_by hr (aA (aB 0) (aA (aG (aB 1) aD) (aA (aB 2) (aA (aB 3) (aA (aB 4) aC)))))) (aA (qc ih_l_row_by hr (aA (aB 0) (aA (aG (aB 1) aD) (aA (aB 2) (aA (aB 3) (aA (aB 4) aC)))))) aC)))
  (aF (aN (aK opAdd (aB 6) (aG (cU (aA (qc (bU T) hr (aA (aB 0) (aA (aB 7) aC))) (aA (aB 7) aC))) (bV callInt rfl T.z_int fF (aA (dN (opEq (aJ hr)) (aB 5) aS (nomark _)) aC)))))))
  aQ)
  (aE (cV (cP:=True) (i:=6) (j:=7) trivial dX.s.nd (aA (qc ih_l_row_by hr (aA (aB 0) (aA (aG (aB 1) aD) (aA (aB 4) (aA (aB 3) (aA (aB 2) aC)))))) (aA (qc ih_l_row_by hr (aA (aB 0) (aA (aG (aB 1) aD) (aA (aB 2) (aA (aB 4) (aA (aB 3) aC)))))) aC)))
  (aF (aN (aK opAdd (aK opAdd (aK opAdd (aB 6) (aB 7)) (qc (bU T) hr (aA (aB 0) (aA (aB 6) aC)))) (qc (bU T) hr (aA (aB 0) (aA (aB 7) aC)))))))))))⟩
def hV(r_l_row_by:Fn):FS:=sW.1 r_l_row_by
def dW:Nat->Fn
 |0=>λ_ _=>.bad
 |d+1=>fnD 5 8 (hV (dW d))
theorem jD{P:Program}{w:World}{K:Frag}{mg:Str->Option Value}{base:Heap}{a:Adr}:∀(d:Nat) (T:Tx K mg a),Q0 P w K mg base (d+2) gY (dW (d))
 |0,T=>q0b (dk T.t.d_l_row_by T.h dX)
 |d+1,T=>by
  have ih:=jD (P:=P) (w:=w) (base:=base) d T
  rw[aCG]
  exact q0 (dk T.t.d_l_row_by T.h dX) dX.s (sW.2 T (dW d) (d+2) (aCM ..) ih)
abbrev kY:{b:Fn->FS // ∀{P:Program} {w:World} {K:Frag} {mg:Str->Option Value} {base:Heap} {a:Adr} (T:Tx K mg a) (r_l_row_alone:Fn) (l:Nat) (hl:52<=l) (ih_l_row_alone:Q0 P w K mg base l eX r_l_row_alone),B0 P w K mg base l eX (b r_l_row_alone)}:=⟨λr_l_row_alone=>_,λT r_l_row_alone l hl ih_l_row_alone=>λhr =>
  (aE (aR (i:=5) cF.s.nd (aG (aB 1) aD))
  (aE (aZ (aM (opEq (aJ hr)) (aB 5) aS (nomark _))
  (aF (aN (aH (aA (aH (aA aS (aA (aB 2) (aA (aK opMod (aG (aB 1) aD) (aB 0)) (aA (aH aC) (aA (aH aC) aC)))))) aC))))
  aQ)
  (aE (aZ (aM (opEq (aJ hr)) (aB 5) aS (nomark _))
  (aF (aN (aH (aA (aH (aA aS (aA (aB 2) (aA aD (aA (aH (aA (aG (aB 1) aD) aC)) (aA (aH aC) aC)))))) aC))))
  aQ)
  (aE (aZ (aM (opNe (aJ hr)) (aB 5) aS (nomark _))
  (aE (cV (cP:=True) (i:=6) (j:=7) trivial cF.s.nd (aA (qc ih_l_row_alone hr (aA (aB 0) (aA (aG (aB 1) aD) (aA (aB 2) (aA (aB 3) (aA (aB 4) aC)))))) (aA (qc ih_l_row_alone hr (aA (aB 0) (aA (aG (aB 1) aD) (aA (aB 2) (aA (aB 3) (aA (aB 4) aC)))))) aC)))
  (aF (aN (aK opAdd (aB 6) (aG (cU (aA (qc (bU T) hr (aA (aB 0) (aA (aB 7) aC))) (aA (aB 7) aC))) (bV callInt rfl T.z_int fF (aA (dN (opEq (aJ hr)) (aB 5) aS (nomark _)) aC)))))))
  aQ)
  (aE (cV (cP:=True) (i:=6) (j:=7) trivial cF.s.nd (aA (qc ih_l_row_alone hr (aA (aB 0) (aA (aG (aB 1) aD) (aA (aB 4) (aA (aB 3) (aA (aB 2) aC)))))) (aA (qc (jD 50 T) hr (aA (aB 0) (aA (aG (aB 1) aD) (aA (aB 2) (aA (aB 4) (aA (aB 3) aC)))))) aC)))
  (aF (aN (aK opAdd (aK opAdd (aK opAdd (aB 6) (aB 7)) (qc (bU T) hr (aA (aB 0) (aA (aB 6) aC)))) (qc (bU T) hr (aA (aB 0) (aA (aB 7) aC)))))))))))⟩
def eZ(r_l_row_alone:Fn):FS:=kY.1 r_l_row_alone
def cD:Nat->Fn
 |0=>λ_ _=>.bad
 |d+1=>fnD 5 8 (eZ (cD d))
theorem jP{P:Program}{w:World}{K:Frag}{mg:Str->Option Value}{base:Heap}{a:Adr}:∀(d:Nat) (T:Tx K mg a),Q0 P w K mg base (d+52) eX (cD (d))
 |0,T=>q0b (dk T.t.d_l_row_alone T.h cF)
 |d+1,T=>by
  have ih:=jP (P:=P) (w:=w) (base:=base) d T
  rw[aCG]
  exact q0 (dk T.t.d_l_row_alone T.h cF) cF.s (kY.2 T (cD d) (d+52) (aCM ..) ih)
abbrev vO:{b:FS // ∀{P:Program} {w:World} {K:Frag} {mg:Str->Option Value} {base:Heap} {a:Adr},Tx K mg a->B0 P w K mg base 0 oV b}:=⟨_,λT=>λhr =>
  (aE (aR (i:=2) fP.s.nd (qO (aA (aH (aA (aB 0) (aA (aB 1) aC))) aC)))
  (aE (jA NW PassesOwn.never (aM opGt (bC callLen rfl T.z_len aBD (aA (aB 2) aC)) aD (nomark _))
  (aE (cS (aNu (aB 2)) (dE (n:=2) rfl (aW (aT (i:=3) fP.s.nd) (aW (aT (i:=4) fP.s.nd) bZ))))
  (aF (aZ (eW (iU sQ T.z_isinstance T.z_tuple dR (aB 4)))
  (aE (aZ (iP (fR (xA (eW (iU sQ T.z_isinstance T.z_tuple dR (aB 3)))) (fJ (aM (opNe (aJ hr)) (bC callLen rfl T.z_len aBD (aA (aB 3) aC)) (bC callLen rfl T.z_len aBD (aA (aB 4) aC)) (nomark _)))))
  (aF (aN dM))
  aQ)
  (aF (mY (sK (aB 2) (aBu rfl T.z_list T.z_zip (aB 3) (aB 4))))))
  (aF (aZ (iP (fR (aM (opNe (aJ hr)) (iU aCs T.z_isinstance T.z_bool aDa (aB 3)) (iU aCs T.z_isinstance T.z_bool aDa (aB 4)) (nomark _)) (fJ (aM (opNe (aJ hr)) (iU aBf T.z_isinstance T.z_int fF (aB 3)) (iU aBf T.z_isinstance T.z_int fF (aB 4)) (nomark _)))))
  (aF (aN dM))
  (aF (aZ (iP (fR (eW (iU sQ T.z_isinstance T.z_tuple dR (aB 3))) (fJ (aM (opNe (aJ hr)) (aB 3) (aB 4) (nomark _)))))
  (aF (aN dM))
  aQ))))))))
  (aF (aN dM))))⟩
def uP:FS:=vO.1
def tW:Fn:=fnD 2 5 uP
theorem aAa(T:Tx K mg a):Q0 P w K mg base 1 oV tW:=q0 (dk T.t.d_l_alike T.h fP) fP.s (vO.2 T)
abbrev pS:{b:FS // ∀{P:Program} {w:World} {K:Frag} {mg:Str->Option Value} {base:Heap} {a:Adr},Tx K mg a->B0 P w K mg base 1 jI b}:=⟨_,λT=>λhr =>
  (aE (aR (i:=2) iC.s.nd (bC (callMaxL rfl) rfl T.z_max aAw (aA (iH rfl (CompOk.of (N0:=aIP) (sc0:=defScope jN) (Nc:=["_law_deed_here"]) (js:=[none]) (by decide +kernel)) (aNn (aB 1)) (λ_ _ _ _ _ _=>(aT (i:=0) (show(["_law_deed_here"]:List Str).Nodup by decide +kernel))) (λ_ _ _ _ _ _=>jV) (λ_ _ _ _ _ _=>(bC (callMaxL rfl) rfl T.z_max aAw (aA (aK opAdd (aH (aA (aG (aB 0) aD) aC)) (aG (aB 0) aD)) aC)))) aC)))
  (aF (aN (bC (callMin2 rfl) rfl T.z_min aIq (aA aD (aA (aK opAdd (aK opAdd aD (aB 2)) (qc (aP T) hr (aA (aB 0) (aA aD aC)))) aC))))))⟩
def pH:FS:=pS.1
def iY:Fn:=fnD 2 3 pH
theorem wX(T:Tx K mg a):Q0 P w K mg base 2 jI iY:=q0 (dk T.t.d_l_shelves T.h iC) iC.s (pS.2 T)
abbrev rZ:{b:FS // ∀{P:Program} {w:World} {K:Frag} {mg:Str->Option Value} {base:Heap} {a:Adr},Tx K mg a->B0 P w K mg base 1 lX b}:=⟨_,λT=>λhr =>
  (aE (aR (i:=2) iQ.s.nd (sP rfl T.z_list T.z_range (aB 1)))
  (aF (aN (bV callTup rfl T.z_tuple dR (aA (iH rfl (CompOk.of (N0:=aIQ) (sc0:=defScope mC) (Nc:=aIY) (js:=[none,some 2,some 0]) (by decide +kernel)) (cE T.z_range aD) (λ_ _ _ _ _ _=>(aT (i:=0) (show(aIY:List Str).Nodup by decide +kernel))) (λ_ _ _ _ _ _=>jV) (λ_ _ _ _ _ _=>(aHl (aB 1) (qc (aP T) hr (aA (aB 2) (aA (bC callLen rfl T.z_len aBD (aA (aB 1) aC)) aC)))))) aC)))))⟩
def rK:FS:=rZ.1
def mJ:Fn:=fnD 2 3 rK
theorem pJ(T:Tx K mg a):Q0 P w K mg base 2 lX mJ:=q0 (dk T.t.d_l_triple T.h iQ) iQ.s (rZ.2 T)
abbrev lH:{b:FS // ∀{P:Program} {w:World} {K:Frag} {mg:Str->Option Value} {base:Heap} {a:Adr},Tx K mg a->B0 P w K mg base 51 gF b}:=⟨_,λT=>λhr =>
  (aE (aZ (aM (opEq (aJ hr)) (qc (aP T) hr (aA (aB 0) (aA aD aC))) aD (nomark _))
  (aF (aN (qc (gH 50 T) hr (aA (aB 0) (aA (aB 1) (aA aD (aA aD aC)))))))
  aQ)
  (aF (aN (qc (gH 50 T) hr (aA (aB 0) (aA (aB 1) (aA aD (aA aD aC))))))))⟩
def lK:FS:=lH.1
def gE:Fn:=fnD 2 2 lK
theorem sR(T:Tx K mg a):Q0 P w K mg base 52 gF gE:=q0 (dk T.t.d_l_some_expr T.h jS) jS.s (lH.2 T)
abbrev uN:{b:FS // ∀{P:Program} {w:World} {K:Frag} {mg:Str->Option Value} {base:Heap} {a:Adr},Tx K mg a->B0 P w K mg base 51 oW b}:=⟨_,λT=>λhr =>
  (aE (aR (i:=2) dI.s.nd (qc (gH 50 T) hr (aA (aB 0) (aA (aB 1) (aA aD (aA aD aC))))))
  (aE (iD PassesOwn.never rfl (cE T.z_range (aK opAdd aD (qc (aP T) hr (aA (aB 0) (aA aD aC))))) (aT (i:=3) dI.s.nd)
  (aF (aR (i:=2) dI.s.nd (aH (aA aS (aA (aB 2) (aA (aB 2) aC)))))))
  (aE (iD PassesOwn.never rfl (cE T.z_range (aK opAdd aD (qc (aP T) hr (aA (aB 0) (aA aD aC))))) (aT (i:=3) dI.s.nd)
  (aE (aR (i:=4) dI.s.nd (qc (gH 50 T) hr (aA (aB 0) (aA (aB 1) (aA aD (aA aD aC))))))
  (aF (aR (i:=2) dI.s.nd (aK opAdd (aH (aA aS aC)) (aG (cU (aA (aH (aA (aB 2) (aA (aB 4) aC))) (aA (aH (aA (aB 4) (aA (aB 2) aC))) aC))) (qc (aP T) hr (aA (aB 0) (aA aD aC)))))))))
  (aF (aN (aB 2))))))⟩
def vL:FS:=uN.1
def oJ:Fn:=fnD 2 5 vL
theorem aBy(T:Tx K mg a):Q0 P w K mg base 52 oW oJ:=q0 (dk T.t.d_l_great T.h dI) dI.s (uN.2 T)
abbrev vG:{b:Fn->FS // ∀{P:Program} {w:World} {K:Frag} {mg:Str->Option Value} {base:Heap} {a:Adr} (T:Tx K mg a) (r_l_paper:Fn) (l:Nat) (hl:0<=l) (ih_l_paper:Q0 P w K mg base l kF r_l_paper),B0 P w K mg base l kF (b r_l_paper)}:=⟨λr_l_paper=>_,λT r_l_paper l hl ih_l_paper=>λhr =>
  (aE (aZ (aM opIn (aG (aB 0) aD) (aH (aA aS (aA aS aC))) (by with_unfolding_all rfl))
  (aF (aN (aH (aA aS aC))))
  aQ)
  (aF (aN (aH (aA (aG (aB 0) aD) (aA (qc ih_l_paper hr (aA (aG (aB 0) aD) aC)) (aA (qc ih_l_paper hr (aA (aG (aB 0) aD) aC)) aC)))))))⟩
def kQ(r_l_paper:Fn):FS:=vG.1 r_l_paper
def eU:Nat->Fn
 |0=>λ_ _=>.bad
 |d+1=>fnD 1 1 (kQ (eU d))
theorem tF{P:Program}{w:World}{K:Frag}{mg:Str->Option Value}{base:Heap}{a:Adr}:∀(d:Nat) (T:Tx K mg a),Q0 P w K mg base (d+0) kF (eU (d))
 |0,T=>q0b (dk T.t.d_l_paper T.h lT)
 |d+1,T=>by
  have ih:=tF (P:=P) (w:=w) (base:=base) d T
  rw[aCG]
  exact q0 (dk T.t.d_l_paper T.h lT) lT.s (vG.2 T (eU d) (d+0) (aCM ..) ih)
abbrev uB:{b:Fn->FS // ∀{P:Program} {w:World} {K:Frag} {mg:Str->Option Value} {base:Heap} {a:Adr} (T:Tx K mg a) (r_l_count:Fn) (l:Nat) (hl:0<=l) (ih_l_count:Q0 P w K mg base l kO r_l_count),B0 P w K mg base l kO (b r_l_count)}:=⟨λr_l_count=>_,λT r_l_count l hl ih_l_count=>λhr =>
  (aE (aZ (aM (opEq (aJ hr)) (aB 0) (aH (aA aS aC)) (nomark _))
  (aF (aN aD))
  aQ)
  (aF (aN (aK opMulA (aK opAdd aD (bV callInt rfl T.z_int fF (aA (dN (opEq (aJ hr)) (aG (aB 0) aD) aS (nomark _)) aC))) (aK opAdd (qc ih_l_count hr (aA (aG (aB 0) aD) aC)) (qc ih_l_count hr (aA (aG (aB 0) aD) aC)))))))⟩
def kC(r_l_count:Fn):FS:=uB.1 r_l_count
def eO:Nat->Fn
 |0=>λ_ _=>.bad
 |d+1=>fnD 1 1 (kC (eO d))
theorem fK{P:Program}{w:World}{K:Frag}{mg:Str->Option Value}{base:Heap}{a:Adr}:∀(d:Nat) (T:Tx K mg a),Q0 P w K mg base (d+0) kO (eO (d))
 |0,T=>q0b (dk T.t.d_l_count T.h mF)
 |d+1,T=>by
  have ih:=fK (P:=P) (w:=w) (base:=base) d T
  rw[aCG]
  exact q0 (dk T.t.d_l_count T.h mF) mF.s (uB.2 T (eO d) (d+0) (aCM ..) ih)
abbrev sZ:{b:FS // ∀{P:Program} {w:World} {K:Frag} {mg:Str->Option Value} {base:Heap} {a:Adr},Tx K mg a->B0 P w K mg base 0 mD b}:=⟨_,λT=>λhr =>
  (aF (aN (iH rfl (CompOk.of (N0:=aIS) (sc0:=defScope mH) (Nc:=["_law_at"]) (js:=[none]) (by decide +kernel)) (aHe T.z_reversed T.z_range (aB 0) (aB 1)) (λ_ _ _ _ _ _=>(aT (i:=0) (show(["_law_at"]:List Str).Nodup by decide +kernel))) (λ_ _ _ _ _ _=>jV) (λ_ _ _ _ _ _=>(aH (aA aS (aA (aB 0) aC)))))))⟩
def rH:FS:=sZ.1
def lS:Fn:=fnD 2 2 rH
theorem pT(T:Tx K mg a):Q0 P w K mg base 1 mD lS:=q0 (dk T.t.d_l_turned T.h pU) pU.s (sZ.2 T)
abbrev vT:{b:Fn->FS // ∀{P:Program} {w:World} {K:Frag} {mg:Str->Option Value} {base:Heap} {a:Adr} (T:Tx K mg a) (r_l_roles:Fn) (l:Nat) (hl:50<=l) (ih_l_roles:Q0 P w K mg base l kL r_l_roles),B0 P w K mg base l kL (b r_l_roles)}:=⟨λr_l_roles=>_,λT r_l_roles l hl ih_l_roles=>λhr =>
  (aE (cS (aB 2) (dE (n:=3) rfl (aW (aT (i:=5) bQ.s.nd) (aW (aT (i:=6) bQ.s.nd) (aW (aT (i:=7) bQ.s.nd) bZ)))))
  (aE (aZ (aM (opEq (aJ hr)) (aB 0) (aH (aA aS aC)) (nomark _))
  (aF (aN (cU (aA (aH (aA aS (aA (aB 5) (aA (aK opMulA (aH (aA (aB 6) aC)) (bV callInt rfl T.z_int fF (aA (aB 3) aC))) (aA (aB 4) aC))))) aC))))
  aQ)
  (aE (cV (cP:=True) (i:=8) (j:=9) trivial bQ.s.nd (aA (aH (aA (aG (aB 0) aD) (aA (aB 2) (aA (aB 3) (aA (aB 4) aC))))) (aA (aH (aA (aG (aB 0) aD) (aA (aB 2) (aA (aB 3) (aA (dN (opEq (aJ hr)) (aB 4) (dN (opEq (aJ hr)) (aG (aB 0) aD) aS (nomark _)) (nomark _)) aC))))) aC)))
  (aE (aZ (aM (opEq (aJ hr)) (aG (aB 0) aD) aS (nomark _))
  (aF (cV (cP:=True) (i:=8) (j:=9) trivial bQ.s.nd (aA (aH (aA (aG (aB 0) aD) (aA (aH (aA (aB 5) (aA (aB 7) (aA (aB 6) aC)))) (aA dM (aA dM aC))))) (aA (aH (aA (aG (aB 0) aD) (aA (aH (aA (aB 7) (aA (aB 6) (aA (aB 5) aC)))) (aA (aB 3) (aA dM aC))))) aC))))
  aQ)
  (aE (aZ (aM (opEq (aJ hr)) (dN (opEq (aJ hr)) (aG (aB 0) aD) aS (nomark _)) (aB 4) (nomark _))
  (aF (cV (cP:=True) (i:=8) (j:=9) trivial bQ.s.nd (aA (aB 9) (aA (aB 8) aC))))
  aQ)
  (aE (aR (i:=10) bQ.s.nd (aK opAdd (aB 1) (qc (fK 50 T) hr (aA (aG (aB 8) aD) aC))))
  (aE (aR (i:=11) bQ.s.nd (aK opAdd (aB 10) (qc (fK 50 T) hr (aA (aG (aB 9) aD) aC))))
  (aE (aR (i:=12) bQ.s.nd (qc ih_l_roles hr (aA (aG (aB 8) aD) (aA (aB 1) (aA (aG (aB 8) aD) (aA (aG (aB 8) aD) (aA (aG (aB 8) aD) aC)))))))
  (aE (aR (i:=12) bQ.s.nd (aK opAdd (aB 12) (qc ih_l_roles hr (aA (aG (aB 9) aD) (aA (aB 10) (aA (aG (aB 9) aD) (aA (aG (aB 9) aD) (aA (aG (aB 9) aD) aC))))))))
  (aE (aZ (aM (opEq (aJ hr)) (aG (aB 0) aD) aS (nomark _))
  (aF (aR (i:=12) bQ.s.nd (aK opAdd (aK opAdd (aB 12) (qc (pT T) hr (aA (aB 1) (aA (aB 10) aC)))) (qc (pT T) hr (aA (aB 10) (aA (aB 11) aC))))))
  aQ)
  (aF (aN (aB 12)))))))))))))⟩
def kP(r_l_roles:Fn):FS:=vT.1 r_l_roles
def dL:Nat->Fn
 |0=>λ_ _=>.bad
 |d+1=>fnD 5 13 (kP (dL d))
theorem qY{P:Program}{w:World}{K:Frag}{mg:Str->Option Value}{base:Heap}{a:Adr}:∀(d:Nat) (T:Tx K mg a),Q0 P w K mg base (d+50) kL (dL (d))
 |0,T=>q0b (dk T.t.d_l_roles T.h bQ)
 |d+1,T=>by
  have ih:=qY (P:=P) (w:=w) (base:=base) d T
  rw[aCG]
  exact q0 (dk T.t.d_l_roles T.h bQ) bQ.s (vT.2 T (dL d) (d+50) (aCM ..) ih)
abbrev yR:{b:FS // ∀{P:Program} {w:World} {K:Frag} {mg:Str->Option Value} {base:Heap} {a:Adr},Tx K mg a->B0 P w K mg base 0 tE b}:=⟨_,λT=>λhr =>
  (aE (aZ (iP (fR (aM (opNe (aJ hr)) (aG (aB 1) aD) aS (nomark _)) (fR (aM (opNe (aJ hr)) (aG (aB 1) aD) (aG (aB 2) aD) (nomark _)) (fJ (aM (opNe (aJ hr)) (aG (aB 1) aD) (aG (aB 2) aD) (nomark _))))))
  (aF (aN lU))
  aQ)
  (aE (aR (i:=3) oN.s.nd (aG (cU (aA (aK opMod (aK opSub aD (aG (aB 1) aD)) (aB 0)) (aA (aG (aB 1) aD) aC))) (bV callInt rfl T.z_int fF (aA (aG (aB 2) aD) aC))))
  (aE (aZ (aM (opEq (aJ hr)) (aG (aB 1) aD) (aH aC) (nomark _))
  (aF (aN (aH (aA aS (aA (aB 3) aC)))))
  aQ)
  (aE (aZ (iP (fR (aM (opNe (aJ hr)) (bC callLen rfl T.z_len aBD (aA (aG (aB 1) aD) aC)) aD (nomark _)) (fJ (aM (opNe (aJ hr)) (aB 3) aD (nomark _)))))
  (aF (aN lU))
  aQ)
  (aF (aN (aH (aA aS (aA (aG (aG (aB 1) aD) aD) aC)))))))))⟩
def zJ:FS:=yR.1
def sL:Fn:=fnD 3 4 zJ
theorem vU(T:Tx K mg a):Q0 P w K mg base 1 tE sL:=q0 (dk T.t.d_l_leaf T.h oN) oN.s (yR.2 T)
abbrev lA:{b:FS // ∀{P:Program} {w:World} {K:Frag} {mg:Str->Option Value} {base:Heap} {a:Adr},Tx K mg a->B0 P w K mg base 2 gA b}:=⟨_,λT=>λhr =>
  (aE (cV (cP:=True) (i:=2) (j:=3) trivial dC.s.nd (aA (aG (aB 0) aD) (aA (aG (aB 0) aD) aC)))
  (aE (iD PassesOwn.never rfl (aMa T.z_enumerate (aB 1)) (dE (n:=2) rfl (aW (aT (i:=4) dC.s.nd) (aW (aT (i:=5) dC.s.nd) bZ)))
  (aE (aZ (aM (opEq (aJ hr)) (aB 4) (bC callLen rfl T.z_len aBD (aA (aB 3) aC)) (nomark _))
  (aF (aN (aB 4)))
  aQ)
  (aE (aZ (iP (jG (aM (opEq (aJ hr)) (aG (aB 5) aD) aS (nomark _)) (gR (aM opIs (qc (vU T) hr (aA (aB 2) (aA (aG (aB 3) (aB 4)) (aA (aB 5) aC)))) lU (nomark _)))))
  (aF (aN (aB 4)))
  aQ)
  (aF (aZ (iP (jG (aM (opEq (aJ hr)) (aG (aB 5) aD) aS (nomark _)) (gR (aM (opNe (aJ hr)) (aG (aB 3) (aB 4)) (aG (qc (bU T) hr (aA (aB 2) (aA (aH (aA (aG (aB 3) (aG (aB 5) aD)) aC)) aC))) aD) (nomark _)))))
  (aF (aN (aB 4)))
  aQ)))))
  (aF (aN (aG (cU (aA (bC callLen rfl T.z_len aBD (aA (aB 1) aC)) (aA lU aC))) (bV callInt rfl T.z_int fF (aA (dN (opEq (aJ hr)) (bC callLen rfl T.z_len aBD (aA (aB 3) aC)) (bC callLen rfl T.z_len aBD (aA (aB 1) aC)) (nomark _)) aC)))))))⟩
def lB:FS:=lA.1
def gD:Fn:=fnD 2 6 lB
theorem sV(T:Tx K mg a):Q0 P w K mg base 3 gA gD:=q0 (dk T.t.d_l_first_bad T.h dC) dC.s (lA.2 T)
abbrev pZ:{b:Fn->FS // ∀{P:Program} {w:World} {K:Frag} {mg:Str->Option Value} {base:Heap} {a:Adr} (T:Tx K mg a) (r_l_spelled:Fn) (l:Nat) (hl:50<=l) (ih_l_spelled:Q0 P w K mg base l fX r_l_spelled),B0 P w K mg base l fX (b r_l_spelled)}:=⟨λr_l_spelled=>_,λT r_l_spelled l hl ih_l_spelled=>λhr =>
  (aE (aZ (aM (opEq (aJ hr)) (aB 0) (aH (aA aS aC)) (nomark _))
  (aF (aN (aB 1)))
  aQ)
  (aE (aR (i:=3) cL.s.nd (aH (aA (aB 2) (aA (dN (opEq (aJ hr)) (aB 2) (dN (opEq (aJ hr)) (aG (aB 0) aD) aS (nomark _)) (nomark _)) aC))))
  (aE (aZ (aM (opEq (aJ hr)) (aG (aB 0) aD) aS (nomark _))
  (aF (aR (i:=3) cL.s.nd (aH (aA dM (aA dM aC)))))
  aQ)
  (aE (aZ (aM (opEq (aJ hr)) (dN (opEq (aJ hr)) (aG (aB 0) aD) aS (nomark _)) (aB 2) (nomark _))
  (aE (aR (i:=4) cL.s.nd (qc ih_l_spelled hr (aA (aG (aB 0) aD) (aA (aB 1) (aA (aG (aB 3) aD) aC)))))
  (aF (aN (aH (aA (aG (aB 0) aD) (aA (qc ih_l_spelled hr (aA (aG (aB 0) aD) (aA (aK opAdd (aB 1) (qc (fK 50 T) hr (aA (aG (aB 0) aD) aC))) (aA (aG (aB 3) aD) aC)))) (aA (aB 4) aC)))))))
  aQ)
  (aE (aR (i:=5) cL.s.nd (qc ih_l_spelled hr (aA (aG (aB 0) aD) (aA (aB 1) (aA (aG (aB 3) aD) aC)))))
  (aF (aN (aH (aA (aG (aB 0) aD) (aA (aB 5) (aA (qc ih_l_spelled hr (aA (aG (aB 0) aD) (aA (aK opAdd (aB 1) (qc (fK 50 T) hr (aA (aG (aB 0) aD) aC))) (aA (aG (aB 3) aD) aC)))) aC)))))))))))⟩
def fT(r_l_spelled:Fn):FS:=pZ.1 r_l_spelled
def cA:Nat->Fn
 |0=>λ_ _=>.bad
 |d+1=>fnD 3 6 (fT (cA d))
theorem nA{P:Program}{w:World}{K:Frag}{mg:Str->Option Value}{base:Heap}{a:Adr}:∀(d:Nat) (T:Tx K mg a),Q0 P w K mg base (d+50) fX (cA (d))
 |0,T=>q0b (dk T.t.d_l_spelled T.h cL)
 |d+1,T=>by
  have ih:=nA (P:=P) (w:=w) (base:=base) d T
  rw[aCG]
  exact q0 (dk T.t.d_l_spelled T.h cL) cL.s (pZ.2 T (cA d) (d+50) (aCM ..) ih)
abbrev zR:{b:Fn->FS // ∀{P:Program} {w:World} {K:Frag} {mg:Str->Option Value} {base:Heap} {a:Adr} (T:Tx K mg a) (r_l_told:Fn) (l:Nat) (hl:1<=l) (ih_l_told:Q0 P w K mg base l nQ r_l_told),B0 P w K mg base l nQ (b r_l_told)}:=⟨λr_l_told=>_,λT r_l_told l hl ih_l_told=>λhr =>
  (aE (aZ (eW (iU aBf T.z_isinstance T.z_int fF (aB 1)))
  (aF (aN (qc (vU T) hr (aA (aG (aB 0) aD) (aA (aG (aG (aB 0) aD) (aB 1)) (aA (aG (aB 2) (aB 1)) aC))))))
  aQ)
  (aE (aR (i:=3) kR.s.nd (qc ih_l_told hr (aA (aB 0) (aA (aG (aB 1) aD) (aA (aB 2) aC)))))
  (aF (aN (aH (aA (aG (aB 1) aD) (aA (aB 3) (aA (qc ih_l_told hr (aA (aB 0) (aA (aG (aB 1) aD) (aA (aB 2) aC)))) aC))))))))⟩
def rE(r_l_told:Fn):FS:=zR.1 r_l_told
def dP:Nat->Fn
 |0=>λ_ _=>.bad
 |d+1=>fnD 3 4 (rE (dP d))
theorem vR{P:Program}{w:World}{K:Frag}{mg:Str->Option Value}{base:Heap}{a:Adr}:∀(d:Nat) (T:Tx K mg a),Q0 P w K mg base (d+1) nQ (dP (d))
 |0,T=>q0b (dk T.t.d_l_told T.h kR)
 |d+1,T=>by
  have ih:=vR (P:=P) (w:=w) (base:=base) d T
  rw[aCG]
  exact q0 (dk T.t.d_l_told T.h kR) kR.s (zR.2 T (dP d) (d+1) (aCM ..) ih)
abbrev fU:{b:FS // ∀{P:Program} {w:World} {K:Frag} {mg:Str->Option Value} {base:Heap} {a:Adr},Tx K mg a->B0 P w K mg base 1 eB b}:=⟨_,λT=>λhr =>
  (aE (aZ (iP (fR (aM (opEq (aJ hr)) (aB 3) aD (nomark _)) (fJ (aM (opEq (aJ hr)) (aB 1) aD (nomark _)))))
  (aE (aDm (i:=4) bS.s.nd rfl (CompOk.of (N0:=aIT) (sc0:=defScope cW) (Nc:=["_law_ks","_law_deed_here"]) (js:=[none,some 2]) (by decide +kernel)) (cE T.z_range (aB 1)) (λ_ _ _ _ _ _=>(aT (i:=0) (show(["_law_ks","_law_deed_here"]:List Str).Nodup by decide +kernel))) (λ_ _ _ _ _ _=>(wC (aM opNotIn (aB 0) (aG (aB 1) aD) (by with_unfolding_all rfl)))) (λ_ _ _ _ _ _=>(aB 0)))
  (aF (aN (aK opAdd (aK opAdd (bG (aB 2) cZ (bY aD)) (aH (aA (aG (aB 4) (qc (aP T) hr (aA (aB 0) (aA (bC callLen rfl T.z_len aBD (aA (aB 4) aC)) aC)))) aC))) (bG (aB 2) (bY aD) cZ)))))
  aQ)
  (aE (aDm (i:=4) bS.s.nd rfl (CompOk.of (N0:=aIT) (sc0:=defScope cW) (Nc:=["_law_kt","_law_deed_here"]) (js:=[none,some 2]) (by decide +kernel)) (cE T.z_range (aB 1)) (λ_ _ _ _ _ _=>(aT (i:=0) (show(["_law_kt","_law_deed_here"]:List Str).Nodup by decide +kernel))) (λ_ _ _ _ _ _=>(wC (aM (opNe (aJ hr)) (aB 0) (aG (aB 1) aD) (nomark _)))) (λ_ _ _ _ _ _=>(aB 0)))
  (aE (cV (cP:=True) (i:=5) (j:=6) trivial bS.s.nd (aA (aG (aB 4) (qc (aP T) hr (aA (aB 0) (aA (bC callLen rfl T.z_len aBD (aA (aB 4) aC)) aC)))) (aA (aG (aB 2) aD) aC)))
  (aE (aR (i:=6) bS.s.nd (aG (cU (aA (aK opAdd (aB 6) (aH (aA (aB 5) aC))) (aA (bG (aB 6) cZ (bY (aBw aD))) (aA (aH (aA (aB 5) aC)) (aA (aK opAdd (aB 6) (aB 6)) aC))))) (qc (aP T) hr (aA (aB 0) (aA aD aC)))))
  (aF (aN (aK opAdd (bG (aB 2) cZ (bY aD)) (aH (aA (bG (bV callTup rfl T.z_tuple dR (aA (bC (callSortT rfl) rfl T.z_sorted jW (aA (aB 6) aC)) aC)) cZ (bY aD)) aC)))))))))⟩
def fS:FS:=fU.1
def eI:Fn:=fnD 4 7 fS
theorem lN(T:Tx K mg a):Q0 P w K mg base 2 eB eI:=q0 (dk T.t.d_l_other_shelves T.h bS) bS.s (fU.2 T)
abbrev sC:{b:FS // ∀{P:Program} {w:World} {K:Frag} {mg:Str->Option Value} {base:Heap} {a:Adr},Tx K mg a->B0 P w K mg base 3 mK b}:=⟨_,λT=>λhr =>
  (aE (cS (aB 1) (dE (n:=4) rfl (aW (aT (i:=2) bH.s.nd) (aW (aT (i:=3) bH.s.nd) (aW (aT (i:=4) bH.s.nd) (aW (aT (i:=5) bH.s.nd) bZ))))))
  (aE (aZ (aM (opEq (aJ hr)) (aB 5) (aH aC) (nomark _))
  (aF (aN (aH (aA (aB 2) (aA (aB 3) (aA (aB 4) (aA (aH (aA (qc (uK T) hr (aA (aB 0) (aA (aB 2) (aA (aB 3) (aA (aB 4) aC))))) aC)) aC)))))))
  aQ)
  (aE (aR (i:=6) bH.s.nd (qc (aP T) hr (aA (aB 0) (aA (bC callLen rfl T.z_len aBD (aA (aB 5) aC)) aC))))
  (aE (aR (i:=7) bH.s.nd (qc (aP T) hr (aA (aB 0) (aA aD aC))))
  (aE (aR (i:=8) bH.s.nd (aG (aB 5) (aB 6)))
  (aE (aR (i:=9) bH.s.nd (qc (uK T) hr (aA (aB 0) (aA (aB 2) (aA (aB 3) (aA (aB 4) aC))))))
  (aE (aZ (iP (jG (aM opGt (aB 7) aD (nomark _)) (gR (aM (opEq (aJ hr)) (aG (aB 8) aD) aS (nomark _)))))
  (aF (aR (i:=9) bH.s.nd (qc (lN T) hr (aA (aB 0) (aA (aB 4) (aA (aB 8) (aA (aB 7) aC)))))))
  aQ)
  (aE (aZ (iP (jG (aM opLt (aB 7) aD (nomark _)) (gR (aM (opEq (aJ hr)) (aG (aB 8) aD) aS (nomark _)))))
  (aE (aR (i:=10) bH.s.nd (aK opMod (aK opAdd (aK opAdd (aG (aB 8) aD) aD) (qc (aP T) hr (aA (aB 0) (aA (aK opSub (aB 2) aD) aC)))) (aB 2)))
  (aF (aR (i:=9) bH.s.nd (aK opAdd (aK opAdd (bG (aB 8) cZ (bY aD)) (aH (aA (aB 10) aC))) (bG (aB 8) (bY aD) cZ)))))
  aQ)
  (aE (aZ (iP (jG (aM (opEq (aJ hr)) (aB 7) aD (nomark _)) (jG (aM (opEq (aJ hr)) (aG (aB 8) aD) aS (nomark _)) (gR (aM opGt (aB 3) aD (nomark _))))))
  (aE (aR (i:=11) bH.s.nd (bG (bV callTup rfl T.z_tuple dR (aA (bC (callSortT rfl) rfl T.z_sorted jW (aA (aK opAdd (aG (aB 8) aD) (aH (aA (qc (aP T) hr (aA (aB 0) (aA (aB 3) aC))) aC))) aC)) aC)) cZ (bY aD)))
  (aF (aR (i:=9) bH.s.nd (aK opAdd (aK opAdd (bG (aB 8) cZ (bY aD)) (aH (aA (aB 11) aC))) (bG (aB 8) (bY aD) cZ)))))
  aQ)
  (aE (aZ (aM opIn (aB 7) (aH (aA aD (aA aD aC))) (by with_unfolding_all rfl))
  (aF (aN (aH (aA (aB 2) (aA (aB 3) (aA (aB 4) (aA (aK opAdd (bG (aB 5) cZ (bY (aK opSub (aK opAdd (aB 6) (aB 7)) aD))) (bG (aB 5) (bY (aK opSub (aK opAdd (aB 6) aD) (aB 7))) cZ)) aC)))))))
  aQ)
  (aE (aZ (aM (opEq (aJ hr)) (aB 7) aD (nomark _))
  (aF (aN (aH (aA (aB 2) (aA (aB 3) (aA (aB 4) (aA (aK opAdd (aK opAdd (bG (aB 5) cZ (bY (aB 6))) (aEg rfl T.z_tuple T.z_reversed (bG (aB 5) (bY (aB 6)) (bY (aK opAdd (aB 6) aD))))) (bG (aB 5) (bY (aK opAdd (aB 6) aD)) cZ)) aC)))))))
  aQ)
  (aE (aZ (aM (opEq (aJ hr)) (aB 7) aD (nomark _))
  (aE (aR (i:=6) bH.s.nd (qc (aP T) hr (aA (aB 0) (aA (aK opAdd (bC callLen rfl T.z_len aBD (aA (aB 5) aC)) aD) aC))))
  (aF (aN (aH (aA (aB 2) (aA (aB 3) (aA (aB 4) (aA (aK opAdd (aK opAdd (bG (aB 5) cZ (bY (aB 6))) (aH (aA (aB 9) aC))) (bG (aB 5) (bY (aB 6)) cZ)) aC))))))))
  aQ)
  (aF (aN (aH (aA (aB 2) (aA (aB 3) (aA (aB 4) (aA (aK opAdd (aK opAdd (bG (aB 5) cZ (bY (aB 6))) (aH (aA (aB 9) aC))) (bG (aB 5) (bY (aK opAdd (aB 6) aD)) cZ)) aC)))))))))))))))))))⟩
def tH:FS:=sC.1
def lV:Fn:=fnD 2 12 tH
theorem pW(T:Tx K mg a):Q0 P w K mg base 4 mK lV:=q0 (dk T.t.d_l_spoilt T.h bH) bH.s (sC.2 T)
abbrev yD:{b:Fn->FS // ∀{P:Program} {w:World} {K:Frag} {mg:Str->Option Value} {base:Heap} {a:Adr} (T:Tx K mg a) (r_l_bent:Fn) (l:Nat) (hl:1<=l) (ih_l_bent:Q0 P w K mg base l mZ r_l_bent),B0 P w K mg base l mZ (b r_l_bent)}:=⟨λr_l_bent=>_,λT r_l_bent l hl ih_l_bent=>λhr =>
  (aE (aZ (aM (opEq (aJ hr)) (aB 1) (aH (aA aS aC)) (nomark _))
  (aF (aN (aH (aA (aG (cU (aA aS (aA aS (aA aS aC)))) (qc (aP T) hr (aA (aB 0) (aA aD aC)))) (aA (aB 1) (aA (aB 1) aC))))))
  aQ)
  (aE (aR (i:=3) kJ.s.nd (qc (aP T) hr (aA (aB 0) (aA aD aC))))
  (aE (aZ (iP (fR (aM (opEq (aJ hr)) (aB 3) aD (nomark _)) (fJ (aM (opEq (aJ hr)) (aB 2) aD (nomark _)))))
  (aF (aN (aH (aA aS aC))))
  aQ)
  (aE (aZ (aM (opEq (aJ hr)) (aB 3) aD (nomark _))
  (aF (aN (aK opAdd (aH (aA (aG (cU (aA aS (aA aS (aA aS aC)))) (qc (aP T) hr (aA (aB 0) (aA aD aC)))) aC)) (bG (aB 1) (bY aD) cZ))))
  aQ)
  (aE (aZ (aM (opEq (aJ hr)) (aB 3) aD (nomark _))
  (aF (aN (aH (aA (aG (aB 1) aD) (aA (aG (aB 1) aD) (aA (aG (aB 1) aD) aC))))))
  aQ)
  (aE (aZ (aM opLt (aB 3) aD (nomark _))
  (aF (aN (aH (aA (aG (aB 1) aD) (aA (qc ih_l_bent hr (aA (aB 0) (aA (aG (aB 1) aD) (aA (aK opSub (aB 2) aD) aC)))) (aA (aG (aB 1) aD) aC))))))
  aQ)
  (aF (aN (aH (aA (aG (aB 1) aD) (aA (aG (aB 1) aD) (aA (qc ih_l_bent hr (aA (aB 0) (aA (aG (aB 1) aD) (aA (aK opSub (aB 2) aD) aC)))) aC))))))))))))⟩
def xT(r_l_bent:Fn):FS:=yD.1 r_l_bent
def jC:Nat->Fn
 |0=>λ_ _=>.bad
 |d+1=>fnD 3 4 (xT (jC d))
theorem vN{P:Program}{w:World}{K:Frag}{mg:Str->Option Value}{base:Heap}{a:Adr}:∀(d:Nat) (T:Tx K mg a),Q0 P w K mg base (d+1) mZ (jC (d))
 |0,T=>q0b (dk T.t.d_l_bent T.h kJ)
 |d+1,T=>by
  have ih:=vN (P:=P) (w:=w) (base:=base) d T
  rw[aCG]
  exact q0 (dk T.t.d_l_bent T.h kJ) kJ.s (yD.2 T (jC d) (d+1) (aCM ..) ih)
abbrev aDb:{b:FS // ∀{P:Program} {w:World} {K:Frag} {mg:Str->Option Value} {base:Heap} {a:Adr},Tx K mg a->B0 P w K mg base 102 xH b}:=⟨_,λT=>λhr =>
  (aE (aZ (eW (aB 0))
  (aF (aN (qc (jD 50 T) hr (aA (aB 1) (aA (aB 2) (aA (aG (aB 3) aD) (aA (aG (aB 3) aD) (aA (aG (aB 3) aD) aC))))))))
  aQ)
  (aF (aN (qc (jP 50 T) hr (aA (aB 1) (aA (aB 2) (aA (aG (aB 3) aD) (aA (aG (aB 3) aD) (aA (aG (aB 3) aD) aC)))))))))⟩
def aCz:FS:=aDb.1
def wZ:Fn:=fnD 4 4 aCz
theorem aIm(T:Tx K mg a):Q0 P w K mg base 103 xH wZ:=q0 (dk T.t.d_l_row T.h yP) yP.s (aDb.2 T)
abbrev vH:{b:FS // ∀{P:Program} {w:World} {K:Frag} {mg:Str->Option Value} {base:Heap} {a:Adr},Tx K mg a->B1 P w K mg base 54 pB b}:=⟨_,λT=>λhr hz =>
  (aE (aR (i:=4) eP.s.nd lU)
  (aE (aHg (i:=5) (aNe T.nm_LentError) T.m_LentError eP.s.nd
  (aQg (aMd aS (qx (aFx T) hr (aA (aB 0) (aA (aB 1) (aA (aG (aB 2) aD) (aA (aG (aB 2) aD) (aA (aG (aB 2) aD) (aA (aB 3) aC)))))))))
  (λ_=>(aF (aR (i:=4) eP.s.nd (aB 5)))))
  (aE (aR (i:=6) eP.s.nd (aJl (fB (iA T.xc_BadText) T.m_BadText (fB (iA T.xc_NoDeed) T.m_NoDeed (fB (iA T.xc_NoInverse) T.m_NoInverse (fB (iA T.xc_NoMove) T.m_NoMove (fB (iA T.xc_NoRest) T.m_NoRest (fB (iA T.xc_NoRoot) T.m_NoRoot (fB (iA T.xc_NoRow) T.m_NoRow (fB (iA T.xc_TooMany) T.m_TooMany aKt)))))))) T.z_isinstance (aB 4)))
  (aE (aZ (iP (fR (eW (aB 6)) (fR (xA (eW (aOj (iA T.xc_NoPaper) T.m_NoPaper T.z_isinstance (aB 4)))) (fJ (xA (eW (aKn T.z_ValueError T.z_isinstance (aB 4))))))))
  (aF (aN (aH (aA aS (aA aD aC)))))
  aQ)
  (aF (aN (aH (aA aS (aA (aQe (aB 4)) aC)))))))))⟩
def vK:FS:=vH.1
def oR:Fn:=fnX 4 7 vK
theorem aBn(T:Tx K mg a):Q1 P w K mg base 55 pB oR:=q1 (dk T.t.d_l_heard T.h eP) eP.s (vH.2 T)
abbrev uH:{b:FS // ∀{P:Program} {w:World} {K:Frag} {mg:Str->Option Value} {base:Heap} {a:Adr},Tx K mg a->B1 P w K mg base 100 oO b}:=⟨_,λT=>λhr hz =>
  (aE (aR (i:=4) fO.s.nd (qcP (qY 50 T) hr (aA (aB 1) (aA aD (aA (aB 2) (aA (aB 3) (aA dM aC)))))))
  (aE (aR (i:=5) fO.s.nd (aH (aA aS (aA (qcP (sV T) hr (aA (aB 0) (aA (aB 4) aC))) aC))))
  (aE (aZ (aM opIs (aG (aB 5) aD) lU (nomark _))
  (aF (aR (i:=5) fO.s.nd (aH (aA aS (aA (qcP (vR 50 T) hr (aA (aB 0) (aA (qcP (nA 50 T) hr (aA (aB 1) (aA aD (aA dM aC)))) (aA (aB 4) aC)))) aC)))))
  aQ)
  (aF (aN (qcP (aAa T) hr (aA (qcX hz (aBn T) hr (aA (aB 0) (aA (aB 1) (aA (aB 2) (aA (aB 3) aC))))) (aA (aB 5) aC))))))))⟩
def vF:FS:=uH.1
def oX:Fn:=fnX 4 6 vF
theorem aAk(T:Tx K mg a):Q1 P w K mg base 101 oO oX:=q1 (dk T.t.d_l_right T.h fO) fO.s (uH.2 T)
abbrev aMs:{b:FS // ∀{P:Program} {w:World} {K:Frag} {mg:Str->Option Value} {base:Heap} {a:Adr},Tx K mg a->B1 P w K mg base 103 aDo b}:=⟨_,λT=>λhr hz =>
  (aE (iD aFE rfl (cE T.z_range (bC (callMax2 rfl) rfl T.z_max aAw (aA aD (aA (bC (callMin2 rfl) rfl T.z_min aIq (aA aD (aA (bC callLen rfl T.z_len aBD (aA (aB 0) aC)) aC))) aC)))) (aT (i:=1) dA.s.nd)
  (aE (aR (i:=2) dA.s.nd (qcP (aGy T) hr (aA (aB 0) (aA (aB 1) aC))))
  (aE (aKd (i:=3) (j:=4) (k:=5) rfl dA.s.nd (aA (qcP (aNx T) hr (aA (aB 2) aC)) (aA (qcP (aP T) hr (aA (aB 2) (aA aD aC))) (aA (dN (opEq (aJ hr)) (qcP (aP T) hr (aA (aB 2) (aA aD aC))) aD (nomark _)) aC))))
  (aE (cV (cP:=True) (i:=6) (j:=7) trivial dA.s.nd (aA (qcP (pJ T) hr (aA (aB 2) (aA (aK opAdd aD (qcP (aP T) hr (aA (aB 2) (aA aD aC)))) aC))) (aA (qcP (sR T) hr (aA (aB 2) (aA (aB 4) aC))) aC)))
  (aE (aZ (iP (jG (aM (opEq (aJ hr)) (aB 1) aD (nomark _)) (gR (aM (opEq (aJ hr)) (qcP (aP T) hr (aA (aB 2) (aA aD aC))) aD (nomark _)))))
  (aF (aR (i:=7) dA.s.nd (qcP (aBy T) hr (aA (aB 2) (aA (aB 4) aC)))))
  aQ)
  (aE (cV (cP:=True) (i:=8) (j:=9) trivial dA.s.nd (aA (qcP (aIm T) hr (aA (aB 5) (aA (aB 3) (aA (aB 7) (aA (aB 6) aC))))) (aA (qcP (tF 50 T) hr (aA (aB 7) aC)) aC)))
  (aE (aR (i:=10) dA.s.nd (aH (aA (aB 3) (aA (aB 4) (aA (qcP (wX T) hr (aA (aB 2) (aA (aB 8) aC))) (aA (aB 8) aC))))))
  (aE (aR (i:=11) dA.s.nd (qO (aA (aH (aA (aB 10) (aA (aB 9) (aA (aB 6) aC)))) (aA (aH (aA (aK opAdd (bG (aB 10) cZ (bY aD)) (aH (aA (aH aC) aC))) (aA (aB 9) (aA (aB 6) aC)))) (aA (aH (aA (aB 10) (aA (aB 9) (aA (qcP (pJ T) hr (aA (aB 2) (aA aD aC))) aC)))) aC)))))
  (aE (iD aFE rfl (cE T.z_range aD) (aT (i:=12) dA.s.nd)
  (aE (aR (i:=13) dA.s.nd (qcP (pW T) hr (aA (aB 2) (aA (aB 10) aC))))
  (aF (mY (sK (aB 11) (cU (aA (aH (aA (aB 13) (aA (aB 9) (aA (aB 6) aC)))) (aA (aH (aA (qcP (pW T) hr (aA (aB 2) (aA (aB 13) aC))) (aA (aB 9) (aA (aB 6) aC)))) aC))))))))
  (aE (iD aFE rfl (cE T.z_range aD) (aT (i:=12) dA.s.nd)
  (aF (mY (oM (aB 11) (aH (aA (aB 10) (aA (qcP (vN 50 T) hr (aA (aB 2) (aA (aB 9) (aA aD aC)))) (aA (aB 6) aC))))))))
  (aF (iD aFE rfl (aNn (aK opAdd (aB 11) (bG (aB 11) cZ (bY aD)))) (dE (n:=3) rfl (aW (aT (i:=14) dA.s.nd) (aW (aT (i:=15) dA.s.nd) (aW (aT (i:=16) dA.s.nd) bZ))))
  (aF (aZ (xA (eW (qcX hz (aAk T) hr (aA (aB 14) (aA (aB 15) (aA (aB 16) (aA (aB 5) aC)))))))
  (aF (aN dM))
  aQ))))))))))))))
  (aF (aN dM)))⟩
def aMt:FS:=aMs.1
def sD:Fn:=fnX 1 17 aMt
end
theorem aMy(T:Tx K mg a):Q1 P w K mg base 104 aDo sD:=q1 (dk T.t.d_law T.h dA) dA.s (aMs.2 T)
open PySem L2 EV LS
local macro_rules | `(tactic| rfl') => `(tactic| repeat decreasing_trivial_pre_omega)
local macro_rules | `(tactic| decreasing_trivial_pre_omega) => `(tactic| with_reducible first
 | apply bT
 | apply xF
 | apply pG
 | apply aMq
 | refine aSi (by with_unfolding_all exact rfl) ?_
 | apply aSg
 | apply aSh
 | apply aRk
 | apply aGh
 | apply aMr
 | apply dG
 | apply aRx
 | apply gG
 | apply aQu
 | apply aRg
 | apply aRe
 | apply aHt
 | apply aJp
 | apply aPh
 | apply aOs
 | apply aFf
 | apply aQd
 | apply aNb
 | apply aPu
 | (refine aRm ?hz ?_; case hz=>(with_unfolding_all first | exact rfl | decide | ((try simp only [aBH,true_and,and_true,aAK,aEN,aHJ,aAP,aGU]) <;> lia)))
 | (refine aPa ?hz ?_; case hz=>(with_unfolding_all first | decide | ((try simp only [mulOk,aBH,aAK,aEN,aHJ,aAP,aGU]) <;> lia)))
 | apply aPm
 | apply aNy
 | apply aPw
 | apply aOo
 | apply aQt
 | apply aOh
 | refine mM (by with_unfolding_all exact rfl) ?_
 | refine cG (by with_unfolding_all exact rfl) ?_
 | refine aAp (by with_unfolding_all exact rfl) ?_
 | refine aGz (by assumption) (by with_unfolding_all exact rfl) ?_
 | refine aGz (aCB (by simpa only [List.length_set])) (by with_unfolding_all exact rfl) ?_
 | apply aJt
 | apply aKp
 | apply aPs
 | apply aRu
 | apply aJv
 | apply aRa
 | refine aHu (by with_unfolding_all exact rfl) (by with_unfolding_all simp) ?_
 | refine aPe (by with_unfolding_all exact rfl) (by with_unfolding_all simp) ?_
 | refine aOw (by with_unfolding_all exact rfl) (by with_unfolding_all simp) ?_
 | apply aLo
 | apply aJu
 | apply aLk
 | apply aJw
 | refine aCj (by assumption) ?_
 | apply aLe
 | apply aNa
 | apply aPn
 | apply aSe
 | apply aRo
 | apply aNv
 | apply aQn
 | apply aQf
 | apply aPl
 | apply aNg
 | refine aQr (s:=⟨[],none⟩) ?_
 | apply aNw
 | refine vQ (by with_unfolding_all (simp <;> lia)) ?_
 | apply aEu
 | apply aGs
 | apply aKq
 | apply aMf
 | apply aQw
 | apply aNc
 | apply aPq
 | refine aPv (by with_unfolding_all exact rfl) ?_
 | apply wW
 | refine aSa (by with_unfolding_all exact rfl) ?_
 | refine ⟨_,rfl,?_⟩
 | refine ⟨_,_,_,_,rfl,rfl,by assumption,by with_unfolding_all exact rfl,?_⟩
 | refine ⟨_,_,_,_,rfl,rfl,aCB (by simpa only [List.length_set]),by with_unfolding_all exact rfl,?_⟩
 | refine eQ (by with_unfolding_all decide) ?_
 | refine dO (by with_unfolding_all decide) ?_
 | refine ⟨fun h=>absurd h (by with_unfolding_all decide),fun _=>?_⟩
 | refine ⟨fun _=>?_,fun h=>absurd h (by with_unfolding_all decide)⟩
 | refine ⟨_,_,rfl,?_⟩
 | refine ⟨_,_,_,rfl,?_⟩)
variable{b:Nat}{m:Int}
theorem aO{M:Mm}(h:Bx M b)(h0:0 < m)(h1:m < 18446744073709551616):Ok (rJ [.ref b,.d (.int m)] M) λw M'=>∃d:Int,w=.d (.int d)/\0<=d/\d < m/\Nx b M M':=by
 have hb:=h.lt
 obtain⟨x,y,z,e⟩:=h
 refine bL rfl ?_
 unfold yT
 rfl'
 refine fE (λhx=>?_) (λhx=>?_)
 ·rfl'
  refine⟨aBR _ (by lia),aBB _ h0,x / m,y,z,?_⟩
  rw[aDG (by simp)];rfl
 ·rfl'
  refine⟨aBR _ (by lia),aBB _ h0,?_⟩
  rw[aDG (by simp)]
  exact⟨_,_,_,by rw[List.set_set];rfl⟩
variable{k:Int}
theorem aHh{M:Mm}(h0:0<=k)(hl:ns.length<=63):Ok (aDk [.d (.fz (ns.map D.int)),.d (.int k)] M) λw M'=>∃x y z,w=.ref M.length/\M'=M++[[.int x,.int y,.int z]]:=by
 refine aNo rfl ?_
 have at_:∀i:Int,0<=i->i < (ns.length:Int)->∃n,atI (ns.map D.int) i=some (.int n):=λi a b=>by
  have hi:i.toNat < ns.length:=by lia
  refine⟨ns[i.toNat],?_⟩
  simp only[atI,ixN,aAK]
  rw[aAI a,aAI b]
  simp[hi]
 unfold aDq
 rfl'
 refine fE (λhx=>?_) (λhx=>?_)
 ·rw[aAK]at hx
  obtain⟨n,e⟩:=at_ k h0 hx
  rfl'
  refine aAp e ?_
  rfl'
  refine cG (atBox _) ?_
  rfl'
  exact⟨M.length,[.int _,.int _,.int _],rfl,aAG _,aFM,_,_,_,rfl,by rw[List.take_left]⟩
 ·rfl'
  refine fE (λhy=>?_) (λhy=>?_)
  ·rw[aAK]at hy
   obtain⟨n,e⟩:=at_ (k % ns.length) (aBR _ (by lia)) (aBB _ hy)
   rfl'
   rw[aAK]
   refine aAp e ?_
   rfl'
   refine cG (atBox _) ?_
   rfl'
   exact⟨M.length,[.int _,.int _,.int _],rfl,aAG _,aFM,_,_,_,rfl,by rw[List.take_left]⟩
  ·rfl'
   refine cG (atBox _) ?_
   rfl'
   exact⟨M.length,[.int _,.int _,.int _],rfl,aAG _,aFM,_,_,_,rfl,by rw[List.take_left]⟩
theorem aNm{M:Mm}(hb:Bx M b):Ok (aHs [.ref b] M) λw M'=>∃n:Int,w=.d (.int n)/\2<=n/\n<=1000000/\Nx b M M':=by
 have n:=Nx.refl hb
 unfold aHs
 refine bL rfl ?_
 unfold aMl
 rfl'
 (refine(aO hb (by lia) (by lia)).mono ?_;rintro _ _ ⟨d1,rfl,l_d1,u_d1,n'⟩;replace n:=n.trans n';replace hb:=n'.bx hb;clear n')
 rfl'
 (refine(aO hb (by lia) (by lia)).mono ?_;rintro _ _ ⟨d2,rfl,l_d2,u_d2,n'⟩;replace n:=n.trans n';replace hb:=n'.bx hb;clear n')
 obtain⟨v,ev,mv⟩:=atInts (ns:=[2,3,4,5,6,7,8,9,12,16,30,36,49,64,91,97,210,1009,65536,999983,999999,1000000]) l_d2 (by simpa using u_d2)
 have hv:∀x∈[2,3,4,5,6,7,8,9,12,16,30,36,49,64,91,97,210,1009,65536,999983,999999,(1000000:Int)],2<=x/\x<=1000000:=by decide
 refine cG ev ?_
 rfl'
 refine fE (λ_=>?_) (λ_=>?_)
 ·rfl'
  (refine(aO hb (by lia) (by lia)).mono ?_;rintro _ _ ⟨d3,rfl,l_d3,u_d3,n'⟩;replace n:=n.trans n';replace hb:=n'.bx hb;clear n')
  rfl'
  rw[n.take]
  exact⟨by lia,by lia,n⟩
 ·rfl'
  refine fE (λ_=>?_) (λ_=>?_)
  ·rfl'
   (refine(aO hb (by lia) (by lia)).mono ?_;rintro _ _ ⟨d3,rfl,l_d3,u_d3,n'⟩;replace n:=n.trans n';replace hb:=n'.bx hb;clear n')
   rfl'
   rw[n.take]
   exact⟨by lia,by lia,n⟩
  ·rfl'
   rw[n.take]
   exact⟨(hv v mv).1,(hv v mv).2,n⟩
theorem aFq{M:Mm}(hb:Bx M b)(h2:2<=m)(hn:m<=1000000):Ok (qU [.ref b,.d (.int m)] M) λw M'=>∃r:Int,w=.d (.int r)/\0<=r/\r < m/\Nx b M M':=by
 have n:=Nx.refl hb
 unfold qU
 refine bL rfl ?_
 unfold yI
 rfl'
 (refine(aO hb (by lia) (by lia)).mono ?_;rintro _ _ ⟨d1,rfl,l_d1,u_d1,n'⟩;replace n:=n.trans n';replace hb:=n'.bx hb;clear n')
 rfl'
 refine fE (λ_=>?_) (λ_=>?_)
 ·rfl'
  (refine(aO hb (by lia) (by lia)).mono ?_;rintro _ _ ⟨d2,rfl,l_d2,u_d2,n'⟩;replace n:=n.trans n';replace hb:=n'.bx hb;clear n')
  have e1:(1:Int) % m=1:=aGG (by lia) (by lia)
  obtain⟨w,ew,hw⟩:=at4 l_d2 u_d2 (.int 0) (.int (1 % m)) (.int (m - 1)) (.int ((m - 2) % m))
  refine cG ew ?_
  rcases hw with rfl|rfl|rfl|rfl
  ·rfl'
   rw[n.take]
   exact⟨by lia,by lia,n⟩
  ·rfl'
   rw[n.take]
   exact⟨by lia,by lia,n⟩
  ·rfl'
   rw[n.take]
   exact⟨by lia,by lia,n⟩
  ·rfl'
   rw[n.take]
   exact⟨aBR _ (by lia),aBB _ (by lia),n⟩
 ·rfl'
  (refine(aO hb (by lia) (by lia)).mono ?_;rintro _ _ ⟨d2,rfl,l_d2,u_d2,n'⟩;replace n:=n.trans n';replace hb:=n'.bx hb;clear n')
  rfl'
  rw[n.take]
  exact⟨l_d2,u_d2,n⟩
variable{a:Int}
theorem zE{b:Int}{M:Mm}(ha:0<=a)(hb:0<=b)(hb2:b<=1000000):Ok (lP [.d (.int a),.d (.int b)] M) λw M'=>M'=M/\∃g:Int,w=.d (.int g)/\0<=g/\g ∣ a/\g ∣ b/\∃x y,a*x+b*y=g:=by
 unfold lP
 refine bL rfl ?_
 unfold rB
 rfl'
 refine(gJ (QS:=λo M'=>M'=M/\∃g t,o=.nx [some (.d (.int g)),t]/\0<=g/\g ∣ a/\g ∣ b/\∃x y,a*x+b*y=g)
  (I:=λm L M'=>M'=M/\∃(h l:Int),L=[some (.d (.int h)),some (.d (.int l))]/\m=l.toNat/\0<=h/\0<=l/\l<=1000000/\(∃x y,a*x+b*y=h)/\(∃x y,a*x+b*y=l)/\∀c:Int,c ∣ h->c ∣ l->c ∣ a/\c ∣ b) ?_ NW b.toNat _ _
  ⟨rfl,a,b,rfl,rfl,ha,hb,hb2,⟨1,0,by lia⟩,⟨0,1,by lia⟩,λc h1 h2=>⟨h1,h2⟩⟩ (by rw[xZ];lia)).mono ?_
 ·rintro m L _ ⟨rfl,h,l,rfl,rfl,h0,l0,l1,⟨x1,y1,e1⟩,⟨x2,y2,e2⟩,hd⟩
  rfl'
  refine⟨λhl=>?_,λhl=>?_⟩
  ·have hl:0 < l:=by simpa using hl
   have em1:=aBR h (by lia:l≠0)
   have em2:=aBB h hl
   have e:h - l*(h / l)=h % l:=by rw[Int.emod_def]
   rfl'
   refine⟨(h % l).toNat,by lia,rfl,l,h % l,rfl,rfl,by lia,em1,by lia,⟨x2,y2,e2⟩,⟨x1 - x2*(h / l),y1 - y2*(h / l),?_⟩,?_⟩
   ·rw[<- e,<- e1,<- e2];grind
   ·intro c g1 g2
    refine hd c ?_ g1
    have:=aHR g2 (aGO g1 (aIG l (h / l)))
    rwa[<- e,show h - l*(h / l)+l*(h / l)=h by lia]at this
  ·have hl:l=0:=by simp at hl;lia
   subst hl
   have:=hd h (Int.dvd_refl h) (Int.dvd_zero h)
   exact⟨rfl,h,_,rfl,h0,this.1,this.2,x1,y1,e1⟩
 ·rintro _ _ ⟨rfl,g,t,rfl,h0,d1,d2,x,y,e⟩
  rfl'
  exact⟨by simp,_,rfl,h0,d1,d2,x,y,e⟩
theorem aFv{M:Mm}(hb:Bx M b)(h2:2<=m)(hn:m<=1000000):Ok (sB [.ref b,.d (.int m)] M) λw M'=>∃u:Int,w=.d (.int u)/\Un m u/\Nx b M M':=by
 have n:=Nx.refl hb
 unfold sB
 refine bL rfl ?_
 unfold zG
 rfl'
 (refine(aO hb (by lia) (by lia)).mono ?_;rintro _ _ ⟨d1,rfl,l_d1,u_d1,n'⟩;replace n:=n.trans n';replace hb:=n'.bx hb;clear n')
 rename_i M1
 rfl'
 refine(gJ (QS:=λo M'=>M'=M1/\∃u,o=.nx [some (.ref b),some (.d (.int m)),some (.d (.int u))]/\Un m u)
  (I:=λk L M'=>M'=M1/\∃u:Int,L=[some (.ref b),some (.d (.int m)),some (.d (.int u))]/\0<=u/\u < m/\k=(if u<=1 then 1 - u else m+1 - u).toNat) ?_ NW (if d1<=1 then 1 - d1 else m+1 - d1).toNat _ _
  ⟨rfl,d1,rfl,l_d1,u_d1,rfl⟩ (by rw[xZ];split <;> lia)).mono ?_
 ·rintro k L _ ⟨rfl,u,rfl,u0,u1,rfl⟩
  rfl'
  refine(zE u0 (by lia) hn).mono ?_
  rintro _ _ ⟨rfl,g,rfl,g0,q1,q2,x,y,e⟩
  rfl'
  refine⟨λhg=>?_,λhg=>?_⟩
  ·have hg:g≠1:=by simpa using hg
   have hu:u≠1:=by
    rintro rfl
    have:=Int.le_of_dvd (by lia) q1
    have:g≠0:=by rintro rfl;have:=Int.zero_dvd.mp q1;lia
    lia
   rfl'
   by_cases hm:u+1=m
   ·rw[hm,Int.emod_self]
    refine⟨_,?_,rfl,0,rfl,by lia,by lia,rfl⟩
    split <;> split <;> lia
   ·rw[aGG (by lia) (by lia)]
    refine⟨_,?_,rfl,u+1,rfl,by lia,by lia,rfl⟩
    split <;> split <;> lia
  ·have hg:g=1:=by simpa using hg
   subst hg
   refine⟨rfl,u,rfl,u0,u1,x % m,aBR _ (by lia),aBB _ (by lia),?_⟩
   refine Cg.emod ((Cg.mul Cg.rfl Cg.mod).trans ⟨-y,?_⟩)
   rw[<- e];grind
 ·rintro _ _ ⟨rfl,u,rfl,hu⟩
  rfl'
  rw[n.take]
  exact⟨hu,n⟩
theorem aFo{M:Mm}(hb:Bx M b)(hk:0<=k)(hk2:k < 60)(hm:0 < k->0 < m)(hm2:m < 1000){Q:W->Mm->Prop}(e:outL js L=[none,some (.ref b),some (.d (.int m))])(hi:Ok (fi L M) λs M1=>s=⟨rngD 0 k.toNat,none⟩/\M1=M)
  (q:∀(ns:List Nat) M',(ns.length:Int)=k->(∀x∈ns,(x:Int) < m)->Nx b M M'->Bx M' b->Q (.d (.lst (ns.map λx=>.int (x:Nat)))) M'):Ok (eComp js fi (gN 0) EV.tYes (eA rJ (aCons (eV 1) (aCons (eV 2) aNil))) L M) Q:=by
 refine fD (λi acc L' M'=>∃ns:List Nat,acc=ns.map (λx=>.int (x:Nat))/\ns.length=i/\(∀x∈ns,(x:Int) < m)/\Nx b M M'/\Bx M' b/\∃a,L'=[a,some (.ref b),some (.d (.int m))]) ?_
 refine hi.mono ?_
 rintro _ _ ⟨rfl,rfl⟩
 refine⟨⟨[],rfl,rfl,(λ_ h=>by cases h),Nx.refl hb,hb,none,e⟩,?_,by simp only[rngD,aAK,aBS];lia,?_,?_⟩
 ·rintro i acc L' M' hi ⟨ns,rfl,hl,_,n',_⟩
  exact⟨n'.len,(λt e=>by cases e),by simp[hl]⟩
 ·rintro i d acc _ M1 hx ⟨ns,rfl,hl,hr,n',hb',a,rfl⟩
  obtain⟨hi,rfl⟩:=fC hx
  rfl'
  have q1:=aO (hb'.app (J:=[ns.map λx=>D.int (x:Nat)])) (hm (by lia)) (by lia)
  refine q1.mono ?_
  rintro _ _ ⟨r,rfl,l,u,n2⟩
  obtain⟨M2,rfl,n3⟩:=n2.unapp hb'.lt
  obtain⟨r,rfl⟩:∃k:Nat,r=k:=⟨r.toNat,by lia⟩
  refine⟨_,M2,rfl,rfl,ns++[r],by simp,by simp[hl],?_,n'.trans n3,n3.bx hb',_,rfl⟩
  intro c hc
  rcases aAX.mp hc with hc|hc
  ·exact hr c hc
  ·rw[aAM.mp hc];exact u
 ·rintro acc _ M1 ⟨ns,rfl,hl,hr,n',hb',a,rfl⟩
  simp only[rngD,aAK,aBS]at hl
  exact q ns M1 (by lia) hr n' hb'
variable{S:Nat}
theorem uA{M:Mm}(hb:Bx M b)(h2:2<=m)(hn:m<=1000000)(hG:G<=8)(hS:1<=S)(hS2:S<=9):Ok (sA [.ref b,.d (.int m),.d (.int G),.d (.int S)] M) λw M'=>∃d:Dd,w=.d (encD d)/\OkD m G S d/\SrtD d/\Nx b M M':=by
 have n:=Nx.refl hb
 unfold sA
 refine bL rfl ?_
 unfold zV
 rfl'
 (refine(aO hb (by lia) (by lia)).mono ?_;rintro _ _ ⟨d1,rfl,l_d1,u_d1,n'⟩;replace n:=n.trans n';replace hb:=n'.bx hb;clear n')
 obtain⟨ks,rfl⟩:∃k:Nat,d1=k:=⟨d1.toNat,by lia⟩
 rfl'
 (refine(aO hb (by lia) (by lia)).mono ?_;rintro _ _ ⟨d2,rfl,l_d2,u_d2,n'⟩;replace n:=n.trans n';replace hb:=n'.bx hb;clear n')
 rfl'
 refine fE (λ_=>?_) (λ_=>?_)
 ·rfl'
  refine(aFv hb h2 hn).mono ?_
  rintro _ _ ⟨u,rfl,hu,n'⟩
  replace n:=n.trans n'
  rfl'
  rw[n.take]
  exact⟨.scale ks u,rfl,⟨by lia,hu⟩,trivial,n⟩
 rfl'
 (refine(aO hb (by lia) (by lia)).mono ?_;rintro _ _ ⟨d3,rfl,l_d3,u_d3,n'⟩;replace n:=n.trans n';replace hb:=n'.bx hb;clear n')
 obtain⟨w3,e3,h3⟩:=at3 l_d3 u_d3 (.int 3) (.int 3) (.int 5)
 obtain⟨k3,rfl,k30,k31⟩:∃k:Int,w3=.int k/\3<=k/\k<=5:=by
  rcases h3 with rfl|rfl|rfl
  ·exact⟨_,rfl,by lia,by lia⟩
  ·exact⟨_,rfl,by lia,by lia⟩
  ·exact⟨_,rfl,by lia,by lia⟩
 refine cG e3 ?_
 rfl'
 (refine(aO hb (by lia) (by lia)).mono ?_;rintro _ _ ⟨d4,rfl,l_d4,u_d4,n'⟩;replace n:=n.trans n';replace hb:=n'.bx hb;clear n')
 rfl'
 have hmany:∃k:Int,d4*(if decide (0 < (G:Int))=true then 1 else 0)=k/\0<=k/\k<=4/\(0 < k->0 < (G:Int)):=by
  by_cases hg:0 < (G:Int)
  ·exact⟨d4,by rw[aAI (by simpa using hg),Int.mul_one],by lia,by lia,λ_=>hg⟩
  ·exact⟨0,by rw[aAL (by simpa using hg),Int.mul_zero],by lia,by lia,λh=>by lia⟩
 obtain⟨k,ek,hk0,hk1,hkG⟩:=hmany
 rw[ek]
 rfl'
 refine aFo hb hk0 (by lia) hkG (by lia) rfl ?_ ?_
 ·rfl'
  refine⟨by simp only[in62,aBH];lia,rfl,rfl⟩
 intro gs M1 gl gr n' hb'
 replace n:=n.trans n'
 clear hb n'
 have hb:=hb'
 clear hb'
 obtain⟨g,eg,pg,og⟩:=nO gs
 rfl'
 refine uT (ns:=gs.map λk:Nat=>(k:Int)) rfl (dY gs) (by simp;lia) ?_
 rw[eg]
 rfl'
 refine fD (λi acc L' M'=>acc=((List.range i).filter (·≠ks)).map (λx=>.int (x:Nat))/\M'=M1/\∃a,L'=[a,some (.d (.int ks))]) ?_
 rfl'
 refine⟨by simp only[in62,aBH];lia,⟨rfl,rfl,none,rfl⟩,?_,by simp only[rngD,aAK,aBS];lia,?_,?_⟩
 ·rintro i acc L' M' hi ⟨rfl,rfl,_⟩
  exact⟨rfl,(λt e=>by cases e),by simp only[aAK];exact aAV (aED _ _) (by simp)⟩
 ·rintro i d acc _ _ hx ⟨rfl,rfl,a,rfl⟩
  obtain⟨hi,rfl⟩:=fC hx
  rfl'
  refine⟨λh=>?_,λh=>?_⟩
  ·rfl'
   have hne:i≠ks:=by simp at h;lia
   refine⟨_,_,rfl,rfl,?_,rfl,_,rfl⟩
   rw[aHH,aGB]
   simp[hne]
  ·have hne:i=ks:=by simp at h;lia
   refine⟨_,rfl,?_,rfl,_,rfl⟩
   rw[aHH,aGB]
   simp[hne]
 rintro acc _ _ ⟨rfl,rfl,a,rfl⟩
 simp only[rngD,aAK,aBS,aDP]
 rw[show(List.range S).filter (·≠ks)=othersL S ks from rfl]
 have hts:∀x∈othersL S ks,x < S/\x≠ks:=λx hx=>aBj.mp hx
 have hle:(othersL S ks).length<=9:=aAV (aED _ _) (by simp;lia)
 generalize othersL S ks=os at hts hle
 rfl'
 refine nC rfl rfl (by simp[dep,deps];have:=aEo os;lia) ?_
 rw[aJd]
 rfl'
 refine Ok.mono (Q:=λo M2=>∃(ts:List Nat),o=.nx [some (.ref b),some (.d (.int m)),some (.d (.int G)),some (.d (.int S)),some (.d (.int ks)),some (.d (.int d2)),some (.d (.int k)),some (.d (.lst ((g.map λk:Nat=>(k:Int)).map D.int))),some (.d (.lst (os.map λx=>.int (x:Nat)))),some (.d (.lst ((ts.map λk:Nat=>(k:Int)).map D.int)))]/\(∀x∈ts,x < S/\x≠ks)/\ts.length<=4/\ts.Pairwise (·<=·)/\Nx b M M2/\Bx M2 b) ?_ ?_
 ·refine fE (λhos=>?_) (λ_=>?_)
  ·have hos:os≠[]:=by simpa using hos
   have hpos:0 < os.length:=List.length_pos_iff.mpr hos
   rfl'
   refine fD (λi acc L' M'=>∃ns:List Nat,acc=ns.map (λx=>.int (x:Nat))/\ns.length=i/\(∀x∈ns,x∈os)/\Nx b M M'/\Bx M' b/\∃a,L'=[a,some (.d (.lst (os.map λx=>.int (x:Nat)))),some (.ref b)]) ?_
   rfl'
   (refine(aO hb (by lia) (by lia)).mono ?_;rintro _ _ ⟨d5,rfl,l_d5,u_d5,n'⟩;replace n:=n.trans n';replace hb:=n'.bx hb;clear n')
   obtain⟨w5,e5,h5⟩:=at3 l_d5 u_d5 (.int 2) (.int 3) (.int 5)
   obtain⟨k5,rfl,k50,k51⟩:∃k:Int,w5=.int k/\2<=k/\k<=5:=by
    rcases h5 with rfl|rfl|rfl
    ·exact⟨_,rfl,by lia,by lia⟩
    ·exact⟨_,rfl,by lia,by lia⟩
    ·exact⟨_,rfl,by lia,by lia⟩
   refine cG e5 ?_
   rfl'
   (refine(aO hb (by lia) (by lia)).mono ?_;rintro _ _ ⟨d6,rfl,l_d6,u_d6,n'⟩;replace n:=n.trans n';replace hb:=n'.bx hb;clear n')
   rfl'
   refine⟨by simp only[in62,aBH];lia,⟨[],rfl,rfl,(λ_ h=>by cases h),n,hb,none,rfl⟩,?_,by simp only[rngD,aAK,aBS];lia,?_,?_⟩
   ·rintro i acc L' M' hi ⟨ns,rfl,hl,_,n',_⟩
    exact⟨by rw[n'.len,n.len],(λt e=>by cases e),by simp[hl]⟩
   ·rintro i d acc _ M2 hx ⟨ns,rfl,hl,hr,n',hb',a,rfl⟩
    rfl'
    have q1:=aO (hb'.app (J:=[ns.map λx=>D.int (x:Nat)])) (m:=((os.map λx=>D.int (x:Nat)).length:Int)) (by simp;lia) (by simp;lia)
    refine q1.mono ?_
    rintro _ _ ⟨r,rfl,l,u,n2⟩
    obtain⟨M3,rfl,n3⟩:=n2.unapp hb'.lt
    obtain⟨x,hx1,hx2⟩:=qL l (by simpa using u)
    refine cG hx2 ?_
    refine⟨_,M3,rfl,rfl,ns++[x],by simp,by simp[hl],?_,n'.trans n3,n3.bx hb',_,rfl⟩
    intro c hc
    rcases aAX.mp hc with hc|hc
    ·exact hr c hc
    ·rw[aAM.mp hc];exact hx1
   ·rintro acc _ M2 ⟨ns,rfl,hl,hr,n',hb',a,rfl⟩
    simp only[rngD,aAK,aBS]at hl
    obtain⟨ts,et,pt,ot⟩:=nO ns
    rfl'
    refine uT (ns:=ns.map λk:Nat=>(k:Int)) rfl (dY ns) (by simp;lia) ?_
    rw[et]
    rfl'
    exact⟨λx hx=>hts x (hr x (pt.mem_iff.mp hx)),by rw[pt.length_eq];lia,ot,n',hb'⟩
  ·rfl'
   exact⟨[],rfl,by simp,by simp,.nil,n,hb⟩
 clear n hb
 rintro _ M2 ⟨ts,rfl,ht1,ht2,ht3,n,hb⟩
 rfl'
 refine(aFq hb h2 hn).mono ?_
 rintro _ _ ⟨c,rfl,c0,c1,n'⟩
 replace n:=n.trans n'
 rfl'
 refine jM (xs:=(g.map λk:Nat=>(k:Int)).map D.int) rfl ?_
 rfl'
 refine jM (xs:=(ts.map λk:Nat=>(k:Int)).map D.int) rfl ?_
 rfl'
 rw[n.take]
 refine⟨.add ks c g ts,by simp only[encD,natsD];rw[dY,dY],⟨by lia,c0,c1,?_,λx hx=>(ht1 x hx).1,λhk=>(ht1 ks hk).2 rfl,by rw[pg.length_eq];lia,ht2⟩,⟨og,ht3⟩,n⟩
 intro i hi
 have:=gr i (pg.mem_iff.mp hi)
 lia
theorem kB(g1:G < 1000):∀(k:Nat) (fuel:Nat) (M:Mm) (b:Nat) (r e:Int),Bx M b->r < 1000->e=k->k < fuel->Ok (iZ fuel [.ref b,.d (.int G),.d (.int r),.d (.int e)] M) λw M'=>∃e:E,w=.d (enc e)/\dp e<=k/\wf G e/\Nx b M M':=by
 intro k
 induction k using Nat.strongRecOn with
 |ind k ih =>
 intro fuel M b r e hb r1 he hf
 obtain⟨f,rfl⟩:∃f,fuel=f+1:=⟨fuel - 1,by lia⟩
 subst he
 have n:=Nx.refl hb
 unfold iZ
 refine bL rfl ?_
 unfold xP
 rfl'
 (refine(aO hb (by lia) (by lia)).mono ?_;rintro _ _ ⟨d1,rfl,l_d1,u_d1,n'⟩;replace n:=n.trans n';replace hb:=n'.bx hb;clear n')
 rename_i M1
 refine pG (bT (dG (Ok.mono (Q:=λc M2=>M2=M1/\(c=false->3<=r/\k≠0)) ?_ ?_)))
 ·rfl'
  refine⟨λh=>⟨rfl,λh=>by simp at h⟩,λh=>?_⟩
  rfl'
  refine⟨λh=>⟨rfl,λh=>by simp at h⟩,λh'=>?_⟩
  rfl'
  exact⟨rfl,λ_=>⟨by simpa using h,by simpa using h'⟩⟩
 rintro c _ ⟨rfl,hc⟩
 refine cM (λh=>?_) (λh=>?_)
 ·rfl'
  (refine(aO hb (by lia) (by lia)).mono ?_;rintro _ _ ⟨d2,rfl,l_d2,u_d2,n'⟩;replace n:=n.trans n';replace hb:=n'.bx hb;clear n')
  rfl'
  (refine(aO hb (by lia) (by lia)).mono ?_;rintro _ _ ⟨d3,rfl,l_d3,u_d3,n'⟩;replace n:=n.trans n';replace hb:=n'.bx hb;clear n')
  rfl'
  (refine(aO hb (by lia) (by lia)).mono ?_;rintro _ _ ⟨d4,rfl,l_d4,u_d4,n'⟩;replace n:=n.trans n';replace hb:=n'.bx hb;clear n')
  rfl'
  refine cG (at2I _ _ _) ?_
  refine pG (bT (dG (Ok.mono (Q:=λc M2=>Nx b M M2/\Bx M2 b/\(c=true->0 < G)) ?_ ?_)))
  ·rfl'
   refine⟨λh=>?_,λ_=>⟨n,hb,by simp⟩⟩
   rfl'
   (refine(aO hb (by lia) (by lia)).mono ?_;rintro _ _ ⟨d5,rfl,l_d5,u_d5,n'⟩;replace n:=n.trans n';replace hb:=n'.bx hb;clear n')
   rfl'
   exact⟨n,hb,λ_=>by simpa using h⟩
  clear n hb
  rintro c M2 ⟨n,hb,hg⟩
  refine cM (λh=>?_) (λ_=>?_)
  ·have hg:=hg h
   rfl'
   (refine(aO hb (by lia) (by lia)).mono ?_;rintro _ _ ⟨d6,rfl,l_d6,u_d6,n'⟩;replace n:=n.trans n';replace hb:=n'.bx hb;clear n')
   obtain⟨i,rfl⟩:∃i:Nat,d6=i:=⟨d6.toNat,by lia⟩
   rfl'
   rw[n.take]
   exact⟨.giv i,rfl,by simp[dp],by simp only[wf];lia,n⟩
  ·rfl'
   rw[n.take]
   exact⟨.num _,rfl,by simp[dp],by simp only[wf];split <;> lia,n⟩
 ·obtain⟨hr,hk⟩:=hc h
  obtain⟨k',rfl⟩:∃k',k=k'+1:=⟨k - 1,by lia⟩
  rfl'
  (refine(aO hb (by lia) (by lia)).mono ?_;rintro _ _ ⟨d2,rfl,l_d2,u_d2,n'⟩;replace n:=n.trans n';replace hb:=n'.bx hb;clear n')
  rfl'
  (refine(aO hb (by lia) (by lia)).mono ?_;rintro _ _ ⟨d3,rfl,l_d3,u_d3,n'⟩;replace n:=n.trans n';replace hb:=n'.bx hb;clear n')
  obtain⟨w,ew,hw⟩:=at4 l_d3 u_d3 (.str "sum") (.str "less") (.str "times") (.str "times")
  refine cG ew ?_
  rfl'
  refine(ih k' (by lia) f _ b _ _ hb (by lia) (by lia) (by lia)).mono ?_
  rintro _ _ ⟨a1,rfl,i1,w1,n'⟩
  replace n:=n.trans n'
  replace hb:=n'.bx hb
  clear n'
  rfl'
  refine(ih k' (by lia) f _ b _ _ hb (by lia) (by lia) (by lia)).mono ?_
  rintro _ _ ⟨a2,rfl,i2,w2,n'⟩
  replace n:=n.trans n'
  rfl'
  rw[n.take]
  have hw':∃s:Wd,w=.str s.str:=by
   rcases hw with rfl|rfl|rfl|rfl
   ·exact⟨.sum,rfl⟩
   ·exact⟨.less,rfl⟩
   ·exact⟨.times,rfl⟩
   ·exact⟨.times,rfl⟩
  obtain⟨s,rfl⟩:=hw'
  exact⟨.op s a1 a2,rfl,by simp only[dp];lia,⟨w1,w2⟩,n⟩
theorem pR{M:Mm}(hb:Bx M b)(h0:3<=m)(h1:m<=9):Ok (mJ [.ref b,.d (.int m)] M) λw M'=>∃x y z:Int,w=.d (.tup [.int x,.int y,.int z])/\(x≠y/\x≠z/\y≠z)/\(0<=x/\x < m)/\(0<=y/\y < m)/\(0<=z/\z < m)/\Nx b M M':=by
 unfold mJ
 refine bL rfl ?_
 unfold rK
 rfl'
 refine aOp (by lia) (by lia) ?_
 rfl'
 refine fD (λi acc L' M'=>∃(Mi:Mm) (lf ns:List Int),M'=Mi++[lf.map D.int]/\Nx b M Mi/\Bx Mi b/\(lf.length:Int)=m - i/\acc=ns.map D.int/\ns.length=i/\(ns++lf).Nodup/\(∀x∈ns++lf,0<=x/\x < m)/\∃a,L'=[a,some (.ref M.length),some (.ref b)]) ?_
 rfl'
 refine⟨by decide,⟨M,(List.range m.toNat).map λk=>(0:Int)+(k:Nat),[],?_,Nx.refl hb,hb,by simp;lia,rfl,rfl,?_,?_,none,rfl⟩,?_,by decide,?_,?_⟩
 ·rw[uX];rfl
 ·simp only[aHF]
  refine List.Pairwise.map _ (λa b h=>?_) List.nodup_range
  lia
 ·intro x hx
  obtain⟨k,hk,rfl⟩:=aEP.mp (by simpa only[aHF]using hx)
  have:=List.mem_range.mp hk
  lia
 ·rintro i acc L' M' hi ⟨Mi,lf,ns,rfl,n,_,_,rfl,hl,_⟩
  exact⟨by simp[n.len],(λt e=>by cases e),by simp[hl]⟩
 ·rintro i d acc _ _ hx ⟨Mi,lf,ns,rfl,n,hb',hlf,rfl,hl,nd,rg,a,rfl⟩
  obtain⟨hi,rfl⟩:=fC hx
  have e1:M.length=Mi.length:=n.len.symm
  rfl'
  refine aCj (xs:=lf.map D.int) (by rw[e1];simp) ?_
  rfl'
  rw[show Mi++[lf.map D.int]++[ns.map D.int]=Mi++[lf.map D.int,ns.map D.int] by simp]
  refine(aO (hb'.app (J:=[lf.map D.int,ns.map D.int])) (by simp;lia) (by simp;lia)).mono ?_
  rintro _ _ ⟨d2,rfl,l2,u2,n'⟩
  obtain⟨M2,rfl,n2⟩:=n'.unapp hb'.lt
  have e2:M.length=M2.length:=by rw[n2.len,e1]
  have u2':d2.toNat < lf.length:=by simp at u2;lia
  refine aJf (xs:=lf.map D.int) (d:=.int lf[d2.toNat]) (by rw[e2];simp) l2 u2 (by simp;lia) (by simp[u2']) ?_
  have hp:List.Perm ((ns++[lf[d2.toNat]])++lf.eraseIdx d2.toNat) (ns++lf):=by
   rw[aEJ]
   refine List.Perm.append_left ns ?_
   exact aCb lf _ u2'
  refine⟨_,M2++[(lf.eraseIdx d2.toNat).map D.int],rfl,?_,M2,lf.eraseIdx d2.toNat,ns++[lf[d2.toNat]],rfl,n.trans n2,n2.bx hb',?_,by simp,by simp[hl],(hp.nodup_iff).mpr nd,λx hx=>rg x (hp.mem_iff.mp hx),_,rfl⟩
  ·rw[e2];simp[aFb]
  ·rw[List.length_eraseIdx_of_lt u2'];lia
 ·rintro acc _ _ ⟨Mi,lf,ns,rfl,n,hb',hlf,rfl,hl,nd,rg,a,rfl⟩
  have hl3:ns.length=3:=hl
  rfl'
  refine jM (xs:=ns.map D.int) rfl ?_
  rfl'
  rw[show List.take M.length (Mi++[lf.map D.int])=Mi by rw[<- n.len];simp]
  match ns,hl3 with
  |[x,y,z],_ =>
   refine⟨x,y,z,rfl,?_,rg x (by simp),rg y (by simp),rg z (by simp),n⟩
   simp at nd
   refine⟨?_,?_,?_⟩ <;> (intro h;subst h;simp at nd)
theorem aAb{M:Mm}{d:D}(hl:noL d=true)(hs:sz d<=16777216):Ok (tW [.d d,.d d] M) λw M'=>w=.d (.bl true)/\M'=M:=by
 refine bL rfl ?_
 unfold uP
 rfl'
 refine(gJ (QS:=λo M'=>∃a b,o=.nx [some (.d d),some (.d d),some (.ref M.length),a,b]/\∃s,M'=M++[s]) (I:=λm L M'=>∃(ds:List D) (a b:Option W),m=szs ds/\(∀x∈ds,noL x=true)/\m<=16777216/\M'=M++[ds.map λx=>.tup [x,x]]/\L=[some (.d d),some (.d d),some (.ref M.length),a,b]) ?_ NW (sz d) _ _ ⟨[d],none,none,by simp[szs],by simpa using hl,hs,rfl,rfl⟩ (by rw[xZ];lia)).mono ?_
 ·rintro m L M' ⟨ds,a,b,rfl,hn,hm,rfl,rfl⟩
  have g:(M++[ds.map λx=>D.tup [x,x]])[M.length]?=some (ds.map λx=>.tup [x,x]):=by simp
  rfl'
  refine⟨λh=>?_,λh=>⟨a,b,rfl,_,rfl⟩⟩
  have hne:ds≠[]:=by rintro rfl;simp at h
  obtain⟨ds',x,rfl⟩:∃ds' x,ds=ds'++[x]:=⟨ds.dropLast,ds.getLast hne,(List.dropLast_concat_getLast hne).symm⟩
  have hx:noL x=true:=hn x (by simp)
  have hn':∀y∈ds',noL y=true:=λy hy=>hn y (by simp[hy])
  rw[mI]at hm ⊢
  have se:szs [x]=sz x:=by simp[szs]
  rw[se]at hm ⊢
  have hp:=aIv x
  rfl'
  refine aPt (xs:=ds'.map λx=>.tup [x,x]) (d:=.tup [x,x]) (by simp) ?_
  rw[show(M++[(ds'++[x]).map λx=>D.tup [x,x]]).set M.length (ds'.map λx=>.tup [x,x])=M++[ds'.map λx=>.tup [x,x]] by simp]
  have g':(M++[ds'.map λx=>D.tup [x,x]])[M.length]?=some (ds'.map λx=>.tup [x,x]):=by simp
  rfl'
  cases x with
  |tup xs =>
   rfl'
   refine dO (by simp) ?_
   rfl'
   have hz:szs xs+1=sz (.tup xs):=by simp[sz]
   refine aPp rfl rfl ?_
   have hle:=wV xs
   have hle':=wV ds'
   refine uS (xs:=ds'.map λx=>.tup [x,x]) (ys:=zipT xs xs) g' rfl (by simp[zipT];lia) ?_
   rw[show zipT xs xs=xs.map (λx=>.tup [x,x]) by unfold zipT;clear hz hle hle' hx hn hm g h hne se hp;induction xs with|nil=>rfl|cons a t ih=>rw[List.zip_cons_cons,aBP,aBP,ih]]
   refine⟨szs ds'+szs xs,by lia,ds'++xs,_,_,by rw[mI],?_,by lia,by simp,rfl⟩
   intro y hy
   rcases aAX.mp hy with hy|hy
   ·exact hn' y hy
   ·exact aKo hx hy
  |non =>
   rfl'
   refine nC (a:=.non) (b:=.non) rfl rfl (by simp[dep,deps]) ?_
   rfl'
   exact⟨szs ds',by lia,ds',_,_,rfl,hn',by lia,rfl,rfl⟩
  |bl b =>
   rfl'
   refine dO (by simp) ?_
   rfl'
   exact⟨szs ds',by lia,ds',_,_,rfl,hn',by lia,rfl,rfl⟩
  |int b =>
   rfl'
   refine dO (by simp) ?_
   rfl'
   exact⟨szs ds',by lia,ds',_,_,rfl,hn',by lia,rfl,rfl⟩
  |str b =>
   rfl'
   refine dO (by simp) ?_
   rfl'
   exact⟨szs ds',by lia,ds',_,_,rfl,hn',by lia,rfl,rfl⟩
  |lst b=>simp[noL]at hx
  |fz b=>simp[noL]at hx
  |exn c f b=>simp[noL]at hx
 ·rintro o M' ⟨a,b,rfl,s,rfl⟩
  rfl'
  exact by simp
noncomputable def At(ds:List Dd)(i:Nat)(X:List Dd):Prop:=∃p q,ds=p++X++q/\p.length=i
variable{X:List Dd}
theorem At.left{Y:List Dd}:At ds i (X++Y)->At ds i X:=by
 rintro⟨p,q,rfl,rfl⟩
 exact⟨p,Y++q,by simp,rfl⟩
theorem At.cut{ds:List Dd}{i:Nat}{X:List Dd}:At ds i X->∀{a b:Int},a=i->b=i+X.length->EV.cut (ds.map encD) (some a) (some b)=X.map encD:=by
 rintro⟨p,q,rfl,rfl⟩ a b rfl rfl
 rw[show((p.length:Int)+X.length)=((p.length+X.length:Nat):Int) by lia]
 simp only[EV.cut,HT.sIx_nat]
 rw[aDE (by simp),aDE (by simp)]
 simp
theorem At.get{ds:List Dd}{i:Nat}{d:Dd}{X:List Dd}:At ds i (d::X)->∀{a:Int},a=i->atI (ds.map encD) a=some (encD d):=by
 rintro⟨p,q,rfl,rfl⟩ a rfl
 simp only[atI,ixN]
 rw[aAI (by lia),aAI (by simp;lia)]
 simp
theorem nI:∀xs:List Nat,deps (xs.map λk=>D.int (k:Nat))=0:=λxs=>by induction xs with|nil=>rfl|cons x r ih=>simp[deps,dep,ih]
theorem gK(d:Dd):dep (encD d)<=10:=by
 cases d <;> simp[encD,natsD,dep,deps,nI]
theorem kS:∀{xs ys:List Nat},eqDs (xs.map λk=>D.int (k:Nat)) (ys.map λk=>D.int (k:Nat))=true->xs=ys
 |[],[],_=>rfl
 |[],_::_,h=>by simp[eqDs]at h
 |_::_,[],h=>by simp[eqDs]at h
 |x::r,y::t,h=>by
  simp only[aBP,eqDs,eqD,aBN,aEY]at h
  have:=kS h.2
  have:x=y:=by have:=h.1;lia
  simp[*]
variable{d:Dd}
theorem yS{k:Dd}(h:eqD (encD d) (encD k)=true):d=k:=by
 cases d with
 |add s c gs ts =>
  cases k with
  |add s' c' gs' ts' =>
   simp only[encD,natsD,eqD,eqDs,aBN,aEY,aIB]at h
   obtain⟨_,h1,h2,h3,h4⟩:=h
   rw[kS h3,kS h4,h2]
   have:s=s':=by lia
   rw[this]
  |scale s' u=>simp[encD,natsD,eqD,eqDs]at h
 |scale s u =>
  cases k with
  |add s' c' gs' ts'=>simp[encD,natsD,eqD,eqDs]at h
  |scale s' u' =>
   simp only[encD,eqD,eqDs,aBN,aEY,aIB]at h
   obtain⟨_,h1,h2⟩:=h
   have:s=s':=by lia
   rw[this,h2]
theorem At.nil(h:i<=ds.length):At ds i []:=⟨ds.take i,ds.drop i,by simp,by simp;lia⟩
theorem At.snoc(h:At ds i X)(g:ds[i+X.length]?=some d):At ds i (X++[d]):=by
 obtain⟨p,q,rfl,rfl⟩:=h
 rw[aBK (by simp)]at g
 simp only[aAP,Nat.sub_self]at g
 cases q with
 |nil=>simp at g
 |cons a r =>
  simp at g
  subst g
  exact⟨p,r,by simp,rfl⟩
variable{q:Nat}
theorem cut1 :cut (ds.map encD) (some (q:Int)) (some ((q:Int)+1))=(ds[q]?.toList).map encD:=by
 rw[show((q:Int)+1)=((q+1:Nat):Int) by lia]
 simp only[EV.cut,HT.sIx_nat]
 by_cases h:q < ds.length
 ·rw[aDE (by simp;lia),aDE (by simp;lia),aAR h,aCI (by simpa using h)]
  simp
 ·rw[aDH (by lia),Nat.min_eq_right (by simp;lia)]
  simp
  lia
noncomputable section
def row(n:Int)(byb:Bool)(e:E)(s b c:Nat):List Dd:=if byb then rowBy n e s b c else rowAl n e s b c
def sg(n:Int)(back:Bool)(ds:List Dd):List Dd:=if back then bDs n ds else ds
theorem aDs{xs ys:List Nat}(h:(!eqD (natsD xs) (natsD ys))=false):xs=ys:=by
 simp only[natsD,eqD,Bool.not_eq_false']at h
 exact kS h
def AddD:Dd->Prop
 |.add _ _ _ _=>True
 |.scale _ _=>False
theorem AddD.backs{n:Int}{ds:List Dd}(h:∀d∈ds,AddD d):∀d∈bDs n ds,AddD d:=by
 intro d hd
 obtain⟨x,hx,rfl⟩:=aEP.mp hd
 have:=h x (aEQ.mp hx)
 cases x with
 |add s c g t=>trivial
 |scale s u=>exact this
theorem bR{n:Int}:∀{e:E} {s b c:Nat},∀d∈rowBy n e s b c,AddD d
 |.num _,_,_,_=>λd hd=>by rw[aAM.mp hd];trivial
 |.giv _,_,_,_=>λd hd=>by rw[aAM.mp hd];trivial
 |.op .sum x y,s,b,c=>bJ bR bR
 |.op .less x y,s,b,c=>bJ bR (AddD.backs bR)
 |.op .times x y,s,b,c=>bJ (bJ (bJ bR bR) (AddD.backs bR)) (AddD.backs bR)
theorem cQ{n:Int}:∀{e:E} {s b c:Nat},∀d∈rowAl n e s b c,AddD d
 |.num _,_,_,_=>λd hd=>by rw[aAM.mp hd];trivial
 |.giv _,_,_,_=>λd hd=>by rw[aAM.mp hd];trivial
 |.op .sum x y,s,b,c=>bJ cQ cQ
 |.op .less x y,s,b,c=>bJ cQ (AddD.backs cQ)
 |.op .times x y,s,b,c=>bJ (bJ (bJ cQ bR) (AddD.backs cQ)) (AddD.backs bR)
theorem bO{ds:List Dd}{M:Mm}(hn:2<=n)(hd:∀d∈ds,AddD d)(hl:ds.length<=16777216):Ok (dD [.d (.int n),.d (.tup (ds.map encD))] M) λw M'=>w=.d (.tup ((bDs n ds).map encD))/\M'=M:=by
 unfold dD
 refine bL rfl ?_
 unfold fL
 rfl'
 refine⟨ds.map encD,.inl rfl,?_⟩
 refine dS (λi L M'=>M'=M++[((ds.reverse.take i).map (bD n)).map encD]/\∃a,L=[some (.d (.int n)),some (.d (.tup (ds.map encD))),some (.ref M.length),a]) ⟨rfl,none,rfl⟩ (λi L M _ _ t e=>by cases e) ?_ ?_
 ·rintro i d _ _ hx ⟨rfl,a,rfl⟩
  simp only at hx
  rw[<- aGP]at hx
  simp only[aBJ,aBE]at hx
  obtain⟨k,hk,rfl⟩:=hx
  have hm:k∈ds:=aEQ.mp (aBM hk)
  have hok:=hd k hm
  have hi:i < ds.length:=by have:=(aAD.mp hk).1;simpa using this
  have e1:ds.reverse.take (i+1)=ds.reverse.take i++[k]:=by rw[aDO,hk];rfl
  rw[e1]
  cases k with
  |scale s u=>exact hok.elim
  |add s c g t =>
   simp only[encD]
   rfl'
   refine bA (by simp[cut,HT.sIx]) ?_
   rfl'
   refine bA (by simp[cut,HT.sIx]) ?_
   refine kE (xs:=((ds.reverse.take i).map (bD n)).map encD) (by simp) (by simp;lia) ?_
   rfl'
   exact⟨by simp[bD,encD,cut,HT.sIx],_,rfl⟩
 ·rintro _ _ ⟨rfl,a,rfl⟩
  rw[aDG (by simp)]
  rfl'
  refine jM (xs:=(bDs n ds).map encD) ?_ ?_
  ·simp[sv,lr,lv,bDs]
  rfl'
  exact⟨rfl,by simp⟩
def pap:E->D
 |.num _=>.tup [.str "one"]
 |.giv _=>.tup [.str "one"]
 |.op w a b=>.tup [.str w.str,pap a,pap b]
end
theorem aJq{n:Int}{byb:Bool}{e:E}{s b c:Nat}:∀d∈row n byb e s b c,AddD d:=by
 cases byb
 ·exact cQ
 ·exact bR
variable{s c:Nat}
theorem zZ{e:E}:(row n byb e s b c).length=many e:=by
 cases byb
 ·exact bI
 ·exact aY
theorem At.ok{ds X:List Dd}(hok:∀d∈ds,OkD n G SH d)(h:At ds i X):∀d∈X,OkD n G SH d:=by
 obtain⟨p,q,rfl,rfl⟩:=h
 exact λd hd=>hok d (by simp[hd])
theorem aPr{n:Int}{byb:Bool}(hn:1 < n){e:E}{s b c:Nat}(hw:wf G e)(hs:s < S)(hb:b < S)(hc:c < S)(h1:s≠b)(h2:s≠c)(h3:b≠c):∀d∈row n byb e s b c,OkD n G S d:=by
 cases byb
 ·exact fM hn hw hs hb hc h1 h2 h3
 ·exact dB hn hw hs hb hc h1 h2 h3
theorem wH:∀{e:E},∀fuel,dp e < fuel->∀M:Mm,Ok (eU fuel [.d (enc e)] M) λw M'=>w=.d (pap e)/\M'=M:=by
 intro e
 induction e with
 |num k =>
  intro fuel hf M
  obtain⟨f,rfl⟩:∃f,fuel=f+1:=⟨fuel - 1,by lia⟩
  unfold eU
  refine bL rfl ?_
  unfold kQ
  simp only[enc]
  rfl'
  refine yX (by rfl) (by rfl) (by rfl) ?_
  rfl'
  exact⟨rfl,by simp⟩
 |giv k =>
  intro fuel hf M
  obtain⟨f,rfl⟩:∃f,fuel=f+1:=⟨fuel - 1,by lia⟩
  unfold eU
  refine bL rfl ?_
  unfold kQ
  simp only[enc]
  rfl'
  refine yX (by rfl) (by rfl) (by rfl) ?_
  rfl'
  exact⟨rfl,by simp⟩
 |op w x y ihx ihy =>
  intro fuel hf M
  obtain⟨f,rfl⟩:∃f,fuel=f+1:=⟨fuel - 1,by lia⟩
  have d1:dp x < f:=by simp only[dp]at hf;lia
  have d2:dp y < f:=by simp only[dp]at hf;lia
  unfold eU
  refine bL rfl ?_
  unfold kQ
  have e2:(if false=true then !([D.str "num",D.str "given"].any λy=>eqD y (.str w.str))else([D.str "num",D.str "given"].any λy=>eqD y (.str w.str)))=false:=by cases w <;> decide
  simp only[enc]
  rfl'
  refine yX (by rfl) (by rfl) (by rfl) ?_
  rw[e2]
  rfl'
  refine(ihx f d1 _).mono ?_
  rintro _ _ ⟨rfl,rfl⟩
  rfl'
  refine(ihy f d2 _).mono ?_
  rintro _ _ ⟨rfl,rfl⟩
  rfl'
  exact⟨by simp[pap],by simp⟩
theorem qT:∀e:E,dep (pap e)<=dp e+2
 |.num _=>by simp[pap,dep,deps,dp]
 |.giv _=>by simp[pap,dep,deps,dp]
 |.op w a b=>by have:=qT a;have:=qT b;simp[pap,dep,deps,dp];lia
theorem aHf(e:E):eqD (pap e) (.tup [.str "one"])=decide (dp e=0):=by
 cases e with
 |num _=>rfl
 |giv _=>rfl
 |op w a b=>simp[pap,eqD,eqDs,dp]
theorem aDt{t:Int}(h0:0<=t)(h1:t < 3):∃w:Wd,atI [D.str "sum",D.str "less",D.str "times"] t=some (.str w.str):=by
 have:t=0\/t=1\/t=2:=by lia
 rcases this with rfl|rfl|rfl
 ·exact⟨.sum,rfl⟩
 ·exact⟨.less,rfl⟩
 ·exact⟨.times,rfl⟩
theorem aEx:∀(k:Nat) {e:E},dp e<=20->∀fuel,k < fuel->∀M:Mm,Bx M q->Ok (jC fuel [.ref q,.d (pap e),.d (.int k)] M) λw M'=>∃e':E,w=.d (pap e')/\dp e'<=dp e+1/\Nx q M M':=by
 intro k
 induction k using Nat.strongRecOn with
 |ind k ih =>
 intro e hd fuel hf M hb
 have n:=Nx.refl hb
 obtain⟨f,rfl⟩:∃f,fuel=f+1:=⟨fuel - 1,by lia⟩
 unfold jC
 refine bL rfl ?_
 unfold xT
 rfl'
 refine nX (a:=pap e) (b:=.tup [.str "one"]) rfl rfl ⟨by have:=qT e;lia,by simp[dep,deps]⟩ ?_
 refine⟨_,rfl,?_⟩
 rw[aHf]
 refine cM (λh=>?_) (λh=>?_)
 ·rfl'
  (refine(aO hb (by lia) (by lia)).mono ?_;rintro _ _ ⟨t1,rfl,l_t1,u_t1,n'⟩;replace n:=n.trans n';replace hb:=n'.bx hb;clear n')
  obtain⟨w,ew⟩:=aDt l_t1 u_t1
  rfl'
  refine cG ew ?_
  rfl'
  exact⟨.op w e e,rfl,by simp[dp],by rw[n.take];exact n⟩
 cases e with
 |num _=>simp[dp]at h
 |giv _=>simp[dp]at h
 |op w x y =>
 have dx:dp x<=20:=by simp only[dp]at hd;lia
 have dy:dp y<=20:=by simp only[dp]at hd;lia
 simp only[pap]
 rfl'
 (refine(aO hb (by lia) (by lia)).mono ?_;rintro _ _ ⟨t1,rfl,l_t1,u_t1,n'⟩;replace n:=n.trans n';replace hb:=n'.bx hb;clear n')
 rename_i M1
 refine pG (bT (dG (Okx.mono (Q:=λc M2=>M2=M1/\(c=false->t1≠0/\k≠0)) ?_ ?_)))
 ·rfl'
  refine⟨λh=>⟨rfl,λh=>by simp at h⟩,λh=>?_⟩
  rfl'
  refine⟨rfl,λh'=>⟨by simpa using h,by simp at h';lia⟩⟩
 rintro cnd M1 ⟨rfl,hc⟩
 refine cM (λh=>?_) (λh=>?_)
 ·rfl'
  exact⟨.num 0,rfl,by simp[dp],by rw[n.take];exact n⟩
 obtain⟨t0,k0⟩:=hc h
 rfl'
 refine fE (λh=>?_) (λh=>?_)
 ·rfl'
  (refine(aO hb (by lia) (by lia)).mono ?_;rintro _ _ ⟨t2,rfl,l_t2,u_t2,n'⟩;replace n:=n.trans n';replace hb:=n'.bx hb;clear n')
  obtain⟨w',ew⟩:=aDt l_t2 u_t2
  rfl'
  refine cG ew ?_
  rfl'
  rw[show cut [D.str w.str,pap x,pap y] (some 1) none=[pap x,pap y]from rfl]
  refine bA (by simp) ?_
  rfl'
  exact⟨.op w' x y,rfl,by simp only[dp];lia,by rw[n.take];exact n⟩
 rfl'
 refine fE (λh=>?_) (λh=>?_)
 ·rfl'
  exact⟨.op w y x,rfl,by simp only[dp];lia,by rw[n.take];exact n⟩
 rfl'
 refine fE (λh=>?_) (λh=>?_)
 ·rfl'
  rw[show((k:Int) - 1)=((k - 1:Nat):Int) by lia]
  refine(ih (k - 1) (by lia) (e:=x) dx f (by lia) _ hb).mono ?_
  rintro _ M2 ⟨e',rfl,he,n'⟩
  have n:=n.trans n'
  rfl'
  exact⟨.op w e' y,rfl,by simp only[dp];lia,by rw[n.take];exact n⟩
 rfl'
 rw[show((k:Int) - 1)=((k - 1:Nat):Int) by lia]
 refine(ih (k - 1) (by lia) (e:=y) dy f (by lia) _ hb).mono ?_
 rintro _ M2 ⟨e',rfl,he,n'⟩
 have n:=n.trans n'
 rfl'
 exact⟨.op w x e',rfl,by simp only[dp];lia,by rw[n.take];exact n⟩
theorem kU(hn:2<=n)(hn2:n<=1000000):∀{e:E} {s b c:Nat},wf G e->s < S->b < S->c < S->s≠b->s≠c->b≠c->many e<=4194304->∀fuel,dp e < fuel->∀M:Mm,
  Ok (dW fuel [.d (.int n),.d (enc e),.d (.int s),.d (.int b),.d (.int c)] M) (λw M'=>w=.d (.tup ((rowBy n e s b c).map encD))/\M'=M):=by
 intro e
 induction e with
 |num k =>
  intro s b c _ _ _ _ _ _ _ _ fuel hf M
  obtain⟨f,rfl⟩:∃f,fuel=f+1:=⟨fuel - 1,by lia⟩
  unfold dW
  refine bL rfl ?_
  unfold hV
  simp only[enc]
  rfl'
  exact⟨rfl,by simp⟩
 |giv k =>
  intro s b c _ _ _ _ _ _ _ _ fuel hf M
  obtain⟨f,rfl⟩:∃f,fuel=f+1:=⟨fuel - 1,by lia⟩
  unfold dW
  refine bL rfl ?_
  unfold hV
  simp only[enc]
  rfl'
  exact⟨rfl,by simp⟩
 |op w x y ihx ihy =>
  intro s b c hw hs hb hc h1 h2 h3 hm fuel hf M
  obtain⟨f,rfl⟩:∃f,fuel=f+1:=⟨fuel - 1,by lia⟩
  have hm':=aDv (w:=w) (x:=x) (y:=y)
  have d1:dp x < f:=by simp only[dp]at hf;lia
  have d2:dp y < f:=by simp only[dp]at hf;lia
  unfold dW
  refine bL rfl ?_
  unfold hV
  cases w with
  |sum =>
   simp only[enc,Wd.str]
   rfl'
   refine(ihx hw.1 hs hb hc h1 h2 h3 (by lia) f d1 _).mono ?_
   rintro _ _ ⟨rfl,rfl⟩
   rfl'
   refine(ihy hw.2 hs hb hc h1 h2 h3 (by lia) f d2 _).mono ?_
   rintro _ _ ⟨rfl,rfl⟩
   rfl'
   refine(bO hn bR (by rw[aY];lia)).mono ?_
   rintro _ _ ⟨rfl,rfl⟩
   rfl'
   refine bA (by simp[aY];lia) ?_
   rfl'
   exact⟨by simp[rowBy],by simp⟩
  |less =>
   simp only[enc,Wd.str]
   rfl'
   refine(ihx hw.1 hs hb hc h1 h2 h3 (by lia) f d1 _).mono ?_
   rintro _ _ ⟨rfl,rfl⟩
   rfl'
   refine(ihy hw.2 hs hb hc h1 h2 h3 (by lia) f d2 _).mono ?_
   rintro _ _ ⟨rfl,rfl⟩
   rfl'
   refine(bO hn bR (by rw[aY];lia)).mono ?_
   rintro _ _ ⟨rfl,rfl⟩
   rfl'
   refine bA (by simp[aY,bK];lia) ?_
   rfl'
   exact⟨by simp[rowBy],by simp⟩
  |times =>
   have hm2:2*(many x+many y)<=4194304:=by simp only[many]at hm;lia
   simp only[enc,Wd.str]
   rfl'
   refine(ihy hw.2 hc hb hs h3.symm h2.symm h1.symm (by lia) f d2 _).mono ?_
   rintro _ _ ⟨rfl,rfl⟩
   rfl'
   refine(ihx hw.1 hs hc hb h2 h1 h3.symm (by lia) f d1 _).mono ?_
   rintro _ _ ⟨rfl,rfl⟩
   rfl'
   refine bA (by simp[aY];lia) ?_
   rfl'
   refine(bO hn bR (by rw[aY];lia)).mono ?_
   rintro _ _ ⟨rfl,rfl⟩
   refine bA (by simp[aY,bK];lia) ?_
   rfl'
   refine(bO hn bR (by rw[aY];lia)).mono ?_
   rintro _ _ ⟨rfl,rfl⟩
   refine bA (by simp[aY,bK];lia) ?_
   rfl'
   exact⟨by simp[rowBy],by simp⟩
theorem oH(hn:2<=n)(hn2:n<=1000000):∀{e:E} {s b c:Nat},wf G e->s < S->b < S->c < S->s≠b->s≠c->b≠c->many e<=4194304->∀fuel,dp e < fuel->fuel<=50->∀M:Mm,
  Ok (cD fuel [.d (.int n),.d (enc e),.d (.int s),.d (.int b),.d (.int c)] M) (λw M'=>w=.d (.tup ((rowAl n e s b c).map encD))/\M'=M):=by
 intro e
 induction e with
 |num k =>
  intro s b c _ _ _ _ _ _ _ _ fuel hf hf2 M
  obtain⟨f,rfl⟩:∃f,fuel=f+1:=⟨fuel - 1,by lia⟩
  unfold cD
  refine bL rfl ?_
  unfold eZ
  simp only[enc]
  rfl'
  exact⟨rfl,by simp⟩
 |giv k =>
  intro s b c _ _ _ _ _ _ _ _ fuel hf hf2 M
  obtain⟨f,rfl⟩:∃f,fuel=f+1:=⟨fuel - 1,by lia⟩
  unfold cD
  refine bL rfl ?_
  unfold eZ
  simp only[enc]
  rfl'
  exact⟨rfl,by simp⟩
 |op w x y ihx ihy =>
  intro s b c hw hs hb hc h1 h2 h3 hm fuel hf hf2 M
  obtain⟨f,rfl⟩:∃f,fuel=f+1:=⟨fuel - 1,by lia⟩
  have hm':=aDv (w:=w) (x:=x) (y:=y)
  have d1:dp x < f:=by simp only[dp]at hf;lia
  have d2:dp y < f:=by simp only[dp]at hf;lia
  unfold cD
  refine bL rfl ?_
  unfold eZ
  cases w with
  |sum =>
   simp only[enc,Wd.str]
   rfl'
   refine(ihx hw.1 hs hb hc h1 h2 h3 (by lia) f d1 (by lia) _).mono ?_
   rintro _ _ ⟨rfl,rfl⟩
   rfl'
   refine(ihy hw.2 hs hb hc h1 h2 h3 (by lia) f d2 (by lia) _).mono ?_
   rintro _ _ ⟨rfl,rfl⟩
   rfl'
   refine(bO hn cQ (by rw[bI];lia)).mono ?_
   rintro _ _ ⟨rfl,rfl⟩
   rfl'
   refine bA (by simp[bI];lia) ?_
   rfl'
   exact⟨by simp[rowAl],by simp⟩
  |less =>
   simp only[enc,Wd.str]
   rfl'
   refine(ihx hw.1 hs hb hc h1 h2 h3 (by lia) f d1 (by lia) _).mono ?_
   rintro _ _ ⟨rfl,rfl⟩
   rfl'
   refine(ihy hw.2 hs hb hc h1 h2 h3 (by lia) f d2 (by lia) _).mono ?_
   rintro _ _ ⟨rfl,rfl⟩
   rfl'
   refine(bO hn cQ (by rw[bI];lia)).mono ?_
   rintro _ _ ⟨rfl,rfl⟩
   rfl'
   refine bA (by simp[bI,bK];lia) ?_
   rfl'
   exact⟨by simp[rowAl],by simp⟩
  |times =>
   have hm2:2*(many x+many y)<=4194304:=by simp only[many]at hm;lia
   simp only[enc,Wd.str]
   rfl'
   refine(ihy hw.2 hc hb hs h3.symm h2.symm h1.symm (by lia) f d2 (by lia) _).mono ?_
   rintro _ _ ⟨rfl,rfl⟩
   rfl'
   refine(kU hn hn2 hw.1 hs hc hb h2 h1 h3.symm (by lia) 50 (by lia) _).mono ?_
   rintro _ _ ⟨rfl,rfl⟩
   rfl'
   refine bA (by simp[bI,aY];lia) ?_
   rfl'
   refine(bO hn cQ (by rw[bI];lia)).mono ?_
   rintro _ _ ⟨rfl,rfl⟩
   refine bA (by simp[bI,aY,bK];lia) ?_
   rfl'
   refine(bO hn bR (by rw[aY];lia)).mono ?_
   rintro _ _ ⟨rfl,rfl⟩
   refine bA (by simp[bI,aY,bK];lia) ?_
   rfl'
   exact⟨by simp[rowAl],by simp⟩
theorem aAf{e:E}{M:Mm}(hn:2<=n)(hn2:n<=1000000)(hw:wf G e)(hs:s < 10)(hb:b < 10)(hc:c < 10)(h1:s≠b)(h2:s≠c)(h3:b≠c)(hz:many e<=4194304)(hd:dp e<=20) :
  Ok (wZ [.d (.bl byb),.d (.int n),.d (enc e),.d (.tup [.int s,.int b,.int c])] M) λw M'=>w=.d (.tup ((row n byb e s b c).map encD))/\M'=M:=by
 unfold wZ
 refine bL rfl ?_
 unfold aCz
 cases byb with
 |true =>
  rfl'
  refine(kU (S:=10) hn hn2 hw hs hb hc h1 h2 h3 hz 50 (by lia) _).mono ?_
  rintro _ _ ⟨rfl,rfl⟩
  rfl'
  exact⟨rfl,by simp⟩
 |false =>
  rfl'
  refine(oH (S:=10) hn hn2 hw hs hb hc h1 h2 h3 hz 50 (by lia) (by lia) _).mono ?_
  rintro _ _ ⟨rfl,rfl⟩
  rfl'
  exact⟨rfl,by simp⟩
theorem aAv{M:Mm}(hG:G < 1000)(hb:Bx M q):Ok (oJ [.ref q,.d (.int G)] M) λw M'=>∃e:E,w=.d (enc e)/\wf G e/\dp e<=7/\Nx q M M':=by
 have n:=Nx.refl hb
 unfold oJ
 refine bL rfl ?_
 unfold vL
 rfl'
 refine(kB hG 0 50 _ q 1 0 hb (by lia) rfl (by lia)).mono ?_
 rintro _ M1 ⟨e0,rfl,d0,w0,n'⟩
 replace n:=n.trans n'
 replace hb:=n'.bx hb
 clear n'
 rfl'
 (refine(aO hb (by lia) (by lia)).mono ?_;rintro _ _ ⟨t1,rfl,l_t1,u_t1,n'⟩;replace n:=n.trans n';replace hb:=n'.bx hb;clear n')
 rename_i M2
 rfl'
 refine⟨by simp only[in62,aBH];lia,?_⟩
 refine dS (λi L M'=>M'=M2/\∃(e:E) (o3:Option W),wf G e/\dp e<=i/\L=[some (.ref q),some (.d (.int G)),some (.d (enc e)),o3,none]) ⟨rfl,e0,none,w0,d0,rfl⟩ (λi L M _ _ t e=>by cases e) ?_ ?_
 ·rintro i d _ M2 hd ⟨rfl,e,o3,hw,hdp,rfl⟩
  rfl'
  exact⟨rfl,.op .times e e,_,⟨hw,hw⟩,by simp only[dp];lia,rfl⟩
 rintro _ M2 ⟨rfl,e,o3,hw,hdp,rfl⟩
 have hdp:dp e<=3:=by simp only[rngD,aAK,aBS]at hdp;lia
 rfl'
 (refine(aO hb (by lia) (by lia)).mono ?_;rintro _ _ ⟨t2,rfl,l_t2,u_t2,n'⟩;replace n:=n.trans n';replace hb:=n'.bx hb;clear n')
 rename_i M3
 rfl'
 refine⟨by simp only[in62,aBH];lia,?_⟩
 refine dS (λi L M'=>Nx q M M'/\Bx M' q/\∃(e:E) (o3 o4:Option W),wf G e/\dp e<=3+i/\L=[some (.ref q),some (.d (.int G)),some (.d (enc e)),o3,o4]) ⟨n,hb,e,_,none,hw,hdp,rfl⟩ (λi L M _ _ t e=>by cases e) ?_ ?_
 ·clear n hb hw hdp
  rintro i d _ M4 hd ⟨n,hb,e,o3,o4,hw,hdp,rfl⟩
  rfl'
  refine(kB hG 0 50 _ q 1 0 hb (by lia) rfl (by lia)).mono ?_
  rintro _ M5 ⟨e1,rfl,d1,w1,n'⟩
  replace n:=n.trans n'
  replace hb:=n'.bx hb
  clear n'
  rfl'
  (refine(aO hb (by lia) (by lia)).mono ?_;rintro _ _ ⟨t3,rfl,l_t3,u_t3,n'⟩;replace n:=n.trans n';replace hb:=n'.bx hb;clear n')
  obtain⟨w,ew,hw2⟩:=at2 l_t3 u_t3 (.tup [enc e,enc e1]) (.tup [enc e1,enc e])
  rfl'
  refine cG ew ?_
  rcases hw2 with rfl|rfl
  ·refine bA (by simp) ?_
   rfl'
   exact⟨n,hb,.op .times e e1,_,_,⟨hw,w1⟩,by simp only[dp];lia,rfl⟩
  ·refine bA (by simp) ?_
   rfl'
   exact⟨n,hb,.op .times e1 e,_,_,⟨w1,hw⟩,by simp only[dp];lia,rfl⟩
 ·clear n hb hw hdp
  rintro _ M4 ⟨n,hb,e,o3,o4,hw,hdp,rfl⟩
  have hdp:dp e<=7:=by simp only[rngD,aAK,aBS]at hdp;lia
  rfl'
  exact⟨hw,hdp,by rw[n.take];exact n⟩
noncomputable def topS:Dd->List Int
 |.add s _ _ t=>(s:Int)::t.map λk:Nat=>(k:Int)
 |.scale s _=>[(s:Int)]
theorem aDr(d:Dd):topS d≠[]:=by cases d <;> simp[topS]
theorem wQ{ds:List Dd}{M:Mm}(hz:ds.length<=100000)(h0:ds≠[])(hA:∀d∈ds,AddD d)(hok:∀d∈ds,OkD n G 9 d)(hb:Bx M q) :
  Ok (iY [.ref q,.d (.tup (ds.map encD))] M) λw M'=>(∃SH:Nat,w=.d (.int SH)/\1<=SH/\SH<=9/\∀d∈ds,OkD n G SH d)/\Nx q M M':=by
 have n0:=Nx.refl hb
 unfold iY
 refine bL rfl ?_
 unfold pH
 rfl'
 refine fD (λi acc L' M'=>acc=((ds.take i).map λd=>mxL (topS d)).map D.int/\M'=M/\∃a,L'=[a]) ?_
 rfl'
 refine⟨⟨rfl,rfl,none,rfl⟩,?_,by simp;lia,?_,?_⟩
 ·rintro i acc L' M' hi ⟨rfl,rfl,_⟩
  exact⟨rfl,(λt e=>by cases e),by simp;lia⟩
 ·rintro i d acc _ M hx ⟨rfl,rfl,a,rfl⟩
  simp only[aBJ,aBE]at hx
  obtain⟨d,hd,rfl⟩:=hx
  have hm:=aBM hd
  have hi:ds.take (i+1)=ds.take i++[d]:=by rw[aDO,hd];rfl
  cases d with
  |scale s u=>exact(hA _ hm).elim
  |add s v g t =>
   have ht:=(hok _ hm).2.2.2.2.2.2.2
   simp only[encD,natsD]
   rfl'
   refine bA (by simp;lia) ?_
   rfl'
   refine aCn (ns:=topS (.add s v g t)) rfl (by simp[topS,aCV]) (aDr _) ?_
   exact⟨_,_,rfl,rfl,by rw[hi];simp,rfl,_,rfl⟩
 ·rintro acc _ M ⟨rfl,rfl,a,rfl⟩
  have e1:ds.take (Src.ds {ds:=ds.map encD,k:=none:Src}).length=ds:=by simp
  rw[e1]
  rfl'
  have hne:(ds.map λd=>mxL (topS d))≠[]:=by simpa using h0
  refine aCn (ns:=ds.map λd=>mxL (topS d)) rfl rfl hne ?_
  obtain⟨m,hm⟩:∃m,mxL (ds.map λd=>mxL (topS d))=m:=⟨_,rfl⟩
  have up:∀d∈ds,∀x∈topS d,x<=m:=by
   intro d hd x hx
   rw[<- hm]
   exact Int.le_trans (aAq hx) (aAq (aEP.mpr ⟨d,hd,rfl⟩))
  have lo:0<=m/\m<=8:=by
   obtain⟨d,hd,e⟩:=aEP.mp (xE hne)
   have h1:=xE (aDr d)
   rw[e,hm]at h1
   cases d with
   |scale s u=>exact(hA _ hd).elim
   |add s v g t =>
    obtain⟨o1,_,_,_,o5,_⟩:=hok _ hd
    simp only[topS,aAY,aEP]at h1
    rcases h1 with h1|⟨k,hk,h1⟩
    ·lia
    ·have:=o5 k hk;lia
  rw[hm]
  rfl'
  refine(aO hb (by lia) (by lia)).mono ?_
  rintro _ M1 ⟨t1,rfl,l1,u1,n1⟩
  rfl'
  obtain⟨SH,e2,b1,b2,b3⟩:∃SH:Nat,(if 1+m+t1 < 9 then 1+m+t1 else 9)=(SH:Int)/\1<=SH/\SH<=9/\m < SH:=⟨(if 1+m+t1 < 9 then 1+m+t1 else 9).toNat,by split <;> lia,by split <;> lia,by split <;> lia,by split <;> lia⟩
  rw[e2]
  refine⟨⟨SH,rfl,b1,b2,λd hd=>?_⟩,by rw[n1.take];exact n1⟩
  have hu:=up d hd
  cases d with
  |scale s u=>exact(hA _ hd).elim
  |add s v g t =>
   obtain⟨o1,o2,o3,o4,o5,o6,o7,o8⟩:=hok _ hd
   have us:=hu s (by simp[topS])
   refine⟨by lia,o2,o3,o4,λk hk=>?_,o6,o7,o8⟩
   have:=hu (k:Int) (by simp only[topS,aAY,aEP];exact .inr ⟨k,hk,rfl⟩)
   lia
variable{m:Nat}
theorem sF{p:Nat->Bool}{M:Mm}{Q:W->Mm->Prop}{ct:FT}{w:W}(hm:m<=100)(e:outL js L=[none,some w])
  (hi:Ok (fi L M) λs M'=>s=⟨rngD 0 m,none⟩/\M'=M)(hp:∀(i:Nat) (M:Mm),i < m->Ok (ct [some (.d (.int i)),some w] M) λb M'=>b=p i/\M'=M)
  (q:Q (.d (.lst (((List.range m).filter p).map λk=>D.int (k:Nat)))) M):Ok (eComp js fi (gN 0) ct (eV 0) L M) Q:=by
 refine fD (λi acc L' M'=>acc=((List.range i).filter p).map (λk=>D.int (k:Nat))/\M'=M/\∃a,L'=[a,some w]) ?_
 refine hi.mono ?_
 rintro _ M ⟨rfl,rfl⟩
 refine⟨⟨rfl,rfl,none,e⟩,?_,by simp[rngD];lia,?_,?_⟩
 ·rintro i acc L' M' hi ⟨rfl,rfl,_⟩
  refine⟨rfl,(λt e=>by cases e),?_⟩
  have:=aED p (List.range i)
  simp only[aAK,aBS]at this ⊢
  lia
 ·rintro i d acc _ M hx ⟨rfl,rfl,a,rfl⟩
  obtain⟨hi,rfl⟩:=fC hx
  rw[show(0+(i:Int))=((i:Nat):Int) by lia]
  rfl'
  refine(hp i _ (by lia)).mono ?_
  rintro _ _ ⟨rfl,rfl⟩
  refine⟨λh=>?_,λh=>?_⟩
  ·rfl'
   exact⟨_,_,rfl,rfl,by rw[aHH,aGB];simp[h],rfl,_,rfl⟩
  ·exact⟨_,rfl,by rw[aHH,aGB];simp[h],rfl,_,rfl⟩
 ·rintro acc _ M ⟨rfl,rfl,a,rfl⟩
  rw[show(Src.ds {ds:=rngD 0 m,k:=none:Src}).length=m by simp[rngD]]
  exact q
theorem aHo{t:List Nat}:((t.map λk=>D.int (k:Nat)).any λy=>eqD y (.int i))=decide (i∈t):=by
 induction t with
 |nil=>simp
 |cons a r ih =>
  simp only[aBP,aEW,ih,eqD]
  by_cases h:a=i
  ·subst h;simp
  ·have h1:¬((a:Int)=(i:Int)):=by lia
   have h2:¬i=a:=λz=>h z.symm
   simp[h1,h2]
theorem aFm(t:List Nat):(t.map λk=>D.int (k:Nat)).all flatD=true:=by
 induction t with
 |nil=>rfl
 |cons a r ih=>rw[aBP,aFU,ih];rfl
theorem qL{l:List Nat}{t:Int}(h0:0<=t)(h1:t < (l.length:Nat)):∃k,k∈l/\atI (l.map λk=>D.int (k:Nat)) t=some (.int (k:Nat)):=by
 obtain⟨j,rfl⟩:∃j:Nat,t=j:=⟨t.toNat,by lia⟩
 have hj:j < l.length:=by lia
 refine⟨l[j],List.getElem_mem hj,?_⟩
 simp only[atI,ixN]
 rw[aAI (by lia),aAI (by simp;lia)]
 simp[hj]
theorem sX(t:List Nat)(lo hi:Option Int):∃t':List Nat,cut (t.map λk=>D.int (k:Nat)) lo hi=(t'.map λk=>D.int (k:Nat))/\(∀i∈t',i∈t)/\t'.length<=t.length:=by
 unfold cut
 refine⟨_,by rw[<- List.map_drop,<- List.map_take],λi h=>aHM (aBZ h),?_⟩
 simp only[aCC,aDV]
 lia
theorem mB{v form:Int}{g t:List Nat}{M:Mm}(hS:1<=SH)(hS2:SH<=9)(hok:OkD n G SH (.add s v g t))(hb:Bx M q) :
  Ok (eI [.ref q,.d (.int SH),.d (encD (.add s v g t)),.d (.int form)] M) λw M'=>∃d:Dd,w=.d (encD d)/\OkD n G SH d/\Nx q M M':=by
 obtain⟨o1,o2,o3,o4,o5,o6,o7,o8⟩:=hok
 have n0:=Nx.refl hb
 unfold eI
 refine bL rfl ?_
 unfold fS
 simp only[encD]
 refine bT (dG (Okx.mono (Q:=λc M2=>M2=M/\(c=false->2<=SH)) ?_ ?_))
 ·rfl'
  refine⟨λh=>⟨rfl,λh=>by simp at h⟩,λh=>?_⟩
  rfl'
  exact⟨rfl,λh=>by simp at h;lia⟩
 rintro cnd M ⟨rfl,hc⟩
 refine cM (λh=>?_) (λh=>?_)
 ·rfl'
  refine sF (p:=λi=>!decide (i∈t)) (m:=SH) (by lia) rfl ?_ ?_ ?_
  ·rfl'
   exact⟨by simp only[in62,aBH];lia,rfl,rfl⟩
  ·intro i M hi
   rfl'
   refine yX (neg:=true) (d:=.int i) (xs:=t.map λk=>D.int (k:Nat)) rfl rfl (aFm t) ?_
   rw[aHo]
   exact⟨_,rfl,rfl,rfl⟩
  have hs:s∈(List.range SH).filter λi=>!decide (i∈t):=by simp[o1,o6]
  obtain⟨l,hl⟩:∃l,l=(List.range SH).filter λi=>!decide (i∈t):=⟨_,rfl⟩
  rw[<- hl]at hs ⊢
  have lp:0 < l.length:=List.length_pos_of_mem hs
  have ll:l.length<=9:=by rw[hl];have:=aED (λi=>!decide (i∈t)) (List.range SH);simp only[aBS]at this;lia
  rfl'
  refine(aO hb (by simp;lia) (by simp;lia)).mono ?_
  rintro _ M1 ⟨t1,rfl,l1,u1,n1⟩
  obtain⟨k,hk,ek⟩:=qL (l:=l) l1 (by simpa using u1)
  rfl'
  refine cG ek ?_
  rfl'
  rw[show cut [D.str "add",.int s,.int v,natsD g,natsD t] none (some 1)=[D.str "add"]from rfl]
  refine bA (by simp) ?_
  rfl'
  rw[show cut [D.str "add",.int s,.int v,natsD g,natsD t] (some 2) none=[.int v,natsD g,natsD t]from rfl]
  refine bA (by simp) ?_
  rfl'
  rw[hl]at hk
  have hk2:k < SH/\k∉t:=by simpa using hk
  exact⟨.add k v g t,rfl,⟨hk2.1,o2,o3,o4,o5,hk2.2,o7,o8⟩,by rw[n1.take];exact n1⟩
 have hS3:=hc h
 rfl'
 refine sF (p:=λi=>!decide (i=s)) (m:=SH) (by lia) rfl ?_ ?_ ?_
 ·rfl'
  exact⟨by simp only[in62,aBH];lia,rfl,rfl⟩
 ·intro i M hi
  rfl'
  refine⟨?_,rfl⟩
  by_cases h:i=s
  ·simp[h]
  ·have:¬((i:Int)=(s:Int)):=by lia
   simp[h,this]
 obtain⟨l,hl⟩:∃l,l=(List.range SH).filter λi=>!decide (i=s):=⟨_,rfl⟩
 have lm:∀k∈l,k < SH/\k≠s:=by intro k hk;rw[hl]at hk;simpa using hk
 have lp:0 < l.length:=by
  have:(if s=0 then 1 else 0)∈l:=by rw[hl];split <;> simp <;> lia
  exact List.length_pos_of_mem this
 have ll:l.length<=9:=by rw[hl];have:=aED (λi=>!decide (i=s)) (List.range SH);simp only[aBS]at this;lia
 rw[<- hl]
 rfl'
 refine(aO hb (by simp;lia) (by simp;lia)).mono ?_
 rintro _ M1 ⟨t1,rfl,l1,u1,n1⟩
 have hb1:=n1.bx hb
 obtain⟨k,hk,ek⟩:=qL (l:=l) l1 (by simpa using u1)
 rfl'
 refine cG ek ?_
 rfl'
 simp only[natsD]
 refine bA (by simp;lia) ?_
 rfl'
 obtain⟨t',et,ht1,ht2⟩:=sX t none (some (-1))
 refine bA (by simp;lia) ?_
 rfl'
 refine(aO hb1 (by lia) (by lia)).mono ?_
 rintro _ M2 ⟨t2,rfl,l2,u2,n2⟩
 have n3:=n1.trans n2
 have four:∃ts:List Nat,atI [D.tup (t.map (λk=>D.int (k:Nat))++[.int k]),D.tup (cut (t.map λk=>D.int (k:Nat)) none (some (-1))),D.tup [.int k],D.tup (t.map (λk=>D.int (k:Nat))++t.map λk=>D.int (k:Nat))] t2=some (.tup (ts.map λk=>D.int (k:Nat)))/\ts.length<=8/\∀i∈ts,i < SH/\i≠s:=by
  have kt:∀i∈t,i < SH/\i≠s:=λi hi=>⟨o5 i hi,λz=>o6 (z▸hi)⟩
  have:t2=0\/t2=1\/t2=2\/t2=3:=by lia
  rcases this with rfl|rfl|rfl|rfl
  ·refine⟨t++[k],by rw[aCO];rfl,by simp;lia,λi hi=>?_⟩
   rcases aAX.mp hi with h|h
   ·exact kt i h
   ·rw[aAM.mp h];exact lm k hk
  ·exact⟨t',by rw[et];rfl,by lia,λi hi=>kt i (ht1 i hi)⟩
  ·exact⟨[k],rfl,by simp,λi hi=>by rw[aAM.mp hi];exact lm k hk⟩
  ·refine⟨t++t,by rw[aCO];rfl,by simp;lia,λi hi=>?_⟩
   rcases aAX.mp hi with h|h <;> exact kt i h
 obtain⟨ts,ets,tl,tm⟩:=four
 rfl'
 refine cG ets ?_
 rfl'
 refine zS (ns:=ts.map λk:Nat=>(k:Int)) (dY _) (by simp;lia) ?_
 rw[uC]
 rfl'
 refine jM (xs:=((srtN ts).map λk:Nat=>(k:Int)).map D.int) rfl ?_
 rw[show((srtN ts).map λk:Nat=>(k:Int)).map D.int=(srtN ts).map λk=>D.int (k:Nat) by rw[aCV];rfl]
 obtain⟨t4,e4,m4,q4⟩:=sX (srtN ts) none (some 4)
 have l4:t4.length<=4:=by
  have:=congrArg List.length e4
  rw[aAK]at this
  rw[<- this]
  simp only[cut,aCC,aDV]
  refine aAV (aFC _ _) (aAV (Nat.sub_le _ _) ?_)
  simp only[HT.sIx]
  rw[aAL (by lia)]
  exact aAV (aFC _ _) (by decide)
 rfl'
 rw[e4,show cut [D.str "add",.int s,.int v,.tup (g.map λk=>D.int (k:Nat)),.tup (t.map λk=>D.int (k:Nat))] none (some 4)=[D.str "add",.int s,.int v,.tup (g.map λk=>D.int (k:Nat))]from rfl]
 refine bA (by simp) ?_
 rfl'
 have g4:∀i∈t4,i < SH/\i≠s:=λi hi=>tm i (zA.mp (m4 i hi))
 exact⟨.add s v g t4,rfl,⟨o1,o2,o3,o4,λi hi=>(g4 i hi).1,λz=>(g4 s z).2 rfl,o7,l4⟩,by rw[n3.take];exact n3⟩
theorem iF(ds:List Dd)(lo hi:Option Int):∃ds':List Dd,cut (ds.map encD) lo hi=ds'.map encD/\(∀d∈ds',d∈ds)/\ds'.length<=ds.length:=by
 unfold cut
 refine⟨_,by rw[<- List.map_drop,<- List.map_take],λi h=>aHM (aBZ h),?_⟩
 simp only[aCC,aDV]
 lia
theorem aRq{t:Int}(h0:0<=t)(h1:t < (ds.length:Nat)):∃d,d∈ds/\atI (ds.map encD) t=some (encD d):=by
 obtain⟨j,rfl⟩:∃j:Nat,t=j:=⟨t.toNat,by lia⟩
 have hj:j < ds.length:=by lia
 refine⟨ds[j],List.getElem_mem hj,?_⟩
 simp only[atI,ixN]
 rw[aAI (by lia),aAI (by simp;lia)]
 simp[hj]
theorem aDe:∀ds:List Dd,deps (ds.map encD)<=10
 |[]=>by simp[deps]
 |d::r=>by have:=gK d;have:=aDe r;simp only[aBP,deps];lia
theorem pY{ds:List Dd}{M:Mm}(hn:2<=n)(hn2:n<=1000000)(hG:G<=8)(hS:1<=SH)(hS2:SH<=9)(hok:∀d∈ds,OkD n G SH d)(hz:ds.length<=5000000)(hb:Bx M q) :
  Ok (lV [.ref q,.d (.tup [.int n,.int G,.int SH,.tup (ds.map encD)])] M) λw M'=>∃ds':List Dd,w=.d (.tup [.int n,.int G,.int SH,.tup (ds'.map encD)])/\(∀d∈ds',OkD n G SH d)/\ds'.length<=3*ds.length+1/\Nx q M M':=by
 have n0:=Nx.refl hb
 unfold lV
 refine bL rfl ?_
 unfold tH
 rfl'
 refine nX (a:=.tup (ds.map encD)) (b:=.tup []) rfl rfl ⟨by have:=aDe ds;simp only[dep];lia,by simp[dep,deps]⟩ ?_
 refine⟨_,rfl,?_⟩
 refine cM (λh=>?_) (λh=>?_)
 ·rfl'
  refine(uA hb hn hn2 hG hS hS2).mono ?_
  rintro _ M1 ⟨d,rfl,od,_,n1⟩
  rfl'
  exact⟨[d],rfl,λx hx=>by rw[aAM.mp hx];exact od,by simp,by rw[n1.take];exact n1⟩
 have hl:0 < ds.length:=by
  cases ds with
  |nil=>simp[eqD,eqDs]at h
  |cons a r=>simp
 rfl'
 refine(aO hb (by simp;lia) (by simp;lia)).mono ?_
 rintro _ M1 ⟨t1,rfl,l1,u1,n1⟩
 have hb1:=n1.bx hb
 rfl'
 refine(aO hb1 (by lia) (by lia)).mono ?_
 rintro _ M2 ⟨t2,rfl,l2,u2,n2⟩
 have hb2:=n2.bx hb1
 obtain⟨d8,hd8,e8⟩:=aRq (ds:=ds) l1 (by simpa using u1)
 have o8:=hok d8 hd8
 rfl'
 refine mM e8 ?_
 rfl'
 refine(uA hb2 hn hn2 hG hS hS2).mono ?_
 rintro _ M3 ⟨d9,rfl,o9,_,n3⟩
 have hb3:=n3.bx hb2
 have nn:=(n1.trans n2).trans n3
 clear n1 n2 n3 hb hb1 hb2 n0
 refine pG (bT (Okx.mono (Q:=λo M'=>Nx q M M'/\Bx M' q/\∃(d9:Dd) (o10 o11:Option W),OkD n G SH d9/\o=.nx [some (.ref q),some (.d (.tup [.int n,.int G,.int SH,.tup (ds.map encD)])),some (.d (.int n)),some (.d (.int G)),some (.d (.int SH)),some (.d (.tup (ds.map encD))),some (.d (.int t1)),some (.d (.int t2)),some (.d (encD d8)),some (.d (encD d9)),o10,o11]) ?_ ?_))
 ·refine dG (Okx.mono (Q:=λc M2=>M2=M3/\(c=true->∃s v g t,d8=.add s v g t)) ?_ ?_)
  ·cases d8 with
   |add s v g t =>
    simp only[encD]
    rfl'
    refine⟨λ_=>?_,λ_=>⟨rfl,λh=>by cases h⟩⟩
    rfl'
    exact⟨rfl,λ_=>⟨s,v,g,t,rfl⟩⟩
   |scale s u =>
    simp only[encD]
    rfl'
    refine⟨λ_=>?_,λ_=>⟨rfl,λh=>by cases h⟩⟩
    rfl'
    exact⟨rfl,λh=>absurd h (by decide)⟩
  rintro c M3 ⟨rfl,hc⟩
  refine cM (λh=>?_) (λh=>?_)
  ·obtain⟨s,v,g,t,rfl⟩:=hc h
   rfl'
   refine(mB hS hS2 o8 hb3).mono ?_
   rintro _ M4 ⟨d,rfl,od,n4⟩
   rfl'
   exact⟨nn.trans n4,n4.bx hb3,d,none,none,od,rfl⟩
  ·rfl'
   exact⟨nn,hb3,d9,none,none,o9,rfl⟩
 clear nn hb3
 rintro _ M3 ⟨nn,hb3,d9,o10,o11,o9,rfl⟩
 refine bT (Okx.mono (Q:=λo M'=>Nx q M M'/\Bx M' q/\∃(d9:Dd) (o10 o11:Option W),OkD n G SH d9/\o=.nx [some (.ref q),some (.d (.tup [.int n,.int G,.int SH,.tup (ds.map encD)])),some (.d (.int n)),some (.d (.int G)),some (.d (.int SH)),some (.d (.tup (ds.map encD))),some (.d (.int t1)),some (.d (.int t2)),some (.d (encD d8)),some (.d (encD d9)),o10,o11]) ?_ ?_)
 ·refine dG (Okx.mono (Q:=λc M2=>M2=M3/\(c=true->∃s v g t,d8=.add s v g t)) ?_ ?_)
  ·cases d8 with
   |add s v g t =>
    simp only[encD]
    rfl'
    refine⟨λ_=>?_,λ_=>⟨rfl,λh=>by cases h⟩⟩
    rfl'
    exact⟨rfl,λ_=>⟨s,v,g,t,rfl⟩⟩
   |scale s u =>
    simp only[encD]
    rfl'
    refine⟨λ_=>?_,λ_=>⟨rfl,λh=>by cases h⟩⟩
    rfl'
    exact⟨rfl,λh=>absurd h (by decide)⟩
  rintro c M3 ⟨rfl,hc⟩
  refine cM (λh=>?_) (λh=>?_)
  ·obtain⟨s,v,g,t,rfl⟩:=hc h
   obtain⟨a1,a2,a3,a4,a5,a6,a7,a8⟩:=o8
   simp only[encD]
   rfl'
   refine(aO hb3 (by lia) (by lia)).mono ?_
   rintro _ M4 ⟨t3,rfl,l3,u3,n4⟩
   rfl'
   rw[show cut [D.str "add",.int s,.int v,natsD g,natsD t] none (some 2)=[D.str "add",.int s]from rfl]
   refine bA (by simp) ?_
   rfl'
   rw[show cut [D.str "add",.int s,.int v,natsD g,natsD t] (some 3) none=[natsD g,natsD t]from rfl]
   refine bA (by simp) ?_
   rfl'
   exact⟨nn.trans n4,n4.bx hb3,.add s ((v+1+t3) % n) g t,_,_,⟨a1,aBR _ (by lia),aBB _ (by lia),a4,a5,a6,a7,a8⟩,rfl⟩
  ·rfl'
   exact⟨nn,hb3,d9,o10,o11,o9,rfl⟩
 clear nn hb3
 rintro _ M3 ⟨nn,hb3,d9,o10,o11,o9,rfl⟩
 refine bT (Okx.mono (Q:=λo M'=>Nx q M M'/\Bx M' q/\∃(d9:Dd) (o10 o11:Option W),OkD n G SH d9/\o=.nx [some (.ref q),some (.d (.tup [.int n,.int G,.int SH,.tup (ds.map encD)])),some (.d (.int n)),some (.d (.int G)),some (.d (.int SH)),some (.d (.tup (ds.map encD))),some (.d (.int t1)),some (.d (.int t2)),some (.d (encD d8)),some (.d (encD d9)),o10,o11]) ?_ ?_)
 ·refine dG (Okx.mono (Q:=λc M2=>M2=M3/\(c=true->(∃s v g t,d8=.add s v g t)/\0 < G)) ?_ ?_)
  ·cases d8 with
   |add s v g t =>
    simp only[encD]
    rfl'
    refine⟨λ_=>?_,λ_=>⟨rfl,λh=>by cases h⟩⟩
    rfl'
    exact⟨rfl,λh=>⟨⟨s,v,g,t,rfl⟩,by simpa using h⟩⟩
   |scale s u =>
    simp only[encD]
    rfl'
    refine⟨λ_=>?_,λ_=>⟨rfl,λh=>by cases h⟩⟩
    rfl'
    exact⟨rfl,λh=>absurd h (by decide)⟩
  rintro c M3 ⟨rfl,hc⟩
  refine cM (λh=>?_) (λh=>?_)
  ·obtain⟨⟨s,v,g,t,rfl⟩,G0⟩:=hc h
   obtain⟨a1,a2,a3,a4,a5,a6,a7,a8⟩:=o8
   simp only[encD]
   rfl'
   refine(aO hb3 (by lia) (by lia)).mono ?_
   rintro _ M4 ⟨t3,rfl,l3,u3,n4⟩
   have lt3:∃k:Nat,t3=k/\k < G:=⟨t3.toNat,by lia,by lia⟩
   obtain⟨k3,rfl,k3l⟩:=lt3
   rfl'
   simp only[natsD]
   refine bA (by simp;lia) ?_
   rfl'
   refine zS (ns:=(g++[k3]).map λk:Nat=>(k:Int)) (by rw[<- dY,aCO];rfl) (by simp;lia) ?_
   rw[uC]
   rfl'
   refine jM (xs:=((srtN (g++[k3])).map λk:Nat=>(k:Int)).map D.int) rfl ?_
   rw[show((srtN (g++[k3])).map λk:Nat=>(k:Int)).map D.int=(srtN (g++[k3])).map λk=>D.int (k:Nat) by rw[aCV];rfl]
   obtain⟨t4,e4,m4,q4⟩:=sX (srtN (g++[k3])) none (some 4)
   have l4:t4.length<=4:=by
    have:=congrArg List.length e4
    rw[aAK]at this
    rw[<- this]
    simp only[cut,aCC,aDV]
    refine aAV (aFC _ _) (aAV (Nat.sub_le _ _) ?_)
    simp only[HT.sIx]
    rw[aAL (by lia)]
    exact aAV (aFC _ _) (by decide)
   rfl'
   rw[e4,show cut [D.str "add",.int s,.int v,.tup (g.map λk=>D.int (k:Nat)),.tup (t.map λk=>D.int (k:Nat))] none (some 3)=[D.str "add",.int s,.int v]from rfl]
   refine bA (by simp) ?_
   rfl'
   rw[show cut [D.str "add",.int s,.int v,.tup (g.map λk=>D.int (k:Nat)),.tup (t.map λk=>D.int (k:Nat))] (some 4) none=[.tup (t.map λk=>D.int (k:Nat))]from rfl]
   refine bA (by simp) ?_
   rfl'
   have g4:∀i∈t4,i < G:=λi hi=>by
    rcases aAX.mp (zA.mp (m4 i hi))with h|h
    ·exact a4 i h
    ·rw[aAM.mp h];exact k3l
   exact⟨nn.trans n4,n4.bx hb3,.add s v t4 t,_,_,⟨a1,a2,a3,g4,a5,a6,l4,a8⟩,rfl⟩
  ·rfl'
   exact⟨nn,hb3,d9,o10,o11,o9,rfl⟩
 clear nn hb3
 rintro _ M3 ⟨nn,hb3,d9,o10,o11,o9,rfl⟩
 have mem2:∀{x y:List Dd},(∀d∈x,d∈ds)->(∀d∈y,d∈ds)->∀d∈x++y,OkD n G SH d:=λh1 h2 d hd=>by
  rcases aAX.mp hd with h|h
  ·exact hok d (h1 d h)
  ·exact hok d (h2 d h)
 refine bT (dG (Okx.mono (Q:=λc M2=>M2=M3) ?_ ?_))
 ·rfl'
  refine yX (neg:=false) (d:=.int t2) (xs:=[.int 3,.int 4]) rfl rfl rfl ?_
  exact⟨_,rfl,rfl⟩
 rintro c _ rfl
 refine cM (λh=>?_) (λh=>?_)
 ·rfl'
  obtain⟨x1,e1,m1,q1⟩:=iF ds none (some (t1+t2 - 3))
  obtain⟨x2,e2,m2,q2⟩:=iF ds (some (t1+4 - t2)) none
  rw[e1,e2]
  refine bA (by simp;lia) ?_
  rw[<- aCO]
  rfl'
  exact⟨mem2 m1 m2,by simp;lia,by rw[nn.take];exact nn⟩
 refine gG (bT (dG (aMr (aMq ?_))))
 rfl'
 refine cM (λh=>?_) (λh=>?_)
 ·rfl'
  obtain⟨x1,e1,m1,q1⟩:=iF ds none (some t1)
  obtain⟨x2,e2,m2,q2⟩:=iF ds (some t1) (some (t1+2))
  obtain⟨x3,e3,m3,q3⟩:=iF ds (some (t1+2)) none
  rw[e1,e2]
  refine vQ (by simp;lia) ?_
  rw[<- aGP]
  refine bA (by simp;lia) ?_
  rfl'
  rw[e3]
  refine bA (by simp;lia) ?_
  rw[<- aCO,<- aCO]
  rfl'
  refine⟨λd hd=>?_,by simp;lia,by rw[nn.take];exact nn⟩
  rcases aAX.mp hd with h|h
  ·rcases aAX.mp h with h|h
   ·exact hok d (m1 d h)
   ·exact hok d (m2 d (aEQ.mp h))
  ·exact hok d (m3 d h)
 rfl'
 refine cM (λh=>?_) (λh=>?_)
 ·rfl'
  refine(aO hb3 (by simp <;> lia) (by simp <;> lia)).mono ?_
  rintro _ M4 ⟨t3,rfl,l3,u3,n4⟩
  replace nn:=nn.trans n4
  rfl'
  obtain⟨x1,e1,m1,q1⟩:=iF ds none (some t3)
  obtain⟨x2,e2,m2,q2⟩:=iF ds (some t3) none
  rw[e1]
  refine bA (by simp;lia) ?_
  rfl'
  rw[e2]
  refine bA (by simp;lia) ?_
  rw[show x1.map encD++[encD d9]++x2.map encD=(x1++[d9]++x2).map encD by simp]
  rfl'
  refine⟨λd hd=>?_,by simp;lia,by rw[nn.take];exact nn⟩
  rcases aAX.mp hd with h|h
  ·rcases aAX.mp h with h|h
   ·exact hok d (m1 d h)
   ·rw[aAM.mp h];exact o9
  ·exact hok d (m2 d h)
 rfl'
 obtain⟨x1,e1,m1,q1⟩:=iF ds none (some t1)
 obtain⟨x2,e2,m2,q2⟩:=iF ds (some (t1+1)) none
 rw[e1]
 refine bA (by simp;lia) ?_
 rfl'
 rw[e2]
 refine bA (by simp;lia) ?_
 rw[show x1.map encD++[encD d9]++x2.map encD=(x1++[d9]++x2).map encD by simp]
 rfl'
 refine⟨λd hd=>?_,by simp;lia,by rw[nn.take];exact nn⟩
 rcases aAX.mp hd with h|h
 ·rcases aAX.mp h with h|h
  ·exact hok d (m1 d h)
  ·rw[aAM.mp h];exact o9
 ·exact hok d (m2 d h)
theorem wE{M:Mm}(hn:2<=n)(hn2:n<=1000000):Ok (kI [.d (.int n),.d (.int k)] M) λw M'=>M'=M/\((∃v,IsIv n k v/\w=.d (.int v))\/((¬∃v,IsIv n k v)/\w=.d .non)):=by
 unfold kI
 refine bL rfl ?_
 unfold uJ
 rfl'
 refine(gJ (QS:=λo M'=>M'=M/\∃h p q t,o=.nx [some (.d (.int n)),some (.d (.int k)),some (.d (.int h)),some (.d (.int 0)),some (.d (.int p)),some (.d (.int q)),t]/\0 < h/\h<=n/\Cg n (p*k) h/\h ∣ n/\h ∣ k)
  (I:=λm L M'=>M'=M/\∃(h l p q:Int) (t:Option W),L=[some (.d (.int n)),some (.d (.int k)),some (.d (.int h)),some (.d (.int l)),some (.d (.int p)),some (.d (.int q)),t]/\m=l.toNat/\0 < h/\h<=n/\0<=l/\l<=n/\Cg n (p*k) h/\Cg n (q*k) l/\∀c:Int,c ∣ h->c ∣ l->c ∣ n/\c ∣ k) ?_ NW (k % n).toNat _ _
  ⟨rfl,n,k % n,0,1,none,rfl,rfl,by lia,by lia,aBR _ (by lia),Int.le_of_lt (aBB _ (by lia)),⟨-1,by grind⟩,?_,?_⟩ ?_).mono ?_
 ·rintro m L _ ⟨rfl,h,l,p,q,t,rfl,rfl,h0,h1,l0,l1,c1,c2,hd⟩
  rfl'
  refine⟨λhl=>?_,λhl=>?_⟩
  ·have hl:0 < l:=by simpa using hl
   have e:h - h / l*l=h % l:=by rw[Int.emod_def,aHN]
   have ht0:0<=h / l:=Int.ediv_nonneg (by lia) (by lia)
   have ht1:h / l<=h:=Int.ediv_le_self _ (by lia)
   rfl'
   rw[e]
   have em1:=aBR h (by lia:l≠0)
   have em2:=aBB h hl
   refine⟨(h % l).toNat,by lia,rfl,l,h % l,q,p - h / l*q,_,rfl,rfl,hl,by lia,em1,by lia,c2,?_,?_⟩
   ·rw[<- e]
    exact(Cg.of_eq (by grind)).trans (Cg.sub c1 (Cg.mul (Cg.rfl (a:=h / l)) c2))
   ·intro c g1 g2
    refine hd c ?_ g1
    have:=aHR g2 (aGO g1 (Int.dvd_mul_left (h / l) l))
    rwa[<- e,show h - h / l*l+h / l*l=h by lia]at this
  ·have hl:l=0:=by simp at hl;lia
   subst hl
   have:=hd h (Int.dvd_refl h) (Int.dvd_zero h)
   exact⟨rfl,h,p,q,t,rfl,h0,h1,c1,this.1,this.2⟩
 ·exact(Cg.of_eq (by grind)).trans (Cg.mod (a:=k)).symm
 ·intro c g1 g2
  refine⟨g1,?_⟩
  have:=aHR g2 (aGO g1 (aIG n (k / n)))
  rwa[Int.emod_add_mul_ediv]at this
 ·rw[xZ];have:=aBB k (by lia:0 < n);lia
 ·rintro _ _ ⟨rfl,h,p,q,t,rfl,h0,h1,c1,d1,d2⟩
  have pn:=aBR p (by lia:n≠0)
  have pl:=aBB p (by lia:0 < n)
  rfl'
  refine aOv (λhh=>?_) (λhh=>?_)
  ·subst hh
   rfl'
   refine⟨by simp,.inl ⟨p % n,⟨pn,pl,?_⟩,rfl⟩⟩
   exact Cg.emod ((Cg.mul Cg.rfl Cg.mod).trans ((Cg.of_eq (aHN _ _)).trans c1))
  ·rfl'
   refine⟨by simp,.inr ⟨?_,rfl⟩⟩
   rintro⟨v,v0,v1,e⟩
   obtain⟨z,hz⟩:=Cg.of e
   have:h ∣ 1:=by
    have g1:h ∣ k*v:=aEV d2
    rw[hz]at g1
    exact(Int.dvd_add_left (aEV d1)).mp g1
   have:=Int.le_of_dvd (by lia) this
   lia
theorem aCc{u:Int}{M:Mm}(hn:2<=n)(hn2:n<=1000000)(hu:Un n u):Ok (kI [.d (.int n),.d (.int u)] M) λw M'=>w=.d (.int (iv n u))/\M'=M:=by
 refine(wE hn hn2).mono ?_
 rintro w M' ⟨rfl,⟨v,h,rfl⟩|⟨h,_⟩⟩
 ·rw[aGb h];exact⟨rfl,rfl⟩
 ·exact(h hu.2.2).elim
theorem qW{M:Mm}(hn:2<=n)(hn2:n<=1000000)(hu:∃v,IsIv n k v):Ok (jJ [.d (.int n),.d (.int k)] M) λw M'=>w=.d (.int (iv n k))/\M'=M:=by
 unfold jJ
 refine bL rfl ?_
 unfold pQ
 rfl'
 refine(gJ (QS:=λo M'=>M'=M/\∃h p q t,o=.nx [some (.d (.int n)),some (.d (.int k)),some (.d (.int h)),some (.d (.int 0)),some (.d (.int p)),some (.d (.int q)),t]/\0 < h/\h<=n/\Cg n (p*k) h/\h ∣ n/\h ∣ k)
  (I:=λm L M'=>M'=M/\∃(h l p q:Int) (t:Option W),L=[some (.d (.int n)),some (.d (.int k)),some (.d (.int h)),some (.d (.int l)),some (.d (.int p)),some (.d (.int q)),t]/\m=l.toNat/\0 < h/\h<=n/\0<=l/\l<=n/\Cg n (p*k) h/\Cg n (q*k) l/\∀c:Int,c ∣ h->c ∣ l->c ∣ n/\c ∣ k) ?_ NW (k % n).toNat _ _
  ⟨rfl,n,k % n,0,1,none,rfl,rfl,by lia,by lia,aBR _ (by lia),Int.le_of_lt (aBB _ (by lia)),⟨-1,by grind⟩,?_,?_⟩ ?_).mono ?_
 ·rintro m L _ ⟨rfl,h,l,p,q,t,rfl,rfl,h0,h1,l0,l1,c1,c2,hd⟩
  rfl'
  refine⟨λhl=>?_,λhl=>?_⟩
  ·have hl:0 < l:=by simpa using hl
   have e:h - h / l*l=h % l:=by rw[Int.emod_def,aHN]
   have ht0:0<=h / l:=Int.ediv_nonneg (by lia) (by lia)
   have ht1:h / l<=h:=Int.ediv_le_self _ (by lia)
   rfl'
   rw[e]
   have em1:=aBR h (by lia:l≠0)
   have em2:=aBB h hl
   refine⟨(h % l).toNat,by lia,rfl,l,h % l,q,p - h / l*q,_,rfl,rfl,hl,by lia,em1,by lia,c2,?_,?_⟩
   ·rw[<- e]
    exact(Cg.of_eq (by grind)).trans (Cg.sub c1 (Cg.mul (Cg.rfl (a:=h / l)) c2))
   ·intro c g1 g2
    refine hd c ?_ g1
    have:=aHR g2 (aGO g1 (Int.dvd_mul_left (h / l) l))
    rwa[<- e,show h - h / l*l+h / l*l=h by lia]at this
  ·have hl:l=0:=by simp at hl;lia
   subst hl
   have:=hd h (Int.dvd_refl h) (Int.dvd_zero h)
   exact⟨rfl,h,p,q,t,rfl,h0,h1,c1,this.1,this.2⟩
 ·exact(Cg.of_eq (by grind)).trans (Cg.mod (a:=k)).symm
 ·intro c g1 g2
  refine⟨g1,?_⟩
  have:=aHR g2 (aGO g1 (aIG n (k / n)))
  rwa[Int.emod_add_mul_ediv]at this
 ·rw[xZ];have:=aBB k (by lia:0 < n);lia
 ·rintro _ _ ⟨rfl,h,p,q,t,rfl,h0,h1,c1,d1,d2⟩
  have pn:=aBR p (by lia:n≠0)
  have pl:=aBB p (by lia:0 < n)
  have h1:h=1:=by
   obtain⟨v,v0,v1,e⟩:=hu
   obtain⟨z,hz⟩:=Cg.of e
   have:h ∣ 1:=by
    have g1:h ∣ k*v:=aEV d2
    rw[hz]at g1
    exact(Int.dvd_add_left (aEV d1)).mp g1
   have:=Int.le_of_dvd (by lia) this
   lia
  subst h1
  rfl'
  rw[aGb (n:=n) (u:=k) (v:=p % n) ⟨pn,pl,Cg.emod ((Cg.mul Cg.rfl Cg.mod).trans ((Cg.of_eq (aHN _ _)).trans c1))⟩]
  exact⟨rfl,by simp⟩
theorem oU{M:Mm}(hn:2<=n)(hn2:n<=1000000)(h:OkD n G S d):Ok (fY [.d (.int n),.d (encD d)] M) λw M'=>w=.d (encD (bD n d))/\M'=M:=by
 cases d with
 |add s c g t =>
  unfold fY
  refine bL rfl ?_
  unfold iR
  simp only[encD,bD]
  rfl'
  exact⟨rfl,by simp⟩
 |scale s u =>
  unfold fY
  refine bL rfl ?_
  unfold iR
  simp only[encD,bD]
  rfl'
  refine(aCc hn hn2 h.2).mono ?_
  rintro _ _ ⟨rfl,rfl⟩
  rfl'
  exact⟨rfl,by simp⟩
theorem cX{ds:List Dd}{M:Mm}(hn:2<=n)(hn2:n<=1000000)(hd:∀d∈ds,OkD n G S d)(hl:ds.length<=16777216):Ok (hZ [.d (.int n),.d (.tup (ds.map encD))] M) λw M'=>w=.d (.tup ((bDs n ds).map encD))/\M'=M:=by
 unfold hZ
 refine bL rfl ?_
 unfold nU
 rfl'
 refine fD (λi acc L' M'=>acc=((ds.reverse.take i).map (bD n)).map encD/\M'=M/\∃a,L'=[a,some (.d (.int n))]) ?_
 rfl'
 refine⟨ds.map encD,.inl rfl,⟨rfl,rfl,none,rfl⟩,?_,by simpa using hl,?_,?_⟩
 ·rintro i acc L' M' hi ⟨rfl,rfl,_⟩
  exact⟨rfl,(λt e=>by cases e),by simp;lia⟩
 ·rintro i d acc _ _ hx ⟨rfl,rfl,a,rfl⟩
  rw[<- aGP]at hx
  simp only[aBJ,aBE]at hx
  obtain⟨k,hk,rfl⟩:=hx
  have hm:k∈ds:=aEQ.mp (aBM hk)
  rfl'
  refine(oU hn hn2 (hd k hm)).mono ?_
  rintro _ _ ⟨rfl,rfl⟩
  exact⟨_,_,rfl,rfl,by rw[aDO,hk];simp,rfl,_,rfl⟩
 ·rintro acc L' M' ⟨rfl,rfl,_⟩
  rfl'
  refine jM rfl ?_
  rfl'
  exact⟨by rw[aDG (by simp)];rfl,by simp⟩
theorem kT{ds:List Dd}{M:Mm}(hn:2<=n)(hn2:n<=1000000)(hd:∀d∈ds,OkD n G S d)(hl:ds.length<=16777216):Ok (dD [.d (.int n),.d (.tup (ds.map encD))] M) λw M'=>w=.d (.tup ((bDs n ds).map encD))/\M'=M:=by
 unfold dD
 refine bL rfl ?_
 unfold fL
 rfl'
 refine⟨ds.map encD,.inl rfl,?_⟩
 refine dS (λi L M'=>M'=M++[((ds.reverse.take i).map (bD n)).map encD]/\∃a,L=[some (.d (.int n)),some (.d (.tup (ds.map encD))),some (.ref M.length),a]) ⟨rfl,none,rfl⟩ (λi L M _ _ t e=>by cases e) ?_ ?_
 ·rintro i d _ _ hx ⟨rfl,a,rfl⟩
  simp only at hx
  rw[<- aGP]at hx
  simp only[aBJ,aBE]at hx
  obtain⟨k,hk,rfl⟩:=hx
  have hm:k∈ds:=aEQ.mp (aBM hk)
  have hok:=hd k hm
  have hi:i < ds.length:=by have:=(aAD.mp hk).1;simpa using this
  have e1:ds.reverse.take (i+1)=ds.reverse.take i++[k]:=by rw[aDO,hk];rfl
  rw[e1]
  cases k with
  |scale s u =>
   simp only[encD]
   rfl'
   refine(qW hn hn2 hok.2.2.2).mono ?_
   rintro _ _ ⟨rfl,rfl⟩
   rfl'
   refine kE (xs:=((ds.reverse.take i).map (bD n)).map encD) (by simp) (by simp;lia) ?_
   rfl'
   exact⟨by simp[bD,encD],_,rfl⟩
  |add s c g t =>
   simp only[encD]
   rfl'
   refine bA (by simp[cut,HT.sIx]) ?_
   rfl'
   refine bA (by simp[cut,HT.sIx]) ?_
   refine kE (xs:=((ds.reverse.take i).map (bD n)).map encD) (by simp) (by simp;lia) ?_
   rfl'
   exact⟨by simp[bD,encD,cut,HT.sIx],_,rfl⟩
 ·rintro _ _ ⟨rfl,a,rfl⟩
  rw[aDG (by simp)]
  rfl'
  refine jM (xs:=(bDs n ds).map encD) ?_ ?_
  ·simp[sv,lr,lv,bDs]
  rfl'
  exact⟨rfl,by simp⟩
inductive Ro where
 |leaf (s:Nat) (ts:List Nat) (f:Bool)
 |bk (i:Nat)
noncomputable section
def encR:Ro->D
 |.leaf s ts f=>.tup [.str "leaf",.int s,natsD ts,.bl f]
 |.bk i=>.tup [.str "back",.int i]
def nv(n:Int)(f:Bool)(v:Int):Int:=if f then v else -v % n
def lf(n:Int)(d:Dd)(s:Nat)(ts:List Nat)(f:Bool):Option E:=match d with
 |.add s' v g t=>if s'=s/\t=ts then(match g with
  |[]=>some (.num (nv n f v))
  |[i]=>if nv n f v=1 then some (.giv i)else none
  |_=>none)else none
 |.scale _ _=>none
def good(n:Int)(ds:List Dd)(k:Nat):Ro->Prop
 |.leaf s ts f=>∃d e,ds[k]?=some d/\lf n d s ts f=some e
 |.bk i=>∃d,ds[i]?=some d/\ds[k]?=some (bD n d)
end
open Classical in
noncomputable def fb(n:Int)(ds:List Dd):Nat->List Ro->Option Nat
 |_,[]=>none
 |k,r::rs=>if good n ds k r then fb n ds (k+1) rs else some k
theorem cB{n:Int}{ds:List Dd}:∀{a b:List Ro} {k:Nat},fb n ds k a=none->fb n ds k (a++b)=fb n ds (k+a.length) b
 |[],b,k,_=>by simp
 |r::a,b,k,h=>by
  simp only[fb,List.cons_append]at h ⊢
  split at h
  ·rename_i g
   rw[aAI g,cB h]
   congr 1
   simp;lia
  ·cases h
theorem aDf{n:Int}{ds:List Dd}:∀{a b:List Ro} {k x:Nat},fb n ds k a=some x->fb n ds k (a++b)=some x
 |[],b,k,x,h=>by cases h
 |r::a,b,k,x,h=>by
  simp only[fb,List.cons_append]at h ⊢
  split at h
  ·rename_i g
   rw[aAI g,aDf h]
  ·rename_i g
   rw[aAL g]
   exact h
variable{k:Nat}{r:Ro}
theorem vV(h:good n ds k r):k < ds.length:=by
 cases r with
 |leaf s ts f=>obtain⟨d,e,h1,_⟩:=h;exact(aAD.mp h1).1
 |bk i=>obtain⟨d,_,h1⟩:=h;exact(aAD.mp h1).1
theorem iO{n:Int}{ds:List Dd}:∀{a:List Ro} {k:Nat},fb n ds k a=none->k<=ds.length->k+a.length<=ds.length
 |[],k,_,h=>by simpa using h
 |r::a,k,h,hk=>by
  simp only[fb]at h
  split at h
  ·rename_i g
   have:=vV g
   have:=iO h (by lia)
   simp;lia
  ·cases h
noncomputable def Bad(n:Int)(ds:List Dd)(i:Nat)(R:List Ro)(M:Mm):D->Mm->Prop:=λx M'=>∃k:Nat,fb n ds i R=some k/\x=.exn "NoPaper" "at" [.int k]/\M'=M
theorem rT{ds:List Dd}{back:Bool}{M:Mm}(hn:2<=n)(hn2:n<=1000000)(hok:∀d∈ds,OkD n G SH d)(hi:i<=ds.length)(ha:a=i) :
  Okx (Bad n ds i [.leaf s (if byb then[b]else[]) (!back)] M) (fW [.d (.int n),.d (.tup (ds.map encD)),.d (.int a),.d (.tup [.int s,.int b,.int c]),.d (.bl byb),.d (.bl back)] M) λw M'=>(∃d e,ds[i]?=some d/\lf n d s (if byb then[b]else[]) (!back)=some e/\w=.d (.tup [enc e,.int (a+1)]))/\M'=M:=by
 obtain⟨ts,hts⟩:∃ts:List Nat,ts=if byb then[b]else[]:=⟨_,rfl⟩
 have bad:∀M:Mm,¬good n ds i (.leaf s ts (!back))->Bad n ds i [.leaf s ts (!back)] M (.exn "NoPaper" "at" [.int a]) M:=λM h=>⟨i,by simp only[fb];rw[aAL h],by rw[ha],rfl⟩
 rw[<- hts]
 unfold fW
 refine gB rfl ?_
 unfold pX
 refine bT (xF (Okx.mono (Q:=λw M2=>w=.d (natsD ts)/\M2=M) ?_ ?_))
 ·subst hts
  cases byb
  ·rfl'
   exact⟨rfl,rfl⟩
  ·rfl'
   exact⟨rfl,rfl⟩
 rintro _ M ⟨rfl,rfl⟩
 rfl'
 refine cM (λh=>?_) (λh=>?_)
 ·rfl'
  rw[aAS]
  refine bad M λg=>?_
  have:=vV g
  simp at h
  lia
 have hl:i < ds.length:=by simp at h;lia
 obtain⟨d,hd⟩:∃d,ds[i]?=some d:=⟨_,aAR hl⟩
 have bad':∀M:Mm,lf n d s ts (!back)=none->Bad n ds i [.leaf s ts (!back)] M (.exn "NoPaper" "at" [.int a]) M:=λM h=>bad M λ⟨d',e,h1,h2⟩=>by
  rw[hd]at h1
  cases h1
  rw[h]at h2
  cases h2
 clear bad
 have hA:=(At.nil (ds:=ds) hi).snoc (by simpa using hd)
 rfl'
 refine mM (hA.get ha) ?_
 refine pG (bT (dG (Okx.mono (Q:=λcnd M2=>M2=M/\(cnd=false->∃v gs,d=.add s v gs ts)/\(cnd=true->lf n d s ts (!back)=none)) ?_ ?_)))
 ·cases d with
  |scale s' u =>
   simp only[encD]
   rfl'
   exact⟨rfl,(λh=>by simp at h),λ_=>rfl⟩
  |add s' v gs ts' =>
   simp only[encD]
   rfl'
   refine⟨λh=>⟨rfl,(λh'=>by simp at h'),λ_=>?_⟩,λh1=>?_⟩
   ·simp only[lf]
    rw[aAL]
    rintro⟨h1,h2⟩
    simp at h
    lia
   have h1:s'=s:=by simp at h1;lia
   rfl'
   refine nC (a:=natsD ts') (b:=natsD ts) rfl rfl (by simp[natsD,dep,nI]) ?_
   refine⟨_,rfl,rfl,(λh2=>?_),λh2=>?_⟩
   ·exact⟨v,gs,by rw[h1,aDs h2]⟩
   ·simp only[lf]
    rw[aAL]
    rintro⟨h3,h4⟩
    rw[h4]at h2
    rw[jH]at h2;cases h2
 rintro cnd M ⟨rfl,hc,hc'⟩
 refine cM (λh=>?_) (λh=>?_)
 ·rfl'
  rw[aAS]
  exact bad' M (hc' h)
 obtain⟨v,gs,rfl⟩:=hc h
 clear hc hc'
 refine gG (bT (xF (Okx.mono (Q:=λw M2=>w=.d (.int (nv n (!back) v))/\M2=M) ?_ ?_)))
 ·simp only[encD]
  cases back
  ·rfl'
   exact⟨rfl,rfl⟩
  ·rfl'
   exact⟨rfl,rfl⟩
 rintro _ M ⟨rfl,rfl⟩
 obtain⟨u,hu⟩:∃u:Int,u=nv n (!back) v:=⟨_,rfl⟩
 rw[<- hu]
 simp only[encD]
 simp only[lf,and_self,aEA]at bad'
 rw[<- hu]at bad'
 cases gs with
 |nil =>
  simp only[natsD,aDW]
  rfl'
  exact⟨⟨_,.num u,hd,by simp[lf,<- hu],rfl⟩,by simp⟩
 |cons g r =>
  cases r with
  |nil =>
   simp only[natsD,aBP,aDW]
   rfl'
   refine dO (by simp) ?_
   refine gG (bT (dG (Okx.mono (Q:=λcnd M2=>M2=M/\cnd=!decide (u=1)) ?_ ?_)))
   ·rfl'
    refine⟨λh=>absurd h (by simp),λ_=>?_⟩
    rfl'
    exact⟨rfl,rfl⟩
   rintro cnd M ⟨rfl,rfl⟩
   refine cM (λh=>?_) (λh=>?_)
   ·rfl'
    rw[aAS]
    exact bad' M (aAL (by simpa using h))
   have hu1:u=1:=by simpa using h
   rfl'
   exact⟨⟨_,.giv g,hd,by simp[lf,<- hu,hu1],rfl⟩,by simp⟩
  |cons g' r =>
   simp only[natsD,aBP,aDW]
   rfl'
   refine dO (by simp;lia) ?_
   refine gG (bT (dG (Okx.mono (Q:=λcnd M2=>M2=M/\cnd=true) ?_ ?_)))
   ·rfl'
    refine⟨λ_=>⟨rfl,rfl⟩,λh=>absurd h (by simp;lia)⟩
   rintro cnd M ⟨rfl,rfl⟩
   refine eQ rfl ?_
   rfl'
   rw[aAS]
   exact bad' M rfl
theorem iM{T:List Ro}{M:Mm}(hi:i<=ds.length)(ha:a=i)(hT:T.length=X.length)(hg:∀j r d,T[j]?=some r->X[j]?=some d->(good n ds (i+j) r ↔ ds[i+j]?=some d)) :
  Okx (Bad n ds i T M) (iI [.d (.tup (ds.map encD)),.d (.int a),.d (.tup (X.map encD))] M) λw M'=>(fb n ds i T=none/\w=.d (.int (a+X.length)))/\M'=M:=by
 unfold iI
 refine gB rfl ?_
 unfold mW
 rfl'
 refine dS (λj L M'=>M'=M/\fb n ds i (T.take j)=none/\j<=X.length/\∃o,L=[some (.d (.tup (ds.map encD))),some (.d (.int (a+j))),some (.d (.tup (X.map encD))),o]) ⟨rfl,rfl,aDB _,none,by simp⟩ (λi L M _ _ t e=>by cases e) ?_ ?_
 ·rintro j d _ _ hx ⟨rfl,hF,hjl,o,rfl⟩
  simp only[aBJ,aBE]at hx
  obtain⟨k,hk,rfl⟩:=hx
  obtain⟨hj,_⟩:=aAD.mp hk
  obtain⟨r,hr⟩:∃r,T[j]?=some r:=⟨_,aAR (by lia)⟩
  have hG:=hg j r k hr hk
  have hle:=iO hF hi
  have hlt:(T.take j).length=j:=by rw[aCC,aDE (by lia)]
  rw[hlt]at hle
  have eT:T=T.take j++r::T.drop (j+1):=by
   have hjt:j < T.length:=by lia
   have:=aFH j T
   rw[aCI hjt]at this
   rw[aAR hjt]at hr
   cases hr
   exact this.symm
  rfl'
  rw[show a+(j:Int)=((i+j:Nat):Int) by lia,cut1]
  have hd1:dep (.tup ((ds[i+j]?.toList).map encD))<=100:=by
   cases ds[i+j]? with
   |none=>simp[dep,deps]
   |some d'=>have:=gK d';simp only[Option.toList,aBP,aDW,dep,deps];lia
  refine nC (a:=.tup ((ds[i+j]?.toList).map encD)) (b:=.tup [encD k]) rfl rfl ⟨hd1,by have:=gK k;simp only[dep,deps];lia⟩ ?_
  refine⟨_,rfl,?_⟩
  refine cM (λh=>?_) (λh=>?_)
  ·rfl'
   rw[aAS]
   refine⟨i+j,?_,rfl,rfl⟩
   rw[eT,cB hF,hlt]
   simp only[fb]
   refine aAL λg=>?_
   rw[hG.mp g]at h
   simp[eqD,eqDs,jH]at h
  ·have hk2:ds[i+j]?=some k:=by
    cases e:ds[i+j]? with
    |none=>rw[e]at h;simp[eqD,eqDs]at h
    |some d' =>
     rw[e]at h
     simp only[Option.toList,aBP,aDW,eqD,eqDs,aIB,Bool.not_eq_false']at h
     rw[yS h]
   rfl'
   refine aJx (by rfl) ?_
   rfl'
   refine⟨rfl,?_,by lia,some (.d (encD k)),by rw[show((i+j:Nat):Int)+1=a+((j+1:Nat):Int) by lia];rfl⟩
   rw[aDO,hr,cB hF,hlt]
   show fb n ds (i+j) [r]=none
   simp only[fb]
   rw[aAI (hG.mpr hk2)]
 ·rintro _ _ ⟨rfl,hF,_,o,rfl⟩
  rfl'
  refine⟨⟨?_,by simp⟩,by simp⟩
  rw[aAK,<- hT,aAS]at hF
  exact hF
noncomputable def turn(a m:Nat):List Ro:=(List.range m).map λj=>.bk (a+m - 1 - j)
variable{a:Nat}
theorem bX:(turn a m).length=m:=by simp[turn]
noncomputable section
def ros:E->Nat->Nat->Nat->Nat->Bool->Bool->List Ro
 |.op .sum x y,a,s,b,c,byb,true=>ros x a s b c byb true++ros y (a+many x) s b c byb true
 |.op .sum x y,a,s,b,c,byb,false=>ros y a s b c byb false++ros x (a+many y) s b c byb false
 |.op .less x y,a,s,b,c,byb,true=>ros x a s b c byb true++ros y (a+many x) s b c byb false
 |.op .less x y,a,s,b,c,byb,false=>ros y a s b c byb true++ros x (a+many y) s b c byb false
 |.op .times x y,a,s,b,c,byb,true=>ros y a c b s byb true++ros x (a+many y) s c b true true++(turn a (many y)++turn (a+many y) (many x))
 |.op .times x y,a,s,b,c,byb,false=>ros x a s c b true true++ros y (a+many x) c b s byb true++(turn a (many x)++turn (a+many x) (many y))
 |_,a,s,b,c,byb,f=>[.leaf s (if byb then[b]else[]) f]
theorem aI:∀{e:E} {a s b c:Nat} {byb f:Bool},(ros e a s b c byb f).length=many e:=by
 intro e
 induction e with
 |num k=>intros;simp[ros,many]
 |giv k=>intros;simp[ros,many]
 |op w x y ihx ihy =>
  intro a s b c byb f
  cases w <;> cases f <;> simp only[ros,many,aAP,ihx,ihy,bX] <;> lia
def lfD(n:Int)(ds:List Dd)(a s:Nat)(ts:List Nat)(f:Bool):E:=((ds[a]?).bind λd=>lf n d s ts f).getD (.num 0)
def tl(n:Int)(ds:List Dd):E->Nat->Nat->Nat->Nat->Bool->Bool->E
 |.op .sum x y,a,s,b,c,byb,true=>.op .sum (tl n ds x a s b c byb true) (tl n ds y (a+many x) s b c byb true)
 |.op .sum x y,a,s,b,c,byb,false=>.op .sum (tl n ds x (a+many y) s b c byb false) (tl n ds y a s b c byb false)
 |.op .less x y,a,s,b,c,byb,true=>.op .less (tl n ds x a s b c byb true) (tl n ds y (a+many x) s b c byb false)
 |.op .less x y,a,s,b,c,byb,false=>.op .less (tl n ds x (a+many y) s b c byb false) (tl n ds y a s b c byb true)
 |.op .times x y,a,s,b,c,byb,true=>.op .times (tl n ds x (a+many y) s c b true true) (tl n ds y a c b s byb true)
 |.op .times x y,a,s,b,c,byb,false=>.op .times (tl n ds x a s c b true true) (tl n ds y (a+many x) c b s byb true)
 |_,a,s,b,_,byb,f=>lfD n ds a s (if byb then[b]else[]) f
end
theorem aQx :∀{e:E} {a s b c:Nat} {byb f:Bool},dp (tl n ds e a s b c byb f)=dp e:=by
 have one:∀{a s:Nat} {ts:List Nat} {f:Bool},dp (lfD n ds a s ts f)=0:=by
  intro a s ts f
  unfold lfD
  cases h:(ds[a]?).bind λd=>lf n d s ts f with
  |none=>rfl
  |some e =>
   obtain⟨d,h1,h2⟩:=Option.bind_eq_some_iff.mp h
   unfold lf at h2
   split at h2
   ·split at h2
    ·split at h2
     ·cases h2;rfl
     ·split at h2
      ·cases h2;rfl
      ·cases h2
     ·cases h2
    ·cases h2
   ·cases h2
 intro e
 induction e with
 |num k=>intros;simp only[tl];exact one
 |giv k=>intros;simp only[tl];exact one
 |op w x y ihx ihy =>
  intro a s b c byb f
  cases w <;> cases f <;> simp only[tl,dp,ihx,ihy]
theorem At.seg(h:a+m<=ds.length):At ds a ((ds.drop a).take m):=by
 refine⟨ds.take a,ds.drop (a+m),?_,by simp;lia⟩
 rw[aEJ,show ds.drop (a+m)=(ds.drop a).drop m by rw[List.drop_drop],aFH,aFH]
theorem iB(h:a+m<=ds.length):((ds.drop a).take m).length=m:=by simp;lia
theorem aHa(h:a+m<=ds.length)(hj:j < m):∃d,ds[a+m - 1 - j]?=some d/\(bDs n ((ds.drop a).take m))[j]?=some (bD n d):=by
 have h1:a+m - 1 - j < ds.length:=by lia
 refine⟨ds[a+m - 1 - j],aAR h1,?_⟩
 unfold bDs
 rw[aBJ,aGT (by rw[iB h];exact hj),iB h,aGC (by lia),List.getElem?_drop,show a+(m - 1 - j)=a+m - 1 - j by lia,aAR h1]
 rfl
theorem sJ(h:(turn a m)[j]?=some r):j < m/\r=.bk (a+m - 1 - j):=by
 unfold turn at h
 rw[aBJ,aBE]at h
 obtain⟨k,h1,rfl⟩:=h
 obtain⟨h2,h3⟩:=aAD.mp h1
 simp only[aBS]at h2
 simp only[List.getElem_range]at h3
 subst h3
 exact⟨h2,rfl⟩
theorem vP{m1 m2:Nat}(h:a+m1+m2<=ds.length):∀(j:Nat) (r:Ro) (d:Dd),(turn a m1++turn (a+m1) m2)[j]?=some r->(bDs n ((ds.drop a).take m1)++bDs n ((ds.drop (a+m1)).take m2))[j]?=some d->(good n ds k r ↔ ds[k]?=some d):=by
 intro j r d hr hd
 have l1:(bDs n ((ds.drop a).take m1)).length=m1:=by rw[bK,iB (by lia)]
 by_cases hj:j < m1
 ·rw[aAT (by rw[bX];exact hj)]at hr
  rw[aAT (by rw[l1];exact hj)]at hd
  obtain⟨_,rfl⟩:=sJ hr
  obtain⟨d',h1,h2⟩:=aHa (n:=n) (ds:=ds) (a:=a) (m:=m1) (by lia) hj
  rw[h2]at hd
  cases hd
  exact⟨λ⟨x,h3,h4⟩=>by rw[h1]at h3;cases h3;exact h4,λh3=>⟨d',h1,h3⟩⟩
 ·rw[aBK (by rw[bX];lia),bX]at hr
  rw[aBK (by rw[l1];lia),l1]at hd
  obtain⟨hj2,rfl⟩:=sJ hr
  obtain⟨d',h1,h2⟩:=aHa (n:=n) (ds:=ds) (a:=a+m1) (m:=m2) (by lia) hj2
  rw[h2]at hd
  cases hd
  exact⟨λ⟨x,h3,h4⟩=>by rw[h1]at h3;cases h3;exact h4,λh3=>⟨d',h1,h3⟩⟩
theorem At.mem(h:At ds i X)(hd:d∈X):d∈ds:=by
 obtain⟨p,q,rfl,_⟩:=h
 simp[hd]
theorem Bad.left{a b:List Ro}{M:Mm}{x:D}(h:Bad n ds i a M x M'):Bad n ds i (a++b) M x M':=by
 obtain⟨k,h1,h2⟩:=h
 exact⟨k,aDf h1,h2⟩
theorem Bad.right{a b:List Ro}{M:Mm}{x:D}(h0:fb n ds i a=none)(e:j=i+a.length)(h:Bad n ds j b M x M'):Bad n ds i (a++b) M x M':=by
 obtain⟨k,h1,h2⟩:=h
 exact⟨k,by rw[cB h0,<- e];exact h1,h2⟩
theorem Bad.M{n:Int}{ds:List Dd}{i:Nat}{a:List Ro}{M M':Mm}{x:D}(h:Bad n ds i a M x M'):M'=M:=by
 obtain⟨k,_,_,h⟩:=h
 exact h
theorem aAy(hn:2<=n)(hn2:n<=1000000){ds:List Dd}(hz:ds.length<=16777216)(hok:∀d∈ds,OkD n G SH d):∀{e:E} {s b c:Nat} {byb back:Bool} {i:Nat} {a:Int},i<=ds.length->a=i->∀fuel,2*dp e < fuel->∀M:Mm,
  Okx (Bad n ds i (ros e i s b c byb (!back)) M) (fA fuel [.d (.int n),.d (.tup (ds.map encD)),.d (.int a),.d (pap e),.d (.tup [.int s,.int b,.int c]),.d (.bl byb),.d (.bl back)] M) λw M'=>(fb n ds i (ros e i s b c byb (!back))=none/\w=.d (.tup [enc (tl n ds e i s b c byb (!back)),.int (a+(many e:Nat))]))/\M'=M:=by
 have one:∀{s b c:Nat} {byb back:Bool} {i:Nat} {a:Int},i<=ds.length->a=i->∀M:Mm,Okx (Bad n ds i [.leaf s (if byb then[b]else[]) (!back)] M) (fW [.d (.int n),.d (.tup (ds.map encD)),.d (.int a),.d (.tup [.int s,.int b,.int c]),.d (.bl byb),.d (.bl back)] M) λw M'=>(fb n ds i [.leaf s (if byb then[b]else[]) (!back)]=none/\w=.d (.tup [enc (lfD n ds i s (if byb then[b]else[]) (!back)),.int (a+1)]))/\M'=M:=by
  intro s b c byb back i a hi ha M
  refine(rT hn hn2 hok hi ha).mono ?_
  rintro w M ⟨⟨d,e,h1,h2,rfl⟩,rfl⟩
  refine⟨⟨?_,?_⟩,rfl⟩
  ·simp only[fb]
   rw[aAI ⟨d,e,h1,h2⟩]
  ·simp only[lfD]
   rw[h1,aDT,h2]
   rfl
 intro e
 induction e with
 |num k =>
  intro s b c byb back i a hi ha fuel hf M
  obtain⟨f,rfl⟩:∃f,fuel=f+1:=⟨fuel - 1,by lia⟩
  unfold fA
  refine gB rfl ?_
  unfold qP
  simp only[pap,ros,tl]
  rfl'
  refine(one hi ha M).monoX ?_ ?_
  ·rintro w M ⟨⟨h,rfl⟩,rfl⟩
   exact wW ⟨⟨h,by simp[many]⟩,by simp⟩
  ·rintro x M' h
   have e0:=h.M
   subst e0
   simp only[aAS]
   exact h
 |giv k =>
  intro s b c byb back i a hi ha fuel hf M
  obtain⟨f,rfl⟩:∃f,fuel=f+1:=⟨fuel - 1,by lia⟩
  unfold fA
  refine gB rfl ?_
  unfold qP
  simp only[pap,ros,tl]
  rfl'
  refine(one hi ha M).monoX ?_ ?_
  ·rintro w M ⟨⟨h,rfl⟩,rfl⟩
   exact wW ⟨⟨h,by simp[many]⟩,by simp⟩
  ·rintro x M' h
   have e0:=h.M
   subst e0
   simp only[aAS]
   exact h
 |op w x y ihx ihy =>
  intro s b c byb back i a hi ha fuel hf M
  obtain⟨f,rfl⟩:∃f,fuel=f+1:=⟨fuel - 1,by lia⟩
  have d1:2*dp x+1 < f:=by simp only[dp]at hf;lia
  have d2:2*dp y+1 < f:=by simp only[dp]at hf;lia
  unfold fA
  refine gB rfl ?_
  unfold qP
  cases w with
  |sum =>
   simp only[pap,Wd.str]
   cases back with
   |false =>
    simp only[Bool.not_false,ros,tl]
    rfl'
    refine(ihx (back:=false) hi ha f (by lia) _).monoX ?_ ?_
    rotate_left
    ·rintro z M' h
     have e0:=h.M
     subst e0
     simp only[aAS]
     exact h.left
    rintro _ M ⟨⟨h1,rfl⟩,rfl⟩
    have lx:=iO h1 hi
    rw[aI]at lx
    rfl'
    refine(ihy (back:=false) (i:=i+many x) lx (by lia) f (by lia) _).monoX ?_ ?_
    rotate_left
    ·rintro z M' h
     have e0:=h.M
     subst e0
     simp only[aAS]
     exact h.right h1 (by rw[aI])
    rintro _ M ⟨⟨h2,rfl⟩,rfl⟩
    rfl'
    refine⟨⟨?_,by simp[enc,many,Wd.str];lia⟩,by simp⟩
    have h1:fb n ds i (ros x i s b c byb true)=none:=h1
    rw[cB h1,aI]
    exact h2
   |true =>
    simp only[aIA,ros,tl]
    rfl'
    refine(ihy (back:=true) hi ha f (by lia) _).monoX ?_ ?_
    rotate_left
    ·rintro z M' h
     have e0:=h.M
     subst e0
     simp only[aAS]
     exact h.left
    rintro _ M ⟨⟨h1,rfl⟩,rfl⟩
    have lx:=iO h1 hi
    rw[aI]at lx
    rfl'
    refine(ihx (back:=true) (i:=i+many y) lx (by lia) f (by lia) _).monoX ?_ ?_
    rotate_left
    ·rintro z M' h
     have e0:=h.M
     subst e0
     simp only[aAS]
     exact h.right h1 (by rw[aI])
    rintro _ M ⟨⟨h2,rfl⟩,rfl⟩
    rfl'
    refine⟨⟨?_,by simp[enc,many,Wd.str];lia⟩,by simp⟩
    have h1:fb n ds i (ros y i s b c byb false)=none:=h1
    rw[cB h1,aI]
    exact h2
  |less =>
   simp only[pap,Wd.str]
   cases back with
   |false =>
    simp only[Bool.not_false,ros,tl]
    rfl'
    refine(ihx (back:=false) hi ha f (by lia) _).monoX ?_ ?_
    rotate_left
    ·rintro z M' h
     have e0:=h.M
     subst e0
     simp only[aAS]
     exact h.left
    rintro _ M ⟨⟨h1,rfl⟩,rfl⟩
    have lx:=iO h1 hi
    rw[aI]at lx
    rfl'
    refine(ihy (back:=true) (i:=i+many x) lx (by lia) f (by lia) _).monoX ?_ ?_
    rotate_left
    ·rintro z M' h
     have e0:=h.M
     subst e0
     simp only[aAS]
     exact h.right h1 (by rw[aI])
    rintro _ M ⟨⟨h2,rfl⟩,rfl⟩
    rfl'
    refine⟨⟨?_,by simp[enc,many,Wd.str];lia⟩,by simp⟩
    have h1:fb n ds i (ros x i s b c byb true)=none:=h1
    rw[cB h1,aI]
    exact h2
   |true =>
    simp only[aIA,ros,tl]
    rfl'
    refine(ihy (back:=false) hi ha f (by lia) _).monoX ?_ ?_
    rotate_left
    ·rintro z M' h
     have e0:=h.M
     subst e0
     simp only[aAS]
     exact h.left
    rintro _ M ⟨⟨h1,rfl⟩,rfl⟩
    have lx:=iO h1 hi
    rw[aI]at lx
    rfl'
    refine(ihx (back:=true) (i:=i+many y) lx (by lia) f (by lia) _).monoX ?_ ?_
    rotate_left
    ·rintro z M' h
     have e0:=h.M
     subst e0
     simp only[aAS]
     exact h.right h1 (by rw[aI])
    rintro _ M ⟨⟨h2,rfl⟩,rfl⟩
    rfl'
    refine⟨⟨?_,by simp[enc,many,Wd.str];lia⟩,by simp⟩
    have h1:fb n ds i (ros y i s b c byb true)=none:=h1
    rw[cB h1,aI]
    exact h2
  |times =>
   simp only[pap,Wd.str]
   rfl'
   obtain⟨f,rfl⟩:∃f',f=f'+1:=⟨f - 1,by lia⟩
   unfold cR
   refine gB rfl ?_
   unfold lL
   cases back with
   |false =>
    simp only[Bool.not_false,ros,tl]
    rfl'
    refine(ihy (back:=false) hi ha f (by lia) _).monoX ?_ ?_
    rotate_left
    ·rintro z M' h
     have e0:=h.M
     subst e0
     simp only[aAS]
     exact h.left.left
    rintro _ M ⟨⟨h1,rfl⟩,rfl⟩
    have h1:fb n ds i (ros y i c b s byb true)=none:=h1
    have lx:=iO h1 hi
    rw[aI]at lx
    rfl'
    refine(ihx (byb:=true) (back:=false) (i:=i+many y) lx (by lia) f (by lia) _).monoX ?_ ?_
    rotate_left
    ·rintro z M' h
     have e0:=h.M
     subst e0
     simp only[aAS]
     exact(h.right h1 (by rw[aI])).left
    rintro _ M ⟨⟨h2,rfl⟩,rfl⟩
    have h2:fb n ds (i+many y) (ros x (i+many y) s c b true true)=none:=h2
    have ly:=iO h2 lx
    rw[aI]at ly
    have h3:fb n ds i (ros y i c b s byb true++ros x (i+many y) s c b true true)=none:=by
     rw[cB h1,aI]
     exact h2
    have A1:=At.seg (ds:=ds) (a:=i) (m:=many y) lx
    have A2:=At.seg (ds:=ds) (a:=i+many y) (m:=many x) ly
    have k1:=iB (ds:=ds) (a:=i) (m:=many y) lx
    have k2:=iB (ds:=ds) (a:=i+many y) (m:=many x) ly
    rfl'
    rw[A1.cut (a:=a) (b:=a+(many y:Nat)) (by lia) (by lia)]
    rfl'
    refine(cX hn hn2 (λd hd=>hok d (A1.mem hd)) (by lia)).mono ?_
    rintro _ _ ⟨rfl,rfl⟩
    rfl'
    rw[A2.cut (a:=a+(many y:Nat)) (b:=a+(many y:Nat)+(many x:Nat)) (by lia) (by lia)]
    rfl'
    refine(cX hn hn2 (λd hd=>hok d (A2.mem hd)) (by lia)).mono ?_
    rintro _ _ ⟨rfl,rfl⟩
    refine bA (by simp[bK,k1,k2];lia) ?_
    rfl'
    rw[<- aCO]
    refine(iM (n:=n) (i:=i+many y+many x) (T:=turn i (many y)++turn (i+many y) (many x)) (by first|exact ly|(clear ihx ihy one;lia)) (by first|exact ly|(clear ihx ihy one;lia)) (by simp only[aAP,bX,bK,k1,k2]) (λj r d=>vP ly j r d)).monoX ?_ ?_
    rotate_left
    ·rintro z M' h
     have e0:=h.M
     subst e0
     simp only[aAS]
     exact h.right h3 (by rw[aAP,aI,aI];lia)
    rintro _ M ⟨⟨h4,rfl⟩,rfl⟩
    rfl'
    refine⟨⟨?_,by simp[enc,many,Wd.str,bK,k1,k2];lia⟩,by simp⟩
    rw[cB h3,aAP,aI,aI,<- Nat.add_assoc]
    exact h4
   |true =>
    simp only[aIA,ros,tl]
    rfl'
    refine(ihx (back:=false) hi ha f (by lia) _).monoX ?_ ?_
    rotate_left
    ·rintro z M' h
     have e0:=h.M
     subst e0
     simp only[aAS]
     exact h.left.left
    rintro _ M ⟨⟨h1,rfl⟩,rfl⟩
    have h1:fb n ds i (ros x i s c b true true)=none:=h1
    have lx:=iO h1 hi
    rw[aI]at lx
    rfl'
    refine(ihy (byb:=byb) (back:=false) (i:=i+many x) lx (by lia) f (by lia) _).monoX ?_ ?_
    rotate_left
    ·rintro z M' h
     have e0:=h.M
     subst e0
     simp only[aAS]
     exact(h.right h1 (by rw[aI])).left
    rintro _ M ⟨⟨h2,rfl⟩,rfl⟩
    have h2:fb n ds (i+many x) (ros y (i+many x) c b s byb true)=none:=h2
    have ly:=iO h2 lx
    rw[aI]at ly
    have h3:fb n ds i (ros x i s c b true true++ros y (i+many x) c b s byb true)=none:=by
     rw[cB h1,aI]
     exact h2
    have A1:=At.seg (ds:=ds) (a:=i) (m:=many x) lx
    have A2:=At.seg (ds:=ds) (a:=i+many x) (m:=many y) ly
    have k1:=iB (ds:=ds) (a:=i) (m:=many x) lx
    have k2:=iB (ds:=ds) (a:=i+many x) (m:=many y) ly
    rfl'
    rw[A1.cut (a:=a) (b:=a+(many x:Nat)) (by lia) (by lia)]
    rfl'
    refine(cX hn hn2 (λd hd=>hok d (A1.mem hd)) (by lia)).mono ?_
    rintro _ _ ⟨rfl,rfl⟩
    rfl'
    rw[A2.cut (a:=a+(many x:Nat)) (b:=a+(many x:Nat)+(many y:Nat)) (by lia) (by lia)]
    rfl'
    refine(cX hn hn2 (λd hd=>hok d (A2.mem hd)) (by lia)).mono ?_
    rintro _ _ ⟨rfl,rfl⟩
    refine bA (by simp[bK,k1,k2];lia) ?_
    rfl'
    rw[<- aCO]
    refine(iM (n:=n) (i:=i+many x+many y) (T:=turn i (many x)++turn (i+many x) (many y)) (by lia) (by lia) (by simp only[aAP,bX,bK,k1,k2]) (λj r d=>vP ly j r d)).monoX ?_ ?_
    rotate_left
    ·rintro z M' h
     have e0:=h.M
     subst e0
     simp only[aAS]
     exact h.right h3 (by rw[aAP,aI,aI];lia)
    rintro _ M ⟨⟨h4,rfl⟩,rfl⟩
    rfl'
    refine⟨⟨?_,by simp[enc,many,Wd.str,bK,k1,k2];lia⟩,by simp⟩
    rw[cB h3,aAP,aI,aI,<- Nat.add_assoc]
    exact h4
theorem eJ{EX:D->Mm->Prop}{e:E}{M:Mm}{Q:W->Mm->Prop}(h:dp e<=20)(q:Q (.d (.bl (decide (dp e=0)))) M):Okx EX (pEq (.d (pap e)) (.d (.tup [.str "one"])) M) Q:=by
 have:=qT e
 refine nX (a:=pap e) (b:=.tup [.str "one"]) rfl rfl ⟨by lia,by simp[dep,deps]⟩ ?_
 rw[aHf]
 exact q
theorem eS(w:Wd):(w.str==Str.ofString "times")=(match w with|.times=>true|_=>false):=by cases w <;> decide
theorem gU:∀{e:E},dp e<=20->many e<=1000000->∀fuel,dp e < fuel->∀M:Mm,Ok (eO fuel [.d (pap e)] M) λw M'=>w=.d (.int (many e:Nat))/\M'=M:=by
 intro e
 induction e with
 |num k =>
  intro hd hm fuel hf M
  obtain⟨f,rfl⟩:∃f,fuel=f+1:=⟨fuel - 1,by lia⟩
  unfold eO
  refine bL rfl ?_
  unfold kC
  simp only[pap]
  rfl'
  refine eJ (e:=.num k) (by simp[dp]) ?_
  refine⟨_,rfl,eQ rfl ?_⟩
  rfl'
  exact⟨rfl,by simp⟩
 |giv k =>
  intro hd hm fuel hf M
  obtain⟨f,rfl⟩:∃f,fuel=f+1:=⟨fuel - 1,by lia⟩
  unfold eO
  refine bL rfl ?_
  unfold kC
  simp only[pap]
  rfl'
  refine eJ (e:=.giv k) (by simp[dp]) ?_
  refine⟨_,rfl,eQ rfl ?_⟩
  rfl'
  exact⟨rfl,by simp⟩
 |op w x y ihx ihy =>
  intro hd hm fuel hf M
  obtain⟨f,rfl⟩:∃f,fuel=f+1:=⟨fuel - 1,by lia⟩
  unfold eO
  refine bL rfl ?_
  unfold kC
  simp only[pap]
  rfl'
  refine eJ (e:=.op w x y) hd ?_
  refine⟨_,rfl,dO (by simp[dp]) ?_⟩
  have hmx:many x<=1000000/\many y<=1000000:=by cases w <;> simp only[many]at hm <;> lia
  simp only[dp]at hd hf
  rfl'
  refine(ihx (by lia) hmx.1 f (by lia) _).mono ?_
  rintro _ _ ⟨rfl,rfl⟩
  rfl'
  refine(ihy (by lia) hmx.2 f (by lia) _).mono ?_
  rintro _ _ ⟨rfl,rfl⟩
  rfl'
  refine⟨?_,by simp⟩
  rw[eS]
  cases w <;> simp[many] <;> lia
theorem pO{M:Mm}(h:a+m<=16777216):Ok (lS [.d (.int a),.d (.int ((a:Int)+m))] M) λw M'=>w=.d (.lst ((turn a m).map encR))/\M'=M:=by
 unfold lS
 refine bL rfl ?_
 unfold rH
 rfl'
 refine aGx ?_
 rfl'
 refine⟨by lia,by lia,by lia,?_⟩
 refine⟨λd=>.tup [.str "back",d],by simp[downE];lia,(λt h=>by cases h),?_,?_⟩
 ·intro d hd acc
  rfl'
  exact⟨rfl,rfl⟩
 ·rfl'
  refine⟨?_,by simp⟩
  simp only[turn,downE,aCV]
  rw[show((a:Int)+m - a).toNat=m by lia]
  congr 2
  refine aFX λj hj=>?_
  have:=List.mem_range.mp hj
  simp only[Function.comp_apply,encR]
  congr 3
  congr 1
  lia
variable{ts:List Nat}{f:Bool}
theorem vS{M:Mm}(hn:2<=n)(hok:OkD n G SH d):Ok (sL [.d (.int n),.d (encD d),.d (encR (.leaf s ts f))] M) λw M'=>w=.d (((lf n d s ts f).map enc).getD .non)/\M'=M:=by
 unfold sL
 refine bL rfl ?_
 unfold zJ
 simp only[encR]
 refine bT (dG (Okx.mono (Q:=λcnd M2=>M2=M/\(cnd=false->∃v gs,d=.add s v gs ts)/\(cnd=true->lf n d s ts f=none)) ?_ ?_))
 ·cases d with
  |scale s' u =>
   simp only[encD]
   rfl'
   exact⟨rfl,(λh=>by simp at h),λ_=>rfl⟩
  |add s' v gs ts' =>
   simp only[encD]
   rfl'
   refine⟨λh=>⟨rfl,(λh'=>by simp at h'),λ_=>?_⟩,λh1=>?_⟩
   ·simp only[lf]
    rw[aAL]
    rintro⟨h1,h2⟩
    simp at h
    lia
   have h1:s'=s:=by simp at h1;lia
   rfl'
   refine nC (a:=natsD ts') (b:=natsD ts) rfl rfl (by simp[natsD,dep,nI]) ?_
   refine⟨_,rfl,rfl,(λh2=>?_),λh2=>?_⟩
   ·exact⟨v,gs,by rw[h1,aDs h2]⟩
   ·simp only[lf]
    rw[aAL]
    rintro⟨h3,h4⟩
    rw[h4]at h2
    rw[jH]at h2;cases h2
 rintro cnd M ⟨rfl,hc,hc'⟩
 refine cM (λh=>?_) (λh=>?_)
 ·rfl'
  exact⟨by rw[hc' h];rfl,by simp⟩
 obtain⟨v,gs,rfl⟩:=hc h
 clear hc hc'
 refine gG (bT (xF (Okx.mono (Q:=λw M2=>w=.d (.int (nv n f v))/\M2=M) ?_ ?_)))
 ·simp only[encD]
  rfl'
  refine cG (d:=.int (nv n f v)) ?_ ⟨rfl,rfl⟩
  cases f
  ·simp only[nv]
   rw[show(0:Int) - v = -v by lia]
   rfl
  ·rfl
 rintro _ M ⟨rfl,rfl⟩
 obtain⟨u,hu⟩:∃u:Int,u=nv n f v:=⟨_,rfl⟩
 rw[<- hu]
 simp only[encD,lf,and_self,aEA]
 rw[<- hu]
 cases gs with
 |nil =>
  simp only[natsD,aDW]
  rfl'
  refine nX (a:=.tup []) (b:=.tup []) rfl rfl ⟨by simp[dep,deps],by simp[dep,deps]⟩ ?_
  refine⟨_,rfl,eQ rfl ?_⟩
  rfl'
  exact⟨rfl,by simp⟩
 |cons g r =>
  cases r with
  |nil =>
   simp only[natsD,aBP,aDW]
   rfl'
   refine nX (a:=.tup [.int g]) (b:=.tup []) rfl rfl ⟨by simp[dep,deps],by simp[dep,deps]⟩ ?_
   refine⟨_,rfl,dO rfl ?_⟩
   refine gG (bT (dG (Okx.mono (Q:=λcnd M2=>M2=M/\cnd=!decide (u=1)) ?_ ?_)))
   ·rfl'
    refine⟨λh=>absurd h (by simp),λ_=>?_⟩
    rfl'
    exact⟨rfl,rfl⟩
   rintro cnd M ⟨rfl,rfl⟩
   refine cM (λh=>?_) (λh=>?_)
   ·rfl'
    rw[aAL (by simpa using h)]
    exact⟨rfl,by simp⟩
   have hu1:u=1:=by simpa using h
   rw[aAI hu1]
   rfl'
   exact⟨rfl,by simp⟩
  |cons g' r =>
   simp only[natsD,aBP,aDW]
   rfl'
   refine nX (a:=.tup (.int g::.int g'::r.map λk=>D.int (k:Nat))) (b:=.tup []) rfl rfl ⟨by have:=nI r;simp only[dep,deps];lia,by simp[dep,deps]⟩ ?_
   refine⟨_,rfl,dO rfl ?_⟩
   refine gG (bT (dG (Okx.mono (Q:=λcnd M2=>M2=M/\cnd=true) ?_ ?_)))
   ·rfl'
    refine⟨λ_=>⟨rfl,rfl⟩,λh=>absurd h (by simp;lia)⟩
   rintro cnd M ⟨rfl,rfl⟩
   refine eQ rfl ?_
   rfl'
   exact⟨rfl,by simp⟩
theorem aBx:∀{e:E} {a s b c:Nat} {byb f:Bool},dp e<=20->many e<=1000000->a+many e<=1000000->∀fuel,dp e < fuel->∀M:Mm,Ok (dL fuel [.d (pap e),.d (.int a),.d (.tup [.int s,.int b,.int c]),.d (.bl byb),.d (.bl f)] M) λw M'=>w=.d (.lst ((ros e a s b c byb f).map encR))/\M'=M:=by
 intro e
 induction e with
 |num k =>
  intro a s b c byb f hd hm ha fuel hf M
  obtain⟨g,rfl⟩:∃f,fuel=f+1:=⟨fuel - 1,by lia⟩
  unfold dL
  refine bL rfl ?_
  unfold kP
  rfl'
  refine eJ (e:=.num k) (by simp[dp]) ?_
  refine⟨_,rfl,eQ rfl ?_⟩
  rfl'
  refine aDp (by cases byb <;> simp) ?_
  rw[show(List.replicate (if byb=true then(1:Int)else 0).toNat [D.int (b:Nat)]).flatten=(if byb then[b]else[]).map λk=>D.int (k:Nat) by cases byb <;> rfl]
  rfl'
  exact⟨rfl,by simp⟩
 |giv k =>
  intro a s b c byb f hd hm ha fuel hf M
  obtain⟨g,rfl⟩:∃f,fuel=f+1:=⟨fuel - 1,by lia⟩
  unfold dL
  refine bL rfl ?_
  unfold kP
  rfl'
  refine eJ (e:=.giv k) (by simp[dp]) ?_
  refine⟨_,rfl,eQ rfl ?_⟩
  rfl'
  refine aDp (by cases byb <;> simp) ?_
  rw[show(List.replicate (if byb=true then(1:Int)else 0).toNat [D.int (b:Nat)]).flatten=(if byb then[b]else[]).map λk=>D.int (k:Nat) by cases byb <;> rfl]
  rfl'
  exact⟨rfl,by simp⟩
 |op w x y ihx ihy =>
  intro a s b c byb f hd hm ha fuel hf M
  obtain⟨g,rfl⟩:∃f,fuel=f+1:=⟨fuel - 1,by lia⟩
  unfold dL
  refine bL rfl ?_
  unfold kP
  rfl'
  refine eJ (e:=.op w x y) hd ?_
  refine⟨_,rfl,dO (by simp[dp]) ?_⟩
  have hmx:many x<=1000000/\many y<=1000000/\many x+many y<=many (.op w x y):=by cases w <;> simp only[many]at hm ⊢ <;> lia
  obtain⟨hm1,hm2,hm3⟩:=hmx
  simp only[dp]at hd hf
  refine gG (bT (Okx.mono (Q:=λo M'=>M'=M/\o=.nx [some (.d (pap (.op w x y))),some (.d (.int a)),some (.d (.tup [.int s,.int b,.int c])),some (.d (.bl byb)),some (.d (.bl f)),some (.d (.int s)),some (.d (.int b)),some (.d (.int c)),some (.d (.tup [pap x,.tup [.int s,.int b,.int c],.bl byb,.bl f])),some (.d (.tup [pap y,.tup [.int s,.int b,.int c],.bl byb,.bl (f==(w.str==Str.ofString "sum"))])),none,none,none]) ?_ ?_))
  ·simp only[pap]
   rfl'
   exact⟨rfl,rfl⟩
  rintro _ M ⟨rfl,rfl⟩
  refine bT (Okx.mono (Q:=λo M'=>M'=M/\o=.nx [some (.d (pap (.op w x y))),some (.d (.int a)),some (.d (.tup [.int s,.int b,.int c])),some (.d (.bl byb)),some (.d (.bl f)),some (.d (.int s)),some (.d (.int b)),some (.d (.int c)),some (.d (.tup (if w.str==Str.ofString "times"then[pap x,.tup [.int s,.int c,.int b],.bl true,.bl true]else[pap x,.tup [.int s,.int b,.int c],.bl byb,.bl f]))),some (.d (.tup (if w.str==Str.ofString "times"then[pap y,.tup [.int c,.int b,.int s],.bl byb,.bl true]else[pap y,.tup [.int s,.int b,.int c],.bl byb,.bl (f==(w.str==Str.ofString "sum"))]))),none,none,none]) ?_ ?_)
  ·simp only[pap]
   rfl'
   refine cM (λh=>?_) (λh=>?_)
   ·rfl'
    exact⟨rfl,by rw[h];rfl⟩
   ·rfl'
    exact⟨rfl,by rw[h];rfl⟩
  rintro _ M ⟨rfl,rfl⟩
  refine bT (Okx.mono (Q:=λo M'=>M'=M/\∃(F S:E) (s1 b1 c1 s2 b2 c2:Nat) (y1 f1 y2 f2:Bool),(F=x/\S=y\/F=y/\S=x)/\ros (.op w x y) a s b c byb f=ros F a s1 b1 c1 y1 f1++ros S (a+many F) s2 b2 c2 y2 f2++(if w.str==Str.ofString "times"then turn a (many F)++turn (a+many F) (many S)else[])/\o=.nx [some (.d (pap (.op w x y))),some (.d (.int a)),some (.d (.tup [.int s,.int b,.int c])),some (.d (.bl byb)),some (.d (.bl f)),some (.d (.int s)),some (.d (.int b)),some (.d (.int c)),some (.d (.tup [pap F,.tup [.int s1,.int b1,.int c1],.bl y1,.bl f1])),some (.d (.tup [pap S,.tup [.int s2,.int b2,.int c2],.bl y2,.bl f2])),none,none,none]) ?_ ?_)
  ·simp only[pap]
   rfl'
   cases w <;> cases f
   all_goals (first|(refine eQ rfl ?_;done)|refine dO rfl ?_ |refine eQ rfl ?_)
   all_goals (rfl')
   ·exact⟨rfl,y,x,s,b,c,s,b,c,byb,false,byb,false,.inr ⟨rfl,rfl⟩,by simp[ros,eS],rfl⟩
   ·exact⟨rfl,x,y,s,b,c,s,b,c,byb,true,byb,true,.inl ⟨rfl,rfl⟩,by simp[ros,eS],rfl⟩
   ·exact⟨rfl,y,x,s,b,c,s,b,c,byb,true,byb,false,.inr ⟨rfl,rfl⟩,by simp[ros,eS],rfl⟩
   ·exact⟨rfl,x,y,s,b,c,s,b,c,byb,true,byb,false,.inl ⟨rfl,rfl⟩,by simp[ros,eS],rfl⟩
   ·exact⟨rfl,x,y,s,c,b,c,b,s,true,true,byb,true,.inl ⟨rfl,rfl⟩,by simp[ros,eS],rfl⟩
   ·exact⟨rfl,y,x,c,b,s,s,c,b,byb,true,true,true,.inr ⟨rfl,rfl⟩,by simp[ros,eS],rfl⟩
  rintro _ M ⟨rfl,F,S,s1,b1,c1,s2,b2,c2,y1,f1,y2,f2,hFS,hr,rfl⟩
  have ihF:∀M:Mm,Ok (dL g [.d (pap F),.d (.int a),.d (.tup [.int s1,.int b1,.int c1]),.d (.bl y1),.d (.bl f1)] M) λw M'=>w=.d (.lst ((ros F a s1 b1 c1 y1 f1).map encR))/\M'=M:=by
   rcases hFS with⟨rfl,rfl⟩|⟨rfl,rfl⟩
   ·exact λM=>ihx (by lia) (by lia) (by lia) g (by lia) M
   ·exact λM=>ihy (by lia) (by lia) (by lia) g (by lia) M
  have ihS:∀M:Mm,Ok (dL g [.d (pap S),.d (.int ((a+many F:Nat):Int)),.d (.tup [.int s2,.int b2,.int c2]),.d (.bl y2),.d (.bl f2)] M) λw M'=>w=.d (.lst ((ros S (a+many F) s2 b2 c2 y2 f2).map encR))/\M'=M:=by
   rcases hFS with⟨rfl,rfl⟩|⟨rfl,rfl⟩
   ·exact λM=>ihy (by lia) (by lia) (by lia) g (by lia) M
   ·exact λM=>ihx (by lia) (by lia) (by lia) g (by lia) M
  have hF:dp F<=20/\dp S<=20/\dp F < g/\dp S < g/\many F<=1000000/\many S<=1000000/\a+many F+many S<=1000000:=by
   rcases hFS with⟨rfl,rfl⟩|⟨rfl,rfl⟩ <;> lia
  rw[hr]
  clear hr hFS ihx ihy
  obtain⟨q1,q2,q3,q4,q5,q6,q7⟩:=hF
  simp only[pap]
  rfl'
  refine(gU (e:=F) q1 q5 50 (by lia) _).mono ?_
  rintro _ _ ⟨rfl,rfl⟩
  rfl'
  refine(gU (e:=S) q2 q6 50 (by lia) _).mono ?_
  rintro _ _ ⟨rfl,rfl⟩
  rfl'
  refine(ihF _).mono ?_
  rintro _ _ ⟨rfl,rfl⟩
  rfl'
  rw[show(a:Int)+(many F:Nat)=((a+many F:Nat):Int) by lia]
  refine(ihS _).mono ?_
  rintro _ M ⟨rfl,rfl⟩
  refine qN rfl rfl (by simp only[aAK,aI];lia) ?_
  rw[<- aCO]
  rfl'
  refine cM (λh=>?_) (λh=>?_)
  ·rw[h]
   rfl'
   rw[show((a+many F:Nat):Int)=(a:Int)+(many F:Nat) by lia]
   refine(pO (a:=a) (m:=many F) (by lia)).mono ?_
   rintro _ _ ⟨rfl,rfl⟩
   refine qN rfl rfl (by simp only[aAK,aAP,aI,bX];lia) ?_
   rw[<- aCO]
   rfl'
   rw[show(a:Int)+(many F:Nat)=((a+many F:Nat):Int) by lia]
   refine(pO (a:=a+many F) (m:=many S) (by lia)).mono ?_
   rintro _ _ ⟨rfl,rfl⟩
   refine qN rfl rfl (by simp only[aAK,aAP,aI,bX];lia) ?_
   rw[<- aCO]
   rfl'
   exact⟨by simp,by simp⟩
  ·rw[h]
   rfl'
   exact⟨by simp,by simp⟩
noncomputable def AtR(R:List Ro)(i:Nat)(X:List Ro):Prop:=∀j r,X[j]?=some r->R[i+j]?=some r
variable{R X Y:List Ro}
theorem AtR.left(h:AtR R i (X++Y)):AtR R i X:=λj r e=>h j r (by rw[aAT (aAD.mp e).1];exact e)
theorem AtR.right(h:AtR R i (X++Y))(e:k=i+X.length):AtR R k Y:=λj r e'=>by
 have:=h (X.length+j) r (by rw[aBK (by lia)];simpa using e')
 rw[e,Nat.add_assoc]
 exact this
theorem aDi{n:Int}{ds:List Dd}:∀{R:List Ro} {k j:Nat} {r:Ro},fb n ds k R=none->R[j]?=some r->good n ds (k+j) r
 |[],k,j,r,_,h=>by simp at h
 |x::R,k,j,r,h,hr=>by
  simp only[fb]at h
  split at h
  ·rename_i g
   cases j with
   |zero=>simp at hr;subst hr;exact g
   |succ j =>
    have:=aDi h (by simpa using hr)
    rwa[show k+(j+1)=k+1+j by lia]
  ·cases h
noncomputable section
def spl:E->Nat->Bool->D
 |.op .sum x y,a,true=>.tup [.str "sum",spl x a true,spl y (a+many x) true]
 |.op .sum x y,a,false=>.tup [.str "sum",spl x (a+many y) false,spl y a false]
 |.op .less x y,a,true=>.tup [.str "less",spl x a true,spl y (a+many x) false]
 |.op .less x y,a,false=>.tup [.str "less",spl x (a+many y) false,spl y a true]
 |.op .times x y,a,true=>.tup [.str "times",spl x (a+many y) true,spl y a true]
 |.op .times x y,a,false=>.tup [.str "times",spl x a true,spl y (a+many x) true]
 |_,a,_=>.int a
theorem xB:∀{e:E} {a:Nat} {f:Bool},dp e<=20->many e<=1000000->a+many e<=1000000->∀fuel,dp e < fuel->∀M:Mm,Ok (cA fuel [.d (pap e),.d (.int a),.d (.bl f)] M) λw M'=>w=.d (spl e a f)/\M'=M:=by
 intro e
 induction e with
 |num k =>
  intro a f hd hm ha fuel hf M
  obtain⟨g,rfl⟩:∃f,fuel=f+1:=⟨fuel - 1,by lia⟩
  unfold cA
  refine bL rfl ?_
  unfold fT
  rfl'
  refine eJ (e:=.num k) (by simp[dp]) ?_
  refine⟨_,rfl,eQ rfl ?_⟩
  rfl'
  exact⟨rfl,by simp⟩
 |giv k =>
  intro a f hd hm ha fuel hf M
  obtain⟨g,rfl⟩:∃f,fuel=f+1:=⟨fuel - 1,by lia⟩
  unfold cA
  refine bL rfl ?_
  unfold fT
  rfl'
  refine eJ (e:=.giv k) (by simp[dp]) ?_
  refine⟨_,rfl,eQ rfl ?_⟩
  rfl'
  exact⟨rfl,by simp⟩
 |op w x y ihx ihy =>
  intro a f hd hm ha fuel hf M
  obtain⟨g,rfl⟩:∃f,fuel=f+1:=⟨fuel - 1,by lia⟩
  unfold cA
  refine bL rfl ?_
  unfold fT
  rfl'
  refine eJ (e:=.op w x y) hd ?_
  refine⟨_,rfl,dO (by simp[dp]) ?_⟩
  have hmx:many x<=1000000/\many y<=1000000/\many x+many y<=many (.op w x y):=by cases w <;> simp only[many]at hm ⊢ <;> lia
  obtain⟨hm1,hm2,hm3⟩:=hmx
  simp only[dp]at hd hf
  have cx:=λM=>gU (e:=x) (by lia) (by lia) 50 (by lia) M
  have cy:=λM=>gU (e:=y) (by lia) (by lia) 50 (by lia) M
  have ex:(a:Int)+(many x:Nat)=((a+many x:Nat):Int):=by lia
  have ey:(a:Int)+(many y:Nat)=((a+many y:Nat):Int):=by lia
  have hx:∀(a':Nat) (f:Bool) (M:Mm),a'=a\/a'=a+many y->Ok (cA g [.d (pap x),.d (.int a'),.d (.bl f)] M) λw M'=>w=.d (spl x a' f)/\M'=M:=λa' f M h=>ihx (by lia) (by lia) (by lia) g (by lia) M
  have hy:∀(a':Nat) (f:Bool) (M:Mm),a'=a\/a'=a+many x->Ok (cA g [.d (pap y),.d (.int a'),.d (.bl f)] M) λw M'=>w=.d (spl y a' f)/\M'=M:=λa' f M h=>ihy (by lia) (by lia) (by lia) g (by lia) M
  clear ihx ihy hm hm1 hm2 hm3 hd hf ha
  refine gG (bT (Okx.mono (Q:=λo M'=>M'=M/\o=.nx [some (.d (pap (.op w x y))),some (.d (.int a)),some (.d (.bl f)),some (.d (.tup [.bl f,.bl (f==(w.str==Str.ofString "sum"))])),none,none]) ?_ ?_))
  ·simp only[pap]
   rfl'
   exact⟨rfl,rfl⟩
  rintro _ M ⟨rfl,rfl⟩
  refine bT (Okx.mono (Q:=λo M'=>M'=M/\o=.nx [some (.d (pap (.op w x y))),some (.d (.int a)),some (.d (.bl f)),some (.d (.tup (if w.str==Str.ofString "times"then[.bl true,.bl true]else[.bl f,.bl (f==(w.str==Str.ofString "sum"))]))),none,none]) ?_ ?_)
  ·simp only[pap]
   rfl'
   refine cM (λh=>?_) (λh=>?_)
   ·rfl'
    exact⟨rfl,by rw[h];rfl⟩
   ·rfl'
    exact⟨rfl,by rw[h];rfl⟩
  rintro _ M ⟨rfl,rfl⟩
  simp only[pap]
  rfl'
  cases w <;> cases f
  all_goals (first|refine dO rfl ?_ |refine eQ rfl ?_)
  all_goals (rfl')
  ·refine(hy a false _ (.inl rfl)).mono ?_
   rintro _ _ ⟨rfl,rfl⟩
   rfl'
   refine(cy _).mono ?_
   rintro _ _ ⟨rfl,rfl⟩
   rfl'
   rw[ey]
   refine(hx _ false _ (.inr rfl)).mono ?_
   rintro _ _ ⟨rfl,rfl⟩
   rfl'
   exact⟨rfl,by simp⟩
  ·refine(hx a true _ (.inl rfl)).mono ?_
   rintro _ _ ⟨rfl,rfl⟩
   rfl'
   refine(cx _).mono ?_
   rintro _ _ ⟨rfl,rfl⟩
   rfl'
   rw[ex]
   refine(hy _ true _ (.inr rfl)).mono ?_
   rintro _ _ ⟨rfl,rfl⟩
   rfl'
   exact⟨rfl,by simp⟩
  ·refine(hy a true _ (.inl rfl)).mono ?_
   rintro _ _ ⟨rfl,rfl⟩
   rfl'
   refine(cy _).mono ?_
   rintro _ _ ⟨rfl,rfl⟩
   rfl'
   rw[ey]
   refine(hx _ false _ (.inr rfl)).mono ?_
   rintro _ _ ⟨rfl,rfl⟩
   rfl'
   exact⟨rfl,by simp⟩
  ·refine(hx a true _ (.inl rfl)).mono ?_
   rintro _ _ ⟨rfl,rfl⟩
   rfl'
   refine(cx _).mono ?_
   rintro _ _ ⟨rfl,rfl⟩
   rfl'
   rw[ex]
   refine(hy _ false _ (.inr rfl)).mono ?_
   rintro _ _ ⟨rfl,rfl⟩
   rfl'
   exact⟨rfl,by simp⟩
  ·refine(hx a true _ (.inl rfl)).mono ?_
   rintro _ _ ⟨rfl,rfl⟩
   rfl'
   refine(cx _).mono ?_
   rintro _ _ ⟨rfl,rfl⟩
   rfl'
   rw[ex]
   refine(hy _ true _ (.inr rfl)).mono ?_
   rintro _ _ ⟨rfl,rfl⟩
   rfl'
   exact⟨rfl,by simp⟩
  ·refine(hy a true _ (.inl rfl)).mono ?_
   rintro _ _ ⟨rfl,rfl⟩
   rfl'
   refine(cy _).mono ?_
   rintro _ _ ⟨rfl,rfl⟩
   rfl'
   rw[ey]
   refine(hx _ true _ (.inr rfl)).mono ?_
   rintro _ _ ⟨rfl,rfl⟩
   rfl'
   exact⟨rfl,by simp⟩
theorem qI{g:α->D}{l:List α}{x:α}(h:l[k]?=some x):atI (l.map g) (k:Nat)=some (g x):=by
 have hk:=(aAD.mp h).1
 simp only[atI,ixN]
 rw[aAI (by lia),aAI (by simp;lia),aDT,aDP,aBJ,h]
 rfl
theorem vA{ds:List Dd}(hn:2<=n)(hok:∀d∈ds,OkD n G SH d)(hF:fb n ds 0 R=none)(h:R[a]?=some (.leaf s ts f)){g:Nat}{M:Mm} :
  Ok (dP (g+1) [.d (.tup [.int n,.int G,.int SH,.tup (ds.map encD)]),.d (.int a),.d (.lst (R.map encR))] M) λw M'=>w=.d (enc (lfD n ds a s ts f))/\M'=M:=by
 have hg:=aDi hF h
 rw[Nat.zero_add]at hg
 obtain⟨d,e,h1,h2⟩:=hg
 unfold dP
 refine bL rfl ?_
 unfold rE
 rfl'
 refine mM (qI h1) ?_
 rfl'
 refine cG (qI h) ?_
 rfl'
 refine(vS hn (hok d (aBM h1))).mono ?_
 rintro _ _ ⟨rfl,rfl⟩
 rfl'
 refine⟨?_,by simp⟩
 simp only[lfD]
 rw[h1,aDT,h2]
 rfl
theorem aEe{ds:List Dd}(hn:2<=n)(hok:∀d∈ds,OkD n G SH d)(hF:fb n ds 0 R=none):∀{e:E} {a s b c:Nat} {byb f:Bool},AtR R a (ros e a s b c byb f)->∀fuel,dp e < fuel->∀M:Mm,
  Ok (dP fuel [.d (.tup [.int n,.int G,.int SH,.tup (ds.map encD)]),.d (spl e a f),.d (.lst (R.map encR))] M) λw M'=>w=.d (enc (tl n ds e a s b c byb f))/\M'=M:=by
 intro e
 induction e with
 |num k =>
  intro a s b c byb f hA fuel hf M
  obtain⟨g,rfl⟩:∃f,fuel=f+1:=⟨fuel - 1,by lia⟩
  simp only[spl,tl]
  exact vA hn hok hF (hA 0 _ rfl)
 |giv k =>
  intro a s b c byb f hA fuel hf M
  obtain⟨g,rfl⟩:∃f,fuel=f+1:=⟨fuel - 1,by lia⟩
  simp only[spl,tl]
  exact vA hn hok hF (hA 0 _ rfl)
 |op w x y ihx ihy =>
  intro a s b c byb f hA fuel hf M
  obtain⟨g,rfl⟩:∃f,fuel=f+1:=⟨fuel - 1,by lia⟩
  simp only[dp]at hf
  have key:∀(u:D) (dx dy:D) (ex ey:E) (w':Wd) (M:Mm),u=.tup [.str w'.str,dx,dy]->(∀M:Mm,Ok (dP g [.d (.tup [.int n,.int G,.int SH,.tup (ds.map encD)]),.d dx,.d (.lst (R.map encR))] M) λw M'=>w=.d (enc ex)/\M'=M)->(∀M:Mm,Ok (dP g [.d (.tup [.int n,.int G,.int SH,.tup (ds.map encD)]),.d dy,.d (.lst (R.map encR))] M) λw M'=>w=.d (enc ey)/\M'=M) ->
    Ok (dP (g+1) [.d (.tup [.int n,.int G,.int SH,.tup (ds.map encD)]),.d u,.d (.lst (R.map encR))] M) λw M'=>w=.d (enc (.op w' ex ey))/\M'=M:=by
   intro u dx dy ex ey w' M hu h1 h2
   subst hu
   unfold dP
   refine bL rfl ?_
   unfold rE
   rfl'
   refine(h1 _).mono ?_
   rintro _ _ ⟨rfl,rfl⟩
   rfl'
   refine(h2 _).mono ?_
   rintro _ _ ⟨rfl,rfl⟩
   rfl'
   exact⟨rfl,by simp⟩
  cases w <;> cases f <;> simp only[spl,tl,ros]at hA ⊢
  ·exact key _ _ _ _ _ .sum _ rfl (λM=>ihx (hA.right (by rw[aI])) g (by lia) M) (λM=>ihy hA.left g (by lia) M)
  ·exact key _ _ _ _ _ .sum _ rfl (λM=>ihx hA.left g (by lia) M) (λM=>ihy (hA.right (by rw[aI])) g (by lia) M)
  ·exact key _ _ _ _ _ .less _ rfl (λM=>ihx (hA.right (by rw[aI])) g (by lia) M) (λM=>ihy hA.left g (by lia) M)
  ·exact key _ _ _ _ _ .less _ rfl (λM=>ihx hA.left g (by lia) M) (λM=>ihy (hA.right (by rw[aI])) g (by lia) M)
  ·exact key _ _ _ _ _ .times _ rfl (λM=>ihx hA.left.left g (by lia) M) (λM=>ihy (hA.left.right (by rw[aI])) g (by lia) M)
  ·exact key _ _ _ _ _ .times _ rfl (λM=>ihx (hA.left.right (by rw[aI])) g (by lia) M) (λM=>ihy hA.left.left g (by lia) M)
def BkOk(a:Nat)(R:List Ro):Prop:=∀j i,R[j]?=some (.bk i)->i < a+j
theorem BkOk.app(h:BkOk a X)(g:BkOk (a+X.length) Y):BkOk a (X++Y):=by
 intro j i e
 by_cases hj:j < X.length
 ·rw[aAT hj]at e
  exact h j i e
 ·rw[aBK (by lia)]at e
  have:=g _ i e
  lia
theorem qS(h:a+m<=k):BkOk k (turn a m):=by
 intro j i e
 obtain⟨h1,h2⟩:=sJ e
 cases h2
 lia
theorem aNp:∀{e:E} {a s b c:Nat} {byb f:Bool},BkOk a (ros e a s b c byb f):=by
 intro e
 induction e with
 |num k=>intro a s b c byb f j i h;simp only[ros]at h;cases j <;> simp at h
 |giv k=>intro a s b c byb f j i h;simp only[ros]at h;cases j <;> simp at h
 |op w x y ihx ihy =>
  intro a s b c byb f
  cases w <;> cases f <;> simp only[ros]
  ·exact ihy.app (by rw[aI];exact ihx)
  ·exact ihx.app (by rw[aI];exact ihy)
  ·exact ihy.app (by rw[aI];exact ihx)
  ·exact ihx.app (by rw[aI];exact ihy)
  ·exact(ihx.app (by rw[aI];exact ihy)).app ((qS (by simp only[aAP,aI];lia)).app (qS (by simp only[aAP,aI,bX];lia)))
  ·exact(ihy.app (by rw[aI];exact ihx)).app ((qS (by simp only[aAP,aI];lia)).app (qS (by simp only[aAP,aI,bX];lia)))
def fbD(n:Int)(ds:List Dd)(R:List Ro):D:=match fb n ds 0 R with
 |some k=>.int (k:Nat)
 |none=>if ds.length=R.length then .non else .int (R.length:Nat)
theorem aRt(h:fb n ds 0 (R.take j)=none)(hr:R[j]?=some r):(good n ds j r->fb n ds 0 (R.take (j+1))=none)/\(¬good n ds j r->fb n ds 0 R=some j):=by
 have hj:=(aAD.mp hr).1
 have hl:(R.take j).length=j:=by rw[aCC,aDE (by lia)]
 constructor
 ·intro g
  rw[aDO,hr,cB h,hl,Nat.zero_add]
  show fb n ds j [r]=none
  simp only[fb]
  rw[aAI g]
 ·intro g
  have e:R=R.take j++r::R.drop (j+1):=by
   have:=aFH j R
   rw[aCI hj]at this
   rw[aAR hj]at hr
   cases hr
   exact this.symm
  rw[e,cB h,hl,Nat.zero_add]
  simp only[fb]
  rw[aAL g]
theorem sY{ds:List Dd}{M:Mm}(hn:2<=n)(hn2:n<=1000000)(hok:∀d∈ds,OkD n G SH d)(hB:BkOk 0 R) :
  Ok (gD [.d (.tup [.int n,.int G,.int SH,.tup (ds.map encD)]),.d (.lst (R.map encR))] M) λw M'=>w=.d (fbD n ds R)/\M'=M:=by
 unfold gD
 refine bL rfl ?_
 unfold lB
 rfl'
 refine dS (λj L M'=>M'=M/\fb n ds 0 (R.take j)=none/\∃o4 o5,L=[some (.d (.tup [.int n,.int G,.int SH,.tup (ds.map encD)])),some (.d (.lst (R.map encR))),some (.d (.int n)),some (.d (.tup (ds.map encD))),o4,o5]) ⟨rfl,rfl,_,_,rfl⟩ (λi L M _ _ t e=>by cases e) ?_ ?_
 ·rintro j d _ M hd ⟨rfl,hF,o4,o5,rfl⟩
  obtain⟨x,hx,rfl⟩:=uD hd
  clear hd
  rw[aBJ,aBE]at hx
  obtain⟨r,hr,rfl⟩:=hx
  obtain⟨k1,k2⟩:=aRt hF hr
  have bad:¬good n ds j r->(.d (.int (0+(j:Nat))):W)=.d (fbD n ds R):=λh=>by simp only[fbD];rw[k2 h];simp
  rfl'
  refine cM (λh=>?_) (λh=>?_)
  ·rfl'
   exact⟨bad λg=>by have:=vV g;simp at h;lia,by simp⟩
  have hle:=iO hF (aDB _)
  rw[aCC,aDE (by have:=(aAD.mp hr).1;lia)]at hle
  have hl:j < ds.length:=by simp at h;lia
  obtain⟨d,hd⟩:∃d,ds[j]?=some d:=⟨_,aAR hl⟩
  have hat:atI (ds.map encD) (0+(j:Nat))=some (encD d):=by rw[Int.zero_add];exact qI hd
  have hD:=hok d (aBM hd)
  cases r with
  |leaf s ts f =>
   simp only[encR]
   rfl'
   refine mM hat ?_
   rfl'
   refine(vS (s:=s) (ts:=ts) (f:=f) hn hD).mono ?_
   rintro _ _ ⟨rfl,rfl⟩
   cases hlf:lf n d s ts f with
   |none =>
    simp only[Option.map_none,Option.getD_none]
    rfl'
    refine⟨bad ?_,by simp⟩
    rintro⟨d',e',g1,g2⟩
    rw[hd]at g1;cases g1
    rw[hlf]at g2;cases g2
   |some e' =>
    simp only[aHK,Option.getD_some]
    rfl'
    refine dO (by cases e' <;> rfl) ?_
    rfl'
    exact⟨rfl,k1 ⟨d,e',hd,hlf⟩,_,_,rfl⟩
  |bk i =>
   have hi:=hB j i hr
   obtain⟨d2,hd2⟩:∃d,ds[i]?=some d:=⟨_,aAR (by lia)⟩
   have hD2:=hok d2 (aBM hd2)
   have gd:good n ds j (.bk i) ↔ d=bD n d2:=⟨λ⟨x,g1,g2⟩=>by rw[hd2]at g1;cases g1;rw[hd]at g2;cases g2;rfl,λg=>⟨d2,hd2,by rw[hd,g]⟩⟩
   simp only[encR]
   rfl'
   refine mM hat ?_
   rfl'
   refine mM (qI hd2) ?_
   rfl'
   refine(kT (ds:=[d2]) hn hn2 (λx hx=>by rw[aAM.mp hx];exact hD2) (by simp)).mono ?_
   rintro _ _ ⟨rfl,rfl⟩
   rw[show(bDs n [d2]).map encD=[encD (bD n d2)]from rfl]
   rfl'
   have q1:=gK d
   have q2:=gK (bD n d2)
   refine nC (a:=encD d) (b:=encD (bD n d2)) rfl rfl ⟨by lia,by lia⟩ ?_
   refine⟨_,rfl,?_⟩
   refine cM (λh=>?_) (λh=>?_)
   ·rfl'
    refine⟨bad λg=>?_,by simp⟩
    rw[gd.mp g,jH]at h
    cases h
   ·rfl'
    exact⟨rfl,k1 (gd.mpr (yS (by simpa using h))),_,_,rfl⟩
 ·rintro _ M ⟨rfl,hF,o4,o5,rfl⟩
  simp only[mT,aAK,aAS]at hF
  rfl'
  refine cG (d:=fbD n ds R) ?_ ?_
  ·simp only[fbD]
   rw[hF]
   by_cases hq:ds.length=R.length
   ·simp[hq];rfl
   ·have:¬((ds.length:Int)=(R.length:Int)):=by lia
    simp[hq,this];rfl
  rfl'
  exact⟨rfl,by simp⟩
def due(n:Int)(ds:List Dd)(e:E)(s b c:Nat)(byb:Bool):D:=match fbD n ds (ros e 0 s b c byb true)with
 |.non=>.tup [.str "shown",enc (tl n ds e 0 s b c byb true)]
 |x=>.tup [.str "refused",x]
theorem aBa(hn:2<=n)(hn2:n<=1000000){ds:List Dd}(hz:ds.length<=16777216)(hok:∀d∈ds,OkD n G SH d){e:E}(hd:dp e<=20){M:Mm} :
  Okx (λx M'=>∃k:Nat,fbD n ds (ros e 0 s b c byb true)=.int k/\x=.exn "NoPaper" "at" [.int k]/\M'=M) (vY [.d (.tup [.int n,.int G,.int SH,.tup (ds.map encD)]),.d (pap e),.d (.int s),.d (.int b),.d (.int c),.d (.bl byb)] M) λw M'=>(fbD n ds (ros e 0 s b c byb true)=.non/\w=.d (enc (tl n ds e 0 s b c byb true)))/\M'=M:=by
 unfold vY
 refine gB rfl ?_
 unfold aDl
 rfl'
 refine(aAy hn hn2 hz hok (e:=e) (s:=s) (b:=b) (c:=c) (byb:=byb) (back:=false) (aDB _) rfl 50 (by lia) _).monoX ?_ ?_
 rotate_left
 ·rintro z M' ⟨k,h1,rfl,rfl⟩
  have h1:fb n ds 0 (ros e 0 s b c byb true)=some k:=h1
  exact⟨k,by simp only[fbD];rw[h1],rfl,by simp⟩
 rintro _ M ⟨⟨h1,rfl⟩,rfl⟩
 have h1:fb n ds 0 (ros e 0 s b c byb true)=none:=h1
 have hl:=iO h1 (aDB _)
 rw[aI]at hl
 rfl'
 refine cM (λh=>?_) (λh=>?_)
 ·rfl'
  refine⟨many e,?_,by simp,by simp⟩
  simp only[fbD]
  rw[h1,aI,aAL (by simp at h;lia)]
 ·rfl'
  refine⟨⟨?_,rfl⟩,by simp⟩
  simp only[fbD]
  rw[h1,aI,aAI (by simp at h;lia)]
theorem aBq(hn:2<=n)(hn2:n<=1000000){ds:List Dd}(hz:ds.length<=16777216)(hok:∀d∈ds,OkD n G SH d){e:E}(hd:dp e<=20){M:Mm} :
  Ok (oR [.d (.tup [.int n,.int G,.int SH,.tup (ds.map encD)]),.d (pap e),.d (.tup [.int s,.int b,.int c]),.d (.bl byb)] M) λw M'=>w=.d (due n ds e s b c byb)/\M'=M:=by
 unfold oR
 refine gB rfl ?_
 unfold vK
 rfl'
 refine aEl ?_
 rfl'
 refine(aBa hn hn2 hz hok hd).monoX ?_ ?_
 ·rintro _ M ⟨⟨h1,rfl⟩,rfl⟩
  rfl'
  exact⟨by simp only[due];rw[h1],by simp⟩
 ·rintro _ M ⟨k,h1,rfl,rfl⟩
  refine⟨rfl,?_⟩
  rfl'
  dsimp only[unset]
  rfl'
  exact⟨by simp only[due];rw[h1],by simp⟩
theorem oG(n:Int)(ds:List Dd)(R:List Ro):(fbD n ds R=.non/\fb n ds 0 R=none)\/∃k:Nat,fbD n ds R=.int k:=by
 cases h:fb n ds 0 R with
 |some k=>exact .inr ⟨k,by simp only[fbD];rw[h]⟩
 |none =>
  by_cases g:ds.length=R.length
  ·exact .inl ⟨by simp only[fbD];rw[h,aAI g],rfl⟩
  ·exact .inr ⟨R.length,by simp only[fbD];rw[h,aAL g]⟩
theorem wK:∀e:E,noL (enc e)=true
 |.num _=>by simp[enc,noL,noLs]
 |.giv _=>by simp[enc,noL,noLs]
 |.op w a b=>by simp[enc,noL,noLs,wK a,wK b]
theorem aCe:∀e:E,sz (enc e)+2<=5*2 ^ dp e
 |.num _=>by simp[enc,sz,szs,dp]
 |.giv _=>by simp[enc,sz,szs,dp]
 |.op w a b=>by
  have h1:=aCe a
  have h2:=aCe b
  have e1:2 ^ dp a<=2 ^ max (dp a) (dp b):=aDC (by lia) (by lia)
  have e2:2 ^ dp b<=2 ^ max (dp a) (dp b):=aDC (by lia) (by lia)
  simp[enc,sz,szs,dp,Nat.pow_succ]
  lia
theorem aAu(hn:2<=n)(hn2:n<=1000000){ds:List Dd}(hz:ds.length<=16777216)(hok:∀d∈ds,OkD n G SH d){e:E}(hd:dp e<=9){M:Mm} :
  Ok (oX [.d (.tup [.int n,.int G,.int SH,.tup (ds.map encD)]),.d (pap e),.d (.tup [.int s,.int b,.int c]),.d (.bl byb)] M) λw M'=>w=.d (.bl true)/\M'=M:=by
 have hm:many e<=262144:=aAV qK (aAV (aDC (by lia) hd) (by decide))
 have hR:=λM=>aBx (e:=e) (a:=0) (s:=s) (b:=b) (c:=c) (byb:=byb) (f:=true) (by lia) (by lia) (by lia) 50 (by lia) M
 obtain⟨R,eR⟩:∃R,R=ros e 0 s b c byb true:=⟨_,rfl⟩
 have hA:AtR R 0 (ros e 0 s b c byb true):=by rw[eR];intro j r h;rw[Nat.zero_add];exact h
 have hB:BkOk 0 R:=by rw[eR];exact aNp
 unfold oX
 refine gB rfl ?_
 unfold vF
 rfl'
 refine(hR _).mono ?_
 rintro _ M ⟨rfl,rfl⟩
 rw[<- eR]
 rfl'
 refine(sY hn hn2 hok hB).mono ?_
 rintro _ M ⟨rfl,rfl⟩
 refine aGh (aHu (by with_unfolding_all exact rfl) (by with_unfolding_all simp) (pG ?_))
 refine bT (Okx.mono (Q:=λo M'=>M'=M/\o=.nx [some (.d (.tup [.int n,.int G,.int SH,.tup (ds.map encD)])),some (.d (pap e)),some (.d (.tup [.int s,.int b,.int c])),some (.d (.bl byb)),some (.d (.lst (R.map encR))),some (.d (due n ds e s b c byb))]) ?_ ?_)
 ·rcases oG n ds R with⟨h1,h2⟩|⟨k,h1⟩
  ·rw[h1]
   rfl'
   refine(xB (e:=e) (a:=0) (f:=true) (by lia) (by lia) (by lia) 50 (by lia) _).mono ?_
   rintro _ _ ⟨rfl,rfl⟩
   rfl'
   refine(aEe hn hok h2 hA 50 (by lia) _).mono ?_
   rintro _ _ ⟨rfl,rfl⟩
   rfl'
   refine⟨rfl,?_⟩
   simp only[due]
   rw[<- eR,h1]
   rfl
  ·rw[h1]
   rfl'
   refine dO rfl ?_
   rfl'
   refine⟨rfl,?_⟩
   simp only[due]
   rw[<- eR,h1]
   rfl
 rintro _ M ⟨rfl,rfl⟩
 rfl'
 refine(aBq hn hn2 hz hok (by lia)).mono ?_
 rintro _ M ⟨rfl,rfl⟩
 rfl'
 refine(aAb ?_ ?_).mono ?_
 ·simp only[due]
  rw[<- eR]
  rcases oG n ds R with⟨h1,h2⟩|⟨k,h1⟩
  ·rw[h1];simp[noL,noLs,wK]
  ·rw[h1];simp[noL,noLs]
 ·simp only[due]
  rw[<- eR]
  rcases oG n ds R with⟨h1,h2⟩|⟨k,h1⟩
  ·rw[h1]
   have g1:=aCe (tl n ds e 0 s b c byb true)
   rw[aQx]at g1
   have g2:2 ^ dp e<=2 ^ 9:=aDC (by lia) hd
   simp only[sz,szs]
   lia
  ·rw[h1];simp[sz,szs]
 rintro _ M ⟨rfl,rfl⟩
 rfl'
 exact⟨rfl,by simp⟩
theorem aEz{M:Mm}(hb:Bx M b)(g1:G < 1000):Ok (gE [.ref b,.d (.int G)] M) λw M'=>∃e:E,w=.d (enc e)/\dp e<=8/\wf G e/\Nx b M M':=by
 have n:=Nx.refl hb
 unfold gE
 refine bL rfl ?_
 unfold lK
 rfl'
 (refine(aO hb (by lia) (by lia)).mono ?_;rintro _ _ ⟨d1,rfl,l_d1,u_d1,n'⟩;replace n:=n.trans n';replace hb:=n'.bx hb;clear n')
 rfl'
 refine fE (λ_=>?_) (λ_=>?_)
 ·rfl'
  refine(kB (G:=G) g1 4 50 _ _ _ _ hb (by lia) (by rfl) (by lia)).mono ?_
  rintro _ _ ⟨e,rfl,he,hw,n'⟩
  replace n:=n.trans n'
  rfl'
  rw[n.take]
  exact⟨by lia,hw,n⟩
 ·rfl'
  refine(kB (G:=G) g1 8 50 _ _ _ _ hb (by lia) (by rfl) (by lia)).mono ?_
  rintro _ _ ⟨e,rfl,he,hw,n'⟩
  replace n:=n.trans n'
  rfl'
  rw[n.take]
  exact⟨by lia,hw,n⟩
def Ask(m:Int)(G SH:Nat)(d:D):Prop:=∃(ds:List Dd) (e:E) (s b c:Nat),d=.tup [.tup [.int m,.int G,.int SH,.tup (ds.map encD)],pap e,.tup [.int s,.int b,.int c]]/\(∀d∈ds,OkD m G SH d)/\ds.length<=16777216/\dp e<=9
def LI(ns:List Int)(L:Lc):Prop:=∃(o1 o2 o3 o4 o5 o6 o7 o8 o9 o10 o11 o12 o13 o14 o15 o16:Option W),L=[some (.d (.fz (ns.map D.int))),o1,o2,o3,o4,o5,o6,o7,o8,o9,o10,o11,o12,o13,o14,o15,o16]
end
theorem LI.mk{o1 o2 o3 o4 o5 o6 o7 o8 o9 o10 o11 o12 o13 o14 o15 o16:Option W}:LI ns [some (.d (.fz (ns.map D.int))),o1,o2,o3,o4,o5,o6,o7,o8,o9,o10,o11,o12,o13,o14,o15,o16]:=⟨_,_,_,_,_,_,_,_,_,_,_,_,_,_,_,_,rfl⟩
theorem aPb(ns:List Int)(hn:ns.length<=63):Ok (sD [.d (.fz (ns.map D.int))] []) λw _=>w=.d (.bl true):=by
 unfold sD
 refine gB rfl ?_
 unfold aMt
 rfl'
 refine⟨by simp only[in62,aBH];repeat split <;> lia,?_⟩
 refine dS (λi L M=>LI ns L) LI.mk (λi L M _ _ t e=>by cases e) ?_ ?_
 ·rintro i d _ M hd ⟨o1,o2,o3,o4,o5,o6,o7,o8,o9,o10,o11,o12,o13,o14,o15,o16,rfl⟩
  obtain⟨hi,rfl⟩:=fC hd
  rfl'
  refine(aHh (by lia) hn).mono ?_
  rintro _ _ ⟨x,y,z,rfl,rfl⟩
  have hb:Bx (M++[[.int x,.int y,.int z]]) M.length:=⟨x,y,z,by simp⟩
  have n:=Nx.refl hb
  rfl'
  refine(aNm hb).mono ?_
  rintro _ _ ⟨m,rfl,m2,m1,n'⟩
  replace n:=n.trans n'
  replace hb:=n'.bx hb
  clear n'
  rfl'
  (refine(aO hb (by lia) (by lia)).mono ?_;rintro _ _ ⟨d3,rfl,l_d3,u_d3,n'⟩;replace n:=n.trans n';replace hb:=n'.bx hb;clear n')
  rfl'
  (refine(aO hb (by lia) (by lia)).mono ?_;rintro _ _ ⟨d4,rfl,l_d4,u_d4,n'⟩;replace n:=n.trans n';replace hb:=n'.bx hb;clear n')
  rfl'
  obtain⟨G,rfl⟩:∃k:Nat,d3=k:=⟨d3.toNat,by lia⟩
  obtain⟨byb,hby⟩:∃v,v=decide (d4=0):=⟨_,rfl⟩
  rw[<- hby]
  (refine(aO hb (by lia) (by lia)).mono ?_;rintro _ _ ⟨d5,rfl,l_d5,u_d5,n'⟩;replace n:=n.trans n';replace hb:=n'.bx hb;clear n')
  rfl'
  refine(pR hb (by lia) (by lia)).mono ?_
  rintro _ _ ⟨s,b,c,rfl,⟨h1,h2,h3⟩,⟨s0,s1⟩,⟨b0,b1⟩,⟨c0,c1⟩,n'⟩
  replace n:=n.trans n'
  replace hb:=n'.bx hb
  clear n'
  obtain⟨s,rfl⟩:∃k:Nat,s=k:=⟨s.toNat,by lia⟩
  obtain⟨b,rfl⟩:∃k:Nat,b=k:=⟨b.toNat,by lia⟩
  obtain⟨c,rfl⟩:∃k:Nat,c=k:=⟨c.toNat,by lia⟩
  rfl'
  refine(aEz (G:=G) hb (by lia)).mono ?_
  rintro _ M1 ⟨e,rfl,he,hw,n'⟩
  replace n:=n.trans n'
  replace hb:=n'.bx hb
  clear n'
  refine aGh ⟨_,_,rfl,?_⟩
  refine bT (Okx.mono (Q:=λo M'=>∃e:E,dp e<=8/\wf G e/\Nx M.length (M++[[.int x,.int y,.int z]]) M'/\Bx M' M.length/\o=.nx [some (.d (.fz (ns.map D.int))),some (.d (.int (0+(i:Nat)))),some (.ref M.length),some (.d (.int m)),some (.d (.int G)),some (.d (.bl byb)),some (.d (.tup [.int s,.int b,.int c])),some (.d (enc e)),o8,o9,o10,o11,o12,o13,o14,o15,o16]) ?_ ?_)
  ·refine dG (Okx.mono (Q:=λ_ M'=>Nx M.length M1 M') ?_ ?_)
   ·rfl'
    refine⟨λ_=>?_,λ_=>Nx.refl hb⟩
    rfl'
    refine(aO hb (by lia) (by lia)).mono ?_
    rintro _ M2 ⟨t1,rfl,_,_,n1⟩
    rfl'
    exact n1
   rintro cnd M2 n1
   have hb2:=n1.bx hb
   refine cM (λh=>?_) (λh=>?_)
   ·rfl'
    refine(aAv (G:=G) (by lia) hb2).mono ?_
    rintro _ M3 ⟨e',rfl,hw',he',n3⟩
    rfl'
    exact⟨e',by lia,hw',(n.trans n1).trans n3,n3.bx hb2,rfl⟩
   ·rfl'
    exact⟨e,he,hw,n.trans n1,hb2,rfl⟩
  clear he hw n hb e
  rintro _ M1 ⟨e,he,hw,n,hb,rfl⟩
  have hm:many e<=65536:=aGm he
  have okE:∀d∈row m byb e s b c,OkD m G 9 d:=aPr (by lia) hw (by lia) (by lia) (by lia) (by lia) (by lia) (by lia)
  have lE:(row m byb e s b c).length=many e:=zZ
  have pE:=sU (e:=e)
  rfl'
  refine(aAf m2 m1 hw (by lia) (by lia) (by lia) (by lia) (by lia) (by lia) (by lia) (by lia)).mono ?_
  rintro _ _ ⟨rfl,rfl⟩
  rfl'
  refine(wH 50 (by lia) _).mono ?_
  rintro _ _ ⟨rfl,rfl⟩
  rfl'
  refine(wQ (n:=m) (G:=G) (by lia) (by intro h;rw[h]at lE;simp at lE;lia) aJq okE hb).mono ?_
  rintro _ M3 ⟨⟨SH,rfl,sh1,sh2,okS⟩,n1⟩
  replace n:=n.trans n1
  replace hb:=n1.bx hb
  clear n1
  rfl'
  refine bA (xs:=[.int m,.int G,.int SH]) (ys:=[.tup []]) (by simp) ?_
  rfl'
  refine(pR hb (by lia) (by lia)).mono ?_
  rintro _ M4 ⟨s',b',c',rfl,_,⟨s0',_⟩,⟨b0',_⟩,⟨c0',_⟩,n'⟩
  replace n:=n.trans n'
  replace hb:=n'.bx hb
  clear n'
  obtain⟨s',rfl⟩:∃k:Nat,s'=k:=⟨s'.toNat,by lia⟩
  obtain⟨b',rfl⟩:∃k:Nat,b'=k:=⟨b'.toNat,by lia⟩
  obtain⟨c',rfl⟩:∃k:Nat,c'=k:=⟨c'.toNat,by lia⟩
  have a1:Ask m G SH (.tup [.tup [.int m,.int G,.int SH,.tup ((row m byb e s b c).map encD)],pap e,.tup [.int s,.int b,.int c]]):=⟨_,e,s,b,c,rfl,okS,by lia,by lia⟩
  have a2:Ask m G SH (.tup [.tup [.int m,.int G,.int SH,.tup []],pap e,.tup [.int s,.int b,.int c]]):=⟨[],e,s,b,c,rfl,(λd hd=>by cases hd),by simp,by lia⟩
  have a3:Ask m G SH (.tup [.tup [.int m,.int G,.int SH,.tup ((row m byb e s b c).map encD)],pap e,.tup [.int s',.int b',.int c']]):=⟨_,e,s',b',c',rfl,okS,by lia,by lia⟩
  rfl'
  refine⟨rfl,?_⟩
  refine dS (λi' L M'=>∃(N:Mm) (J:List D) (o12 o13:Option W),M'=N++[J]/\Nx M.length M4 N/\Bx N M.length/\J.length=3+2*i'/\(∀d∈J,Ask m G SH d)/\L=[some (.d (.fz (ns.map D.int))),some (.d (.int (0+(i:Nat)))),some (.ref M.length),some (.d (.int m)),some (.d (.int G)),some (.d (.bl byb)),some (.d (.tup [.int s,.int b,.int c])),some (.d (enc e)),some (.d (.tup ((row m byb e s b c).map encD))),some (.d (pap e)),some (.d (.tup [.int m,.int G,.int SH,.tup ((row m byb e s b c).map encD)])),some (.ref M4.length),o12,o13,o14,o15,o16]) ⟨M4,_,_,_,rfl,Nx.refl hb,hb,rfl,?_,rfl⟩ (λi L M _ _ t e=>by cases e) ?_ ?_
  ·intro d hd
   simp only[aAY,aCX,aGA]at hd
   rcases hd with rfl|rfl|rfl
   ·exact a1
   ·exact a2
   ·exact a3
  ·rintro j d _ _ hd ⟨N,J,o12,o13,rfl,nN,bN,lJ,ok,rfl⟩
   obtain⟨hj,rfl⟩:=fC hd
   have eN:=nN.len
   rfl'
   refine(pY (G:=G) m2 m1 (by lia) sh1 sh2 okS (by lia) bN.app).mono ?_
   rintro _ _ ⟨Y,rfl,okY,lY,nY⟩
   obtain⟨N2,rfl,n2⟩:=nY.unapp bN.lt
   have bN2:=n2.bx bN
   have e2:=n2.len
   rfl'
   refine(pY (G:=G) m2 m1 (by lia) sh1 sh2 okY (by lia) bN2.app).mono ?_
   rintro _ _ ⟨Y2,rfl,okY2,lY2,nY2⟩
   obtain⟨N3,rfl,n3⟩:=nY2.unapp bN2.lt
   have e3:=n3.len
   rfl'
   refine aAx (λz h=>by cases h) (xs:=J) (by rw[show M4.length=N3.length by lia];simp) rfl (by simp;lia) ?_
   rw[show M4.length=N3.length by lia]
   refine⟨N3,J++[.tup [.tup [.int m,.int G,.int SH,.tup (Y.map encD)],pap e,.tup [.int s,.int b,.int c]],.tup [.tup [.int m,.int G,.int SH,.tup (Y2.map encD)],pap e,.tup [.int s,.int b,.int c]]],_,_,by simp,nN.trans (n2.trans n3),n3.bx bN2,by simp;lia,?_,by rw[show N3.length=M4.length by lia];rfl⟩
   intro d hd
   rcases aAX.mp hd with h|h
   ·exact ok d h
   ·simp only[aAY,aCX,aGA]at h
    rcases h with rfl|rfl
    ·exact⟨_,e,s,b,c,rfl,okY,by lia,by lia⟩
    ·exact⟨_,e,s,b,c,rfl,okY2,by lia,by lia⟩
  ·rintro _ _ ⟨N,J,o12,o13,rfl,nN,bN,lJ,ok,rfl⟩
   rfl'
   refine⟨rfl,?_⟩
   have lJ:J.length=13:=lJ
   refine dS (λi' L M'=>∃(N:Mm) (J:List D) (o12:Option W),M'=N++[J]/\Nx M.length M4 N/\Bx N M.length/\J.length=13+i'/\(∀d∈J,Ask m G SH d)/\L=[some (.d (.fz (ns.map D.int))),some (.d (.int (0+(i:Nat)))),some (.ref M.length),some (.d (.int m)),some (.d (.int G)),some (.d (.bl byb)),some (.d (.tup [.int s,.int b,.int c])),some (.d (enc e)),some (.d (.tup ((row m byb e s b c).map encD))),some (.d (pap e)),some (.d (.tup [.int m,.int G,.int SH,.tup ((row m byb e s b c).map encD)])),some (.ref M4.length),o12,o13,o14,o15,o16]) ⟨N,J,_,rfl,nN,bN,lJ,ok,rfl⟩ (λi L M _ _ t e=>by cases e) ?_ ?_
   ·rintro j d _ _ hd ⟨N,J,o12,rfl,nN,bN,lJ,ok,rfl⟩
    obtain⟨hj,rfl⟩:=fC hd
    have hj:j < 3:=hj
    have eN:=nN.len
    rfl'
    refine(aEx 3 (by lia) 50 (by lia) _ bN.app).mono ?_
    rintro _ _ ⟨e2,rfl,d2,n2'⟩
    obtain⟨N2,rfl,n2⟩:=n2'.unapp bN.lt
    have e2':=n2.len
    rfl'
    refine kE (xs:=J) (by rw[show M4.length=N2.length by lia];simp) (by lia) ?_
    rw[show M4.length=N2.length by lia]
    rfl'
    refine⟨N2,J++[.tup [.tup [.int m,.int G,.int SH,.tup ((row m byb e s b c).map encD)],pap e2,.tup [.int s,.int b,.int c]]],_,by simp,nN.trans n2,n2.bx bN,by simp;lia,?_,by rw[show N2.length=M4.length by lia];rfl⟩
    intro d hd
    rcases aAX.mp hd with h|h
    ·exact ok d h
    ·rw[aAM.mp h]
     exact⟨_,e2,s,b,c,rfl,okS,by lia,by lia⟩
   ·rintro _ _ ⟨N,J,o12,rfl,nN,bN,lJ,ok,rfl⟩
    have lJ:J.length=16:=lJ
    have eN:=nN.len
    rfl'
    refine aPg (xs:=J) (λz h=>by cases h) (by simp[lr,lv,<- eN]) ?_
    refine qN (xs:=J) (ys:=cut J none (some 1)) (by simp[lv,lr,<- eN]) rfl ?_ ?_
    ·simp only[cut,aCC,aDV]
     lia
    have okC:∀d∈J++cut J none (some 1),Ask m G SH d:=λd hd=>by
     rcases aAX.mp hd with h|h
     ·exact ok d h
     ·exact ok d (aHM (aBZ h))
    refine⟨_,rfl,?_⟩
    refine dS (λi' L M'=>∃(o14 o15 o16:Option W),L=[some (.d (.fz (ns.map D.int))),some (.d (.int (0+(i:Nat)))),some (.ref M.length),some (.d (.int m)),some (.d (.int G)),some (.d (.bl byb)),some (.d (.tup [.int s,.int b,.int c])),some (.d (enc e)),some (.d (.tup ((row m byb e s b c).map encD))),some (.d (pap e)),some (.d (.tup [.int m,.int G,.int SH,.tup ((row m byb e s b c).map encD)])),some (.ref M4.length),o12,o13,o14,o15,o16]) ⟨_,_,_,rfl⟩ (λi L M _ _ t e=>by cases e) ?_ ?_
    ·rintro j d _ M5 hd ⟨o14,o15,o16,rfl⟩
     obtain⟨ds,e5,s5,b5,c5,rfl,k1,k2,k3⟩:=okC d (aBM hd)
     rfl'
     refine(aAu m2 m1 k2 k1 k3).mono ?_
     rintro _ _ ⟨rfl,rfl⟩
     rfl'
     exact⟨_,_,_,rfl⟩
    ·rintro _ M5 ⟨o14,o15,o16,rfl⟩
     rfl'
     exact LI.mk
 ·rintro _ _ ⟨o1,o2,o3,o4,o5,o6,o7,o8,o9,o10,o11,o12,o13,o14,o15,o16,rfl⟩
  rfl'
  rfl
theorem aJg(ns:List Int)(hn:ns.length<=63):∃M',sD [.d (.fz (ns.map D.int))] []=.ok (.d (.bl true)) M':=by
 obtain⟨_,M,e,rfl⟩:=lR.mp (aPb ns hn)
 exact⟨M,e⟩
theorem aQl{l:PySem.W.OpenLaw}{fa:Addr}{eL eBadText jBadText eNoDeed jNoDeed eNoInverse jNoInverse eNoMove jNoMove eNoPaper jNoPaper eNoRest eNoRoot jNoRoot eNoRow eTooMany jTooMany:Addr}{odNoPaper anNoPaper:Option Addr}{slNoPaper:Array (Option Value)}{ocNoPaper kVNoPaper dcNoPaper pmNoPaper cdNoPaper ctNoPaper:Value}(X:K.In h)(G:h.Ns mainGlobals mg)(hfa:mg "law"=some (.ref fa))(t:Tk K)
  (aL:nsIn K mainGlobals "LentError"=some (some (.ref eL)))
  (oL:xcB K eL vb none=true)
  (rL:PySem.W.readsIn K eL (.type "type")=true)
  (gL:PySem.W.specialIn K (.ref eL) "__getattribute__"=some (some (.builtin "type.__getattribute__")))
  (iL:PySem.W.findCls K (.ref eL) (.type "type") "__init__"=some (.val (.builtin "ValueError.__init__")))
  (tL:PySem.W.tailIn K vb (.ref eL::vb)=true)
  (aBadText:nsIn K mainGlobals "BadText"=some (some (.ref eBadText)))
  (xBadText:xkB K "BadText" eBadText eL=true)
  (jBadText_:PySem.W.findIn K (.ref eBadText) "__init__"=some (some (.ref jBadText)))
  (bBadText:xcB K eBadText (.ref eL::vb) (some (.ref jBadText))=true)
  (aNoDeed:nsIn K mainGlobals "NoDeed"=some (some (.ref eNoDeed)))
  (xNoDeed:xkB K "NoDeed" eNoDeed eL=true)
  (jNoDeed_:PySem.W.findIn K (.ref eNoDeed) "__init__"=some (some (.ref jNoDeed)))
  (bNoDeed:xcB K eNoDeed (.ref eL::vb) (some (.ref jNoDeed))=true)
  (aNoInverse:nsIn K mainGlobals "NoInverse"=some (some (.ref eNoInverse)))
  (xNoInverse:xkB K "NoInverse" eNoInverse eL=true)
  (jNoInverse_:PySem.W.findIn K (.ref eNoInverse) "__init__"=some (some (.ref jNoInverse)))
  (bNoInverse:xcB K eNoInverse (.ref eL::vb) (some (.ref jNoInverse))=true)
  (aNoMove:nsIn K mainGlobals "NoMove"=some (some (.ref eNoMove)))
  (xNoMove:xkB K "NoMove" eNoMove eL=true)
  (jNoMove_:PySem.W.findIn K (.ref eNoMove) "__init__"=some (some (.ref jNoMove)))
  (bNoMove:xcB K eNoMove (.ref eL::vb) (some (.ref jNoMove))=true)
  (aNoPaper:nsIn K mainGlobals "NoPaper"=some (some (.ref eNoPaper)))
  (xNoPaper:xkB K "NoPaper" eNoPaper eL=true)
  (jNoPaper_:PySem.W.findIn K (.ref eNoPaper) "__init__"=some (some (.ref jNoPaper)))
  (bNoPaper:xcB K eNoPaper (.ref eL::vb) (some (.ref jNoPaper))=true)
  (lNoPaper:K.lookup jNoPaper=some ⟨ocNoPaper,odNoPaper,.func (fnOf "__init__" "NoPaper.__init__" (defArgs cK) (defBody cK) (defScope cK) .none kVNoPaper dcNoPaper pmNoPaper anNoPaper cdNoPaper ctNoPaper),slNoPaper⟩)
  (cNoPaper:codeIn K cdNoPaper "NoPaper.__init__"=true)
  (kNoPaper:keepIn K (.ref jNoPaper)=true)
  (tNoPaper:PySem.W.typeIn K (.ref jNoPaper)=some (.type "function"))
  (nNoPaper:PySem.W.findIn K (.ref eNoPaper) "at"=some none)
  (sNoPaper:PySem.W.findIn K (.ref eNoPaper) "__setattr__"=some (some (.builtin "object.__setattr__")))
  (qNoPaper:keepIn K (.ref eNoPaper)=true)
  (aNoRest:nsIn K mainGlobals "NoRest"=some (some (.ref eNoRest)))
  (xNoRest:xkB K "NoRest" eNoRest eL=true)
  (bNoRest:xcB K eNoRest (.ref eL::vb) none=true)
  (aNoRoot:nsIn K mainGlobals "NoRoot"=some (some (.ref eNoRoot)))
  (xNoRoot:xkB K "NoRoot" eNoRoot eL=true)
  (jNoRoot_:PySem.W.findIn K (.ref eNoRoot) "__init__"=some (some (.ref jNoRoot)))
  (bNoRoot:xcB K eNoRoot (.ref eL::vb) (some (.ref jNoRoot))=true)
  (aNoRow:nsIn K mainGlobals "NoRow"=some (some (.ref eNoRow)))
  (xNoRow:xkB K "NoRow" eNoRow eL=true)
  (bNoRow:xcB K eNoRow (.ref eL::vb) none=true)
  (aTooMany:nsIn K mainGlobals "TooMany"=some (some (.ref eTooMany)))
  (xTooMany:xkB K "TooMany" eTooMany eL=true)
  (jTooMany_:PySem.W.findIn K (.ref eTooMany) "__init__"=some (some (.ref jTooMany)))
  (bTooMany:xcB K eTooMany (.ref eL::vb) (some (.ref jTooMany))=true)
  : ∃fd:FuncData,(∀(s:Shared) (v:Value),BindsTo s fd ⟨[v],[]⟩ [("_law_script",v)])/\∀base:Heap,K.In base->base.Ns mainGlobals mg->FnOk l.prog w K mg base (CX1 l.prog w) 104 fa fd ["_law_script"] (spX K 1 sD):=by
 have H:Hk K mg:=⟨h,X,G⟩
 have T:Tx K mg ⟨eL,eBadText,eNoDeed,eNoInverse,eNoMove,eNoPaper,jNoPaper,(fnOf "__init__" "NoPaper.__init__" (defArgs cK) (defBody cK) (defScope cK) .none kVNoPaper dcNoPaper pmNoPaper anNoPaper cdNoPaper ctNoPaper),eNoRest,eNoRoot,eNoRow,eTooMany⟩ :=
  ⟨t,
   H,
   aL,
   aCK X G aL,
   ⟨rL,gL,iL,tL⟩,
   mV aBadText aL xBadText bBadText oL (by decide),
   aCK X G aBadText,
   mV aNoDeed aL xNoDeed bNoDeed oL (by decide),
   aCK X G aNoDeed,
   mV aNoInverse aL xNoInverse bNoInverse oL (by decide),
   aCK X G aNoInverse,
   mV aNoMove aL xNoMove bNoMove oL (by decide),
   aCK X G aNoMove,
   mV aNoPaper aL xNoPaper bNoPaper oL (by decide),
   aCK X G aNoPaper,
   aBi lNoPaper cNoPaper kNoPaper,
   (aBi (st:=cK) lNoPaper cNoPaper kNoPaper).binds (ps:=aIJ) (λ_ _ _ _ _ _=>ex2 λ_ _=>rfl),
   tNoPaper,
   nNoPaper,
   sNoPaper,
   bNoPaper,
   qNoPaper,
   mV aNoRest aL xNoRest bNoRest oL (by decide),
   aCK X G aNoRest,
   mV aNoRoot aL xNoRoot bNoRoot oL (by decide),
   aCK X G aNoRoot,
   mV aNoRow aL xNoRow bNoRow oL (by decide),
   aCK X G aNoRow,
   mV aTooMany aL xTooMany bTooMany oL (by decide),
   aCK X G aTooMany,
   H.no t.z_ValueError,
   H.no t.z_bool,
   H.no t.z_enumerate,
   H.no t.z_int,
   H.no t.z_isinstance,
   H.no t.z_len,
   H.no t.z_list,
   H.no t.z_max,
   H.no t.z_min,
   H.no t.z_range,
   H.no t.z_reversed,
   H.no t.z_sorted,
   H.no t.z_tuple,
   H.no t.z_zip⟩
 exact aKa (D:=aDo) t.d_law dA hfa rfl H λbase=>aMy T
theorem aGe{l:PySem.W.OpenLaw}{q:Program}{d:DefRec}{K:Params->Frag}(hn:l.most=some 63)(hdf:d.params.defaults=[])
  (hY:∀(w:World) (h:Heap),YP w h->(K w.params).In h)
  (F:∀(w:World) (mg:Str->Option Value) (fa:Addr) (h:Heap),(K w.params).In h->h.Ns mainGlobals mg->mg d.name=some (.ref fa) ->
   ∃fd:FuncData,(∀(s:Shared) (u:Value),BindsTo s fd ⟨[u],[]⟩ [("_law_script",u)])/\∀base:Heap,(K w.params).In base->base.Ns mainGlobals mg->FnOk l.prog w (K w.params) mg base (CX1 l.prog w) 104 fa fd ["_law_script"] (spX (K w.params) 1 sD)) :
  PySem.W.WalkO q loose XP YP l.row.toRowW d [] (λf vs=>PySem.call f vs) :=
 L2.aCq (n:=63) (k:=104) (x:="_law_script") (CX:=λw=>(CX1 l.prog w)) (sp:=λw=>(spX (K w.params) 1 sD)) hn (by decide) hdf ⟨rfl,by decide,by decide⟩ hY F (λ_ _ a ns hl hO hS=>aKg hO hS (aJg ns hl)) λ_ _ _ _ _ ⟨_,_,_,_,_,_,_,_,_,_,_,z⟩=>z
end K33
open PySem PySem.W PyProof.Rows
end
namespace PySem.W.Fast
noncomputable section
noncomputable def zo:Params->Obj:=fun _=>default
noncomputable def zs:List Stmt:=[]
noncomputable def zb:Params->BT:=fun _=>BT.nil
theorem zq{α:Type _}(a:α):a=a:=rfl
def tw2277463328981012617:=zo
def te2277463328981012617:=zq tw2277463328981012617
def tw4108498395701914867:=zs
def te4108498395701914867:=zq tw4108498395701914867
def tw6249824329675589264:=zs
def te6249824329675589264:=zq tw6249824329675589264
def tw13336361598644339045:=zs
def te13336361598644339045:=zq tw13336361598644339045
def tw6806532652688369263:=zs
def te6806532652688369263:=zq tw6806532652688369263
def tw10887500865539156227:=zs
def te10887500865539156227:=zq tw10887500865539156227
def tw10975070429224963898:=zo
def te10975070429224963898:=zq tw10975070429224963898
def tw15727920343690185867:=zo
def te15727920343690185867:=zq tw15727920343690185867
def tw7939893957206119098:=zo
def te7939893957206119098:=zq tw7939893957206119098
def tw584658569768589963:=zo
def te584658569768589963:=zq tw584658569768589963
def tw8903424495134811395:=zo
def te8903424495134811395:=zq tw8903424495134811395
def tw13003907337376921887:=zo
def te13003907337376921887:=zq tw13003907337376921887
def tw14572403907797970830:=zo
def te14572403907797970830:=zq tw14572403907797970830
def tw13332849785649776182:=zo
def te13332849785649776182:=zq tw13332849785649776182
def tw4946842142711815491:=zb
def te4946842142711815491:=zq tw4946842142711815491
def tw317093191474008027:=zo
def te317093191474008027:=zq tw317093191474008027
def tw17293404533527192929:=zo
def te17293404533527192929:=zq tw17293404533527192929
def tw17105109829833152505:=zo
def te17105109829833152505:=zq tw17105109829833152505
def tw5463624398643434042:=zo
def te5463624398643434042:=zq tw5463624398643434042
def tw1410403106426619386:=zo
def te1410403106426619386:=zq tw1410403106426619386
def tw18015714485245619591:=zo
def te18015714485245619591:=zq tw18015714485245619591
noncomputable def tw4936320977709672277:Params->Heap:=fun _=>⟨#[],default⟩
theorem te4936320977709672277:tw4936320977709672277=tw4936320977709672277:=rfl
noncomputable def tw8378380107363399194:Params->Heap:=fun _=>⟨#[],default⟩
theorem te8378380107363399194:tw8378380107363399194=tw8378380107363399194:=rfl
def tw14660686970792148035:=zb
def te14660686970792148035:=zq tw14660686970792148035
def tw8778818419753033287:=zb
def te8778818419753033287:=zq tw8778818419753033287
def tw7288636936768805508:=zb
def te7288636936768805508:=zq tw7288636936768805508
noncomputable def tw15212539840958154943:Program:=Challenge.pw_lentshelf_k33_papers_refused
theorem te15212539840958154943:tw15212539840958154943=tw15212539840958154943:=rfl
noncomputable def tw18374041362256098673:Program:=Challenge.pw_lentshelf_k33_papers_refused
theorem te18374041362256098673:Challenge.pw_lentshelf_k33_papers_refused=tw18374041362256098673:=rfl
def tw10381275959465655883:=zb
def te10381275959465655883:=zq tw10381275959465655883
def tw16591910431345790978:=zb
def te16591910431345790978:=zq tw16591910431345790978
def tw14106561696789953432:=zb
def te14106561696789953432:=zq tw14106561696789953432
def tw18125696154259589144:=zs
def te18125696154259589144:=zq tw18125696154259589144
def tw17289218497516768862:=zb
def te17289218497516768862:=zq tw17289218497516768862
def tw1458048492012365727:=zs
def te1458048492012365727:=zq tw1458048492012365727
def tw12492044792056037536:=zb
def te12492044792056037536:=zq tw12492044792056037536
def tw11755521777813627023:=zs
def te11755521777813627023:=zq tw11755521777813627023
def tw5135422089482835874:=zb
def te5135422089482835874:=zq tw5135422089482835874
def tw1216355658413678289:=zb
def te1216355658413678289:=zq tw1216355658413678289
def tw5090782709129878209:=zo
def te5090782709129878209:=zq tw5090782709129878209
def tw6516876530649554484:=zo
def te6516876530649554484:=zq tw6516876530649554484
def tw2090978749875108075:=zo
def te2090978749875108075:=zq tw2090978749875108075
def tw12227978994076927592:=zo
def te12227978994076927592:=zq tw12227978994076927592
def tw9687465452605489941:=zo
def te9687465452605489941:=zq tw9687465452605489941
def tw8298080432457761399:=zb
def te8298080432457761399:=zq tw8298080432457761399
def tw4800577865756067155:=zs
def te4800577865756067155:=zq tw4800577865756067155
def tw5986278045832156833:=zo
def te5986278045832156833:=zq tw5986278045832156833
def tw1264012332482382390:=zs
def te1264012332482382390:=zq tw1264012332482382390
def tw8022503612573009216:=zo
def te8022503612573009216:=zq tw8022503612573009216
def tw12677345091788624604:=zo
def te12677345091788624604:=zq tw12677345091788624604
def tw7184282480362075478:=zo
def te7184282480362075478:=zq tw7184282480362075478
def tw656172036038456410:=zo
def te656172036038456410:=zq tw656172036038456410
def tw16592312749574253725:=zo
def te16592312749574253725:=zq tw16592312749574253725
def tw6044932803551622718:=zo
def te6044932803551622718:=zq tw6044932803551622718
def tw13898575048627325201:=zo
def te13898575048627325201:=zq tw13898575048627325201
def tw13302795673402762108:=zo
def te13302795673402762108:=zq tw13302795673402762108
def tw12445325608240911439:=zo
def te12445325608240911439:=zq tw12445325608240911439
def tw2623056356133566688:=zb
def te2623056356133566688:=zq tw2623056356133566688
def tw2187425916653836686:=zo
def te2187425916653836686:=zq tw2187425916653836686
def tw16104484964712660027:=zo
def te16104484964712660027:=zq tw16104484964712660027
def tw9268490407156608391:=zo
def te9268490407156608391:=zq tw9268490407156608391
def tw8617999947334526143:=zo
def te8617999947334526143:=zq tw8617999947334526143
def tw7980611496076059331:=zo
def te7980611496076059331:=zq tw7980611496076059331
def tw8177938251631288891:=zo
def te8177938251631288891:=zq tw8177938251631288891
def tw17864770915968157846:=zo
def te17864770915968157846:=zq tw17864770915968157846
def tw6279414024647632319:=zo
def te6279414024647632319:=zq tw6279414024647632319
def tw3231317103729788544:=zo
def te3231317103729788544:=zq tw3231317103729788544
def tw13848045382119724756:=zo
def te13848045382119724756:=zq tw13848045382119724756
def tw530409062500066095:=zo
def te530409062500066095:=zq tw530409062500066095
def tw13191853855068148813:=zo
def te13191853855068148813:=zq tw13191853855068148813
def tw13804866683332596770:=zo
def te13804866683332596770:=zq tw13804866683332596770
def tw11226774044815098232:=zo
def te11226774044815098232:=zq tw11226774044815098232
def tw10657863763679231544:=zo
def te10657863763679231544:=zq tw10657863763679231544
def tw14461722452708573370:=zo
def te14461722452708573370:=zq tw14461722452708573370
def tw5565414884225709785:=zo
def te5565414884225709785:=zq tw5565414884225709785
def tw9167870649618576887:=zo
def te9167870649618576887:=zq tw9167870649618576887
def tw14668429531564534383:=zo
def te14668429531564534383:=zq tw14668429531564534383
def tw5609305927612233190:=zo
def te5609305927612233190:=zq tw5609305927612233190
def tw18397485587282526080:=zo
def te18397485587282526080:=zq tw18397485587282526080
def tw13075758737575167323:=zo
def te13075758737575167323:=zq tw13075758737575167323
def tw17278533403334919986:=zo
def te17278533403334919986:=zq tw17278533403334919986
def tw423403130490683569:=zo
def te423403130490683569:=zq tw423403130490683569
def tw15557745367333426623:=zo
def te15557745367333426623:=zq tw15557745367333426623
def tw12346805568795309602:=zo
def te12346805568795309602:=zq tw12346805568795309602
def tw14059590797925346878:=zo
def te14059590797925346878:=zq tw14059590797925346878
def tw8600353028498955724:=zo
def te8600353028498955724:=zq tw8600353028498955724
def tw16455467459789259183:=zo
def te16455467459789259183:=zq tw16455467459789259183
def tw12357579448483685532:=zo
def te12357579448483685532:=zq tw12357579448483685532
def tw7113674356964351351:=zo
def te7113674356964351351:=zq tw7113674356964351351
def tw1772063314479448802:=zo
def te1772063314479448802:=zq tw1772063314479448802
def tw14053976223775275671:=zo
def te14053976223775275671:=zq tw14053976223775275671
def tw86430852203314104:=zo
def te86430852203314104:=zq tw86430852203314104
def tw1313691704821769315:=zo
def te1313691704821769315:=zq tw1313691704821769315
def tw277962368677502131:=zo
def te277962368677502131:=zq tw277962368677502131
def tw15483317213917669434:=zo
def te15483317213917669434:=zq tw15483317213917669434
def tw519716888284810229:=zo
def te519716888284810229:=zq tw519716888284810229
def tw16980032420090645897:=zo
def te16980032420090645897:=zq tw16980032420090645897
def tw3862758125511195717:=zb
def te3862758125511195717:=zq tw3862758125511195717
def tw18332367806758173854:=zo
def te18332367806758173854:=zq tw18332367806758173854
def tw10983891366594427104:=zo
def te10983891366594427104:=zq tw10983891366594427104
def tw17224764990342889004:=zo
def te17224764990342889004:=zq tw17224764990342889004
def tw13134129986105678867:=zo
def te13134129986105678867:=zq tw13134129986105678867
def tw12012011075372504488:=zo
def te12012011075372504488:=zq tw12012011075372504488
def tw15509684855765408265:=zo
def te15509684855765408265:=zq tw15509684855765408265
def tw17439497299335235977:=zo
def te17439497299335235977:=zq tw17439497299335235977
def tw4765391183060699064:=zo
def te4765391183060699064:=zq tw4765391183060699064
def tw6776605991811779395:=zo
def te6776605991811779395:=zq tw6776605991811779395
def tw6567373234793242564:=zo
def te6567373234793242564:=zq tw6567373234793242564
def tw9912540042983499226:=zo
def te9912540042983499226:=zq tw9912540042983499226
def tw4658999839326457760:=zo
def te4658999839326457760:=zq tw4658999839326457760
def tw3377530084137838762:=zo
def te3377530084137838762:=zq tw3377530084137838762
def tw10218155478131637449:=zo
def te10218155478131637449:=zq tw10218155478131637449
def tw8365430599601336789:=zo
def te8365430599601336789:=zq tw8365430599601336789
def tw10645478574415212611:=zo
def te10645478574415212611:=zq tw10645478574415212611
def tw7606814958547453854:=zo
def te7606814958547453854:=zq tw7606814958547453854
def tw8570554916820891431:=zo
def te8570554916820891431:=zq tw8570554916820891431
def tw11496488648285121156:=zo
def te11496488648285121156:=zq tw11496488648285121156
def tw820497770142765014:=zo
def te820497770142765014:=zq tw820497770142765014
def tw4141754722198738444:=zo
def te4141754722198738444:=zq tw4141754722198738444
def tw11304054903558482460:=zo
def te11304054903558482460:=zq tw11304054903558482460
def tw4409257432348338822:=zo
def te4409257432348338822:=zq tw4409257432348338822
def tw12540665564827674486:=zs
def te12540665564827674486:=zq tw12540665564827674486
def tw14505815639488749796:=zo
def te14505815639488749796:=zq tw14505815639488749796
def tw3815765769560082981:=zo
def te3815765769560082981:=zq tw3815765769560082981
def tw6227904992498344504:=zo
def te6227904992498344504:=zq tw6227904992498344504
def tw9517445503634081064:=zo
def te9517445503634081064:=zq tw9517445503634081064
def tw17190991212351771034:=zo
def te17190991212351771034:=zq tw17190991212351771034
def tw4440172647253728879:=zo
def te4440172647253728879:=zq tw4440172647253728879
def tw6837102765164189813:=zs
def te6837102765164189813:=zq tw6837102765164189813
def tw2753852435483493925:=zo
def te2753852435483493925:=zq tw2753852435483493925
def tw5264800532873318953:=zo
def te5264800532873318953:=zq tw5264800532873318953
def tw14225263168347643204:=zo
def te14225263168347643204:=zq tw14225263168347643204
def tw12062799336449869240:=zs
def te12062799336449869240:=zq tw12062799336449869240
def tw7589257156378385371:=zs
def te7589257156378385371:=zq tw7589257156378385371
def tw8849395949425528869:=zs
def te8849395949425528869:=zq tw8849395949425528869
def tw7695896984275283696:=zs
def te7695896984275283696:=zq tw7695896984275283696
def tw8859214887880462432:=zs
def te8859214887880462432:=zq tw8859214887880462432
def tw5232557897453383212:=zo
def te5232557897453383212:=zq tw5232557897453383212
def tw11904683931867977143:=zo
def te11904683931867977143:=zq tw11904683931867977143
def tw6093430895056669732:=zo
def te6093430895056669732:=zq tw6093430895056669732
def tw3084758374108866256:=zo
def te3084758374108866256:=zq tw3084758374108866256
def tw9545899389234019598:=zo
def te9545899389234019598:=zq tw9545899389234019598
def tw2545473873128337507:=zo
def te2545473873128337507:=zq tw2545473873128337507
def tw5064606832323202284:=zo
def te5064606832323202284:=zq tw5064606832323202284
def tw8153245289987412354:=zo
def te8153245289987412354:=zq tw8153245289987412354
def tw2100566364066786556:=zo
def te2100566364066786556:=zq tw2100566364066786556
def tw14378028604620786207:=zo
def te14378028604620786207:=zq tw14378028604620786207
def tw7066871053061065238:=zo
def te7066871053061065238:=zq tw7066871053061065238
def tw620775673941741349:=zo
def te620775673941741349:=zq tw620775673941741349
def tw1022231539169193241:=zo
def te1022231539169193241:=zq tw1022231539169193241
def tw7519244178840294786:=zo
def te7519244178840294786:=zq tw7519244178840294786
def tw7877929846243017016:=zo
def te7877929846243017016:=zq tw7877929846243017016
def tw15654913031606817968:=zo
def te15654913031606817968:=zq tw15654913031606817968
def tw12006818192301390044:=zo
def te12006818192301390044:=zq tw12006818192301390044
def tw55182242836483286:=zo
def te55182242836483286:=zq tw55182242836483286
def tw6798041096086214440:=zo
def te6798041096086214440:=zq tw6798041096086214440
def tw8102986114714014074:=zo
def te8102986114714014074:=zq tw8102986114714014074
def tw4852729776116538490:=zo
def te4852729776116538490:=zq tw4852729776116538490
def tw12347902675171542602:=zo
def te12347902675171542602:=zq tw12347902675171542602
def tw8068390020957942641:=zo
def te8068390020957942641:=zq tw8068390020957942641
def tw13829137798923309491:=zo
def te13829137798923309491:=zq tw13829137798923309491
def tw9175159271115559950:=zo
def te9175159271115559950:=zq tw9175159271115559950
def tw5680561719264501168:=zo
def te5680561719264501168:=zq tw5680561719264501168
def tw9245559724429878379:=zo
def te9245559724429878379:=zq tw9245559724429878379
def tw12850145516353391695:=zo
def te12850145516353391695:=zq tw12850145516353391695
def tw11974267357984517684:=zo
def te11974267357984517684:=zq tw11974267357984517684
def tw11147716207264670730:=zo
def te11147716207264670730:=zq tw11147716207264670730
def tw17724560373486109634:=zo
def te17724560373486109634:=zq tw17724560373486109634
def tw13031611577088040106:=zo
def te13031611577088040106:=zq tw13031611577088040106
def tw11837761387081711009:=zo
def te11837761387081711009:=zq tw11837761387081711009
def tw16528722297881099782:=zo
def te16528722297881099782:=zq tw16528722297881099782
def tw17777646566539387886:=zo
def te17777646566539387886:=zq tw17777646566539387886
def tw7276027752457091252:=zo
def te7276027752457091252:=zq tw7276027752457091252
def tw4727292718262511895:=zo
def te4727292718262511895:=zq tw4727292718262511895
def tw1982911015207565319:=zo
def te1982911015207565319:=zq tw1982911015207565319
def tw950565616914395356:=zo
def te950565616914395356:=zq tw950565616914395356
def tw12928166393717733429:=zo
def te12928166393717733429:=zq tw12928166393717733429
def tw6623115700509335111:=zo
def te6623115700509335111:=zq tw6623115700509335111
def tw6146129078127341751:=zo
def te6146129078127341751:=zq tw6146129078127341751
def tw9568602935744801574:=zo
def te9568602935744801574:=zq tw9568602935744801574
def tw9895542933581506095:=zo
def te9895542933581506095:=zq tw9895542933581506095
def tw792857430831672398:=zo
def te792857430831672398:=zq tw792857430831672398
def tw14907076596415487703:=zo
def te14907076596415487703:=zq tw14907076596415487703
def tw10415893995420062037:=zo
def te10415893995420062037:=zq tw10415893995420062037
def tw10701209852894608713:=zo
def te10701209852894608713:=zq tw10701209852894608713
def tw8790859760346934729:=zo
def te8790859760346934729:=zq tw8790859760346934729
def tw8864153545291393358:=zo
def te8864153545291393358:=zq tw8864153545291393358
def tw1025764230455896126:=zo
def te1025764230455896126:=zq tw1025764230455896126
def tw5480075693873397450:=zo
def te5480075693873397450:=zq tw5480075693873397450
def tw10310251284036669694:=zo
def te10310251284036669694:=zq tw10310251284036669694
def tw5333811958915504970:=zo
def te5333811958915504970:=zq tw5333811958915504970
def tw8463193229031415918:=zo
def te8463193229031415918:=zq tw8463193229031415918
def tw15347230409504130034:=zo
def te15347230409504130034:=zq tw15347230409504130034
def tw3536211513139332122:=zo
def te3536211513139332122:=zq tw3536211513139332122
def tw10038501005175163197:=zo
def te10038501005175163197:=zq tw10038501005175163197
def tw6745853038771893401:=zo
def te6745853038771893401:=zq tw6745853038771893401
def tw13531864511494037500:=zo
def te13531864511494037500:=zq tw13531864511494037500
def tw9452113902004455933:=zo
def te9452113902004455933:=zq tw9452113902004455933
def tw3319210106767612447:=zo
def te3319210106767612447:=zq tw3319210106767612447
def tw15150734810898694930:=zo
def te15150734810898694930:=zq tw15150734810898694930
def tw3553939659451100455:=zo
def te3553939659451100455:=zq tw3553939659451100455
def tw8292926869440904881:=zo
def te8292926869440904881:=zq tw8292926869440904881
def tw15063963849850002691:=zs
def te15063963849850002691:=zq tw15063963849850002691
def tw7868968619473669551:=zo
def te7868968619473669551:=zq tw7868968619473669551
def tw12781779441413664498:=zo
def te12781779441413664498:=zq tw12781779441413664498
def tw7236657051449169114:=zo
def te7236657051449169114:=zq tw7236657051449169114
def tw15201515140432082082:=zo
def te15201515140432082082:=zq tw15201515140432082082
def tw1524040216760083848:=zo
def te1524040216760083848:=zq tw1524040216760083848
def tw5790052832153927183:=zo
def te5790052832153927183:=zq tw5790052832153927183
def tw11914922867021355824:=zo
def te11914922867021355824:=zq tw11914922867021355824
def tw6114894624213268547:=zo
def te6114894624213268547:=zq tw6114894624213268547
def tw13573891865680658733:=zo
def te13573891865680658733:=zq tw13573891865680658733
end
end PySem.W.Fast
set_option maxRecDepth 100000 in
set_option maxHeartbeats 0 in
theorem PySem.Challenge.cw_lentshelf_k33_papers_refused_holds : PySem.Challenge.rw_lentshelf_k33_papers_refused.Holds := by
 w_on; o_law; k_head; (case hw=>w_witness2)
 k_fill
 refine K33.aGe (l:=PySem.Challenge.rw_lentshelf_k33_papers_refused) rfl rfl (fun w h Y=>PySem.W.kIn_of Y) ?F
 case F =>
  intro w mg fa h KX G hmg
  refine' K33.aQl KX G hmg ?t ?aL ?oL ?rL ?gL ?iL ?tL ?aBadText ?xBadText ?jBadText_ ?bBadText ?aNoDeed ?xNoDeed ?jNoDeed_ ?bNoDeed ?aNoInverse ?xNoInverse ?jNoInverse_ ?bNoInverse ?aNoMove ?xNoMove ?jNoMove_ ?bNoMove ?aNoPaper ?xNoPaper ?jNoPaper_ ?bNoPaper ?lNoPaper ?cNoPaper ?kNoPaper ?tNoPaper ?nNoPaper ?sNoPaper ?qNoPaper ?aNoRest ?xNoRest ?bNoRest ?aNoRoot ?xNoRoot ?jNoRoot_ ?bNoRoot ?aNoRow ?xNoRow ?bNoRow ?aTooMany ?xTooMany ?jTooMany_ ?bTooMany
  (case t=>constructor <;> first | (refine' EV.Dk.mk ?a ?l ?c ?k; (case a=>k_is); (case l=>k_is); (case c=>k_is); (case k=>k_is)) | (refine' EV.Dd.mk ?a ?l ?c ?k ?d; (case a=>k_is); (case l=>k_is); (case c=>k_is); (case k=>k_is); (case d=>k_is)) | k_is)
  (case aL=>k_is)
  (case oL=>kernel_rfl)
  (case rL=>k_is)
  (case gL=>k_is)
  (case iL=>k_is)
  (case tL=>kernel_rfl)
  (case aBadText=>k_is)
  (case xBadText=>kernel_rfl)
  (case jBadText_=>k_is)
  (case bBadText=>kernel_rfl)
  (case aNoDeed=>k_is)
  (case xNoDeed=>kernel_rfl)
  (case jNoDeed_=>k_is)
  (case bNoDeed=>kernel_rfl)
  (case aNoInverse=>k_is)
  (case xNoInverse=>kernel_rfl)
  (case jNoInverse_=>k_is)
  (case bNoInverse=>kernel_rfl)
  (case aNoMove=>k_is)
  (case xNoMove=>kernel_rfl)
  (case jNoMove_=>k_is)
  (case bNoMove=>kernel_rfl)
  (case aNoPaper=>k_is)
  (case xNoPaper=>kernel_rfl)
  (case jNoPaper_=>k_is)
  (case bNoPaper=>kernel_rfl)
  (case lNoPaper=>k_is)
  (case cNoPaper=>k_is)
  (case kNoPaper=>k_is)
  (case tNoPaper=>k_is)
  (case nNoPaper=>k_is)
  (case sNoPaper=>k_is)
  (case qNoPaper=>k_is)
  (case aNoRest=>k_is)
  (case xNoRest=>kernel_rfl)
  (case bNoRest=>kernel_rfl)
  (case aNoRoot=>k_is)
  (case xNoRoot=>kernel_rfl)
  (case jNoRoot_=>k_is)
  (case bNoRoot=>kernel_rfl)
  (case aNoRow=>k_is)
  (case xNoRow=>kernel_rfl)
  (case bNoRow=>kernel_rfl)
  (case aTooMany=>k_is)
  (case xTooMany=>kernel_rfl)
  (case jTooMany_=>k_is)
  (case bTooMany=>kernel_rfl)

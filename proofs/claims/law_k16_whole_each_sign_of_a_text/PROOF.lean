import PyProof.Rows.All
import Wide.All
import OpenK.AllK
import Wide.FinOn
import Lean
import PyProof.EqAt
import PyProof.EqKinds
import PyProof.TupleCall
import PySem.Challenge.RW_lentshelf_k16_whole_each_sign_of_a_text
set_option Elab.async false
set_option linter.all false
set_option bootstrap.genMatcherCode false
set_option maxRecDepth 100000
section
open PySem.W (Frag fnOf keepIn nsIn codeIn)
section
open PySem PySem.Spec PyProof.Rows
def aAA:=@Heap.get?_push_of_some
def aAB:=@wpAny_bind
def aAC:=@List.take_length
def aAD:=@wpAny_pure
def aAE:=@List.getElem?_eq_some_iff
def aAF:=@Heap.lt_size
def aAG:=@Heap.get?_push_size
def aAH:=@if_pos
def aAI:=@Nat.le_refl
def aAJ:=@List.size_toArray
def aAK:=@List.length_map
def aAL:=@if_neg
def aAM:=@PySem.W.mg_of
def aAN:=@Nat.ne_of_lt
def aAO:=@List.mem_cons
def aAP:=@Nat.lt_of_lt_of_le
def aAQ:=@Option.some.injEq
def aAR:=@Option.map_eq_some_iff
def aAS:=@PySem.boot_len
def aAT:=@sizeLine_eq
def aAU:=@decide_eq_true_eq
def aAV:=@List.map_cons
def aAW:=@Heap.size_push
def aAX:=@List.getElem?_append_left
def aAY:=@wpAny_holding
def aAZ:=@wpAny_field
def aBA:=@Bool.false_ne_true
def aBB:=@List.length_append
def aBC:=@List.all_eq_true
def aBD:=@Nat.le_trans
def aBE:=@List.mem_map
def aBF:=@Int.toNat_natCast
def aBG:=@Bool.false_eq_true
def aBH:=@List.mem_append
def aBI:=@decide_eq_false
def aBJ:=@List.length_cons
def aBK:=@wpAny_loadPart'
def aBL:=@Nat.ne_of_gt
def aBM:=@Bool.and_eq_true
def aBN:=@List.getElem?_map
def aBO:=@List.mem_singleton
def aBP:=@PySem.W.mg_none_of
def aBQ:=@wpAny_callSpecial?_slot
def aBR:=@List.mem_cons_of_mem
def aBS:=@List.getElem?_set_ne
def aBT:=@List.getElem?_set_self
def aBU:=@wpAny_setField_rec
def aBV:=@List.mem_append_right
def aBW:=@List.not_mem_nil
def aBX:=@wpAny_call_entry
def aBY:=@List.mem_of_mem_take
def aBZ:=@Classical.byContradiction
def aCA:=@List.drop_eq_getElem_cons
def aCB:=@Int.emod_lt_of_pos
def aCC:=@PyProof.Rows.slot_tuple_getitem
def aCD:=@List.mem_of_getElem?
def aCE:=@List.drop_eq_nil_of_le
def aCF:=@Array.getElem?_eq_getElem
def aCG:=@List.filterMap_cons
def aCH:=@List.length_range
def aCI:=@of_decide_eq_true
def aCJ:=@wpAny_mono
def aCK:=@Heap.get?_update_self
def aCL:=@List.map_map
def aCM:=@PySem.W.kia_one
def aCN:=@List.getElem?_append_right
def aCO:=@List.take_of_length_le
def aCP:=@Heap.get?_update_other
def aCQ:=@List.take_add_one
def aCR:=@wpAny_newObj_type
def aCS:=@wpAny_pyIter_list
def aCT:=@List.replicate_succ
def aCU:=@Int.emod_nonneg
def aCV:=@wpAny_Call_Name_kw
def aCW:=@of_decide_eq_false
def aCX:=@List.lookup_cons
def aCY:=@List.all_cons
def aCZ:=@call_meets
def aDA:=@F.slot_zip_next
def aDB:=@PyProof.Rows.callWith_type1
def aDC:=@List.filter_append
def aDD:=@wpAny_seqItems
def aDE:=@List.pairwise_iff_getElem
def aDF:=@Option.isSome_iff_exists
def aDG:=@codeAny_call_builtin
def aDH:=@wpAny_truthy_bool
def aDI:=@if_true
def aDJ:=@wpAny_loadPart_at
def aDK:=@List.any_cons
def aDL:=@wpAny_standAt
def aDM:=@wpAny_attempt
def aDN:=@List.eq_nil_of_length_eq_zero
def aDO:=@wpAny_setField
def aDP:=@List.length_take
def aDQ:=@List.mem_cons_self
def aDR:=@wpAny_pyIter_tuple
def aDS:=@List.length_filter_le
def aDT:=@F.slot_enumerate_next
def aDU:=@List.append_nil
def aDV:=@wpAny_passesOwn
def aDW:=@List.getElem?_eq_none
def aDX:=@if_false
def aDY:=@F.slot_tuple_iterator_next
def aDZ:=@Nat.lt_irrefl
def aEA:=@List.mem_iff_getElem
def aEB:=@wpAny_rule
def aEC:=@Bool.and_false
def aED:=@or_false
def aEE:=@List.getElem_mem
def aEF:=@List.getElem?_eq_getElem
def aEG:=@List.takeWhile_cons
def aEH:=@PySem.mem_of_lookup
def aEI:=@List.takeWhile_append_dropWhile
def aEJ:=@Int.dvd_mul_of_dvd_left
def aEK:=@PySem.F.plainAttrs_list
def aEL:=@List.find?_cons
def aEM:=@beq_iff_eq
def aEN:=@wpAny_execs_nil
def aEO:=@Option.map_some
def aEP:=@List.forIn_cons
def aEQ:=@wpAny_call
def aER:=@PySem.F.slot_str_split
def aES:=@List.range_succ_eq_map
def aET:=@List.flatten_cons
def aEU:=@List.length_replicate
def aEV:=@wpAny_typeOf
def aEW:=@codeAny_mono
def aEX:=@List.filterMap_append
def aEY:=@List.getElem?_concat_length
def aEZ:=@List.cons_append
def aFA:=@F.args_object_init_3
def aFB:=@Heap.get?_none_of_le
def aFC:=@Nat.lt_succ_self
def aFD:=@List.mem_of_mem_drop
def aFE:=@F.slot_tuple_mul
def aFF:=@Array.getElem?_eq_some_iff
def aFG:=@Nat.le_succ
def aFH:=@wpAny_isSubtype_exc
def aFI:=@List.dropWhile_cons
def aFJ:=@Array.length_toList
def aFK:=@List.length_pos_iff
def aFL:=@F.plain_extend_loop
def aFM:=@List.map_congr_left
def aFN:=@wpAny_updateSeq
def aFO:=@codeAny_builtin
def aFP:=@PySem.F.args_tuple_add_2
def aFQ:=@PySem.F.args_str_split_2
def aFR:=@Calls.spliced_cons
def aFS:=@List.filterMap_map
def aFT:=@Code.quiet_builtin
def aFU:=@List.drop_zero
def aFV:=@decide_eq_true
def aFW:=@typeIs_str
def aFX:=@PySem.F.entry_tuple_add
def aFY:=@PySem.F.entry_str_split
def aFZ:=@decide_eq_false_iff_not
def aGA:=@Nat.lt_succ_of_lt
def aGB:=@Int.emod_eq_of_lt
def aGC:=@Function.comp_def
def aGD:=@F.args_zip_next_1
def aGE:=@PySem.F.slot_tuple_add
def aGF:=@Calls.callWith_builtin
def aGG:=@Nat.zero_le
def aGH:=@PySem.F.plainAttrs_str
def aGI:=@Bool.or_false
def aGJ:=@List.length_drop
def aGK:=@F.entry_zip_next
def aGL:=@F.typeCall_zip_2
def aGM:=@Option.bind_some
def aGN:=@beq_self_eq_true
def aGO:=@AutoSeq1.idx_int
def aGP:=@Array.getElem?_toList
def aGQ:=@F.newCall_zip_2
def aGR:=@List.mem_filter
def aGS:=@Bool.eq_iff_iff
def aGT:=@List.length_nil
def aGU:=@wpAny_updateSeq_pair
def aGV:=@F.slot_int_rmul
def aGW:=@wpAny_ite_false
def aGX:=@F.entry_zip_new
def aGY:=@Bool.or_eq_false_iff
def aGZ:=@List.range_succ
def aHA:=@List.nodup_cons
def aHB:=@Array.getElem?_push
def aHC:=@List.forIn_nil
def aHD:=@wpAny_letGo
def aHE:=@PySem.W.callWith_K
def aHF:=@List.mem_replicate
def aHG:=@F.called_enumerate
def aHH:=@false_iff
def aHI:=@assignInOrder_cons
def aHJ:=@Option.isNone_some
def aHK:=@F.args_tuple_mul_2
def aHL:=@List.getElem?_take
def aHM:=@List.mem_filterMap
def aHN:=@wpAny_onRaise
def aHO:=@F.entry_tuple_mul
def aHP:=@Calls.spliced_nil
def aHQ:=@slot_list_getitem
def aHR:=@Array.size_append
def aHS:=@typeIs_int
abbrev aHT:List Str:=["text","at"]
abbrev aHU:List Str:=["text","most"]
abbrev aHV:List Str:=["n","givens","shelves","deed"]
abbrev aHW:List Str:=["numbers","many"]
abbrev aHX:List Str:=["shelf","number","words"]
abbrev aHY:List Str:=["letter","word"]
abbrev aHZ:List Str:=["_law_script","_law_k"]
abbrev aIA:List Str:=["_law_box_here","_law_many"]
abbrev aIB:List Str:=["_law_box_here"]
abbrev aIC:List Str:=["_law_box_here","_law_n_here"]
abbrev aID:List Str:=["_law_one","_law_other"]
abbrev aIE:List Str:=["_law_box_here","_law_n_here","_law_givens","_law_shelves"]
abbrev aIF:List Str:=["_law_box_here","_law_n_here","_law_givens","_law_shelves","_law_most"]
abbrev aIG:List Str:=["_law_n_here","_law_givens","_law_shelves","_law_deed_here"]
abbrev aIH:List Str:=["_law_word"]
abbrev aII:List Str:=["_law_row"]
abbrev aIJ:List Str:=["_law_text"]
abbrev aIK:List Str:=["_law_program"]
abbrev aIL:List Str:=["_law_found","_law_due"]
abbrev aIM:List Str:=["_law_script"]
abbrev aIN:List Str:=["self","row"]
abbrev aIO:List Str:=["program","n","givens","shelves","deeds","rows"]
abbrev aIP:List Str:=["row","words","numbers","n","givens","shelves"]
abbrev aIQ:List Str:=["shelf","number","words","many","gs","ts"]
abbrev aIR:List Str:=["_law_box_here","_law_n_here","_law_givens","_law_shelves","_law_ks","_law_mode","_law_many","_law_gs","_law_others","_law_ts"]
abbrev aIS:List Str:=["_law_n_here","_law_givens","_law_shelves","_law_deed_here","_law_numbers","_law_many"]
abbrev aIT:List Str:=["_law_row","_law_pieces","_law_n_here","_law_givens","_law_shelves"]
abbrev aIU:List Str:=["_law_row","_law_pieces","_law_numbers","_law_letters","_law_many"]
abbrev aIV:List Str:=["_law_program","_law_n_here","_law_givens","_law_shelves","_law_deeds","_law_rows","_law_deed_here","_law_factors"]
abbrev aIW:List Str:=["_law_script","_law_box_here","_law_n_here","_law_givens","_law_shelves","_law_text","_law_texts","_law_at","_law_way"]
abbrev aIX:List Str:=["_law_k","_law_box_here","_law_givens"]
abbrev aIY:List Str:=["_law_k","_law_others","_law_box_here"]
end
variable{xs ys items:Array PySem.Value}{us its bm:List PySem.Value}{x y name qual cn ff:PySem.Str}{u u2:PySem.Value}{a it C dx fI LE Dc src z l1 l2:PySem.Addr}{P:PySem.Program}{w:PySem.World}{h h' base:PySem.Heap}{α β:Type}{pins:List (PySem.Addr×PySem.Obj)}{s s' s₂:PySem.Shared}{t' i j c n m S most:Nat}{ch fp μ μ1:List PySem.Addr}{N ps loose Nc cns:List PySem.Str}{A A':PySem.Around}{Q:PySem.Value->PySem.Shared->Prop}{pos pos' p tpos apos p2 cpos q pos2:PySem.Pos}{K:Frag}{st:PySem.Stmt}{op:PySem.CmpOp}{body:List PySem.Stmt}{lo hi:Option Int}{mA mg mN:PySem.Str->Option PySem.Value}{env:PySem.Env}{kw:List (PySem.Str×PySem.Value)}{fd:PySem.FuncData}{outer:List PySem.Env}{kindOf:PySem.Str->Option PySem.NameKind}{cd:PySem.ClassData}{od:Option PySem.Obj}{osl sl:Array (Option PySem.Value)}{ws rs ts:List (List Nat)}{l acc:List Nat}{XP:(PySem.Str->Option PySem.Value)->PySem.Heap->Prop}{YP:PySem.World->PySem.Heap->Prop}{d:Option PySem.Addr}{ns:List Int}{js os:List (Option Nat)}{cl:List (PySem.Str×PySem.Addr)}{tn:Nat->PySem.Heap->Prop}{ini:Option PySem.Value}
section
open PySem PySem.Spec PyProof.Rows
namespace L2
noncomputable section
abbrev Key:=Sum Int Str
def keyIs:Key->Value->Bool
 |.inl k,v=>Value.isInt k v
 |.inr x,v=>Value.isStrOf x v
def keyH(w:World):Key->Int
 |.inl k=>hashInt k
 |.inr x=>hashStr w x
theorem cK:∀{k:Key} {v:Value},keyIs k v=true->(∃i t,k=Sum.inl i/\v=Value.int i t)\/(∃x t,k=Sum.inr x/\v=Value.str x t)
 |.inl i,v,h=>by
  obtain⟨t,e⟩:=Value.isInt_shape (k:=i) (v:=v) h
  exact .inl ⟨i,t,rfl,e⟩
 |.inr x,v,h=>by
  obtain⟨t,e⟩:=Value.isStrOf_shape (x:=x) (v:=v) h
  exact .inr ⟨x,t,rfl,e⟩
theorem aLs(a b:Int):decide ((Sum.inl a:Key)=Sum.inl b)=(a==b):=by
 by_cases e:a=b
 ·subst e;simp
 ·have h:¬(Sum.inl a:Key)=Sum.inl b:=λq=>e (Sum.inl.inj q)
  rw[aBI h]
  exact(beq_eq_false_iff_ne.mpr e).symm
theorem aOu(a b:Str):decide ((Sum.inr a:Key)=Sum.inr b)=decide (a=b):=by
 by_cases e:a=b
 ·subst e;simp
 ·have h:¬(Sum.inr a:Key)=Sum.inr b:=λq=>e (Sum.inr.inj q)
  rw[aBI h,aBI e]
theorem aOp(a:Int)(b:Str):decide ((Sum.inl a:Key)=Sum.inr b)=false:=aBI (λq=>nomatch q)
theorem aLz(a:Str)(b:Int):decide ((Sum.inr a:Key)=Sum.inl b)=false:=aBI (λq=>nomatch q)
def mixKind(prog:Program)(w:World):PySem.KeyKind prog w Key where
 is:=keyIs
 hash:=keyH w
 inj:=λv a b ha hb=>by
  rcases cK ha with⟨i,t,rfl,rfl⟩|⟨x,t,rfl,rfl⟩
  ·rcases cK hb with⟨j,u,rfl,e⟩|⟨y,u,rfl,e⟩
   ·injection e with e1 _;rw[e1]
   ·exact nomatch e
  ·rcases cK hb with⟨j,u,rfl,e⟩|⟨y,u,rfl,e⟩
   ·exact nomatch e
   ·injection e with e1 _;rw[e1]
 byValue:=λk v h=>by
  rcases cK h with⟨i,t,rfl,rfl⟩|⟨x,t,rfl,rfl⟩ <;> rfl
 pyHash:=λhv h=>by
  rcases cK hv with⟨i,t,rfl,rfl⟩|⟨x,t,rfl,rfl⟩
  ·exact wpAny_pyHash_int h
  ·exact wpAny_pyHash_str h
 eqBool:=λhu hv h=>by
  rcases cK hu with⟨i,t,rfl,rfl⟩|⟨x,t,rfl,rfl⟩
  ·rcases cK hv with⟨j,u,rfl,rfl⟩|⟨y,u,rfl,rfl⟩
   ·rw[aLs]at h;exact wpAny_eqBool_int h
   ·rw[aOp]at h;exact SeqAt.EqAt.int_str i t y u _ _ _ _ h
  ·rcases cK hv with⟨j,u,rfl,rfl⟩|⟨y,u,rfl,rfl⟩
   ·rw[aLz]at h;exact SeqAt.EqAt.str_int x t j u _ _ _ _ h
   ·rw[aOu]at h;exact wpAny_eqBool_str h
 «strs»:=λk x t v h=>by
  rcases cK h with⟨i,u,rfl,e⟩|⟨y,u,rfl,e⟩
  ·exact nomatch e
  ·injection e with e1 _
   subst e1
   cases v <;> rfl
end
inductive V where
 |non|bl (b:Bool)|int (i:Int)|str (x:Str)|byt (b:Array UInt8)|flt (b:UInt64)|ref (a:Addr)|ty (n:String)
 deriving DecidableEq
noncomputable section
def RelV:V->Value->Prop
 |.non,u=>u=Value.none
 |.bl b,u=>u=Value.bool b
 |.int i,u=>∃t,u=Value.int i t
 |.str x,u=>∃t,u=Value.str x t
 |.byt b,u=>∃t,u=Value.bytes b t
 |.flt b,u=>∃t,u=Value.float b t
 |.ref a,u=>u=Value.ref a
 |.ty n,u=>u=Value.type n
abbrev Vals:List V->List Value->Prop:=Paired RelV
theorem Vals.length{xs:List V}{us:List Value}(r:Vals xs us):xs.length=us.length:=Paired.length r
theorem Vals.get:∀{xs:List V} {us:List Value} {i:Nat} {x:V},Vals xs us->xs[i]?=some x->∃u,us[i]?=some u/\RelV x u
 |_,_,_,_,.nil,e=>by simp at e
 |_,_,0,_,.cons r _,e=>by simp at e;subst e;exact⟨_,rfl,r⟩
 |_,_,i+1,x,.cons _ t,e=>by
  obtain⟨u,h1,h2⟩:=Vals.get (i:=i) (x:=x) t (by simpa using e)
  exact⟨u,by simpa using h1,h2⟩
theorem Vals.set{x:V}{u:Value}(r:RelV x u):∀{xs:List V} {us:List Value} (i:Nat),Vals xs us->Vals (xs.set i x) (us.set i u)
 |_,_,_,.nil=>.nil
 |_,_,0,.cons _ t=>.cons r t
 |_,_,i+1,.cons q t=>.cons q (Vals.set r i t)
theorem Vals.append:∀{xs ys:List V} {us ws:List Value},Vals xs us->Vals ys ws->Vals (xs++ys) (us++ws)
 |_,_,_,_,.nil,s=>s
 |_,_,_,_,.cons r t,s=>.cons r (Vals.append t s)
theorem Vals.take:∀{xs:List V} {us:List Value} (n:Nat),Vals xs us->Vals (xs.take n) (us.take n)
 |_,_,0,_=>.nil
 |_,_,_+1,.nil=>.nil
 |_,_,n+1,.cons r t=>.cons r (Vals.take n t)
theorem Vals.drop:∀{xs:List V} {us:List Value} (n:Nat),Vals xs us->Vals (xs.drop n) (us.drop n)
 |_,_,0,r=>r
 |_,_,_+1,.nil=>.nil
 |_,_,n+1,.cons _ t=>Vals.drop n t
def RelO:Option V->Option Value->Prop
 |some v,some u=>RelV v u
 |none,none=>True
 |_,_=>False
def KV{κ:Type}:List (κ×V)->List (κ×Value)->Prop:=Paired λ(p:κ×V) (q:κ×Value)=>p.1=q.1/\RelV p.2 q.2
def kV:Key->V
 |.inl i=>.int i
 |.inr x=>.str x
end
inductive HO where
 |lst (xs:List V)
 |tup (xs:List V)
 |dK (kvs:List (Key×V))|dT (kvs:List (List Key×V))
 |set (S:Int->Bool) (n:Nat)
 |ins (C dx:Addr) (fs:List (Str×V))
 |own (x:Addr)
 |xd (fs:List (Str×V))
 |met (f x:Addr)
 |rng (lo hi:Int)
 |frz (o:Obj) (u:HO)
 |tbl (ps:Array Value)
 |ext (φ:Heap->Prop)
noncomputable abbrev Hp:=Addr->Option HO
noncomputable def upd(H:Hp)(a:Addr)(o:HO):Hp:=λb=>if b=a then some o else H b
variable{H:Hp}{o:HO}
theorem bB :upd H a o a=some o:=by unfold upd;rw[aAH rfl]
variable{b:Addr}
theorem aU(h:b≠a):upd H a o b=H b:=by unfold upd;rw[aAL h]
variable{u:HO}
theorem aJp :upd (upd H a o) a u=upd H a u:=by
 funext b;unfold upd;split <;> rfl
theorem bE(h:H a=some o)(h':H b=none):a≠b:=by
 intro e;subst e;rw[h]at h';cases h'
section
variable(P:Program)(w:World)
noncomputable def ObjOk(H:Hp)(h:Heap)(a:Addr):HO->Prop
 |.lst xs=>xs.length<=sizeLine/\∃(its:List Value) (n:Nat),Vals xs its/\h.get? a=some {cls:=.type "list",data:=.seq its.toArray n}
 |.tup xs=>xs.length<=sizeLine/\∃its:List Value,Vals xs its/\IsTup h a its.toArray
 |.dK kvs=>kvs.length<=sizeLine/\(a==sysModules)=false/\∃vs,KV kvs vs/\h.DictOf (mixKind P w) a vs
 |.dT kvs=>kvs.length<=sizeLine/\(a==sysModules)=false/\∃xs:List (List Key×Addr×Value),
   Paired (λ(p:List Key×V) (q:List Key×Addr×Value)=>p.1=q.1/\H q.2.1=some (.tup (p.1.map kV))/\RelV p.2 q.2.2) kvs xs /\
   ∃o es ep,h.get? a=some o/\o.ExactDict/\o.data=.dict es ep/\es.toList=xs.map (entryOfKey (tupleKind (mixKind P w)))/\(xs.map (·.1)).Nodup
 |.set S n=>h.SetOf (intKind P w) a S n
 |.ins C dx fs=>H dx=some (.own a)/\fs.length<=1000/\dx≠a/\h.get? a=some (PySem.W.instObj C dx) /\
   ∃mA,h.Ns1 dx mA/\(∀f,RelO (fs.lookup f) (mA f))/\PySem.Within mA (fs.map (·.1))
 |.own _=>∃o,h.get? a=some o
 |.xd fs=>∃mA,h.Ns1 a mA/\∀f,RelO (fs.lookup f) (mA f)
 |.rng lo hi=>∃t u v,h.get? a=some {cls:=.type "range",data:=.fields #[.int lo t,.int hi u,.int 1 v]}
 |.frz o u=>h.get? a=some o/\ObjOk H h a u
 |.tbl ps=>h.get? a=some {cls:=.none,data:=.fields ps}
 |.met f x=>h.get? a=some (PySem.W.methodObj (.ref f) (.ref x))
 |.ext φ=>φ h/\(∃o,h.get? a=some o)/\∀h1 h2:Heap,φ h1->(∀o,h1.get? a=some o->h2.get? a=some o)->φ h2
noncomputable def HOk(H:Hp)(h:Heap):Prop:=∀a o,H a=some o->ObjOk P w H h a o
end
variable{H':Hp}
theorem ObjOk.lt(x:ObjOk P w H h a o):a < h.objs.size:=by
 cases o with
 |lst xs=>obtain⟨_,_,_,_,e⟩:=x;exact aAF e
 |tup xs=>obtain⟨_,_,_,p⟩:=x;exact p.lt
 |dK kvs=>obtain⟨_,_,_,_,o,_,_,e,_⟩:=x;exact aAF e
 |dT kvs=>obtain⟨_,_,_,_,o,_,_,e,_⟩:=x;exact aAF e
 |set S n=>obtain⟨o,_,_,_,e,_⟩:=x;exact aAF e
 |ins C dx fs=>obtain⟨_,_,_,e,_⟩:=x;exact aAF e
 |own y=>obtain⟨_,e⟩:=x;exact aAF e
 |xd fs=>obtain⟨_,⟨_,_,_,e,_⟩,_⟩:=x;exact aAF e
 |rng lo hi=>obtain⟨_,_,_,e⟩:=x;exact aAF e
 |frz ob u=>obtain⟨e,_⟩:=x;exact aAF e
 |tbl ps=>exact aAF (show h.get? a=some _ from x)
 |met f y=>exact aAF (show h.get? a=some _ from x)
 |ext φ=>obtain⟨_,⟨_,e⟩,_⟩:=x;exact aAF e
theorem Paired.mapP{α β:Type}{F G:α->β->Prop}:∀{l₁:List α} {l₂:List β},Paired F l₁ l₂->(∀a b,F a b->G a b)->Paired G l₁ l₂
 |_,_,.nil,_=>.nil
 |_,_,.cons r t,f=>.cons (f _ _ r) (Paired.mapP t f)
theorem ObjOk.stay(x:ObjOk P w H h a o)(k:∀b u,(b=a\/H b=some (.own a))->h.get? b=some u->h'.get? b=some u)
  (ho:∀b,H b=some (.own a)->H' b=some (.own a))(ht:∀b xs,H b=some (.tup xs)->H' b=some (.tup xs)):ObjOk P w H' h' a o:=by
 induction o with
 |lst xs=>obtain⟨z,its,n,r,e⟩:=x;exact⟨z,its,n,r,k _ _ (.inl rfl) e⟩
 |tup xs=>obtain⟨z,its,r,ob,e,c⟩:=x;exact⟨z,its,r,ob,k _ _ (.inl rfl) e,c⟩
 |dK kvs=>obtain⟨z,y,vs,r,ob,es,ep,e,c⟩:=x;exact⟨z,y,vs,r,ob,es,ep,k _ _ (.inl rfl) e,c⟩
 |dT kvs =>
  obtain⟨z,y,xs,r,ob,es,ep,e,c⟩:=x
  exact⟨z,y,xs,Paired.mapP r λp q z=>⟨z.1,ht _ _ z.2.1,z.2.2⟩,ob,es,ep,k _ _ (.inl rfl) e,c⟩
 |set S n=>obtain⟨ob,es,ep,t,e,c⟩:=x;exact⟨ob,es,ep,t,k _ _ (.inl rfl) e,c⟩
 |ins C dx fs =>
  obtain⟨d,z,ne,e,mA,⟨od,es,ep,e2,c⟩,r⟩:=x
  exact⟨ho _ d,z,ne,k _ _ (.inl rfl) e,mA,⟨od,es,ep,k _ _ (.inr d) e2,c⟩,r⟩
 |own y=>obtain⟨ob,e⟩:=x;exact⟨ob,k _ _ (.inl rfl) e⟩
 |xd fs=>obtain⟨mA,⟨od,es,ep,e,c⟩,r⟩:=x;exact⟨mA,⟨od,es,ep,k _ _ (.inl rfl) e,c⟩,r⟩
 |rng lo hi=>obtain⟨t,u,v,e⟩:=x;exact⟨t,u,v,k _ _ (.inl rfl) e⟩
 |frz ob u ih=>obtain⟨e,q⟩:=x;exact⟨k _ _ (.inl rfl) e,ih q⟩
 |tbl ps =>
  have e:h.get? a=some {cls:=.none,data:=.fields ps}:=x
  show h'.get? a=some {cls:=.none,data:=.fields ps}
  exact k a _ (.inl rfl) e
 |met f y =>
  have e:h.get? a=some (PySem.W.methodObj (.ref f) (.ref y)):=x
  show h'.get? a=some (PySem.W.methodObj (.ref f) (.ref y))
  exact k a _ (.inl rfl) e
 |ext φ=>obtain⟨p,⟨o,e⟩,st⟩:=x;exact⟨st _ _ p λo q=>k _ _ (.inl rfl) q,⟨o,k _ _ (.inl rfl) e⟩,st⟩
theorem HOk.lt(x:HOk P w H h)(e:H a=some o):a < h.objs.size:=(x a o e).lt
theorem HOk.fresh(x:HOk P w H h)(e:h.objs.size<=a):H a=none:=by
 cases q:H a with
 |none=>rfl
 |some u=>exact absurd (aAP (x.lt q) e) (aDZ _)
theorem HOk.kept(x:HOk P w H h)(k:∀b u,h.get? b=some u->h'.get? b=some u):HOk P w H h':=λa o e =>
 (x a o e).stay (λb u _ q=>k b u q) (λ_ q=>q) λ_ _ q=>q
theorem HOk.laid(x:HOk P w H h)(k:∀b u,h.get? b=some u->h'.get? b=some u)(hp:h.objs.size<=a)(new:ObjOk P w (upd H a o) h' a o):HOk P w (upd H a o) h':=λb u e=>by
 have hn:=x.fresh hp
 by_cases hb:b=a
 ·subst hb;rw[bB]at e;cases e;exact new
 ·rw[aU hb]at e
  exact(x b u e).stay (λc v _ q=>k c v q) (λc q=>by rw[aU (bE q hn)];exact q) λc xs q=>by rw[aU (bE q hn)];exact q
noncomputable def Rd(H:Hp)(a:Addr)(u:HO):Prop:=H a=some u\/∃o,H a=some (.frz o u)
theorem Rd.of(h:H a=some u):Rd H a u:=.inl h
theorem Rd.ok(r:Rd H a u)(x:HOk P w H h):ObjOk P w H h a u:=by
 rcases r with r|⟨o,r⟩
 ·exact x a u r
 ·obtain⟨_,q⟩:=x a _ r
  exact q
noncomputable def Mut:Option HO->Prop
 |some (.lst _)=>True
 |some (.dK _)=>True
 |some (.dT _)=>True
 |some (.set _ _)=>True
 |some (.ins _ _ _)=>True
 |some (.ext _)=>True
 |_=>False
variable{x e:Addr}{o':HO}
theorem HOk.write(ok:HOk P w H h)(mu:Mut (H x))(he:e=x\/H e=some (.own x))(k:∀b u,b≠e->h.get? b=some u->h'.get? b=some u)(heo:∃u,h'.get? e=some u)
  (new:ObjOk P w (upd H x o') h' x o'):HOk P w (upd H x o') h':=λb u q=>by
 have nown:∀c y,H c=some (.own y)->c≠x:=λc y r z=>by subst z;rw[r]at mu;exact mu
 have ntup:∀c xs,H c=some (.tup xs)->c≠x:=λc xs r z=>by subst z;rw[r]at mu;exact mu
 by_cases hb:b=x
 ·subst hb;rw[bB]at q;cases q;exact new
 ·rw[aU hb]at q
  by_cases hbe:b=e
  ·have q':H b=some (.own x):=by
    rcases he with z|z
    ·exact absurd (hbe.trans z) hb
    ·rw[hbe];exact z
   rw[q]at q';cases q'
   obtain⟨v,hv⟩:=heo
   exact⟨v,by rw[hbe];exact hv⟩
  ·refine(ok b u q).stay (λc v hc r=>k c v ?_ r) (λc r=>by rw[aU (nown c b r)];exact r) λc xs r=>by rw[aU (ntup c xs r)];exact r
   rcases hc with rfl|hc
   ·exact hbe
   ·rintro rfl
    rcases he with z|z
    ·exact nown c b hc z
    ·rw[hc]at z;cases z;exact hb rfl
structure Un(fs ex:List Addr)(H H':Hp)(h h':Heap):Prop where
 keep:∀b o,h.get? b=some o->H b=none->b∉fs->b∉ex->h'.get? b=some o
 slot:∀b o,h.get? b=some o->H b=none->b∈fs->b∉ex->∃sl,h'.get? b=some {o with slots:=sl}
 free:∀b o,h.get? b=some o->H b=none->b∉ex->H' b=none
 there:∀b o,h.get? b=some o->b∉ex->∃o',h'.get? b=some o'
 tups:∀b xs,H b=some (.tup xs)->H' b=some (.tup xs)
 frzs:∀b o u,H b=some (.frz o u)->H' b=some (.frz o u)
 tbls:∀b ps,H b=some (.tbl ps)->∃more,H' b=some (.tbl (ps++more))
section
variable{fs fs' ex ex':List Addr}{H1 H2:Hp}{h1 h2:Heap}
theorem Un.any(u:Un fs ex H H1 h h1){ob:Obj}(q:h.get? b=some ob)(n:H b=none)(hx:b∉ex):∃sl,h1.get? b=some {ob with slots:=sl}:=by
 by_cases hb:b∈fs
 ·exact u.slot b ob q n hb hx
 ·exact⟨ob.slots,u.keep b ob q n hb hx⟩
theorem Un.trans(a:Un fs ex H H1 h h1)(b:Un fs ex H1 H2 h1 h2):Un fs ex H H2 h h2 where
 keep:=λc ob q n hc hx=>b.keep c ob (a.keep c ob q n hc hx) (a.free c ob q n hx) hc hx
 slot:=λc ob q n hc hx=>by
  obtain⟨sl,e1⟩:=a.slot c ob q n hc hx
  obtain⟨sl',e2⟩:=b.slot c _ e1 (a.free c ob q n hx) hc hx
  exact⟨sl',e2⟩
 free:=λc ob q n hx=>by
  obtain⟨o',e1⟩:=a.there c ob q hx
  exact b.free c o' e1 (a.free c ob q n hx) hx
 there:=λc ob q hx=>by
  obtain⟨o',e1⟩:=a.there c ob q hx
  exact b.there c o' e1 hx
 tups:=λc xs q=>b.tups c xs (a.tups c xs q)
 frzs:=λc ob xs q=>b.frzs c ob xs (a.frzs c ob xs q)
 tbls:=λc ps q=>by
  obtain⟨m1,e1⟩:=a.tbls c ps q
  obtain⟨m2,e2⟩:=b.tbls c _ e1
  exact⟨m1++m2,by rw[e2,Array.append_assoc]⟩
theorem Un.kept(k:∀b u,h.get? b=some u->h'.get? b=some u):Un fs ex H H h h' :=
 ⟨λb ob q _ _ _=>k b ob q,λb ob q _ _ _=>⟨ob.slots,k b ob q⟩,λ_ _ _ n _=>n,λb ob q _=>⟨ob,k b ob q⟩,λ_ _ q=>q,λ_ _ _ q=>q,λ_ ps q=>⟨#[],by rw[q];simp⟩⟩
theorem Un.refl:Un fs ex H H h h:=Un.kept λ_ _ q=>q
theorem Un.laid(k:∀b u,h.get? b=some u->h'.get? b=some u)(hp:h.objs.size<=a)(hn:H a=none):Un fs ex H (upd H a o) h h' where
 keep:=λb u q _ _ _=>k b u q
 slot:=λb u q _ _ _=>⟨u.slots,k b u q⟩
 free:=λb u q n _=>by rw[aU (aAN (aAP (aAF q) hp))];exact n
 there:=λb u q _=>⟨u,k b u q⟩
 tups:=λb xs q=>by rw[aU (bE q hn)];exact q
 frzs:=λb u xs q=>by rw[aU (bE q hn)];exact q
 tbls:=λb ps q=>⟨#[],by rw[aU (bE q hn),q];simp⟩
theorem Un.write(mu:Mut (H x))(he:e=x\/H e=some (.own x))(k:∀b u,b≠e->h.get? b=some u->h'.get? b=some u)(heo:∃u,h'.get? e=some u):Un fs ex H (upd H x o) h h':=by
 have hx:∀b,H b=none->b≠x:=λb n z=>by subst z;rw[n]at mu;exact mu
 have hb:∀b,H b=none->b≠e:=λb n z=>by
  subst z
  rcases he with r|r
  ·exact hx b n r
  ·rw[n]at r;cases r
 have hm:∀b u,H b=some u->¬Mut (some u)->b≠x:=λb u q nm z=>by subst z;rw[q]at mu;exact nm mu
 refine⟨λb u q n _ _=>k b u (hb b n) q,λb u q n _ _=>⟨u.slots,k b u (hb b n) q⟩,λb u q n _=>by rw[aU (hx b n)];exact n,λb u q _=>?_,
  λb xs q=>by rw[aU (hm b _ q λz=>z)];exact q,λb u xs q=>by rw[aU (hm b _ q λz=>z)];exact q,λb ps q=>⟨#[],by rw[aU (hm b _ q λz=>z),q];simp⟩⟩
 by_cases hbe:b=e
 ·subst hbe;exact heo
 ·exact⟨u,k b u hbe q⟩
end
noncomputable def trk(h:Heap)(H:Hp):List Addr:=(List.range h.objs.size).filter λa=>(H a).isSome
noncomputable def hidT(h:Heap)(H:Hp):Heap:=PySem.W.hideAll h (trk h H)
theorem aBo(h:Heap)(H:Hp):(hidT h H).objs.size=h.objs.size:=PySem.W.hideAll_size _ _
variable{o:Obj}
theorem aEs(e:h.get? b=some o)(n:H b=none):(hidT h H).get? b=some o :=
 PySem.W.hideAll_get _ e λhm=>by
  have q:(H b).isSome=true:=(aGR.mp hm).2
  rw[n]at q;simp at q
theorem aKs(e:(hidT h H).get? b=some o):h.get? b=some o/\H b=none:=by
 have e':h.get? b=some o:=PySem.W.of_hideAll (trk h H) e
 refine⟨e',?_⟩
 cases q:H b with
 |none=>rfl
 |some x =>
  have hm:b∈trk h H:=aGR.mpr ⟨List.mem_range.mpr (aAF e'),by simp[q]⟩
  have z:(hidT h H).get? b=none:=PySem.W.hideAll_none (trk h H) hm
  rw[z]at e;cases e
noncomputable def allNews(g h:Heap)(L:Addr):List (Addr×Obj):=(List.range h.objs.size).filterMap λa=>if a=L\/(g.get? a).isSome=true then none else(h.get? a).map λo=>(a,o)
noncomputable def rest(g h:Heap)(L d:Addr):List (Addr×Obj):=(allNews g h L).filter λp=>decide (p.1≠d)
structure Mod(K:Frag)(mg:Str->Option Value)(base:Heap):Prop where
 kin:K.In base
 glob:base.Ns mainGlobals mg
 blt:∃mb,base.Ns builtinsNs mb/\∀x:Str,x≠"__name__"->mb x=bootBuiltins x
 nolimit:base.NoLimit
structure Cx where
 prog:Program
 w:World
 K:Frag
 mg:Str->Option Value
 base:Heap
 A:Around
 N:List Str
 s₀:Shared
 H₀:Hp
 env:Env
 outer:List Env
 stack:List Env
 ex:List Addr
 fn:Str->Bool
 calm:Bool
 pn:List (Addr×Obj)
 xe:Value->Shared->Prop
noncomputable section
def frs(l:List Env):List Addr:=l.filterMap (·.frame)
abbrev Cx.fs(X:Cx):List Addr:=frs X.outer
def Vis(sc:Scope)(x:Str):Prop:=sc.names.lookup x=some .local\/sc.names.lookup x=some .cell\/sc.names.lookup x=some .free
def Loc(sc:Scope)(x:Str):Prop:=sc.names.lookup x=some .local\/sc.names.lookup x=some .cell
def Look(env:Env)(h:Heap)(m:Str->Option Value)(x:Str)(u:Value):Prop :=
 (env.kindOf x=some .local/\m x=some u)\/((env.kindOf x=some .cell\/env.kindOf x=some .free)/\∃c,env.cells.lookup x=some c/\h.IsCell c (some u))
end
structure Cx.Ok(X:Cx):Prop where
 mod:Mod X.K X.mg X.base
 kind:X.env.scope.kind=.function
 glob:X.env.globals=mainGlobals
 blt:X.env.builtins=builtinsNs
 above:X.s₀.heap.objs.size<=X.env.locals
 inj:∀x y c,X.env.cells.lookup x=some c->X.env.cells.lookup y=some c->x=y
 has:∀x,(X.env.kindOf x=some .cell\/X.env.kindOf x=some .free)->∃c,X.env.cells.lookup x=some c
 cab:∀x c,X.fn x=true->X.env.cells.lookup x=some c->X.s₀.heap.objs.size<=c
 hd:X.calm=true->X.A.handled=none
 frames:X.A.frames=some X.stack
 stk:X.stack=X.outer\/(X.stack=X.env::X.outer/\X.env.frame=some X.env.locals)
 exf:∀b∈X.ex,b≠X.env.locals/\∀x c,X.env.cells.lookup x=some c->c≠b
 bs:∀b o,X.base.get? b=some o->X.s₀.heap.get? b=some o/\X.H₀ b=none
 bsz:X.base.objs.size<=X.s₀.heap.objs.size
 noex:∀b o,X.base.get? b=some o->b∉X.ex
 exfs:∀b∈X.ex,b∉X.fs
 funs:X.s₀.heap.FunFrames X.base X.outer
 frf:∀b∈X.fs,X.H₀ b=none
structure Inv(X:Cx)(pins:List (Addr×Obj))(σ:List (Option V))(H:Hp)(s:Shared):Prop where
 ok:X.Ok
 os:s.os=X.s₀.os
 bare:AllBare s.gens
 base:Un X.fs X.ex X.H₀ H X.s₀.heap s.heap
 loc:∃m,s.heap.Ns X.env.locals m/\∀(i:Nat) (x:Str) (v:V),X.N[i]?=some x->σ[i]?=some (some v)->Vis X.env.scope x->∃u,RelV v u/\Look X.env s.heap m x u
 cell:∀x c,X.env.cells.lookup x=some c->∃v,s.heap.IsCell c v
 free:H X.env.locals=none
 freeC:∀x c,X.env.cells.lookup x=some c->H c=none
 pin:∀p∈X.pn++pins,s.heap.get? p.1=some p.2/\H p.1=none/\p.1≠X.env.locals/\p.1∉X.fs/\∀v,p.2.data≠.cell v
 hok:HOk X.prog X.w H s.heap
 len:σ.length=X.N.length
variable{X:Cx}{σ:List (Option V)}
theorem Cx.Ok.nofr(ok:X.Ok)(e:X.base.get? b=some o):b∉X.fs:=λhb=>by
 have:=(ok.funs.mem hb).1
 rw[e]at this;cases this
theorem Inv.bs(I:Inv X pins σ H s):∀b o,X.base.get? b=some o->s.heap.get? b=some o/\H b=none:=λb o e =>
 ⟨I.base.keep b o (I.ok.bs b o e).1 (I.ok.bs b o e).2 (I.ok.nofr e) (I.ok.noex b o e),I.base.free b o (I.ok.bs b o e).1 (I.ok.bs b o e).2 (I.ok.noex b o e)⟩
theorem Inv.bk(I:Inv X pins σ H s):∀b o,X.base.get? b=some o->s.heap.get? b=some o:=λb o e=>(I.bs b o e).1
theorem Inv.mod(I:Inv X pins σ H s):Mod X.K X.mg X.base:=I.ok.mod
theorem Inv.kIn(I:Inv X pins σ H s):X.K.In s.heap:=I.ok.mod.kin.keeps I.bk
theorem Inv.lt(I:Inv X pins σ H s):X.env.locals < s.heap.objs.size:=let⟨_,hn,_⟩:=I.loc;hn.lt
theorem Inv.sz(I:Inv X pins σ H s):X.s₀.heap.objs.size<=s.heap.objs.size:=aBD I.ok.above (Nat.le_of_lt I.lt)
theorem Inv.nofs(I:Inv X pins σ H s)(h:s.heap.objs.size<=a):a∉X.fs:=λhb=>by
 obtain⟨_,o,ho,_⟩:=I.ok.funs.mem hb
 exact absurd (aAP (aAF ho) (aBD I.sz h)) (aDZ _)
theorem Inv.cne(I:Inv X pins σ H s):∀x c,X.env.cells.lookup x=some c->c≠X.env.locals:=λx c e z=>by
 obtain⟨v,o,ho,hd⟩:=I.cell x c e
 obtain⟨m,⟨o',es,ep,ho',hd',_⟩,_⟩:=I.loc
 rw[z,ho']at ho;cases ho;rw[hd']at hd;cases hd
theorem Inv.funs(I:Inv X pins σ H s):s.heap.FunFrames X.base X.outer:=by
 have all:∀(l:List Env),(∀b∈frs l,b∈X.fs)->X.s₀.heap.FunFrames X.base l->s.heap.FunFrames X.base l:=by
  intro l
  induction l with
  |nil=>intro _ _;trivial
  |cons env r ih =>
   intro hs hl
   obtain⟨hk,⟨L,o,hf,hn,ho,hd⟩,hr⟩:=hl
   have hL:L∈X.fs:=hs L (by unfold frs;rw[aCG,hf];exact aDQ)
   obtain⟨sl,e⟩:=I.base.slot L o ho (I.ok.frf L hL) hL λz=>I.ok.exfs L z hL
   exact⟨hk,⟨L,_,hf,hn,e,hd⟩,ih (λb hb=>hs b (by unfold frs;rw[aCG,hf];exact aBR _ hb)) hr⟩
 exact all X.outer (λ_ hb=>hb) I.ok.funs
theorem Inv.stack(I:Inv X pins σ H s):s.heap.FunFrames X.base X.stack:=by
 rcases I.ok.stk with e|⟨e,hf⟩
 ·rw[e];exact I.funs
 ·rw[e]
  obtain⟨m,hn,_⟩:=I.loc
  refine .cons (by rw[I.ok.kind];decide) hf hn ?_ I.funs
  exact aFB (aBD I.ok.bsz I.ok.above)
theorem Inv.stkSub(I:Inv X pins σ H s):∀b∈frs X.stack,b∈X.env.locals::X.fs:=λb hb=>by
 rcases I.ok.stk with e|⟨e,hf⟩
 ·rw[e]at hb;exact aBR _ hb
 ·rw[e]at hb
  unfold frs at hb
  rw[aCG,hf]at hb
  exact hb
theorem Inv.stkFree(I:Inv X pins σ H s):∀b∈frs X.stack,H b=none:=λb hb=>by
 rcases aAO.mp (I.stkSub b hb)with e|hb
 ·rw[e];exact I.free
 ·obtain⟨_,o,ho,_⟩:=I.ok.funs.mem hb
  exact I.base.free b o ho (I.ok.frf b hb) λz=>I.ok.exfs b z hb
variable{g':Array GenState}{d':Drawn}
theorem Inv.step{ch:List Addr}(I:Inv X pins σ H s)
  (hch:∀b∈ch,(b∈X.ex\/X.s₀.heap.objs.size<=b)/\b≠X.env.locals/\(∀x c,X.env.cells.lookup x=some c->c≠b)/\∀p∈X.pn++pins,p.1≠b)
  (keep:∀b o,b≠X.env.locals->b∉X.fs->b∉ch->s.heap.get? b=some o->H b=none->h'.get? b=some o)
  (slot:∀b o,b≠X.env.locals->b∈X.fs->b∉ch->s.heap.get? b=some o->H b=none->∃sl,h'.get? b=some {o with slots:=sl})(free:∀b o,b∉ch->s.heap.get? b=some o->H b=none->H' b=none)
  (there:∀b o,b∉ch->s.heap.get? b=some o->∃o',h'.get? b=some o')
  (tups:∀b xs,H b=some (.tup xs)->H' b=some (.tup xs))(frzs:∀b o u,H b=some (.frz o u)->H' b=some (.frz o u))(tbls:∀b ps,H b=some (.tbl ps)->∃more,H' b=some (.tbl (ps++more)))
  (ns:∀m,s.heap.Ns X.env.locals m->h'.Ns X.env.locals m)(hok:HOk X.prog X.w H' h')(hg:AllBare g') :
  Inv X pins σ H' {s with heap:=h',gens:=g',drawn:=d',toks:=t'}:=by
 have neL:∀b o,X.s₀.heap.get? b=some o->b≠X.env.locals:=λb o e=>aAN (aAP (aAF e) I.ok.above)
 have neC:∀b o,X.s₀.heap.get? b=some o->b∉X.ex->b∉ch:=λb o e hx hb=>by
  rcases(hch b hb).1 with z|z
  ·exact hx z
  ·exact absurd (aAP (aAF e) z) (aDZ _)
 have cellK:∀x c,X.env.cells.lookup x=some c->∀v,s.heap.IsCell c v->h'.IsCell c v:=λx c e v ⟨o,ho,hd⟩=>by
  have nch:c∉ch:=λz=>(hch c z).2.2.1 x c e rfl
  by_cases hc:c∈X.fs
  ·obtain⟨sl,q⟩:=slot c o (I.cne x c e) hc nch ho (I.freeC x c e)
   exact⟨_,q,hd⟩
  ·exact⟨o,keep c o (I.cne x c e) hc nch ho (I.freeC x c e),hd⟩
 refine⟨I.ok,I.os,hg,⟨λb o e n hb hx=>?_,λb o e n hb hx=>?_,λb o e n hx=>?_,λb o e hx=>?_,λb xs e=>tups b xs (I.base.tups b xs e),λb o xs e=>frzs b o xs (I.base.frzs b o xs e),λb ps e=>?_⟩,?_,λx c e=>?_,?_,λx c e=>?_,λp hp=>?_,hok,I.len⟩
 ·exact keep b o (neL b o e) hb (neC b o e hx) (I.base.keep b o e n hb hx) (I.base.free b o e n hx)
 ·obtain⟨sl,e1⟩:=I.base.slot b o e n hb hx
  obtain⟨sl',e2⟩:=slot b _ (neL b o e) hb (neC b o e hx) e1 (I.base.free b o e n hx)
  exact⟨sl',e2⟩
 ·obtain⟨o',e1⟩:=I.base.there b o e hx
  exact free b o' (neC b o e hx) e1 (I.base.free b o e n hx)
 ·obtain⟨o',e1⟩:=I.base.there b o e hx
  exact there b o' (neC b o e hx) e1
 ·obtain⟨m1,e1⟩:=I.base.tbls b ps e
  obtain⟨m2,e2⟩:=tbls b _ e1
  exact⟨m1++m2,by rw[e2,Array.append_assoc]⟩
 ·obtain⟨m,hn,hl⟩:=I.loc
  refine⟨m,ns m hn,λi x v e1 e2 e3=>?_⟩
  obtain⟨u,r,l⟩:=hl i x v e1 e2 e3
  refine⟨u,r,?_⟩
  rcases l with l|⟨k,c,e,z⟩
  ·exact .inl l
  ·exact .inr ⟨k,c,e,cellK x c e _ z⟩
 ·obtain⟨v,z⟩:=I.cell x c e
  exact⟨v,cellK x c e v z⟩
 ·obtain⟨m,⟨o,_,_,ho,_⟩,_⟩:=I.loc
  exact free _ o (λz=>(hch _ z).2.1 rfl) ho I.free
 ·obtain⟨v,o,ho,hd⟩:=I.cell x c e
  exact free c o (λz=>(hch c z).2.2.1 x c e rfl) ho (I.freeC x c e)
 ·obtain⟨e,n,ne,nf,d⟩:=I.pin p hp
  have nch:p.1∉ch:=λz=>(hch p.1 z).2.2.2 p hp rfl
  exact⟨keep p.1 p.2 ne nf nch e n,free p.1 p.2 nch e n,ne,nf,d⟩
theorem Inv.un(I:Inv X pins σ H s)(u:Un X.fs [] H H' s.heap h')(hok:HOk X.prog X.w H' h'):Inv X pins σ H' {s with heap:=h',toks:=t'}:=by
 obtain⟨m,⟨o,es,ep,ho,r⟩,_⟩:=id I.loc
 obtain⟨sl,hL⟩:=u.any ho I.free (by simp)
 exact I.step (g':=s.gens) (d':=s.drawn) (ch:=[]) (λ_ z=>nomatch z) (λb o _ hb _ e n=>u.keep b o e n hb (by simp)) (λb o _ hb _ e n=>u.slot b o e n hb (by simp)) (λb o _ e n=>u.free b o e n (by simp)) (λb o _ e=>u.there b o e (by simp)) u.tups u.frzs u.tbls (λm' hm=>by
  obtain⟨o',es',ep',ho',r'⟩:=hm
  rw[ho]at ho';cases ho'
  exact⟨_,es',ep',hL,r'⟩) hok I.bare
theorem Inv.call{ch:List Addr}(I:Inv X pins σ H s)(u:Un (frs X.stack) ch H H' s.heap h')(hok:HOk X.prog X.w H' h')(hg:AllBare g')
  (hch:∀b∈ch,(b∈X.ex\/X.s₀.heap.objs.size<=b)/\b≠X.env.locals/\(∀x c,X.env.cells.lookup x=some c->c≠b)/\∀p∈X.pn++pins,p.1≠b) :
  Inv X pins σ H' {s with heap:=h',gens:=g',drawn:=d',toks:=t'}:=by
 obtain⟨m,⟨o,es,ep,ho,r⟩,_⟩:=id I.loc
 obtain⟨sl,hL⟩:=u.any ho I.free λz=>(hch _ z).2.1 rfl
 exact I.step (ch:=ch) hch (λb o hL hb hc e n=>u.keep b o e n (λz=>(aAO.mp (I.stkSub b z)).elim hL hb) hc) (λb o _ _ hc e n=>u.any e n hc) (λb o hc e n=>u.free b o e n hc) (λb o hc e=>u.there b o e hc) u.tups u.frzs u.tbls (λm' hm=>by
  obtain⟨o',es',ep',ho',r'⟩:=hm
  rw[ho]at ho';cases ho'
  exact⟨_,es',ep',hL,r'⟩) hok hg
theorem Inv.turned(I:Inv X pins σ H s)(k:∀b o,b≠it->s.heap.get? b=some o->h'.get? b=some o)(hn:H it=none)(hL:it≠X.env.locals)
  (h1:it∈X.ex\/X.s₀.heap.objs.size<=it)(h2:∀x c,X.env.cells.lookup x=some c->c≠it)(h3:∀p∈X.pn++pins,p.1≠it):Inv X pins σ H {s with heap:=h',toks:=t'}:=by
 have nit:∀b u,H b=some u->b≠it:=λb u e z=>by rw[z,hn]at e;cases e
 refine I.step (g':=s.gens) (d':=s.drawn) (ch:=[it]) (λb hb=>?_) (λb o _ _ hc e _=>k b o (λz=>hc (by simp[z])) e) (λb o _ _ hc e _=>⟨o.slots,k b o (λz=>hc (by simp[z])) e⟩) (λ_ _ _ _ n=>n)
  (λb o hc e=>⟨o,k b o (λz=>hc (by simp[z])) e⟩) (λ_ _ e=>e) (λ_ _ _ e=>e) (λb ps e=>⟨#[],by rw[e];simp⟩) (λm hm=>?_) (λb u e=>?_) I.bare
 ·have e:b=it:=by simpa using hb
  subst e
  exact⟨h1,hL,h2,h3⟩
 ·obtain⟨o,es,ep,ho,r⟩:=hm
  exact⟨o,es,ep,k _ o (Ne.symm hL) ho,r⟩
 ·refine(I.hok b u e).stay (λc v hc q=>k c v ?_ q) (λ_ q=>q) λ_ _ q=>q
  rcases hc with z|z
  ·rw[z];exact nit b u e
  ·exact nit c _ z
theorem Inv.tok(I:Inv X pins σ H s)(t:Nat):Inv X pins σ H {s with toks:=t}:=I.un (h':=s.heap) (t':=t) Un.refl I.hok
theorem Inv.kept{t':Nat}(I:Inv X pins σ H s)(k:∀b u,s.heap.get? b=some u->h'.get? b=some u):Inv X pins σ H {s with heap:=h',toks:=t'}:=I.un (Un.kept k) (I.hok.kept k)
theorem Inv.laid{a:Addr}{o:HO}{t':Nat}(I:Inv X pins σ H s)(k:∀b u,s.heap.get? b=some u->h'.get? b=some u)(hp:s.heap.objs.size<=a)(new:ObjOk X.prog X.w (upd H a o) h' a o) :
  Inv X pins σ (upd H a o) {s with heap:=h',toks:=t'}:=I.un (Un.laid k hp (I.hok.fresh hp)) (I.hok.laid k hp new)
theorem Inv.write{x e:Addr}{o:HO}{t':Nat}(I:Inv X pins σ H s)(mu:Mut (H x))(he:e=x\/H e=some (.own x))(k:∀b u,b≠e->s.heap.get? b=some u->h'.get? b=some u)(heo:∃u,h'.get? e=some u)
  (new:ObjOk X.prog X.w (upd H x o) h' x o):Inv X pins σ (upd H x o) {s with heap:=h',toks:=t'}:=I.un (Un.write mu he k heo) (I.hok.write mu he k heo new)
theorem Inv.pins_of{pins':List (Addr×Obj)}(I:Inv X pins σ H s)(h:∀p∈pins',s.heap.get? p.1=some p.2/\H p.1=none/\p.1≠X.env.locals/\p.1∉X.fs/\∀v,p.2.data≠.cell v):Inv X pins' σ H s :=
 ⟨I.ok,I.os,I.bare,I.base,I.loc,I.cell,I.free,I.freeC,λp hp=>(aBH.mp hp).elim (λz=>I.pin p (List.mem_append_left _ z)) (h p),I.hok,I.len⟩
variable{x:Str}
theorem qA(hN:N.Nodup)(a:N[i]?=some x)(b:N[j]?=some x):i=j:=by
 obtain⟨h1,e1⟩:=aAE.mp a
 obtain⟨h2,e2⟩:=aAE.mp b
 exact(List.getElem_inj hN).mp (e1.trans e2.symm)
variable{M:Model}{E:Value->Shared->Prop}{v:V}{u:Value}{Q:Unit->Shared->Prop}
theorem rG(I:Inv X pins σ H s)(hN:X.N.Nodup)(hi:X.N[i]?=some x)(hx:Loc X.env.scope x)(r:RelV v u)
  (h:∀s',Inv X pins (σ.set i (some v)) H s'->(∃a,Heap.SameBut a s.heap s'.heap/\(a=X.env.locals\/X.env.cells.lookup x=some a))->Q () s')(hf:X.fn x=true\/X.env.scope.names.lookup x=some .local:=by first|exact .inl rfl|exact .inr rfl|assumption):wpAny M A (storeName X.env x u) Q E s:=by
 obtain⟨m,hn,hl⟩:=id I.loc
 have hcls:(X.env.scope.kind==.class || (X.env.scope.kind==.module&&X.env.locals != X.env.globals))=false:=by rw[I.ok.kind];rfl
 have hiσ:i < σ.length:=by rw[I.len];exact(aAE.mp hi).1
 have cne:=I.cne
 have tracked:∀{a:Addr} {h':Heap},(∃o,s.heap.get? a=some o/\H a=none)->Heap.SameBut a s.heap h'->HOk X.prog X.w H h':=λ{a h'} ha hs b ob e=>by
  obtain⟨_,_,hfree⟩:=ha
  refine(I.hok b ob e).stay (λc w' hc q=>(hs.2 c ?_).trans q) (λ_ q=>q) λ_ _ q=>q
  rintro rfl
  rcases hc with rfl|hc
  ·rw[hfree]at e;cases e
  ·rw[hfree]at hc;cases hc
 rcases hx with hk|hk
 ·refine wpAny_storeName_local hk hn (λh' hn' hs=>?_) hcls
  obtain⟨oL,_,_,hoL,_⟩:=id hn
  refine h _ ⟨I.ok,I.os,I.bare,⟨λb o e n hb hx=>?_,λb o e n hb hx=>?_,I.base.free,λb o e hx=>?_,I.base.tups,I.base.frzs,I.base.tbls⟩,⟨_,hn',λj y v' e1 e2 e3=>?_⟩,λy c e=>?_,I.free,I.freeC,λp hp=>?_,tracked ⟨oL,hoL,I.free⟩ hs,by simpa using I.len⟩ ⟨_,hs,.inl rfl⟩
  ·exact(hs.2 b (aAN (aAP (aAF e) I.ok.above))).trans (I.base.keep b o e n hb hx)
  ·obtain⟨sl,e1⟩:=I.base.slot b o e n hb hx
   exact⟨sl,(hs.2 b (aAN (aAP (aAF e) I.ok.above))).trans e1⟩
  ·obtain⟨o',e1⟩:=I.base.there b o e hx
   exact⟨o',(hs.2 b (aAN (aAP (aAF e) I.ok.above))).trans e1⟩
  ·by_cases hj:j=i
   ·subst hj
    rw[hi]at e1;cases e1
    rw[aBT hiσ]at e2
    cases e2
    exact⟨u,r,.inl ⟨hk,by simp⟩⟩
   ·rw[aBS (Ne.symm hj)]at e2
    obtain⟨u',r',q⟩:=hl j y v' e1 e2 e3
    refine⟨u',r',?_⟩
    rcases q with⟨k,e⟩|⟨k,c,e,z⟩
    ·refine .inl ⟨k,?_⟩
     have:y≠x:=λe=>hj (qA hN e1 (e▸hi))
     simp[this,e]
    ·exact .inr ⟨k,c,e,z.sameBut hs (cne y c e)⟩
  ·obtain⟨w',z⟩:=I.cell y c e
   exact⟨w',z.sameBut hs (cne y c e)⟩
  ·obtain⟨e,n,ne,nf,d⟩:=I.pin p hp
   exact⟨(hs.2 p.1 ne).trans e,n,ne,nf,d⟩
 ·have hfn:X.fn x=true:=by
   rcases hf with z|z
   ·exact z
   ·rw[z]at hk;cases hk
  obtain⟨c,hc⟩:=I.ok.has x (.inl hk)
  obtain⟨w',z⟩:=I.cell x c hc
  refine wpAny_storeName_cell I.ok.kind hk hc z (λh' hc' hs=>?_)
  obtain⟨oc,hoc,hocd⟩:=id z
  refine h {s with heap:=h'} ⟨I.ok,I.os,I.bare,⟨λb o e n hb hx=>?_,λb o e n hb hx=>?_,I.base.free,λb o e hx=>?_,I.base.tups,I.base.frzs,I.base.tbls⟩,⟨m,hn.sameBut hs (Ne.symm (cne x c hc)),λj y v' e1 e2 e3=>?_⟩,λy c' e=>?_,I.free,I.freeC,λp hp=>?_,tracked ⟨oc,hoc,I.freeC x c hc⟩ hs,by simpa using I.len⟩ ⟨c,hs,.inr hc⟩
  ·exact(hs.2 b (aAN (aAP (aAF e) (I.ok.cab x c hfn hc)))).trans (I.base.keep b o e n hb hx)
  ·obtain⟨sl,e1⟩:=I.base.slot b o e n hb hx
   exact⟨sl,(hs.2 b (aAN (aAP (aAF e) (I.ok.cab x c hfn hc)))).trans e1⟩
  ·obtain⟨o',e1⟩:=I.base.there b o e hx
   exact⟨o',(hs.2 b (aAN (aAP (aAF e) (I.ok.cab x c hfn hc)))).trans e1⟩
  ·by_cases hj:j=i
   ·subst hj
    rw[hi]at e1;cases e1
    rw[aBT hiσ]at e2
    cases e2
    exact⟨u,r,.inr ⟨.inl hk,c,hc,hc'⟩⟩
   ·rw[aBS (Ne.symm hj)]at e2
    obtain⟨u',r',q⟩:=hl j y v' e1 e2 e3
    refine⟨u',r',?_⟩
    rcases q with q|⟨k,c',e,z'⟩
    ·exact .inl q
    ·refine .inr ⟨k,c',e,z'.sameBut hs ?_⟩
     rintro rfl
     exact hj (qA hN e1 (I.ok.inj _ _ _ e hc▸hi))
  ·by_cases hcc:c'=c
   ·subst hcc;exact⟨_,hc'⟩
   ·obtain⟨w2,z2⟩:=I.cell y c' e
    exact⟨w2,z2.sameBut hs hcc⟩
  ·obtain⟨e,n,ne,nf,d⟩:=I.pin p hp
   refine⟨(hs.2 p.1 ?_).trans e,n,ne,nf,d⟩
   intro q
   rw[q,hoc]at e
   have q':oc=p.2:=Option.some.inj e
   exact d w' (by rw[<- q'];exact hocd)
theorem gC(I:Inv X pins σ H s)(hN:X.N.Nodup)(hi:X.N[i]?=some x)(hx:Loc X.env.scope x)(r:RelV v u)
  (h:∀s',Inv X pins (σ.set i (some v)) H s'->Q () s')(hf:X.fn x=true\/X.env.scope.names.lookup x=some .local:=by first|exact .inl rfl|exact .inr rfl|assumption):wpAny M A (storeName X.env x u) Q E s :=
 rG I hN hi hx r (λs' I' _=>h s' I') hf
theorem Inv.call'{ch:List Addr}(I:Inv X pins σ H s)(ho:s'.os=s.os)(u:Un (frs X.stack) ch H H' s.heap s'.heap)(hok:HOk X.prog X.w H' s'.heap)(hg:AllBare s'.gens)
  (hch:∀b∈ch,(b∈X.ex\/X.s₀.heap.objs.size<=b)/\b≠X.env.locals/\(∀x c,X.env.cells.lookup x=some c->c≠b)/\∀p∈X.pn++pins,p.1≠b):Inv X pins σ H' s':=by
 obtain⟨h',g',d',t',o'⟩:=s'
 have e:o'=s.os:=ho
 subst e
 exact I.call (g':=g') (t':=t') (d':=d') u hok hg hch
noncomputable section
abbrev XK:=Value->Option Addr->Hp->Prop
abbrev St:=List (Option V)
abbrev VK:=V->Hp->Prop
abbrev TE:=St->Hp->VK->Prop
abbrev TT:=St->Hp->(Bool->Hp->Prop)->Prop
abbrev TA:=St->Hp->(List V->Hp->Prop)->Prop
end
structure Ends where
 nx:St->Hp->Prop
 rt:VK
 bk:St->Hp->Prop:=λ_ _=>False
 ct:St->Hp->Prop:=λ_ _=>False
noncomputable section
abbrev TS:=Ends->St->Hp->Prop
def EP(X:Cx)(pins:List (Addr×Obj))(σ:St)(Q:VK)(u:Value)(s':Shared):Prop:=∃v H',Inv X pins σ H' s'/\RelV v u/\Q v H'
def TP(X:Cx)(pins:List (Addr×Obj))(σ:St)(Q:Bool->Hp->Prop)(b:Bool)(s':Shared):Prop:=∃H',Inv X pins σ H' s'/\Q b H'
def AP(X:Cx)(pins:List (Addr×Obj))(σ:St)(Q:List V->Hp->Prop)(us:List Value)(s':Shared):Prop:=∃vs H',Inv X pins σ H' s'/\Vals vs us/\Q vs H'
def SP(X:Cx)(pins:List (Addr×Obj))(D:Ends)(f:Flow)(s':Shared):Prop :=
 match f with
 |.next=>∃σ' H',Inv X pins σ' H' s'/\D.nx σ' H'
 |.brk=>∃σ' H',Inv X pins σ' H' s'/\D.bk σ' H'
 |.cont=>∃σ' H',Inv X pins σ' H' s'/\D.ct σ' H'
 |.ret u=>∃v σ' H',Inv X pins σ' H' s'/\RelV v u/\D.rt v H'
def PE(X:Cx)(e:Expr)(t:TE):Prop :=
 ∀(pins:List (Addr×Obj)) (s:Shared) (σ:St) (H:Hp) (Q:VK),Inv X pins σ H s->t σ H Q->wpAny (model X.prog X.w) X.A (eval e X.env) (EP X pins σ Q) X.xe s
def PT(X:Cx)(e:Expr)(t:TT):Prop :=
 ∀(pins:List (Addr×Obj)) (s:Shared) (σ:St) (H:Hp) (Q:Bool->Hp->Prop),Inv X pins σ H s->t σ H Q->wpAny (model X.prog X.w) X.A (isTrue e X.env (eval e X.env)) (TP X pins σ Q) X.xe s
def PW(X:Cx)(e:Expr)(t:TT):Prop :=
 ∀(whole:Sem Value) (pins:List (Addr×Obj)) (s:Shared) (σ:St) (H:Hp) (Q:Bool->Hp->Prop),Inv X pins σ H s->t σ H Q->wpAny (model X.prog X.w) X.A (isTrue e X.env whole) (TP X pins σ Q) X.xe s
end
variable{e:Expr}
theorem PW.pt{t:TT}(h:PW X e t):PT X e t:=h _
noncomputable section
def PA(X:Cx)(es:List Expr)(t:TA):Prop :=
 ∀(pos:Pos) (pins:List (Addr×Obj)) (s:Shared) (σ:St) (H:Hp) (Q:List V->Hp->Prop),Inv X pins σ H s->t σ H Q->wpAny (model X.prog X.w) X.A (spliced (backTo pos (starEach es X.env))) (AP X pins σ Q) X.xe s
def PS(X:Cx)(st:Stmt)(t:TS):Prop :=
 ∀(pins:List (Addr×Obj)) (s:Shared) (σ:St) (H:Hp) (D:Ends),Inv X pins σ H s->t D σ H->wpAny (model X.prog X.w) X.A (exec st X.env) (SP X pins D) X.xe s
def PSs(X:Cx)(st:List Stmt)(t:TS):Prop :=
 ∀(pins:List (Addr×Obj)) (s:Shared) (σ:St) (H:Hp) (D:Ends),Inv X pins σ H s->t D σ H->wpAny (model X.prog X.w) X.A (execs st X.env) (SP X pins D) X.xe s
end
theorem thn{t:Sem α}{Q Q':α->Shared->Prop}{s:Shared}(h:wpAny M A t Q E s)(hQ:∀a s,Q a s->Q' a s):wpAny M A t Q' E s:=aCJ h hQ λ_ _ x=>x
section
noncomputable section
def tVar(i:Nat):TE:=λσ H Q=>∃v,σ[i]?=some (some v)/\Q v H
def tC(v:V):TE:=λ_ H Q=>Q v H
theorem aFx(hN:X.N[i]?=some x)(hv:Vis X.env.scope x)(hd:(x==("__debug__":Str))=false:=by decide)(hcd:(x==("__classdict__":Str))=false:=by decide):PE X (.Name x pos) (tVar i):=by
 intro pins s σ H Q I h
 obtain⟨v,e,h⟩:=h
 obtain⟨m,hn,hl⟩:=I.loc
 obtain⟨u,r,l⟩:=hl i x v hN e hv
 have fin:EP X pins σ Q u s:=⟨v,H,I,r,h⟩
 rcases l with⟨hk,hm⟩|⟨hk,c,hc,hcell⟩
 ·exact wpAny_Name (wpAny_loadName_local I.ok.kind hk hn hm fin) hd
 ·rcases hk with hk|hk
  ·exact wpAny_Name (wpAny_loadName_cell I.ok.kind hk hc hcell fin) hd
  ·exact wpAny_Name (wpAny_loadName_free I.ok.kind hk hc hcell fin hcd) hd
theorem aGc{i j pos}:PE X (.Constant (.int i) j pos) (tC (.int i)):=λ_ _ _ H _ I h=>wpAny_Constant_int ⟨.int i,H,I.tok _,⟨_,rfl⟩,h⟩
theorem aQr{b j pos}:PE X (.Constant (.bool b) j pos) (tC (.bl b)):=λ_ _ _ H _ I h=>Constant_bool ⟨.bl b,H,I,rfl,h⟩
theorem aNp{j pos}:PE X (.Constant .none j pos) (tC .non):=λ_ _ _ H _ I h=>Constant_none ⟨.non,H,I,rfl,h⟩
theorem yW{x j pos}:PE X (.Constant (.str x) j pos) (tC (.str x)):=λ_ _ _ H _ I h=>Calls.Constant_str ⟨.str x,H,I.tok _,⟨_,rfl⟩,h⟩
def Gl(X:Cx)(x:Str):Prop:=X.env.kindOf x=some .globalImplicit
end
variable{σ:St}{Q:Value->Shared->Prop}
theorem kL(I:Inv X pins σ H s)(hg:Gl X x)(hm:X.mg x=some u)(h:Q u s)
  (hd:(x==("__debug__":Str))=false:=by decide):wpAny (model X.prog X.w) X.A (eval (.Name x pos) X.env) Q E s :=
 Calls.Name_function_global I.ok.kind hg (Calls.loadGlobal_global (by rw[I.ok.glob];exact I.mod.glob.keeps I.bk) hm h) hd
theorem jW(I:Inv X pins σ H s)(hg:Gl X x)(hm:X.mg x=none)(hv:bootBuiltins x=some u)(h:Q u s)
  (hn:x≠"__name__":=by decide)(hd:(x==("__debug__":Str))=false:=by decide):wpAny (model X.prog X.w) X.A (eval (.Name x pos) X.env) Q E s:=by
 obtain⟨mb,h1,h2⟩:=I.mod.blt
 exact Calls.Name_function_global I.ok.kind hg (Calls.loadGlobal_builtin (by rw[I.ok.glob];exact I.mod.glob.keeps I.bk) hm (by rw[I.ok.blt];exact h1.keeps I.bk) ((h2 x hn).trans hv) h) hd
theorem oM(hg:Gl X x)(hm:X.mg x=some u)(r:RelV v u)(hd:(x==("__debug__":Str))=false:=by decide):PE X (.Name x pos) (tC v) :=
 λ_ _ _ H _ I h=>kL I hg hm ⟨v,H,I,r,h⟩ hd
theorem zM(hg:Gl X x)(hm:X.mg x=none)(hv:bootBuiltins x=some u)(r:RelV v u)(hn:x≠"__name__":=by decide)(hd:(x==("__debug__":Str))=false:=by decide):PE X (.Name x pos) (tC v) :=
 λ_ _ _ H _ I h=>jW I hg hm hv ⟨v,H,I,r,h⟩ hn hd
noncomputable def t2I(ta tb:TE)(k:Int->Int->Hp->Prop):St->Hp->Prop:=λσ H=>ta σ H λx H1=>tb σ H1 λy H2=>∃i j,x=.int i/\y=.int j/\k i j H2
variable{a b:Expr}{ta tb:TE}
noncomputable section
def tCmp(p:Int->Int->Bool)(ta tb:TE):TE:=λσ H Q=>t2I ta tb (λi j H2=>Q (.bl (p i j)) H2) σ H
abbrev tLt:TE->TE->TE:=tCmp λi j=>decide (i < j)
def tB(t:TE):TT:=λσ H Q=>t σ H λx H1=>∃c,x=.bl c/\Q c H1
end
variable{tA tB':TT}{rest:List Expr}
noncomputable section
def tAnd(t u:TT):TT:=λσ H Q=>t σ H λc H1=>if c=true then u σ H1 Q else Q false H1
def tOr(t u:TT):TT:=λσ H Q=>t σ H λc H1=>if c=true then Q true H1 else u σ H1 Q
def tNot(t:TT):TT:=λσ H Q=>t σ H λc H1=>Q (!c) H1
theorem aKq(ha:PT X a tA):PW X (.BoolOp .And [a] pos) tA:=by
 intro wh pins s σ H Q I h
 refine isTrue_and (thn (ha pins s σ H Q I h) λc s1 e=>?_)
 cases c with
 |true=>exact isTrue_and_nil e
 |false=>exact e
theorem aLk(ha:PT X a tA):PW X (.BoolOp .Or [a] pos) tA:=by
 intro wh pins s σ H Q I h
 refine isTrue_or (thn (ha pins s σ H Q I h) λc s1 e=>?_)
 cases c with
 |false=>exact isTrue_or_nil e
 |true=>exact e
theorem aOv(ha:PT X a tA)(hb:PW X (.BoolOp .And (b::rest) pos) tB'):PW X (.BoolOp .And (a::b::rest) pos) (tAnd tA tB'):=by
 intro wh pins s σ H Q I h
 refine isTrue_and (thn (ha pins s σ H _ I h) λc s1 ⟨H1,I1,q1⟩=>?_)
 cases c with
 |true=>exact hb wh pins s1 σ H1 Q I1 q1
 |false=>exact⟨H1,I1,q1⟩
theorem aPt(ha:PT X a tA)(hb:PW X (.BoolOp .Or (b::rest) pos) tB'):PW X (.BoolOp .Or (a::b::rest) pos) (tOr tA tB'):=by
 intro wh pins s σ H Q I h
 refine isTrue_or (thn (ha pins s σ H _ I h) λc s1 ⟨H1,I1,q1⟩=>?_)
 cases c with
 |true=>exact⟨H1,I1,q1⟩
 |false=>exact hb wh pins s1 σ H1 Q I1 q1
theorem aMi(ha:PT X a tA):PT X (.UnaryOp .Not a pos) (tNot tA):=by
 intro pins s σ H Q I h
 exact isTrue_not (ha pins s σ H (λc H1=>Q (!c) H1) I h)
def tAndV(ta tb:TE):TE:=λσ H Q=>ta σ H λx H1=>∃c,x=.bl c/\if c=true then tb σ H1 Q else Q (.bl false) H1
def tOrV(ta tb:TE):TE:=λσ H Q=>ta σ H λx H1=>∃c,x=.bl c/\if c=true then Q (.bl true) H1 else tb σ H1 Q
end
theorem aMb{op}{t:TE}(h:PE X a t):PE X (.BoolOp op [a] pos) t:=λpins s σ H Q I hw=>BoolOp_one (h pins s σ H Q I hw)
theorem aPa(ha:PE X a ta)(hb:PE X (.BoolOp .And (b::rest) pos) tb):PE X (.BoolOp .And (a::b::rest) pos) (tAndV ta tb):=by
 intro pins s σ H Q I h
 refine BoolOp_and (thn (ha pins s σ H _ I h) λv s1 ⟨x,H1,I1,r1,q1⟩=>?_)
 obtain⟨c,rfl,q1⟩:=q1
 cases r1
 refine aDH ?_
 cases c with
 |true=>exact hb pins s1 σ H1 Q I1 q1
 |false=>exact⟨.bl false,H1,I1,rfl,q1⟩
theorem aQm(ha:PE X a ta)(hb:PE X (.BoolOp .Or (b::rest) pos) tb):PE X (.BoolOp .Or (a::b::rest) pos) (tOrV ta tb):=by
 intro pins s σ H Q I h
 refine BoolOp_or (thn (ha pins s σ H _ I h) λv s1 ⟨x,H1,I1,r1,q1⟩=>?_)
 obtain⟨c,rfl,q1⟩:=q1
 cases r1
 refine aDH ?_
 cases c with
 |false=>exact hb pins s1 σ H1 Q I1 q1
 |true=>exact⟨.bl true,H1,I1,rfl,q1⟩
end
noncomputable section
def SqL(K:Frag)(H:Hp)(a:Addr)(xs:List V):Prop :=
 Rd H a (.lst xs) \/
  ∃(o:Obj) (its:Array Value) (n:Nat),K.lookup a=some o/\o.cls=.type "list"/\o.dict=none/\o.data=.seq its n/\its.size<=sizeLine/\Vals xs its.toList
def SqT(K:Frag)(H:Hp)(a:Addr)(xs:List V):Prop :=
 Rd H a (.tup xs) \/
  ∃(o:Obj) (its:Array Value) (n:Nat),K.lookup a=some o/\o.cls=.type "tuple"/\o.data=.seq its n/\its.size<=sizeLine/\Vals xs its.toList
def absV:Value->Option V
 |.none=>some .non
 |.bool b=>some (.bl b)
 |.int i _=>some (.int i)
 |.str x _=>some (.str x)
 |.bytes b _=>some (.byt b)
 |.float b _=>some (.flt b)
 |.ref a=>some (.ref a)
 |.type n=>some (.ty n)
 |_=>none
end
theorem RelV.abs{x:V}(r:RelV x u):absV u=some x:=by
 cases x with
 |non=>cases r;rfl
 |bl _=>cases r;rfl
 |int _=>obtain⟨t,rfl⟩:=r;rfl
 |str _=>obtain⟨t,rfl⟩:=r;rfl
 |byt _=>obtain⟨t,rfl⟩:=r;rfl
 |flt _=>obtain⟨t,rfl⟩:=r;rfl
 |ref _=>cases r;rfl
 |ty _=>cases r;rfl
theorem RelV.inj{x y:V}{u:Value}(r:RelV x u)(q:RelV y u):x=y:=Option.some.inj (r.abs.symm.trans q.abs)
theorem Vals.inj:∀{xs ys:List V} {us:List Value},Vals xs us->Vals ys us->xs=ys
 |_,_,_,.nil,.nil=>rfl
 |_,_,_,.cons r t,.cons r' t'=>by rw[r.inj r',Vals.inj t t']
variable{σ:St}{xs ys:List V}
theorem SqL.of(h:H a=some (.lst xs)):SqL K H a xs:=.inl (.inl h)
theorem SqT.of(h:H a=some (.tup xs)):SqT K H a xs:=.inl (.inl h)
theorem Inv.list(I:Inv X pins σ H s)(h:SqL X.K H a xs):∃its:List Value,Vals xs its/\PlainL s.heap a its.toArray/\xs.length<=sizeLine:=by
 rcases h with h|⟨o,its,n,hk,hc,hd,hs,hz,r⟩
 ·obtain⟨z,its,n,r,e⟩:=h.ok I.hok
  exact⟨its,r,⟨_,n,e,rfl,rfl,rfl⟩,z⟩
 ·refine⟨its.toList,r,⟨o,n,I.kIn a o hk,hc,hd,by simpa using hs⟩,?_⟩
  have e:=r.length
  simp only[aFJ]at e
  lia
theorem Inv.tuple(I:Inv X pins σ H s)(h:SqT X.K H a xs):∃its:List Value,Vals xs its/\IsTup s.heap a its.toArray/\xs.length<=sizeLine:=by
 rcases h with h|⟨o,its,n,hk,hc,hs,hz,r⟩
 ·obtain⟨z,its,r,p⟩:=h.ok I.hok
  exact⟨its,r,p,z⟩
 ·refine⟨its.toList,r,⟨o,I.kIn a o hk,hc,n,by simpa using hs⟩,?_⟩
  have e:=r.length
  simp only[aFJ]at e
  lia
theorem Inv.list_inj(I:Inv X pins σ H s)(h:SqL X.K H a xs)(h':SqL X.K H a ys):xs=ys:=by
 obtain⟨its,r,⟨o,n,e,_,_,d⟩,_⟩:=I.list h
 obtain⟨its',r',⟨o',n',e',_,_,d'⟩,_⟩:=I.list h'
 rw[e]at e';cases e'
 rw[d]at d'
 injection d' with d1 _
 have:its=its':=by simpa using congrArg Array.toList d1
 subst this
 exact r.inj r'
theorem Inv.tuple_inj(I:Inv X pins σ H s)(h:SqT X.K H a xs)(h':SqT X.K H a ys):xs=ys:=by
 obtain⟨its,r,⟨o,e,_,n,d⟩,_⟩:=I.tuple h
 obtain⟨its',r',⟨o',e',_,n',d'⟩,_⟩:=I.tuple h'
 rw[e]at e';cases e'
 rw[d]at d'
 injection d' with d1 _
 have:its=its':=by simpa using congrArg Array.toList d1
 subst this
 exact r.inj r'
noncomputable abbrev Cx.wish(X:Cx)(E:Value->Shared->Prop):Cx:={X with xe:=E}
noncomputable abbrev Cx.nox(X:Cx):Cx:=X.wish λ_ _=>False
theorem Cx.Ok.wish{X:Cx}(ok:X.Ok)(E:Value->Shared->Prop):(X.wish E).Ok :=
 ⟨ok.mod,ok.kind,ok.glob,ok.blt,ok.above,ok.inj,ok.has,ok.cab,ok.hd,ok.frames,ok.stk,ok.exf,ok.bs,ok.bsz,ok.noex,ok.exfs,ok.funs,ok.frf⟩
theorem Cx.Ok.unwish(ok:(X.wish E).Ok):X.Ok :=
 ⟨ok.mod,ok.kind,ok.glob,ok.blt,ok.above,ok.inj,ok.has,ok.cab,ok.hd,ok.frames,ok.stk,ok.exf,ok.bs,ok.bsz,ok.noex,ok.exfs,ok.funs,ok.frf⟩
theorem Inv.wish(I:Inv X pins σ H s)(E:Value->Shared->Prop):Inv (X.wish E) pins σ H s:=⟨I.ok.wish E,I.os,I.bare,I.base,I.loc,I.cell,I.free,I.freeC,I.pin,I.hok,I.len⟩
theorem Inv.unwish(I:Inv (X.wish E) pins σ H s):Inv X pins σ H s:=⟨I.ok.unwish,I.os,I.bare,I.base,I.loc,I.cell,I.free,I.freeC,I.pin,I.hok,I.len⟩
theorem SP.unwish{D:Ends}{f:Flow}{s':Shared}(h:SP (X.wish E) pins D f s'):SP X pins D f s':=by
 cases f with
 |next=>obtain⟨σ',H',I,q⟩:=h;exact⟨σ',H',I.unwish,q⟩
 |brk=>obtain⟨σ',H',I,q⟩:=h;exact⟨σ',H',I.unwish,q⟩
 |cont=>obtain⟨σ',H',I,q⟩:=h;exact⟨σ',H',I.unwish,q⟩
 |ret u=>obtain⟨v,σ',H',I,r,q⟩:=h;exact⟨v,σ',H',I.unwish,r,q⟩
theorem PSs.nox{st:List Stmt}{t:TS}(h:PSs X.nox st t):PSs X st t:=λpins s σ H D I hw =>
 aCJ (h pins s σ H D (I.wish _) hw) (λ_ _ q=>q.unwish) λ_ _ z=>False.elim z
section
variable{rest:List Stmt}{t u:TS}{te:TE}
noncomputable section
def tNext:TS:=λD σ H=>D.nx σ H
def tSeq(t u:TS):TS:=λD σ H=>t {D with nx:=u D} σ H
theorem aJt:PSs X [] tNext:=λ_ _ σ H _ I h=>aEN ⟨σ,H,I,h⟩
theorem wL(h1:PS X st t)(h2:PSs X rest u):PSs X (st::rest) (tSeq t u):=by
 intro pins s σ H D I h
 refine wpAny_execs_cons (thn (h1 pins s σ H {D with nx:=u D} I h) λf s1 q=>?_)
 cases f with
 |next =>
  obtain⟨σ',H',I',q⟩:=q
  exact h2 pins s1 σ' H' D I' q
 |ret v=>exact q
 |brk=>exact q
 |cont=>exact q
theorem zO(h1:PS X st t):PSs X [st] t:=by
 intro pins s σ H D I h
 refine wpAny_execs_cons (thn (h1 pins s σ H D I h) λf s1 q=>?_)
 cases f with
 |next=>exact aEN q
 |ret v=>exact q
 |brk=>exact q
 |cont=>exact q
theorem Inv.quiet(I:Inv X pins σ H s):interactive X.env=false:=by simp[interactive,I.ok.kind]
def tDrop(te:TE):TS:=λD σ H=>te σ H λ_ H1=>D.nx σ H1
theorem aAj(he:PE X e te)(hs:swapsWith e none pos.line X.env=pure false:=by rfl):PS X (.Expr e pos) (tDrop te):=by
 intro pins s σ H D I h
 exact wpAny_Expr_any (thn (he pins s σ H _ I h) λv s1 ⟨x,H1,I1,r1,q1⟩=>⟨σ,H1,I1,q1⟩) I.quiet hs
def tRet(te:TE):TS:=λD σ H=>te σ H D.rt
theorem aOg(he:PE X e te):PS X (.Return (some e) pos) (tRet te):=by
 intro pins s σ H D I h
 exact wpAny_Return_some (thn (he pins s σ H _ I h) λv s1 ⟨x,H1,I1,r1,q1⟩=>⟨x,σ,H1,I1,r1,q1⟩)
def tIfS(c:TT)(t u:TS):TS:=λD σ H=>c σ H λb H1=>if b=true then t D σ H1 else u D σ H1
end
theorem aPn{c:Expr}{a b:List Stmt}{tc:TT}(hc:PT X c tc)(ha:PSs X a t)(hb:PSs X b u):PS X (.If c a b pos) (tIfS tc t u):=by
 intro pins s σ H D I h
 refine wpAny_If (thn (hc pins s σ H _ I h) λd s1 ⟨H1,I1,q1⟩=>?_)
 cases d with
 |true=>exact ha pins s1 σ H1 D I1 q1
 |false=>exact hb pins s1 σ H1 D I1 q1
end
noncomputable section
abbrev TG:=V->St->Hp->(St->Hp->Prop)->Prop
abbrev TGs:=List V->St->Hp->(St->Hp->Prop)->Prop
def PG(X:Cx)(target:Expr)(t:TG):Prop :=
 ∀(pins:List (Addr×Obj)) (s:Shared) (σ:St) (H:Hp) (v:V) (u:Value) (Q:St->Hp->Prop),Inv X pins σ H s->RelV v u->t v σ H Q ->
  wpAny (model X.prog X.w) X.A (assign target X.env u) (λ_ s'=>∃σ' H',Inv X pins σ' H' s'/\Q σ' H') X.xe s
def PGs(X:Cx)(ts:List Expr)(t:TGs):Prop :=
 ∀(pins:List (Addr×Obj)) (s:Shared) (σ:St) (H:Hp) (vs:List V) (us:List Value) (Q:St->Hp->Prop),Inv X pins σ H s->Vals vs us->t vs σ H Q ->
  wpAny (model X.prog X.w) X.A (assignInOrder ((assignEach ts X.env).map (·.2)) us) (λ_ s'=>∃σ' H',Inv X pins σ' H' s'/\Q σ' H') X.xe s
abbrev TSet:=V->V->V->Hp->(Hp->Prop)->Prop
def PSet(X:Cx)(t:TSet):Prop :=
 ∀(pins:List (Addr×Obj)) (s:Shared) (σ:St) (H:Hp) (o i v:V) (ov iv u:Value) (Q:Hp->Prop),Inv X pins σ H s->RelV o ov->RelV i iv->RelV v u->t o i v H Q ->
  wpAny (model X.prog X.w) X.A (setItem ov iv u) (λ_ s'=>∃H',Inv X pins σ H' s'/\Q H') X.xe s
abbrev TIp:=V->V->Hp->VK->Prop
def PIp(X:Cx)(op:Operator)(t:TIp):Prop :=
 ∀(pins:List (Addr×Obj)) (s:Shared) (σ:St) (H:Hp) (x y:V) (v u:Value) (Q:VK),Inv X pins σ H s->RelV x v->RelV y u->t x y H Q ->
  wpAny (model X.prog X.w) X.A (inplaceOp op v u) (EP X pins σ Q) X.xe s
def gName(i:Nat):TG:=λv σ H Q=>Q (σ.set i (some v)) H
theorem aIt(hN:X.N.Nodup)(hi:X.N[i]?=some x)(hx:Loc X.env.scope x)(hf:X.fn x=true\/X.env.scope.names.lookup x=some .local:=by first|exact .inl rfl|exact .inr rfl|assumption):PG X (.Name x pos) (gName i):=by
 intro pins s σ H v u Q I r h
 exact wpAny_assign_Name (gC I hN hi hx r (λs' I'=>⟨_,H,I',h⟩) hf)
def gNil:TGs:=λvs σ H Q=>vs=[]/\Q σ H
def gCons(t:TG)(u:TGs):TGs:=λvs σ H Q=>∃v r,vs=v::r/\t v σ H λσ' H'=>u r σ' H' Q
end
theorem aHy:PGs X [] gNil:=by
 intro pins s σ H vs us Q I r h
 obtain⟨e,h⟩:=h
 subst e
 cases r
 exact assignInOrder_nil ⟨σ,H,I,h⟩
variable{es:List Expr}
theorem aEo{t:TG}{u:TGs}(h1:PG X e t)(h2:PGs X es u)
  (hs:(assignEach (e::es) X.env).map (·.2)=assign e X.env::(assignEach es X.env).map (·.2):=by rfl):PGs X (e::es) (gCons t u):=by
 intro pins s σ H vs us Q I r h
 obtain⟨v,vr,e1,h⟩:=h
 subst e1
 cases r with
 |cons r rr =>
  rw[hs]
  refine aHI (thn (h1 pins s σ H _ _ _ I r h) λ_ s1 ⟨σ1,H1,I1,q1⟩=>?_)
  exact h2 pins s1 σ1 H1 _ _ Q I1 rr q1
noncomputable section
def gTup(K:Frag)(n:Nat)(t:TGs):TG:=λv σ H Q=>∃a xs,v=.ref a/\SqT K H a xs/\xs.length=n/\t xs σ H Q
theorem aNt{k:Nat}{t:TGs}(hc:X.calm=true)(h:PGs X es t)
  (hn:(assignEach es X.env).length=n:=by rfl)(hst:(assignEach es X.env).findIdx? (·.1)=none:=by rfl):PG X (.Tuple es k pos) (gTup X.K n t):=by
 intro pins s σ H v u Q I r hw
 obtain⟨a,xs,e1,hq,hl,hw⟩:=hw
 subst e1
 cases r
 obtain⟨its,rv,ht,hz⟩:=I.tuple hq
 refine assign_Tuple_tuple (I.ok.hd hc) ht (by simp[hn,<- hl,rv.length]) hst λh' hx=>?_
 have I1:Inv X pins σ H {s with heap:=h'}:=I.kept (t':=s.toks) λb o e=>hx b o (aAN (aAF e)) e
 exact h pins _ σ H xs _ Q I1 (by simpa using rv) hw
def gSub(to ti:TE)(t:TSet):TG:=λv σ H Q=>to σ H λo H1=>ti σ H1 λi H2=>t o i v H2 λH3=>Q σ H3
theorem aNu{o i:Expr}{to ti:TE}{t:TSet}(ho:PE X o to)(hi:PE X i ti)(hs:PSet X t)
  (ha:∀v,assign (.Subscript o i pos) X.env v=(do
   let ov <- holding [v] (eval o X.env)
   let iv <- holding [v,ov] (eval i X.env)
   standAt pos
   holding [v,ov,iv] (setItem ov iv v)
   release [v,ov,iv] []):=by intro _;rfl):PG X (.Subscript o i pos) (gSub to ti t):=by
 intro pins s σ H v u Q I r h
 rw[ha]
 refine aAB (aAY (thn (ho pins s σ H _ I h) λov s1 ⟨x,H1,I1,r1,q1⟩=>?_))
 refine aAB (aAY (thn (hi pins s1 σ H1 _ I1 q1) λiv s2 ⟨y,H2,I2,r2,q2⟩=>?_))
 refine aAB (aDL (aAB (aAY (thn (hs pins s2 σ H2 x y v ov iv u _ I2 r1 r2 r q2) λ_ s3 ⟨H3,I3,q3⟩=>?_))))
 exact wpAny_release ⟨σ,H3,I3,q3⟩
def tAsg(te:TE)(g:TG):TS:=λD σ H=>te σ H λx H1=>g x σ H1 D.nx
end
variable{tg:Expr}{te:TE}{g:TG}
theorem aMe(he:PE X e te)(hg:PG X tg g)(hs:swapsWithSole [tg] e pos.line X.env=pure false:=by rfl)(hw:swappedStores [tg] e X.env=pure none:=by rfl)
  (h1:(assignEach [tg] X.env).map (·.2)=[assign tg X.env]:=by rfl):PS X (.Assign [tg] e pos) (tAsg te g):=by
 intro pins s σ H D I h
 refine wpAny_Assign_stores (thn (he pins s σ H _ I h) λv s1 ⟨x,H1,I1,r1,q1⟩=>?_) hs hw
 rw[h1]
 exact thn (hg pins s1 σ H1 x v _ I1 r1 q1) λ_ s2 q=>q
theorem aOn(hN:X.N.Nodup)(hi:X.N[i]?=some x)(hx:Loc X.env.scope x)(he:PE X e te)(hs:swapsWith e (some (.Name x pos')) pos.line X.env=pure false:=by rfl)(hf:X.fn x=true\/X.env.scope.names.lookup x=some .local:=by first|exact .inl rfl|exact .inr rfl|assumption) :
  PS X (.Assign [.Name x pos'] e pos) (tAsg te (gName i)):=by
 intro pins s σ H D I h
 refine wpAny_Assign_Name (thn (he pins s σ H _ I h) λv s1 ⟨y,H1,I1,r1,q1⟩=>?_) hs
 exact gC I1 hN hi hx r1 (λs2 I2=>⟨_,H1,I2,q1⟩) hf
noncomputable def tPar(i j:Nat)(ta:TA):TS:=λD σ H=>ta σ H λvs H1=>∃v w,vs=[v,w]/\D.nx ((σ.set i (some v)).set j (some w)) H1
variable{a:Expr}{ta:TA}
theorem aMq{b:Expr}{px py pt:Pos}{kt k2 pt2}(hc:X.calm=true)(hN:X.N.Nodup)(hi:X.N[i]?=some x)(hj:X.N[j]?=some y)(hij:i≠j)
  (hx:X.env.scope.names.lookup x=some .local)(hy:X.env.scope.names.lookup y=some .local)(ha:PA X [a,b] ta)
  (hw:swappedStores [.Tuple [.Name x px,.Name y py] kt pt] (.Tuple [a,b] k2 pt2) X.env=pure (some [x,y]))
  (hs:swapsWithSole [.Tuple [.Name x px,.Name y py] kt pt] (.Tuple [a,b] k2 pt2) pos.line X.env=pure false:=by rfl) :
  PS X (.Assign [.Tuple [.Name x px,.Name y py] kt pt] (.Tuple [a,b] k2 pt2) pos) (tPar i j ta):=by
 intro pins s σ H D I h
 rw[exec_Assign_arm]
 refine aAB (aDL ?_)
 rw[hs]
 refine aAB (aAD ?_)
 rw[aAL (by decide)]
 refine aAB (Tuple_ (thn (ha _ pins s σ H _ I h) λus s1 ⟨vs,H1,I1,r1,q1⟩=>?_))
 obtain⟨v,w,e1,q1⟩:=q1
 subst e1
 obtain⟨u1,u2,rfl,rv,rw'⟩:∃u1 u2,us=[u1,u2]/\RelV v u1/\RelV w u2:=by
  cases r1 with
  |cons p q =>
   cases q with
   |cons p' q' =>
    cases q'
    exact⟨_,_,rfl,p,p'⟩
 refine aCR ?_ (by show 2<=sizeLine;decide)
 have I2:Inv X pins σ H1 {s1 with heap:=s1.heap.push {cls:=.type "tuple",data:=.seq [u1,u2].toArray}}:=I1.kept (t':=s1.toks) λb o e=>aAA _ e
 rw[hw]
 refine aAB (aAD ?_)
 show wpAny (model X.prog X.w) X.A (do rule "assign.swapped-stores";let items <- unpackItems (.ref s1.heap.objs.size) 2 none;assignInOrder [λv=>bindName X.env y v,λv=>bindName X.env x v] items.reverse;pure Flow.next) _ _ _
 refine aAB (aEB (aAB (unpackItems_tuple (items:=#[u1,u2]) (I.ok.hd hc) (IsTup.new s1.heap _) λh' hx'=>?_)))
 have I3:=I2.kept (h':=h') (t':=s1.toks) λb o e=>hx' b o (aAN (aAF e)) e
 show wpAny _ _ (assignInOrder [λv=>bindName X.env y v,λv=>bindName X.env x v] [u2,u1] >>= λ_=>pure Flow.next) _ _ _
 refine aAB (aHI (wpAny_bindName (gC I3 hN hj (.inl hy) rw' (λs2 I4=>?_) (.inr hy))))
 refine aHI (wpAny_bindName (gC I4 hN hi (.inl hx) rv (λs3 I5=>assignInOrder_nil (aAD ?_)) (.inr hx)))
 rw[List.set_comm _ _ (Ne.symm hij)]at I5
 exact⟨_,H1,I5,q1⟩
noncomputable def tAug(i:Nat)(te:TE)(ti:TIp):TS:=λD σ H=>∃x,σ[i]?=some (some x)/\te σ H λy H1=>ti x y H1 λz H2=>D.nx (σ.set i (some z)) H2
variable{op:Operator}
theorem aFh{ti:TIp}(hN:X.N.Nodup)(hi:X.N[i]?=some x)(hx:Loc X.env.scope x)(he:PE X e te)(ho:PIp X op ti)(hf:X.fn x=true\/X.env.scope.names.lookup x=some .local:=by first|exact .inl rfl|exact .inr rfl|assumption) :
  PS X (.AugAssign (.Name x pos') op e pos) (tAug i te ti):=by
 intro pins s σ H D I h
 obtain⟨v,e1,h⟩:=h
 obtain⟨m,hn,hl⟩:=I.loc
 have vis:Vis X.env.scope x:=by rcases hx with k|k;exact .inl k;exact .inr (.inl k)
 obtain⟨u,r,l⟩:=hl i x v hi e1 vis
 refine wpAny_AugAssign_Name ?_
 have go:wpAny (model X.prog X.w) X.A (eval e X.env) (λw s₂=>wpAny (model X.prog X.w) X.A (inplaceOp op u w) (λr s₃=>wpAny (model X.prog X.w) X.A (storeName X.env x r) (λ_=>SP X pins D .next) X.xe s₃) X.xe s₂) X.xe s:=by
  refine thn (he pins s σ H _ I h) λw s1 ⟨y,H1,I1,r1,q1⟩=>?_
  refine thn (ho pins s1 σ H1 v y u w _ I1 r r1 q1) λz s2 ⟨zv,H2,I2,r2,q2⟩=>?_
  exact gC I2 hN hi hx r2 (λs3 I3=>⟨_,H2,I3,q2⟩) hf
 rcases l with⟨hk,hm⟩|⟨hk,c,hc,hcell⟩
 ·exact wpAny_loadName_local I.ok.kind hk hn hm go
 ·rcases hk with hk|hk
  ·exact wpAny_loadName_cell I.ok.kind hk hc hcell go
  ·rcases hx with k|k
   ·have:X.env.scope.names.lookup x=some .free:=hk
    rw[k]at this;cases this
   ·have:X.env.scope.names.lookup x=some .free:=hk
    rw[k]at this;cases this
noncomputable def ipI(f:Int->Int->Int):TIp:=λx y H Q=>∃i j,x=.int i/\y=.int j/\Q (.int (f i j)) H
theorem aFu:PIp X .Add (ipI λi j=>i+j):=by
 intro pins s σ H x y v u Q I r1 r2 h
 obtain⟨i,j,e1,e2,q⟩:=h
 subst e1;subst e2
 obtain⟨t,rfl⟩:=r1
 obtain⟨t',rfl⟩:=r2
 exact iadd_int ⟨.int _,H,I.tok _,⟨_,rfl⟩,q⟩
noncomputable def tWhile(c:TT)(tb:TS):TS:=λD σ H=>∃W:Nat->St->Hp->Prop,(∃m,W m σ H)/\∀m σ H,W m σ H ->
 c σ H λb H1=>if b=true then ∃N:St->Hp->Prop,(∀σ' H',N σ' H'->∃m',m' < m/\W m' σ' H')/\tb {D with nx:=N,ct:=N,bk:=D.nx} σ H1 else D.nx σ H1
variable{c:Expr}{tb:TS}
theorem aGb{tc:TT}(hp:PassesOwn (model X.prog X.w) X.A X.env X.xe)(hc:PT X c tc)(hb:PSs X body tb):PS X (.While c body [] pos) (tWhile tc tb):=by
 intro pins s σ H D I h
 obtain⟨W,⟨m0,w0⟩,turn⟩:=h
 refine wpAny_While (codeAny_whileLoop (λn s'=>∃σ' H',Inv X pins σ' H' s'/\W n σ' H') ?_ m0 ⟨σ,H,I,w0⟩)
 rintro n s1 ⟨σ1,H1,I1,w1⟩
 refine aDV hp (thn (hc pins s1 σ1 H1 _ I1 (turn n σ1 H1 w1)) λb s2 ⟨H2,I2,q2⟩=>?_)
 cases b with
 |true =>
  obtain⟨N,hN,q2⟩:=q2
  rw[aAH rfl]
  refine aDV hp (thn (hb pins s2 σ1 H2 _ I2 q2) λf s3 q3=>?_)
  cases f with
  |next =>
   obtain⟨σ3,H3,I3,n3⟩:=q3
   obtain⟨m',hm,w3⟩:=hN σ3 H3 n3
   exact⟨m',hm,σ3,H3,I3,w3⟩
  |cont =>
   obtain⟨σ3,H3,I3,n3⟩:=q3
   obtain⟨m',hm,w3⟩:=hN σ3 H3 n3
   exact⟨m',hm,σ3,H3,I3,w3⟩
  |brk=>exact q3
  |ret v=>exact q3
 |false =>
  rw[aAL aBA]
  exact aEN ⟨σ1,H2,I2,q2⟩
structure It where
 go:Nat->Hp->Prop
 yld:Nat->Hp->V->Hp->Prop
 stop:Nat->Hp->Prop
noncomputable def FpOk(X:Cx)(pins:List (Addr×Obj))(H:Hp)(b:Addr):Prop :=
 H b=none/\b≠X.env.locals/\b∉X.fs/\(b∈X.ex\/X.s₀.heap.objs.size<=b)/\(∀x c,X.env.cells.lookup x=some c->c≠b)/\∀p∈X.pn++pins,p.1≠b
theorem Inv.fpOk(I:Inv X pins σ H s)(hb:s.heap.objs.size<=b)(hn:H' b=none):FpOk X pins H' b:=by
 refine⟨hn,aBL (aAP I.lt hb),I.nofs hb,.inr (aBD I.sz hb),λx c e z=>?_,λp hp z=>?_⟩
 ·obtain⟨v,q⟩:=I.cell x c e
  exact absurd (aAP q.lt (by rw[z];exact hb)) (aDZ _)
 ·exact absurd (aAP (aAF (I.pin p hp).1) (by rw[z];exact hb)) (aDZ _)
structure Turn(P:Program)(w:World)(K:Frag)(tg:Expr)(J:It)(fp:List Addr)(it:Addr)(tn:Nat->Heap->Prop):Prop where
 mem:it∈fp
 obj:∀i h,tn i h->∀b∈fp,∃o,h.get? b=some o/\∀v,o.data≠.cell v
 keep:∀i h h',tn i h->(∀b∈fp,∀o,h.get? b=some o->h'.get? b=some o)->tn i h'
 item:∀(X:Cx),X.prog=P->X.w=w->X.K=K->X.calm=true->∀(i:Nat) (pins:List (Addr×Obj)) (s:Shared) (σ:St) (H:Hp) (E:Value->Shared->Prop),Inv X pins σ H s->(∀b∈fp,FpOk X pins H b)->tn i s.heap->J.go i H ->
  wpAny (model P w) X.A (pyNext (.ref it)) (λr s1=>∃u,r=some u /\
   wpAny (model P w) X.A (letOwnedTupleGo tg (.ref it) u) (λ_ s2=>∃x H',Inv X pins σ H' s2/\RelV x u/\J.yld i H x H'/\tn (i+1) s2.heap/\∀b∈fp,H' b=none) E s1) E s
 done:∀(X:Cx),X.prog=P->X.w=w->X.K=K->X.calm=true->∀(i:Nat) (pins:List (Addr×Obj)) (s:Shared) (σ:St) (H:Hp) (E:Value->Shared->Prop),Inv X pins σ H s->(∀b∈fp,FpOk X pins H b)->tn i s.heap->J.stop i H ->
  wpAny (model P w) X.A (pyNext (.ref it)) (λr s1=>r=none/\Inv X pins σ H s1) E s
 self:∀(A:Around) (i:Nat) (s:Shared) (Q:Value->Shared->Prop) (E:Value->Shared->Prop),tn i s.heap->Q (.ref it) s->wpAny (model P w) A (pyIter (.ref it)) Q E s
noncomputable section
abbrev TI:=St->Hp->(It->Hp->Prop)->Prop
def PIE(X:Cx)(pins:List (Addr×Obj))(σ:St)(tg:Expr)(R:It->Hp->Prop)(itv:Value)(s2:Shared):Prop :=
 ∃(it:Addr) (fp:List Addr) (tn:Nat->Heap->Prop) (J:It) (H':Hp),itv=.ref it/\Inv X pins σ H' s2/\Turn X.prog X.w X.K tg J fp it tn/\tn 0 s2.heap/\(∀b∈fp,FpOk X pins H' b)/\R J H'
def PI(X:Cx)(tg iter:Expr)(wi:TI):Prop :=
 ∀(pins:List (Addr×Obj)) (s:Shared) (σ:St) (H:Hp) (R:It->Hp->Prop),Inv X pins σ H s->wi σ H R ->
  wpAny (model X.prog X.w) X.A (eval iter X.env) (λv s1=>wpAny (model X.prog X.w) X.A (pyIter v) (PIE X pins σ tg R) X.xe s1) X.xe s
theorem aAg{n:String}{vs:Array Value}(ho:s.heap.get? it=some o)(hc:o.cls=.type n)(hd:o.data=.fields vs)
  (hn:["enumerate","zip","dict_itemiterator","dict_reverseitemiterator","odict_iterator","itertools.zip_longest","itertools.pairwise"].contains n=false)(hQ:Q () s):wpAny M A (letOwnedTupleGo tg (.ref it) u) Q E s:=by
 unfold letOwnedTupleGo
 cases tg <;> first
  |exact aAD hQ
  |(cases u <;> first
    |exact aAD hQ
    |(refine aAB (wpAny_load ho ?_)
      rw[hc,hd]
      show wpAny M A (if(["enumerate","zip","dict_itemiterator","dict_reverseitemiterator","odict_iterator","itertools.zip_longest","itertools.pairwise"].contains n&&vs[0]?==some (rawInt _))=true then _ else _) Q E s
      rw[aAL (by intro h;rw[hn,Bool.false_and]at h;cases h)]
      exact aAD hQ))
def Itl(K:Frag)(a:Addr):It :=
 ⟨λi H=>∃xs x,SqL K H a xs/\xs[i]?=some x,λi H x H'=>H'=H/\∀xs,SqL K H a xs->xs[i]?=some x,λi H=>∃xs,SqL K H a xs/\xs.length<=i⟩
def Itt(K:Frag)(a:Addr):It :=
 ⟨λi H=>∃xs x,SqT K H a xs/\xs[i]?=some x,λi H x H'=>H'=H/\∀xs,SqT K H a xs->xs[i]?=some x,λi H=>∃xs,SqT K H a xs/\xs.length<=i⟩
def Itr(lo:Int)(n:Nat):It:=⟨λi _=>i < n,λi H x H'=>H'=H/\x=.int (lo+i),λi _=>n<=i⟩
theorem aBq(a it:Addr):Turn P w K tg (Itl K a) [it] it (λi h=>h.IsListIter it a i)where
 mem:=by simp
 obj:=λi h st b hb=>by
  have e:b=it:=by simpa using hb
  subst e
  obtain⟨o,e,c,d⟩:=st
  exact⟨o,e,λv z=>by rw[d]at z;cases z⟩
 keep:=λi h h' st k=>st.at λo e=>k it (by simp) o e
 item:=by
  intro X hP hw hK hc i pins s σ H E I hf st hg
  subst hP hw hK
  obtain⟨xs,x,hq,hx⟩:=hg
  obtain⟨its,rv,p,hz⟩:=I.list hq
  obtain⟨u,hu,ru⟩:=rv.get hx
  obtain⟨f0,f1,f2,f3,f4,f5⟩:=hf it (by simp)
  refine wpAny_pyNext_list_item st p.isList (x:=u) (by simpa using hu) λh' st' sb=>?_
  have I1:Inv X pins σ H {s with heap:=h'}:=I.turned (t':=s.toks) (λb o hb e=>(sb.2 b hb).trans e) f0 f1 f3 f4 f5
  obtain⟨o,e,c,d⟩:=id st'
  exact⟨u,rfl,aAg (s:={s with heap:=h'}) e c d (by decide) ⟨x,H,I1,ru,⟨rfl,λys hy=>by rw[I.list_inj hy hq];exact hx⟩,st',λb hb=>(hf b hb).1⟩⟩
 done:=by
  intro X hP hw hK hc i pins s σ H E I hf st hg
  subst hP hw hK
  obtain⟨xs,hq,hx⟩:=hg
  obtain⟨its,rv,p,hz⟩:=I.list hq
  obtain⟨f0,f1,f2,f3,f4,f5⟩:=hf it (by simp)
  have hl:=rv.length
  exact wpAny_pyNext_list_end (I.ok.hd hc) st p.isList (by simp;lia) λh' eb=>⟨rfl,I.turned (t':=s.toks) (λb o hb e=>eb b o hb e) f0 f1 f3 f4 f5⟩
 self:=λ_ _ _ _ _ st h=>wpAny_pyIter_listiter st h
theorem xM(a it:Addr):Turn P w K tg (Itt K a) [it] it (λi h=>h.IsTupleIter it a i)where
 mem:=by simp
 obj:=λi h st b hb=>by
  have e:b=it:=by simpa using hb
  subst e
  obtain⟨o,e,c,d⟩:=st
  exact⟨o,e,λv z=>by rw[d]at z;cases z⟩
 keep:=λi h h' st k=>st.at λo e=>k it (by simp) o e
 item:=by
  intro X hP hw hK hc i pins s σ H E I hf st hg
  subst hP hw hK
  obtain⟨xs,x,hq,hx⟩:=hg
  obtain⟨its,rv,p,hz⟩:=I.tuple hq
  obtain⟨u,hu,ru⟩:=rv.get hx
  obtain⟨f0,f1,f2,f3,f4,f5⟩:=hf it (by simp)
  refine wpAny_pyNext_tuple_item st (show s.heap.IsTuple a its.toArray from p) (x:=u) (by simpa using hu) λh' st' sb=>?_
  have I1:Inv X pins σ H {s with heap:=h'}:=I.turned (t':=s.toks) (λb o hb e=>(sb.2 b hb).trans e) f0 f1 f3 f4 f5
  obtain⟨o,e,c,d⟩:=id st'
  exact⟨u,rfl,aAg (s:={s with heap:=h'}) e c d (by decide) ⟨x,H,I1,ru,⟨rfl,λys hy=>by rw[I.tuple_inj hy hq];exact hx⟩,st',λb hb=>(hf b hb).1⟩⟩
 done:=by
  intro X hP hw hK hc i pins s σ H E I hf st hg
  subst hP hw hK
  obtain⟨xs,hq,hx⟩:=hg
  obtain⟨its,rv,p,hz⟩:=I.tuple hq
  obtain⟨f0,f1,f2,f3,f4,f5⟩:=hf it (by simp)
  have hl:=rv.length
  exact wpAny_pyNext_tuple_end (I.ok.hd hc) st (show s.heap.IsTuple a its.toArray from p) (by simp;lia) λh' eb=>⟨rfl,I.turned (t':=s.toks) (λb o hb e=>eb b o hb e) f0 f1 f3 f4 f5⟩
 self:=λ_ _ _ _ _ st h=>wpAny_pyIter_tupleiter st h
theorem yR(it:Addr)(lo:Int)(n:Nat):Turn P w K tg (Itr lo n) [it] it (λi h=>IsRangeIter h it (lo+(i:Nat)*1) ((n:Int) - (i:Nat)) 1)where
 mem:=by simp
 obj:=λi h st b hb=>by
  have e:b=it:=by simpa using hb
  subst e
  exact⟨_,st,λv z=>by
   have z':Data.fields _=Data.cell v:=z
   cases z'⟩
 keep:=λi h h' st k=>k it (by simp) _ st
 item:=by
  intro X hP hw hK hc i pins s σ H E I hf st hg
  subst hP hw hK
  obtain⟨f0,f1,f2,f3,f4,f5⟩:=hf it (by simp)
  have W:=Walks.range (prog:=X.prog) (w:=X.w) (I.ok.hd hc) it lo 1 n
  refine W.item i s _ _ hg st λv h' tk hv st' kk=>?_
  obtain⟨t,rfl⟩:=hv
  have I1:Inv X pins σ H {s with heap:=h',toks:=tk}:=I.turned (λb o hb e=>kk b o (by simpa using hb) e) f0 f1 f3 f4 f5
  refine⟨_,rfl,aAg (s:={s with heap:=h',toks:=tk}) (n:="range_iterator") st' rfl rfl (by decide) ⟨.int (lo+i),H,I1,⟨t,?_⟩,⟨rfl,rfl⟩,st',λb hb=>(hf b hb).1⟩⟩
  rw[Int.mul_one]
 done:=by
  intro X hP hw hK hc i pins s σ H E I hf st hg
  subst hP hw hK
  obtain⟨f0,f1,f2,f3,f4,f5⟩:=hf it (by simp)
  exact wpAny_pyNext_range_end (I.ok.hd hc) st (by have:n<=i:=hg;lia) λh' eb=>⟨rfl,I.turned (t':=s.toks) (λb o hb e=>eb b o hb e) f0 f1 f3 f4 f5⟩
 self:=λ_ _ _ _ _ st h=>wpAny_pyIter_rangeiter st h
theorem vX{R:It->Hp->Prop}{lo hi:Int}{t u v:Tok}{tk:Nat}(I:Inv X pins σ H s)(h1 : -(2 ^ 62)<=lo)(h2:lo < 2 ^ 62)(h3 : -(2 ^ 62)<=hi)(h4:hi < 2 ^ 62)
  (q:R (Itr lo (hi - lo).toNat) H):wpAny (model X.prog X.w) X.A (pyIter (.ref s.heap.objs.size)) (PIE X pins σ tg R) E {s with heap:=s.heap.push {cls:=.type "range",data:=.fields #[.int lo t,.int hi u,.int 1 v]},toks:=tk}:=by
 refine wpAny_pyIter_range (IsRange.new ..) (small_one h1 h2 h3 h4) ?_
 have I1:Inv X pins σ H {s with heap:=s.heap.push {cls:=.type "range",data:=.fields #[.int lo t,.int hi u,.int 1 v]},toks:=tk}:=I.kept λb o e=>aAA _ e
 refine⟨(s.heap.push {cls:=.type "range",data:=.fields #[.int lo t,.int hi u,.int 1 v]}).objs.size,[(s.heap.push {cls:=.type "range",data:=.fields #[.int lo t,.int hi u,.int 1 v]}).objs.size],_,_,H,rfl,
  I1.kept (t':=tk) λb o e=>aAA _ e,yR _ lo (hi - lo).toNat,?_,λb hb=>?_,q⟩
 ·have e1:lo+((0:Nat):Int)*1=lo:=by simp
  have e2:(((hi - lo).toNat:Nat):Int) - ((0:Nat):Int)=Builtin.Range.rangeSize lo hi 1:=by rw[rangeSize_one];split <;> lia
  show IsRangeIter _ _ (lo+((0:Nat):Int)*1) ((((hi - lo).toNat:Nat):Int) - ((0:Nat):Int)) 1
  rw[e1,e2]
  exact aAG _ rfl
 ·have e:b=(s.heap.push {cls:=.type "range",data:=.fields #[.int lo t,.int hi u,.int 1 v]}).objs.size:=by simpa using hb
  subst e
  exact I1.fpOk (aAI _) (I1.hok.fresh (aAI _))
def iRng1(ta:TA):TI:=λσ H R=>ta σ H λvs H1=>∃j:Int,vs=[.int j] /\ -(2 ^ 62)<=j/\j < 2 ^ 62/\R (Itr 0 j.toNat) H1
def iRng2(ta:TA):TI:=λσ H R=>ta σ H λvs H1=>∃i j:Int,vs=[.int i,.int j]/\(-(2 ^ 62)<=i/\i < 2 ^ 62 /\ -(2 ^ 62)<=j/\j < 2 ^ 62)/\R (Itr i (j - i).toNat) H1
theorem aCs(hg:Gl X "range")(hm:X.mg "range"=none)(ha:PA X [a] ta)(hs:starEach [a] X.env=[(false,eval a X.env)]:=by rfl):PI X tg (.Call (.Name "range" p) [a] [] pos) (iRng1 ta):=by
 intro pins s σ H R I h
 refine Call_ (jW I hg hm boot_range (aDB (thn (ha pos pins s σ H _ I h) λus s1 ⟨vs,H1,I1,r1,q1⟩=>?_) hs rfl))
 obtain⟨j,e,q1,q2,q⟩:=q1
 subst e
 cases r1 with
 |cons r rr =>
  cases rr
  obtain⟨t,rfl⟩:=r
  exact call_range_1 (vX I1 (by lia) (by lia) q1 q2 (by simpa using q))
theorem aBi{b:Expr}(hg:Gl X "range")(hm:X.mg "range"=none)(ha:PA X [a,b] ta)(hs:starEach [a,b] X.env=[(false,eval a X.env),(false,eval b X.env)]:=by rfl)(hs2:starEach [b] X.env=[(false,eval b X.env)]:=by rfl) :
  PI X tg (.Call (.Name "range" p) [a,b] [] pos) (iRng2 ta):=by
 intro pins s σ H R I h
 refine Call_ (jW I hg hm boot_range (aDB (thn (ha pos pins s σ H _ I h) λus s1 ⟨vs,H1,I1,r1,q1⟩=>?_) (by rw[hs,hs2]) (by rw[hs2];rfl)))
 obtain⟨i,j,e,⟨q1,q2,q3,q4⟩,q⟩:=q1
 subst e
 cases r1 with
 |cons r rr =>
  cases rr with
  |cons r' rr =>
   cases rr
   obtain⟨t,rfl⟩:=r
   obtain⟨t',rfl⟩:=r'
   exact call_range_2 (vX I1 q1 q2 q3 q4 q)
def tFor(wi:TI)(g:TG)(tb:TS):TS:=λD σ H=>wi σ H λJ H1=>∃W:Nat->Nat->St->Hp->Prop,(∃m,W 0 m σ H1)/\∀i m σ H,W i m σ H ->
 (J.stop i H/\D.nx σ H)\/(J.go i H/\∃N:St->Hp->Prop,(∀σ' H',N σ' H'->∃m',m' < m/\W (i+1) m' σ' H')/\∀x H',J.yld i H x H'->g x σ H' λσ2 H2=>tb {D with nx:=N,ct:=N,bk:=D.nx} σ2 H2)
def pinsAt(fp:List Addr)(h:Heap):List (Addr×Obj):=fp.filterMap λb=>(h.get? b).map λo=>(b,o)
theorem iY(hb:b∈fp)(e:h.get? b=some o):(b,o)∈pinsAt fp h:=aHM.mpr ⟨b,hb,by rw[e];rfl⟩
theorem aCj{p:Addr×Obj}(hp:p∈pinsAt fp h):p.1∈fp/\h.get? p.1=some p.2:=by
 obtain⟨b,hb,e⟩:=aHM.mp hp
 cases q:h.get? b with
 |none=>rw[q]at e;cases e
 |some o =>
  rw[q]at e
  have e':(b,o)=p:=Option.some.inj e
  subst e'
  exact⟨hb,q⟩
theorem Inv.pinned{fp:List Addr}(I:Inv X pins σ H s)(hf:∀b∈fp,FpOk X pins H b)(ho:∀b∈fp,∃o,s.heap.get? b=some o/\∀v,o.data≠.cell v):Inv X (pins++pinsAt fp s.heap) σ H s :=
 I.pins_of λp hp=>(aBH.mp hp).elim (λz=>I.pin p (aBV _ z)) λz=>by
  obtain⟨hb,e⟩:=aCj z
  obtain⟨f0,f1,f2,_⟩:=hf p.1 hb
  obtain⟨o,e',d⟩:=ho p.1 hb
  rw[e]at e';cases e'
  exact⟨e,f0,f1,f2,d⟩
theorem Inv.unpinned{pl:List (Addr×Obj)}(I:Inv X (pins++pl) σ H s):Inv X pins σ H s:=I.pins_of λp hp=>I.pin p (aBV _ (List.mem_append_left _ hp))
theorem aNl{iter:Expr}{wi:TI}(hp:PassesOwn (model X.prog X.w) X.A X.env X.xe)(hc:X.calm=true)(hi:PI X tg iter wi)(hg:PG X tg g)(hb:PSs X body tb)
  (hs:∀x,foldedSetIterable iter X.env x=pure x:=by intro _;rfl):PS X (.For tg iter body [] pos) (tFor wi g tb):=by
 intro pins s σ H D I h
 refine wpAny_For (thn (hi pins s σ H _ I h) λv s1 h1=>thn h1 λitv s2 h2=>?_) hs
 obtain⟨it,fp,tn,J,H2,e,I2,T,st2,f2,W,⟨m0,w0⟩,turn⟩:=h2
 subst e
 have stat:∀{H':Hp},(∀b∈fp,H' b=none)->∀b∈fp,FpOk X pins H' b:=λhn b hb=>⟨hn b hb,(f2 b hb).2⟩
 refine codeAny_forLoop_any (λn s'=>∃i σ' H',Inv X pins σ' H' s'/\tn i s'.heap/\(∀b∈fp,H' b=none)/\W i n σ' H') ?_ m0 ⟨0,σ,H2,I2,st2,λb hb=>(f2 b hb).1,w0⟩
 rintro n s3 ⟨i,σ3,H3,I3,st3,fr3,w3⟩
 rcases turn i n σ3 H3 w3 with⟨stop,qn⟩|⟨go,N,hN,step⟩
 ·refine aDV hp (thn (T.done X rfl rfl rfl hc i pins s3 σ3 H3 X.xe I3 (stat fr3) st3 stop) λr s4 ⟨hr,I4⟩=>?_)
  subst hr
  exact aEN ⟨σ3,H3,I4,qn⟩
 ·refine aDV hp (thn (T.item X rfl rfl rfl hc i pins s3 σ3 H3 X.xe I3 (stat fr3) st3 go) λr s4 ⟨u,hr,h4⟩=>?_)
  subst hr
  refine aDV hp (thn h4 λ_ s5 ⟨x,H5,I5,r5,y5,st5,fr5⟩=>?_)
  have I5':=I5.pinned (stat fr5) (T.obj _ _ st5)
  refine aDV hp (thn (hg _ s5 σ3 H5 x u _ I5' r5 (step x H5 y5)) λ_ s6 ⟨σ6,H6,I6,q6⟩=>?_)
  refine aDV hp (thn (hb _ s6 σ6 H6 _ I6 q6) λf s7 q7=>?_)
  have again:∀{σ7:St} {H7:Hp},Inv X (pins++pinsAt fp s5.heap) σ7 H7 s7->N σ7 H7->∃m,m < n/\∃i σ' H',Inv X pins σ' H' s7/\tn i s7.heap/\(∀b∈fp,H' b=none)/\W i m σ' H':=λ{σ7 H7} I7 n7=>by
   obtain⟨m',hm,w7⟩:=hN σ7 H7 n7
   refine⟨m',hm,i+1,σ7,H7,I7.unpinned,T.keep _ _ _ st5 λb hb o e=>(I7.pin (b,o) (aBV _ (aBV _ (iY hb e)))).1,λb hb=>?_,w7⟩
   obtain⟨o,e,d⟩:=T.obj _ _ st5 b hb
   exact(I7.pin (b,o) (aBV _ (aBV _ (iY hb e)))).2.1
  cases f with
  |next=>obtain⟨σ7,H7,I7,n7⟩:=q7;exact again I7 n7
  |cont=>obtain⟨σ7,H7,I7,n7⟩:=q7;exact again I7 n7
  |brk=>obtain⟨σ7,H7,I7,q7⟩:=q7;exact⟨σ7,H7,I7.unpinned,q7⟩
  |ret v=>obtain⟨x7,σ7,H7,I7,r7,q7⟩:=q7;exact⟨x7,σ7,H7,I7.unpinned,r7,q7⟩
abbrev R2:=V->V->Hp->VK->Prop
def OpR(X:Cx)(f:Value->Value->Sem Value)(r:R2):Prop :=
 ∀(pins:List (Addr×Obj)) (s:Shared) (σ:St) (H:Hp) (x y:V) (v u:Value) (Q:VK),Inv X pins σ H s->RelV x v->RelV y u->r x y H Q ->
  wpAny (model X.prog X.w) X.A (f v u) (EP X pins σ Q) X.xe s
def CallR(X:Cx)(f:Value)(r:List V->Hp->VK->Prop):Prop :=
 ∀(pins:List (Addr×Obj)) (s:Shared) (σ:St) (H:Hp) (xs:List V) (us:List Value) (Q:VK),Inv X pins σ H s->Vals xs us->r xs H Q ->
  wpAny (model X.prog X.w) X.A (call f us) (EP X pins σ Q) X.xe s
def TruR(X:Cx)(r:V->Hp->(Bool->Hp->Prop)->Prop):Prop :=
 ∀(pins:List (Addr×Obj)) (s:Shared) (σ:St) (H:Hp) (x:V) (v:Value) (Q:Bool->Hp->Prop),Inv X pins σ H s->RelV x v->r x H Q ->
  wpAny (model X.prog X.w) X.A (truthy v) (TP X pins σ Q) X.xe s
def tOp(r:R2)(ta tb:TE):TE:=λσ H Q=>ta σ H λx H1=>tb σ H1 λy H2=>r x y H2 Q
def rI(C:Int->Int->Prop)(g:Int->Int->V):R2:=λx y H Q=>∃i j,x=.int i/\y=.int j/\C i j/\Q (g i j) H
def rI0(g:Int->Int->V):R2:=λx y H Q=>∃i j,x=.int i/\y=.int j/\Q (g i j) H
end
variable{b:Expr}{ta tb tc:TE}{f:Value->Value->Sem Value}
theorem binT(ha:PE X a ta)(hb:PE X b tb){R:V->V->Hp->Prop}(I:Inv X pins σ H s)
  (h:ta σ H λx H1=>tb σ H1 λy H2=>R x y H2){Q:Value->Shared->Prop}
  (hf:∀v u s2 x y H2,Inv X pins σ H2 s2->RelV x v->RelV y u->R x y H2->wpAny (model X.prog X.w) X.A (f v u) Q X.xe s2) :
  wpAny (model X.prog X.w) X.A (eval a X.env) (λv s₁=>wpAny (model X.prog X.w) X.A (eval b X.env) (λu s₂=>wpAny (model X.prog X.w) X.A (f v u) Q X.xe s₂) X.xe s₁) X.xe s:=by
 refine thn (ha pins s σ H _ I h) λv s1 ⟨x,H1,I1,r1,q1⟩=>?_
 refine thn (hb pins s1 σ H1 _ I1 q1) λu s2 ⟨y,H2,I2,r2,q2⟩=>?_
 exact hf v u s2 x y H2 I2 r1 r2 q2
variable{r:R2}
theorem aQo(ho:OpR X (binaryOp op) r)(ha:PE X a ta)(hb:PE X b tb):PE X (.BinOp a op b pos) (tOp r ta tb):=by
 intro pins s σ H Q I h
 exact wpAny_BinOp (binT ha hb I h λv u s2 x y H2 I2 rx ry q=>ho pins s2 σ H2 x y v u Q I2 rx ry q)
variable{g:Int->Int->Int}
theorem opI{C:Int->Int->Prop}
  (rule:∀(i j:Int) (t u:Tok) (s:Shared) (Q:Value->Shared->Prop) (E:Value->Shared->Prop),C i j->Q (.int (g i j) s.toks) {s with toks:=s.toks+1}->wpAny (model X.prog X.w) X.A (f (.int i t) (.int j u)) Q E s) :
  OpR X f (rI C λi j=>.int (g i j)):=by
 intro pins s σ H x y v u Q I rx ry h
 obtain⟨i,j,rfl,rfl,hc,q⟩:=h
 obtain⟨t,rfl⟩:=rx
 obtain⟨t',rfl⟩:=ry
 exact rule i j t t' s _ _ hc ⟨.int (g i j),H,I.tok _,⟨_,rfl⟩,q⟩
theorem opI0 
  (rule:∀(i j:Int) (t u:Tok) (s:Shared) (Q:Value->Shared->Prop) (E:Value->Shared->Prop),Q (.int (g i j) s.toks) {s with toks:=s.toks+1}->wpAny (model X.prog X.w) X.A (f (.int i t) (.int j u)) Q E s) :
  OpR X f (rI0 λi j=>.int (g i j)):=by
 intro pins s σ H x y v u Q I rx ry h
 obtain⟨i,j,rfl,rfl,q⟩:=h
 obtain⟨t,rfl⟩:=rx
 obtain⟨t',rfl⟩:=ry
 exact rule i j t t' s _ _ ⟨.int (g i j),H,I.tok _,⟨_,rfl⟩,q⟩
theorem opB0{g:Int->Int->Bool}
  (rule:∀(i j:Int) (t u:Tok) (s:Shared) (Q:Value->Shared->Prop) (E:Value->Shared->Prop),Q (.bool (g i j)) s->wpAny (model X.prog X.w) X.A (f (.int i t) (.int j u)) Q E s) :
  OpR X f (rI0 λi j=>.bl (g i j)):=by
 intro pins s σ H x y v u Q I rx ry h
 obtain⟨i,j,rfl,rfl,q⟩:=h
 obtain⟨t,rfl⟩:=rx
 obtain⟨t',rfl⟩:=ry
 exact rule i j t t' s _ _ ⟨.bl (g i j),H,I,rfl,q⟩
noncomputable def CPow(i j:Int):Prop:=0<=j/\j<=1000000/\i.natAbs < 2 ^ 64
noncomputable def CMul(i j:Int):Prop:=(-(2 ^ 64) < i/\i < 2 ^ 64)\/(-(2 ^ 64) < j/\j < 2 ^ 64)
theorem CMul.ok{i j:Int}(h:CMul i j):IntMulOk i j:=by
 rcases h with⟨h1,h2⟩|⟨h1,h2⟩
 ·exact .of_left (intBits_le_64 h1 h2)
 ·exact .of_right (intBits_le_64 h1 h2)
theorem aOf:OpR X (binaryOp .Add) (rI0 λi j=>.int (i+j)):=opI0 λ_ _ _ _ _ _ _ q=>add_int q
theorem aLm:OpR X (binaryOp .Sub) (rI0 λi j=>.int (i - j)):=opI0 λ_ _ _ _ _ _ _ q=>sub_int q
theorem aOb:OpR X (binaryOp .Mod) (rI (λ_ j=>0 < j) λi j=>.int (i % j)):=opI λi j _ _ _ _ _ hc q=>by
 have h1:(0:Int) < j:=hc
 exact mod_int' (by lia) (by rw[Int.fmod_eq_emod_of_nonneg i (by lia)];exact q)
theorem aNc:OpR X (binaryOp .Pow) (rI CPow λi j=>.int (i ^ j.toNat)):=opI λ_ _ _ _ _ _ _ hc q=>pow_int_small hc.1 hc.2.1 hc.2.2 q
theorem uG{Q:VK}{k k':Bool}(I:Inv X pins σ H s)(q:Q (.bl k) H)(e:k=k'):EP X pins σ Q (.bool k') s:=by
 subst e
 exact⟨.bl k,H,I,rfl,q⟩
theorem aPv:OpR X (compareOp .Lt) (rI0 λi j=>.bl (decide (i < j))):=opB0 λ_ _ _ _ _ _ _ q=>lt_int q
theorem aQi:OpR X (compareOp .LtE) (rI0 λi j=>.bl (decide (i<=j))):=opB0 λ_ _ _ _ _ _ _ q=>le_int q
theorem aQg:OpR X (compareOp .Gt) (rI0 λi j=>.bl (decide (j < i))):=opB0 λ_ _ _ _ _ _ _ q=>gt_int q
theorem aQu:OpR X (compareOp .GtE) (rI0 λi j=>.bl (decide (j<=i))):=opB0 λ_ _ _ _ _ _ _ q=>ge_int q
theorem aBr:OpR X (compareOp .In) (λx y H Q=>∃i j,x=.str i/\y=.str j/\Q (.bl (!(Builtin.Str.occurrences j i 0 j.length 1).isEmpty)) H):=by
 intro pins s σ H x y v u Q I rx ry h
 obtain⟨i,j,rfl,rfl,q⟩:=h
 obtain⟨t,rfl⟩:=rx
 obtain⟨t',rfl⟩:=ry
 exact in_str (uG I q rfl)
theorem aLo:OpR X (compareOp .Is) (λx y H Q=>y=.non/\Q (.bl (decide (x=.non))) H):=by
 intro pins s σ H x y v u Q I rx ry h
 obtain⟨rfl,q⟩:=h
 cases ry
 refine is_none_gen (uG I q ?_)
 cases x <;> first
  |(cases rx;rfl)
  |(obtain⟨t,rfl⟩:=rx;rfl)
theorem aKb:OpR X (compareOp .IsNot) (λx y H Q=>y=.non/\Q (.bl (!decide (x=.non))) H):=by
 intro pins s σ H x y v u Q I rx ry h
 obtain⟨rfl,q⟩:=h
 cases ry
 refine isnot_none_gen (uG I q ?_)
 cases x <;> first
  |(cases rx;rfl)
  |(obtain⟨t,rfl⟩:=rx;rfl)
theorem uI:OpR X (compareOp .NotIn) (λx y H Q=>∃i j,x=.str i/\y=.str j/\Q (.bl (!(!(Builtin.Str.occurrences j i 0 j.length 1).isEmpty))) H):=by
 intro pins s σ H x y v u Q I rx ry h
 obtain⟨i,j,rfl,rfl,q⟩:=h
 obtain⟨t,rfl⟩:=rx
 obtain⟨t',rfl⟩:=ry
 exact notIn_str (uG I q rfl)
variable{op:CmpOp}
theorem nomark(b:Expr)(h:op≠.In:=by decide)(h2:op≠.NotIn:=by decide):behindInMarks op b=false:=by
 have e1:(op==CmpOp.In)=false:=by cases op <;> first|rfl|exact absurd rfl h
 have e2:(op==CmpOp.NotIn)=false:=by cases op <;> first|rfl|exact absurd rfl h2
 cases b <;> simp[behindInMarks,e1,e2]
theorem aJi(ho:OpR X (compareOp op) r)(ha:PE X a ta)(hb:PE X b tb)(hm:behindInMarks op b=false):PE X (.Compare a [op] [b] pos) (tOp r ta tb):=by
 intro pins s σ H Q I h
 exact wpAny_Compare1 (binT ha hb I h λv u s2 x y H2 I2 rx ry q=>ho pins s2 σ H2 x y v u Q I2 rx ry q) hm
noncomputable section
def tTest(t:TE):TT:=λσ H Q=>t σ H λx H'=>∃k,x=.bl k/\Q k H'
theorem aHc(ho:OpR X (compareOp op) r)(ha:PE X a ta)(hb:PE X b tb)(hm:behindInMarks op b=false):PT X (.Compare a [op] [b] pos) (tTest (tOp r ta tb)):=by
 intro pins s σ H Q I h
 refine wpAny_isTrue_Compare1 (thn (ha pins s σ H _ I h) λv s1 ⟨x,H1,I1,r1,q1⟩=>thn (hb pins s1 σ H1 _ I1 q1) λu s2 ⟨y,H2,I2,r2,q2⟩ =>
  thn (ho pins s2 σ H2 x y v u _ I2 r1 r2 q2) λc s3 ⟨z,H3,I3,r3,k,e,q3⟩=>?_) hm
 subst e
 cases r3
 exact aDH ⟨H3,I3,q3⟩
def tChain(r r':R2)(ta tb tc:TE):TE:=λσ H Q=>ta σ H λx H1=>tb σ H1 λy H2=>r x y H2 λz H3=>∃k,z=.bl k /\
 (if k=true then tc σ H3 λw' H4=>r' y w' H4 Q else Q (.bl false) H3)
theorem aGm{op':CmpOp}{r':R2}(ho:OpR X (compareOp op) r)(ho':OpR X (compareOp op') r')(ha:PE X a ta)(hb:PE X b tb)(hc:PE X c tc)
  (hm:lastMarks [op,op'] [b,c]=false:=by with_unfolding_all rfl):PT X (.Compare a [op,op'] [b,c] pos) (tTest (tChain r r' ta tb tc)):=by
 intro pins s σ H Q I h
 refine isTrue_chain (thn (ha pins s σ H _ I h) λv s1 ⟨x,H1,I1,r1,q1⟩=>test_link (thn (hb pins s1 σ H1 _ I1 q1) λu s2 ⟨y,H2,I2,r2,q2⟩ =>
  thn (ho pins s2 σ H2 x y v u _ I2 r1 r2 q2) λd s3 ⟨z,H3,I3,r3,k,e,q3⟩=>?_)) hm
 subst e
 cases r3
 refine aDH ?_
 cases k with
 |false =>
  obtain⟨k',e',q'⟩:=q3
  cases e'
  exact ite_ff ⟨H3,I3,q'⟩
 |true =>
  refine ite_tt (test_last (thn (hc pins s3 σ H3 _ I3 q3) λw' s4 ⟨z',H4,I4,r4,q4⟩=>thn (ho' pins s4 σ H4 y z' u w' _ I4 r2 r4 q4) λd' s5 ⟨z2,H5,I5,r5,k2,e2,q5⟩=>?_))
  subst e2
  cases r5
  exact aDH ⟨H5,I5,q5⟩
def TruV(K:Frag)(x:V)(H:Hp)(k:Bool):Prop :=
 match x with
 |.non=>k=false
 |.bl b=>k=b
 |.int i=>k=(i != 0)
 |.str y=>y.length<=sizeLine/\k=((y.length:Int) != 0)
 |.byt y=>y.size<=sizeLine/\k=((y.size:Int) != 0)
 |.ref p=>(∃xs,SqL K H p xs/\k=!xs.isEmpty)\/(∃xs,SqT K H p xs/\k=!xs.isEmpty)\/∃kvs,H p=some (.dK kvs)/\k=!kvs.isEmpty
 |_=>False
end
theorem xV{κ:Type}{kvs:List (κ×V)}{vs:List (κ×Value)}(r:KV kvs vs):(!vs.isEmpty)=!kvs.isEmpty:=by
 cases r <;> rfl
theorem pA(r:Vals xs its):(!its.toArray.isEmpty)=!xs.isEmpty:=by
 cases r <;> simp
theorem line63:(sizeLine:Nat) < 2 ^ 63:=by rw[aAT];decide
theorem aNg:TruR X (λx H Q=>∃k,TruV X.K x H k/\Q k H):=by
 intro pins s σ H x v Q I rx h
 obtain⟨k,e,q⟩:=h
 have hl:=line63
 have hs:sizeLine=16777216:=aAT
 cases x with
 |non =>
  cases rx
  have e':k=false:=e
  subst e'
  exact truthy_none ⟨H,I,q⟩
 |bl b =>
  cases rx
  have e':k=b:=e
  subst e'
  exact aDH ⟨H,I,q⟩
 |int i =>
  obtain⟨t,rfl⟩:=rx
  have e':k=(i != 0):=e
  subst e'
  exact PySem.P.truthy_int ⟨H,I,q⟩
 |str y =>
  obtain⟨t,rfl⟩:=rx
  obtain⟨hy,e'⟩:y.length<=sizeLine/\k=((y.length:Int) != 0):=e
  subst e'
  exact PySem.P.truthy_str (by lia) ⟨H,I.tok _,q⟩
 |byt y =>
  obtain⟨t,rfl⟩:=rx
  obtain⟨hy,e'⟩:y.size<=sizeLine/\k=((y.size:Int) != 0):=e
  subst e'
  exact PySem.W.truthy_bytes (by lia) ⟨H,I.tok _,q⟩
 |ref p =>
  cases rx
  have e':(∃xs,SqL X.K H p xs/\k=!xs.isEmpty)\/(∃xs,SqT X.K H p xs/\k=!xs.isEmpty)\/∃kvs,H p=some (.dK kvs)/\k=!kvs.isEmpty:=e
  rcases e' with⟨xs,hx,e'⟩|⟨xs,hx,e'⟩|⟨kvs,hx,e'⟩
  ·subst e'
   obtain⟨its,r,pl,hz⟩:=I.list hx
   have hlen:=r.length
   exact wpAny_truthy_list pl.isList (by simp only[aAJ];lia) ⟨H,I.tok _,by rw[pA r];exact q⟩
  ·subst e'
   obtain⟨its,r,pl,hz⟩:=I.tuple hx
   have hlen:=r.length
   exact truthy_tuple pl (by simp only[aAJ];lia) ⟨H,I.tok _,by rw[pA r];exact q⟩
  ·subst e'
   obtain⟨hz,hS,vs,r,m⟩:kvs.length<=sizeLine/\(p==sysModules)=false/\∃vs,KV kvs vs/\s.heap.DictOf (mixKind X.prog X.w) p vs:=I.hok p _ hx
   have hlen:kvs.length=vs.length:=Paired.length r
   exact wpAny_truthy_dict hS m (by lia) ⟨H,I.tok _,by rw[xV r];exact q⟩
 |_=>exact(show False from e).elim
theorem aFs(ha:PE X a ta)(he:∀whole,isTrue a X.env whole=(do let v <- whole;standAt a.pos;holding [v] (truthy v))) :
  PT X a (λσ H Q=>ta σ H λx H'=>∃k,TruV X.K x H' k/\Q k H'):=by
 intro pins s σ H Q I h
 exact isTrue_plain (thn (ha pins s σ H _ I h) λv s1 ⟨x,H1,I1,r1,q1⟩=>aNg pins s1 σ H1 x v Q I1 r1 q1) (he _)
theorem xP:OpR X (binaryOp .Add) (λx y H Q=>∃i j,x=.str i/\y=.str j/\i.length+j.length<=sizeLine/\Q (.str (i++j)) H):=by
 intro pins s σ H x y v u Q I rx ry h
 obtain⟨i,j,rfl,rfl,hz,q⟩:=h
 obtain⟨t,rfl⟩:=rx
 obtain⟨t',rfl⟩:=ry
 exact add_str (λt' tk=>⟨.str (i++j),H,I.tok _,⟨_,rfl⟩,q⟩) hz
variable{x:V}
theorem vals1(r:Vals [x] us):∃u,us=[u]/\RelV x u:=by
 cases r with
 |cons r1 r2=>cases r2;exact⟨_,rfl,r1⟩
theorem vals2{y:V}(r:Vals [x,y] us):∃u w',us=[u,w']/\RelV x u/\RelV y w':=by
 cases r with
 |cons r1 r2 =>
  cases r2 with
  |cons r3 r4=>cases r4;exact⟨_,_,rfl,r1,r3⟩
theorem aBc:CallR X (.type "int") (λxs H Q=>(∃i,xs=[.int i]/\Q (.int i) H)\/∃k,xs=[.bl k]/\Q (.int (if k then 1 else 0)) H):=by
 intro pins s σ H xs us Q I r h
 rcases h with⟨i,rfl,q⟩|⟨k,rfl,q⟩
 ·obtain⟨u,rfl,t,rfl⟩:=vals1 r
  exact call_int_int ⟨.int i,H,I,⟨_,rfl⟩,q⟩
 ·obtain⟨u,rfl,r1⟩:=vals1 r
  cases r1
  exact call_int_bool ⟨.int (if k then 1 else 0),H,I.tok _,⟨_,rfl⟩,q⟩
theorem tM:CallR X (.type "str") (λxs H Q=>∃i,xs=[.int i]/\i.natAbs.log2 < 1920/\Q (.str (toString i)) H):=by
 intro pins s σ H xs us Q I r h
 obtain⟨i,rfl,hz,q⟩:=h
 obtain⟨u,rfl,t,rfl⟩:=vals1 r
 exact PySem.P.str_of_int hz ⟨.str _,H,I.tok _,⟨_,rfl⟩,q⟩
structure ObjM(h:Heap)(x dx C:Addr)(mA:Str->Option Value):Prop where
 obj:h.get? x=some (PySem.W.instObj C dx)
 ns:h.Ns1 dx mA
 ne:dx≠x
theorem mY(n:h.Ns1 dx mA):∃od,h.get? dx=some od/\∀name,PySem.W.lookIn name od=some (mA name):=by
 obtain⟨o,es,ep,ho,hd,hk,_,hm⟩:=n
 refine⟨o,ho,λname=>?_⟩
 have e:=hm name
 unfold nsFind findBy at e
 rw[<- Array.find?_toList]at e
 unfold PySem.W.lookIn
 rw[hd]
 dsimp only
 split
 ·rename_i y q
  rw[q]at e
  exact congrArg some e
 ·rename_i q
  rw[q]at e
  have a:es.toList.any (·.refKey)=false:=by
   rw[List.any_eq_false]
   intro y hy
   obtain⟨z,t,hkey⟩:=hk y (Array.mem_toList_iff.mp hy)
   simp[DictEntry.refKey,hkey]
  have a':¬es.toList.any (·.refKey)=true:=by rw[a];exact aBA
  rw[aAL a']
  exact congrArg some e
theorem ObjM.look{x:Addr}(I:ObjM h x dx C mA):∃od,PySem.W.InstAt h x (PySem.W.instObj C dx) C (some od)/\∀name,PySem.W.lookIn name od=some (mA name) :=
 let⟨od,ho,hl⟩:=mY I.ns
 ⟨od,⟨I.obj,rfl,rfl,ho⟩,hl⟩
variable{prog:Program}{K:Frag}{x f:Addr}{v:Value}
section
variable{a:Addr}{fs fs':List (Str×V)}
theorem aHx(hok:HOk P w H h)(e:H a=some (.ins C dx fs)):∃mA,ObjM h a dx C mA/\(∀f,RelO (fs.lookup f) (mA f))/\PySem.Within mA (fs.map (·.1))/\fs.length<=1000/\H dx=some (.own a):=by
 obtain⟨d,z,ne,ob,mA,n,r,q⟩:=(show ObjOk P w H h a (.ins C dx fs)from hok a _ e)
 exact⟨mA,⟨ob,n,ne⟩,r,q,z,d⟩
end
structure Cls(K:Frag)(C:Addr):Prop where
 pg:PySem.W.plainGet K C Str.empty=true
 hd:PySem.W.hasDictIn K C=true
 po:PySem.W.plainOver K C=true
 sa:PySem.W.findIn K (.ref C) "__setattr__"=some (some (.builtin "object.__setattr__"))
theorem Cls.get{K:Frag}{C:Addr}(c:Cls K C)(f:Str):PySem.W.plainGet K C f=true:=c.pg
structure Con(K:Frag)(C:Addr)(f:Str)(v:V)(u:Value):Prop where
 at_:PySem.W.findIn K (.ref C) f=some (some u)
 rel:RelV v u
 get:PySem.W.specialIn K u "__get__"=some none
 cp:PySem.W.copiedNames.contains f=false
structure Meth(K:Frag)(C:Addr)(m:Str)(f:Addr):Prop where
 at_:PySem.W.findIn K (.ref C) m=some (some (.ref f))
 fn:PySem.W.isFn K (.ref f)=true
 kp:keepIn K (.ref f)=true
section
variable{a:Addr}{fs:List (Str×V)}{f:Str}{v:V}
theorem aIi{Q:Value->Shared->Prop}(hb:attributeBase e f env (eval e env)=eval e env)
  (h:wpAny (model prog w) A (eval e env) (λo s₁=>wpAny (model prog w) A (getAttr o f true) Q E s₁) E s):wpAny (model prog w) A (eval (.Attribute e f pos) env) Q E s :=
 Attribute_any_ h (by rw[arm_eval_Attribute,hb])
end
variable{o value:Expr}{f:Str}{tv:TE}{Q:Value->Shared->Prop}{c:Value}{b:Bool}
inductive TyOf(K:Frag)(H:Hp):V->Value->Prop where
 |non:TyOf K H .non (.type "NoneType")
 |bl (x:Bool):TyOf K H (.bl x) (.type "bool")
 |int (i:Int):TyOf K H (.int i) (.type "int")
 |str (x:Str):TyOf K H (.str x) (.type "str")
 |flt (x:UInt64):TyOf K H (.flt x) (.type "float")
 |lst {a:Addr} {xs:List V} (e:H a=some (.lst xs)):TyOf K H (.ref a) (.type "list")
 |frz {a:Addr} {o:Obj} {xs:List V} (e:H a=some (.frz o (.lst xs))):TyOf K H (.ref a) (.type "list")
 |tup {a:Addr} {xs:List V} (e:H a=some (.tup xs)):TyOf K H (.ref a) (.type "tuple")
 |dK {a:Addr} {kvs:List (Key×V)} (e:H a=some (.dK kvs)):TyOf K H (.ref a) (.type "dict")
 |dT {a:Addr} {kvs:List (List Key×V)} (e:H a=some (.dT kvs)):TyOf K H (.ref a) (.type "dict")
 |ins {a C dx:Addr} {fs:List (Str×V)} (e:H a=some (.ins C dx fs)) (cl:Cls K C) (ha:PySem.W.findIn K (.ref C) "__class__"=some (some (.builtin "object.__class__")))
   (hn:PySem.W.specialIn K (.builtin "object.__class__") "__get__"=some (some (.builtin "getset_descriptor.__get__"))) (htk:PySem.W.takesIn K (.builtin "object.__class__")=some true)
   (hm:PySem.W.mroIn K C (.type "object")=some true):TyOf K H (.ref a) (.ref C)
theorem aCi{x:V}{t:Value}(I:Inv X pins σ H s)(rx:RelV x u)(ty:TyOf X.K H x t)(e:PySem.W.kitOne X.K t c=some b)(h:∀tk,Q (.bool b) {s with toks:=tk}) :
  wpAny (model X.prog X.w) A (call (.builtin "isinstance") [u,c]) Q E s:=by
 cases ty with
 |non=>cases(show u=Value.none from rx);exact aCM PySem.W.kitx_none I.kIn True.intro e (λz=>nomatch z) h
 |bl y=>cases(show u=Value.bool y from rx);exact aCM PySem.W.kitx_bool I.kIn True.intro e (λz=>nomatch z) h
 |int i=>obtain⟨t,q⟩:=(show ∃t,u=Value.int i t from rx);cases q;exact aCM PySem.W.kitx_int I.kIn True.intro e (λz=>nomatch z) h
 |str y=>obtain⟨t,q⟩:=(show ∃t,u=Value.str y t from rx);cases q;exact aCM PySem.W.kitx_str I.kIn True.intro e (λz=>nomatch z) h
 |flt y=>obtain⟨t,q⟩:=(show ∃t,u=Value.float y t from rx);cases q;exact aCM PySem.W.kitx_float I.kIn True.intro e (λz=>nomatch z) h
 |@lst a xs ea =>
  cases(show u=Value.ref a from rx)
  obtain⟨_,_,n,_,h1⟩:=(show ObjOk X.prog X.w H s.heap a (.lst xs)from I.hok a _ ea)
  exact aCM PySem.W.kitx_list I.kIn ⟨_,h1,rfl⟩ e (λz=>nomatch z) h
 |@frz a ob xs ea =>
  cases(show u=Value.ref a from rx)
  obtain⟨_,_,_,n,_,h1⟩:=(show ObjOk X.prog X.w H s.heap a (.frz ob (.lst xs))from I.hok a _ ea)
  exact aCM PySem.W.kitx_list I.kIn ⟨_,h1,rfl⟩ e (λz=>nomatch z) h
 |@tup a xs ea =>
  cases(show u=Value.ref a from rx)
  obtain⟨_,_,_,p⟩:=(show ObjOk X.prog X.w H s.heap a (.tup xs)from I.hok a _ ea)
  obtain⟨o,h1,h2,_⟩:=p
  exact aCM PySem.W.kitx_tuple I.kIn ⟨o,h1,h2⟩ e (λz=>nomatch z) h
 |@dK a kvs ea =>
  cases(show u=Value.ref a from rx)
  obtain⟨_,_,vs,_,p⟩:=(show ObjOk X.prog X.w H s.heap a (.dK kvs)from I.hok a _ ea)
  obtain⟨o,es,ep,h1,h2,_⟩:=p
  exact aCM PySem.W.kitx_dict I.kIn ⟨o,h1,h2.1⟩ e (λz=>nomatch z) h
 |@dT a kvs ea =>
  cases(show u=Value.ref a from rx)
  obtain⟨_,_,xs,_,o,es,ep,h1,h2,_⟩:=(show ObjOk X.prog X.w H s.heap a (.dT kvs)from I.hok a _ ea)
  exact aCM PySem.W.kitx_dict I.kIn ⟨o,h1,h2.1⟩ e (λz=>nomatch z) h
 |@ins a C dx fs ea cl ha hn htk hm =>
  cases(show u=Value.ref a from rx)
  obtain⟨mA,O,_⟩:=aHx I.hok ea
  obtain⟨od,J,_⟩:=O.look
  exact aCM (PySem.W.kitx_own (cl.get _) cl.hd ha hn htk hm) I.kIn J e (λz=>nomatch z) h
structure Room(k:Nat)(A:Around):Prop where
 hd:A.handled=none
 dp:A.depth+3*k+5 < recursionLimit
 un:A.units+16*k+200 < cLine
theorem Room.mono{k:Nat}(r:Room k A)(h:j<=k):Room j A:=⟨r.hd,by have:=r.dp;lia,by have:=r.un;lia⟩
theorem Room.deeper{k:Nat}{A:Around}(r:Room (k+1) A)(env:Env):Room k (A.deeper env) :=
 ⟨r.hd,by have:=r.dp;show A.depth+1+3*k+5 < _;lia,by have:=r.un;show A.units+3+16*k+200 < _;lia⟩
theorem yC :(A.under (.builtin "type.__call__" ⟨.ref C::us,kw⟩)).depth=A.depth+1:=by
 first|rfl|simp[Around.under,Code.weight,Code.isCreation,Code.isGuard,Code.isCaller,Code.frames,Code.isFrame,guardIds]
theorem yK :(A.under (.builtin "type.__call__" ⟨.ref C::us,kw⟩)).units=A.units+1:=by
 first|rfl|simp[Around.under,Code.cUnits,Code.frames,Code.isFrame]
theorem Room.make{k:Nat}(r:Room (k+1) A)(C:Addr)(us:List Value)(kw:List (Str×Value)):Room k (A.under (.builtin "type.__call__" ⟨.ref C::us,kw⟩)) :=
 ⟨r.hd,by have:=r.dp;rw[yC];lia,by have:=r.un;rw[yK];lia⟩
theorem Room.depth{k:Nat}{A:Around}(r:Room k A):A.depth < recursionLimit:=by have:=r.dp;lia
noncomputable def tNil:TA:=λ_ H Q=>Q [] H
noncomputable def tCons(ta:TE)(tr:TA):TA:=λσ H Q=>ta σ H λx H1=>tr σ H1 λxs H2=>Q (x::xs) H2
section
variable{t:TA}
theorem dE:PA X [] tNil:=λ_ _ _ _ H Q I h=>aHP ⟨[],H,I,.nil,h⟩
theorem bJ(ha:PE X e te)(hr:PA X es t)(hs:starEach (e::es) X.env=(false,eval e X.env)::starEach es X.env:=by rfl):PA X (e::es) (tCons te t):=by
 intro pos pins s σ H Q I h
 rw[hs]
 show wpAny _ _ (spliced ((false,eval e X.env)::backTo pos (starEach es X.env))) _ _ s
 refine aFR (thn (ha pins s σ H _ I h) λu s1 ⟨x,H1,I1,r1,q1⟩=>?_)
 exact thn (hr pos pins s1 σ H1 _ I1 q1) λus s2 ⟨xs,H2,I2,r2,q2⟩=>⟨x::xs,H2,I2,.cons r1 r2,q2⟩
noncomputable def tTup(t:TA):TE:=λσ H Q=>t σ H λxs H1=>xs.length<=sizeLine/\∀p,H1 p=none->Q (.ref p) (upd H1 p (.tup xs))
noncomputable def tLst(t:TA):TE:=λσ H Q=>t σ H λxs H1=>xs.length<=sizeLine/\∀p,H1 p=none->Q (.ref p) (upd H1 p (.lst xs))
theorem aGp{x1}(h:PA X es t):PE X (.Tuple es x1 pos) (tTup t):=by
 intro pins s σ H Q I hq
 refine wpAny_Tuple_spliced (thn (h pos pins s σ H _ I hq) λus s1 ⟨xs,H1,I1,r,z,q⟩=>⟨by rw[<- r.length];exact z,?_⟩)
 have hf:H1 s1.heap.objs.size=none:=I1.hok.fresh (aAI _)
 refine⟨.ref s1.heap.objs.size,upd H1 s1.heap.objs.size (.tup xs),I1.laid (t':=s1.toks) (λb u e=>aAA _ e) (aAI _) ?_,rfl,q _ hf⟩
 exact⟨z,us,r,⟨_,aAG _ rfl,rfl,_,rfl⟩⟩
theorem yL(h:PA X es t):PE X (.List es pos) (tLst t):=by
 intro pins s σ H Q I hq
 refine wpAny_List_spliced (thn (h pos pins s σ H _ I hq) λus s1 ⟨xs,H1,I1,r,z,q⟩=>⟨by rw[<- r.length];exact z,?_⟩)
 have hf:H1 s1.heap.objs.size=none:=I1.hok.fresh (aAI _)
 refine⟨.ref s1.heap.objs.size,upd H1 s1.heap.objs.size (.lst xs),I1.laid (t':=s1.toks) (λb u e=>aAA _ e) (aAI _) ?_,rfl,q _ hf⟩
 exact⟨z,us,0,r,aAG _ rfl⟩
end
noncomputable abbrev Sp:=List V->Hp->VK->XK->Prop
noncomputable abbrev CXT:=List Env->Hp->Shared->XK->Value->Shared->Prop
structure Env0(P:Program)(w:World)(K:Frag)(mg:Str->Option Value)(base:Heap)(A:Around)(outer:List Env)(s:Shared)(H:Hp):Prop where
 frames:A.frames=some outer
 mod:Mod K mg base
 bs:∀b o,base.get? b=some o->s.heap.get? b=some o/\H b=none
 bsz:base.objs.size<=s.heap.objs.size
 funs:s.heap.FunFrames base outer
 frf:∀b∈frs outer,H b=none
 hok:HOk P w H s.heap
 bare:AllBare s.gens
noncomputable def CE(outer:List Env)(P:Program)(w:World)(H:Hp)(s:Shared)(Q:VK)(u:Value)(s':Shared):Prop :=
 ∃v H',s'.os=s.os/\AllBare s'.gens/\Un (frs outer) [] H H' s.heap s'.heap/\HOk P w H' s'.heap/\RelV v u/\Q v H'
noncomputable def CR(CX:CXT)(outer:List Env)(P:Program)(w:World)(H:Hp)(s:Shared)(Q:VK)(E:XK)(r:Result)(s':Shared):Prop :=
 match r with
 |.ok (.ret u)=>CE outer P w H s Q u s'
 |.ok _=>False
 |.error e=>CX outer H s E e s'
structure FnOk(P:Program)(w:World)(K:Frag)(mg:Str->Option Value)(base:Heap)(CX:CXT)(k:Nat)(f:Addr)(fd:FuncData)(ps:List Str)(sp:Sp):Prop where
 len:∀vs H Q E,sp vs H Q E->vs.length=ps.length
 run:∀(A:Around) (outer:List Env) (s:Shared) (H:Hp) (args:Args) (us:List Value) (vs:List V) (Q:VK) (E:XK),Room k A->Env0 P w K mg base A outer s H->BindsTo s fd args (ps.zip us)->Vals vs us->sp vs H Q E ->
  codeAny (model P w) A (.call (.ref f) args) (CR CX outer P w H s Q E) s
theorem FnOk.mono{P:Program}{w:World}{K:Frag}{mg:Str->Option Value}{base:Heap}{CX:CXT}{j k:Nat}{f:Addr}{fd:FuncData}{ps:List Str}{sp:Sp}(F:FnOk P w K mg base CX j f fd ps sp)(h:j<=k) :
  FnOk P w K mg base CX k f fd ps sp:=⟨F.len,λA outer s H args us vs Q E hr=>F.run A outer s H args us vs Q E (hr.mono h)⟩
theorem Env0.make(e:Env0 P w K mg base A outer s H)(C:Addr)(us:List Value)(kw:List (Str×Value)) :
  Env0 P w K mg base (A.under (.builtin "type.__call__" ⟨.ref C::us,kw⟩)) outer s H:=⟨by first|exact e.frames|(simpa[Around.under,Code.envs,Code.isFrame,pushEnvs]using e.frames),e.mod,e.bs,e.bsz,e.funs,e.frf,e.hok,e.bare⟩
theorem Inv.env0(I:Inv X pins σ H s):Env0 X.prog X.w X.K X.mg X.base X.A X.stack s H :=
 ⟨I.ok.frames,I.ok.mod,I.bs,aBD I.ok.bsz I.sz,I.stack,I.stkFree,I.hok,I.bare⟩
variable{Q:VK}
theorem Inv.after(I:Inv X pins σ H s)(h:CE X.stack X.prog X.w H s Q u s'):EP X pins σ Q u s':=by
 obtain⟨v,H',os,bare,un,hok,r,q⟩:=h
 obtain⟨hh,g,d,t,os'⟩:=s'
 obtain rfl:os'=s.os:=os
 exact⟨v,H',I.call (h':=hh) (g':=g) (d':=d) (t':=t) (ch:=[]) un hok bare (λb z=>absurd z (by simp)),r,q⟩
noncomputable section
def tCall(sp:Sp)(dvs:List V)(E:XK)(t:TA):TE:=λσ H Q=>t σ H λvs H1=>sp (vs++dvs) H1 Q E
def Binds(K:Frag)(fd:FuncData)(ps:List Str)(ds:List Value):Prop :=
 ∀(s:Shared) (us:List Value),K.In s.heap->(us++ds).length=ps.length->BindsTo s fd ⟨us,[]⟩ (ps.zip (us++ds))
theorem Binds.all(h:∀us:List Value,us.length=ps.length->bindArgs fd ⟨us,[]⟩=pure (ps.zip us)):Binds K fd ps []:=λs us _ hl=>by
 rw[aDU]at hl ⊢
 exact .of_eq (h us hl)
def Passes(CX:CXT)(X:Cx)(E:XK):Prop:=∀(pins:List (Addr×Obj)) (σ:St) (H:Hp) (s:Shared) (e:Value) (s':Shared),Inv X pins σ H s->CX X.stack H s E e s'->X.xe e s'
end
section
variable{CX:CXT}{k:Nat}{f:Addr}{sp:Sp}{dvs:List V}{ds:List Value}{E:XK}{x m:Str}{t:TA}
theorem aNi{vs:List V}(F:FnOk X.prog X.w X.K X.mg X.base CX k f fd ps sp)(hr:Room k X.A)(hb:Binds X.K fd ps ds)(hd:Vals dvs ds)(hx:Passes CX X E)
  (I:Inv X pins σ H s)(r:Vals vs us)(h:sp (vs++dvs) H Q E):wpAny (model X.prog X.w) X.A (call (.ref f) us) (EP X pins σ Q) X.xe s:=by
 have r2:Vals (vs++dvs) (us++ds):=r.append hd
 have hl:(us++ds).length=ps.length:=by rw[<- r2.length];exact F.len _ _ _ _ h
 refine aEQ (aEW (F.run X.A X.stack s H ⟨us,[]⟩ (us++ds) (vs++dvs) Q E hr I.env0 (hb s us I.kIn hl) r2 h) λr s' hq=>?_)
 cases r with
 |error e=>exact hx pins σ H s e s' I hq
 |ok fl =>
  cases fl with
  |ret u=>exact I.after hq
  |next=>exact False.elim hq
  |brk=>exact False.elim hq
  |cont=>exact False.elim hq
theorem oG(F:FnOk X.prog X.w X.K X.mg X.base CX k f fd ps sp)(hr:Room k X.A)(hg:Gl X x)(hm:X.mg x=some (.ref f))(hk:keepIn X.K (.ref f)=true)(hb:Binds X.K fd ps ds)(hd:Vals dvs ds)(hx:Passes CX X E)
  (ha:PA X (e::es) t)(hdb:(x==("__debug__":Str))=false:=by decide)(he:starEach (e::es) X.env=(false,eval e X.env)::starEach es X.env:=by rfl)(hpl:(backTo pos (starEach es X.env)).any (·.1)=false:=by rfl) :
  PE X (.Call (.Name x p) (e::es) [] pos) (tCall sp dvs E t):=by
 intro pins s σ H Q I h
 refine aCV (kL I hg hm ?_ hdb)
 refine aHE (h₀:=X.base) I.ok.mod.kin hk (thn (ha pos pins s σ H _ I h) λus s1 ⟨vs,H1,I1,r,q⟩=>⟨I1.kIn,?_⟩) he hpl
 exact aNi F hr hb hd hx I1 r q
structure Mk(K:Frag)(C f:Addr):Prop where
 makes:PySem.W.makesIn K C=true
 init:PySem.W.findIn K (.ref C) "__init__"=some (some (.ref f))
 fn:PySem.W.isFn K (.ref f)=true
 kp:keepIn K (.ref C)=true
end
noncomputable def PK(X:Cx)(kws:List Keyword)(t:TA):Prop :=
 ∀(pos:Pos) (pins:List (Addr×Obj)) (s:Shared) (σ:St) (H:Hp) (Q:List V->Hp->Prop),Inv X pins σ H s->t σ H Q->wpAny (model X.prog X.w) X.A (evalAll ((backToKw pos (keywordEach kws X.env)).map (·.2))) (AP X pins σ Q) X.xe s
section
variable{CX:CXT}{k:Nat}{f:Addr}{ks:List Str}{sp:Sp}{E:XK}{x m:Str}{kpos:Pos}{kws:List Keyword}{t tk:TA}{nm:Option Str}
theorem aMh:PK X [] tNil:=λ_ _ _ _ H Q I h=>wpAny_evalAll_nil ⟨[],H,I,.nil,h⟩
theorem aIn(ha:PE X e te)(hr:PK X kws t):PK X (⟨nm,e,kpos⟩::kws) (tCons te t):=by
 intro pos pins s σ H Q I h
 show wpAny _ _ (evalAll ((do let v <- eval e X.env;standAt pos;pure v)::(backToKw pos (keywordEach kws X.env)).map (·.2))) _ _ s
 refine wpAny_evalAll_cons (aAB (thn (ha pins s σ H _ I h) λu s1 ⟨x,H1,I1,r1,q1⟩=>aAB (aDL (aAD ?_))))
 exact thn (hr pos pins s1 σ H1 _ I1 q1) λus s2 ⟨xs,H2,I2,r2,q2⟩=>⟨x::xs,H2,I2,.cons r1 r2,q2⟩
structure KBinds(K:Frag)(fd:FuncData)(ps ks:List Str)(g:List Value->List Value->List Value)(gV:List V->List V->List V):Prop where
 to:∀(s:Shared) (us ws:List Value),K.In s.heap->(g us ws).length=ps.length->BindsTo s fd ⟨us,ks.zip ws⟩ (ps.zip (g us ws))
 rel:∀{vs:List V} {us:List Value} {zs:List V} {ws:List Value},Vals vs us->Vals zs ws->Vals (gV vs zs) (g us ws)
variable{g:List Value->List Value->List Value}{gV:List V->List V->List V}
end
structure FnScope(N P:List Str)(sc:Scope):Prop where
 kind:sc.kind=.function
 co:sc.isCoroutine=false
 gen:sc.isGenerator=false
 nd:N.Nodup
 pre:N.take P.length=P
 par:∀x∈P,sc.names.lookup x=some .local\/sc.names.lookup x=some .cell
 nofree:∀y∈sc.names,y.2≠.free
theorem rY{kindOf:Str->Option NameKind}{x:Str}:∀{binds:List (Str×Value)} {m:Str->Option Value},(∀v,(x,v)∉binds)->bindL kindOf binds m x=m x
 |[],_,_=>rfl
 |(n,v)::r,m,h=>by
  unfold bindL
  rw[rY λw hw=>h w (aBR _ hw)]
  split
  ·have:x≠n:=by rintro rfl;exact h v aDQ
   simp[this]
  ·rfl
theorem sK{kindOf:Str->Option NameKind}{x:Str}:∀{binds:List (Str×Value)} {m:Str->Option Value},(∀v,(x,v)∉binds)->bindC kindOf binds m x=m x
 |[],_,_=>rfl
 |(n,v)::r,m,h=>by
  unfold bindC
  rw[sK λw hw=>h w (aBR _ hw)]
  split
  ·rfl
  ·have:x≠n:=by rintro rfl;exact h v aDQ
   simp[this]
theorem sO{kindOf:Str->Option NameKind}{x:Str}{v:Value}:∀{P:List Str} {vs:List Value} {i:Nat} {m:Str->Option Value},P.Nodup->P[i]?=some x->vs[i]?=some v->kindOf x=some .local ->
  bindL kindOf (P.zip vs) m x=some v
 |[],_,_,_,_,h,_,_=>by simp at h
 |_::_,[],_,_,_,_,h,_=>by simp at h
 |p::P,w::vs,0,m,nd,h1,h2,hk=>by
  simp at h1 h2;subst h1;subst h2
  show bindL kindOf ((p,w)::P.zip vs) m p=_
  unfold bindL
  rw[rY λv hv=>(aHA.mp nd).1 (List.of_mem_zip hv).1,aAH hk]
  simp
 |p::P,w::vs,i+1,m,nd,h1,h2,hk=>by
  show bindL kindOf ((p,w)::P.zip vs) m x=_
  unfold bindL
  exact sO (i:=i) (aHA.mp nd).2 (by simpa using h1) (by simpa using h2) hk
theorem sH{kindOf:Str->Option NameKind}{x:Str}{v:Value}:∀{P:List Str} {vs:List Value} {i:Nat} {m:Str->Option Value},P.Nodup->P[i]?=some x->vs[i]?=some v->kindOf x≠some .local ->
  bindC kindOf (P.zip vs) m x=some v
 |[],_,_,_,_,h,_,_=>by simp at h
 |_::_,[],_,_,_,_,h,_=>by simp at h
 |p::P,w::vs,0,m,nd,h1,h2,hk=>by
  simp at h1 h2;subst h1;subst h2
  show bindC kindOf ((p,w)::P.zip vs) m p=_
  unfold bindC
  rw[sK λv hv=>(aHA.mp nd).1 (List.of_mem_zip hv).1,aAL hk]
  simp
 |p::P,w::vs,i+1,m,nd,h1,h2,hk=>by
  show bindC kindOf ((p,w)::P.zip vs) m x=_
  unfold bindC
  exact sH (i:=i) (aHA.mp nd).2 (by simpa using h1) (by simpa using h2) hk
noncomputable def start(N:List Str)(vs:List V):St:=vs.map some++List.replicate (N.length - vs.length) none
noncomputable def cxOf(CX:CXT)(P:Program)(w:World)(K:Frag)(mg:Str->Option Value)(base:Heap)(N:List Str)(qual:Str)(scope:Scope)(f:Addr)(cd:Value)(A:Around)(outer:List Env)(s:Shared)(H:Hp)(E:XK):Cx where
 prog:=P
 w:=w
 K:=K
 mg:=mg
 base:=base
 A:=A.deeper (envOfC qual scope s.heap.objs.size f cd)
 N:=N
 s₀:=s
 H₀:=H
 env:=envOfC qual scope s.heap.objs.size f cd
 outer:=outer
 stack:=envOfC qual scope s.heap.objs.size f cd::outer
 ex:=[]
 calm:=true
 fn:=λ_=>true
 pn:=[]
 xe:=λe s'=>wpAny (model P w) (A.deeper (envOfC qual scope s.heap.objs.size f cd)) (leaving (envOfC qual scope s.heap.objs.size f cd) e) (λ_ s''=>CX outer H s E e s'') (λe' s''=>CX outer H s E e' s'') s'
variable{x:Str}
theorem wK{sc:Scope}(h:sc.names.lookup x=some .cell):∃c,(cellsFrom n sc.names []).lookup x=some c:=by
 have q:=PySem.W.cellsFrom_some sc.names n [] (.inl h)
 exact aDF.mp q
variable{CX:CXT}{scope:Scope}{f:Addr}
theorem aCr{cd:Value}{s1:Shared}{E:XK}{vs:List V}
  (S:FnScope N ps scope)(hd:A.handled=none)(e0:Env0 P w K mg base A outer s H)(hl:vs.length=ps.length)(r:Vals vs us)
  (x:InCallC s s.heap.objs.size (bindL (envOfC qual scope s.heap.objs.size f cd).kindOf (ps.zip us) λ_=>none) (cellsFrom (s.heap.objs.size+1) scope.names []) (bindC (envOfC qual scope s.heap.objs.size f cd).kindOf (ps.zip us) λ_=>none) s1) :
  Inv (cxOf CX P w K mg base N qual scope f cd A outer s H E) [] (start N vs) H s1:=by
 have hpl:ps.length<=N.length:=by have:=congrArg List.length S.pre;rw[aDP]at this;lia
 obtain⟨h1,tk,rfl,hk⟩:=x.done
 have noA:∀b:Addr,b∉(cxOf CX P w K mg base N qual scope f cd A outer s H E).ex:=λb z=>absurd (show b∈([]:List Addr)from z) (by simp)
 refine⟨⟨e0.mod,S.kind,rfl,rfl,aAI _,λy z c h1 h2=>?_,λy hy=>?_,λy c _ h=>?_,λ_=>hd,Around.frames_deeper e0.frames,.inr ⟨rfl,rfl⟩,λb z=>absurd z (noA b),e0.bs,e0.bsz,λb _ _=>noA b,λb z=>absurd z (noA b),e0.funs,e0.frf⟩,
  rfl,e0.bare,Un.kept hk,⟨_,x.toInCall.ns,λi y v h1 h2 h3=>?_⟩,λy c h=>⟨_,x.cell y c h⟩,e0.hok.fresh (aAI _),λy c h=>?_,λp hp=>absurd (show p∈([]:List (Addr×Obj))from hp) (by simp),e0.hok.kept hk,?_⟩
 ·exact name_of_addr x.apart (aEH h1) (aEH h2)
 ·have hy:scope.names.lookup y=some .cell\/scope.names.lookup y=some .free:=hy
  rcases hy with hy|hy
  ·exact wK hy
  ·exact absurd rfl (S.nofree _ (aEH hy))
 ·exact Nat.le_of_lt (x.above y c (aEH h))
 ·have hi:i < vs.length:=by
   unfold start at h2
   by_cases hi:i < vs.length
   ·exact hi
   ·rw[aCN (by simpa using hi)]at h2
    rw[List.getElem?_replicate]at h2
    split at h2 <;> cases h2
  have ha:vs[i]?=some v:=by
   unfold start at h2
   rw[aAX (by simpa using hi),aBN]at h2
   cases e:vs[i]? with
   |none=>rw[e]at h2;cases h2
   |some a=>rw[e]at h2;cases h2;rfl
  obtain⟨u,hu,rv⟩:=r.get ha
  have hp:ps[i]?=some y:=by
   rw[<- S.pre,List.getElem?_take_of_lt (by lia)];exact h1
  have ndP:ps.Nodup:=by rw[<- S.pre];exact S.nd.sublist (List.take_sublist _ _)
  refine⟨u,rv,?_⟩
  rcases S.par y (aCD hp)with k|k
  ·exact .inl ⟨k,sO ndP hp hu k⟩
  ·obtain⟨c,e⟩:=wK (n:=s.heap.objs.size+1) k
   refine .inr ⟨.inl k,c,e,?_⟩
   have q:=x.cell y c e
   rw[sH ndP hp hu (by show scope.names.lookup y≠_;rw[k];decide)]at q
   exact q
 ·exact e0.hok.fresh (Nat.le_of_lt (x.above y c (aEH h)))
 ·unfold start
  show _=N.length
  rw[aBB,aAK,aEU]
  lia
theorem aDl{k:Nat}{params:Arguments}{dV kV doc pm cdv ct oc:Value}{an od:Option Addr}
  {sp:Sp}(lk:K.lookup f=some ⟨oc,od,.func (fnOf name qual params body scope dV kV doc pm an cdv ct),osl⟩)(hcd:codeIn K cdv qual=true)(S:FnScope N ps scope)
  (len:∀vs H Q E,sp vs H Q E->vs.length=ps.length)
  (hbody:∀(A:Around) (outer:List Env) (s:Shared) (H:Hp) (vs:List V) (Q:VK) (E:XK),Room k (A.deeper (envOfC qual scope s.heap.objs.size f cdv))->sp vs H Q E ->
   ∃t,PSs (cxOf CX P w K mg base N qual scope f cdv A outer s H E) body t/\t {nx:=λ_ H'=>Q .non H',rt:=Q} (start N vs) H) :
  FnOk P w K mg base CX (k+1) f (fnOf name qual params body scope dV kV doc pm an cdv ct) ps sp:=by
 refine⟨len,λA outer s H args us vs Q E hr e0 hb r hsp=>?_⟩
 have hl:=len _ _ _ _ hsp
 have KX:K.In s.heap:=e0.mod.kin.keeps λb o e=>(e0.bs b o e).1
 have lim:s.heap.NoLimit:=e0.mod.nolimit.keeps λb o e=>(e0.bs b o e).1
 have hkind:∀y∈ps.zip us,scope.names.lookup y.1=some .local\/(scope.names.lookup y.1=some .cell/\((cellsFrom (s.heap.objs.size+1) scope.names []).lookup y.1).isSome=true):=λ⟨n,v⟩ hy=>by
  rcases S.par n (List.of_mem_zip hy).1 with q|q
  ·exact .inl q
  ·exact .inr ⟨q,PySem.W.cellsFrom_some _ _ _ (.inl q)⟩
 refine codeAny_call_function hr.depth (KX _ _ lk) rfl S.co S.gen rfl (PySem.W.codeRec_of KX hcd) (hb _ _ _ _ ?_)
 refine wpAny_newFunctionEnv_cells S.kind hkind λenv he s1 x=>?_
 subst he
 refine⟨lim.keeps x.toInCall.keep,codeAny_func ?_⟩
 obtain⟨t,ht,hq⟩:=hbody A outer s H vs Q E (hr.deeper _) hsp
 have I:Inv (cxOf CX P w K mg base N qual scope f cdv A outer s H E) [] (start N vs) H s1:=aCr S hr.hd e0 hl r x
 refine aCJ (ht [] s1 (start N vs) H _ I hq) (λfl s' hs=>?_) λe s' hs=>hs
 have fin:∀{σ':St} {H':Hp} {v:V} {u:Value},Inv (cxOf CX P w K mg base N qual scope f cdv A outer s H E) [] σ' H' s'->RelV v u->Q v H'->CE outer P w H s Q u s' :=
  λ{σ' H' v u} J rv q=>⟨v,H',J.os,J.bare,J.base,J.hok,rv,q⟩
 cases fl with
 |ret u =>
  obtain⟨v,σ',H',J,rv,q⟩:=hs
  exact fin J rv q
 |next =>
  obtain⟨σ',H',J,q⟩:=hs
  exact fin (v:=V.non) (u:=Value.none) J rfl q
 |brk =>
  obtain⟨_,_,_,q⟩:=hs
  exact False.elim q
 |cont =>
  obtain⟨_,_,_,q⟩:=hs
  exact False.elim q
section
variable{t:TA}{id T:String}{r:List V->Hp->VK->Prop}
noncomputable def tCB(r:List V->Hp->VK->Prop)(t:TA):TE:=λσ H Q=>t σ H λvs H1=>r vs H1 Q
theorem mR(hc:CallR X (.builtin id) r)(hg:Gl X x)(hm:X.mg x=none)(hv:bootBuiltins x=some (.builtin id))(ha:PA X (e::es) t)(hn:x≠"__name__":=by decide)(hdb:(x==("__debug__":Str))=false:=by decide)
  (he:starEach (e::es) X.env=(false,eval e X.env)::starEach es X.env:=by rfl)(hpl:(backTo pos (starEach es X.env)).any (·.1)=false:=by rfl):PE X (.Call (.Name x p) (e::es) [] pos) (tCB r t):=by
 intro pins s σ H Q I h
 refine aCV (jW I hg hm hv ?_ hn hdb)
 exact PyProof.Rows.callWith_builtin1 (thn (ha pos pins s σ H _ I h) λus s1 ⟨vs,H1,I1,r1,q1⟩=>hc pins s1 σ H1 vs us Q I1 r1 q1) he hpl
theorem aBd(hc:CallR X (.type T) r)(hg:Gl X x)(hm:X.mg x=none)(hv:bootBuiltins x=some (.type T))(ha:PA X (e::es) t)(hn:x≠"__name__":=by decide)(hdb:(x==("__debug__":Str))=false:=by decide)
  (he:starEach (e::es) X.env=(false,eval e X.env)::starEach es X.env:=by rfl)(hpl:(backTo pos (starEach es X.env)).any (·.1)=false:=by rfl):PE X (.Call (.Name x p) (e::es) [] pos) (tCB r t):=by
 intro pins s σ H Q I h
 refine aCV (jW I hg hm hv ?_ hn hdb)
 exact aDB (thn (ha pos pins s σ H _ I h) λus s1 ⟨vs,H1,I1,r1,q1⟩=>hc pins s1 σ H1 vs us Q I1 r1 q1) he hpl
end
end L2
end
variable{H H' H1 H2:L2.Hp}{X:L2.Cx}{v:L2.V}{ta tb te:L2.TE}{vs:List L2.V}{R:PySem.Addr->L2.Hp->Prop}{r:List L2.V->L2.Hp->L2.VK->Prop}{CX:L2.CXT}{sp:L2.Sp}{kvs:List (L2.Key×L2.V)}
section
open PySem PySem.Spec PyProof.Rows
end
namespace HT
open PySem PyProof.Rows
noncomputable def lexLt:List Int->List Int->Bool
 |[],[]=>false
 |[],_::_=>true
 |_::_,[]=>false
 |x::xs,y::ys=>if x=y then lexLt xs ys else decide (x < y)
section
open PySem.SeqAt
open PySem.AutoSeq1 (wpAny_loadPart')
open PySem.MeetsSeq PySem.MeetsSeq2 PySem.MeetsSeq3
end
variable{prog:Program}{E:Value->Shared->Prop}
theorem cat_tup{t b:Addr}{vs ws:List Value}(ht:IsTup s.heap t vs.toArray)(hb:IsTup s.heap b ws.toArray)(hv:vs≠[])
  (h1:ws=[]->Q (.ref t) s)(h2:ws≠[]->Q (.ref s.heap.objs.size) {s with heap:=s.heap.push {cls:=.type "tuple",data:=.seq (vs++ws).toArray}})
  (hsz:vs.length+ws.length<=sizeLine):wpAny (model prog w) A (binaryOp .Add (.ref t) (.ref b)) Q E s:=by
 obtain⟨⟨cls,dd,data,sl⟩,ho,hc,n,hd⟩:=id ht
 obtain⟨⟨cls2,dd2,data2,sl2⟩,ho2,hc2,n2,hd2⟩:=id hb
 simp only at hc hd hc2 hd2
 subst hc hd hc2 hd2
 have e:vs.toArray++ws.toArray=(vs++ws).toArray:=by simp
 by_cases hw:ws=[]
 ·exact concat_meets ⟨_,ho,rfl⟩ ⟨_,ho2,rfl⟩ noFill_tuple_add seq_tuple_add aGE aFX (aFP _ _)
   (tuple_addW1 t b vs.toArray ws.toArray n n2 dd dd2 sl sl2 (by simpa using hv) (by simp[hw])) ⟨ho,ho2,h1 hw⟩
 ·refine concat_meets ⟨_,ho,rfl⟩ ⟨_,ho2,rfl⟩ noFill_tuple_add seq_tuple_add aGE aFX (aFP _ _)
   (tuple_addW2 t b vs.toArray ws.toArray n n2 dd dd2 sl sl2 (by simpa using hv) (by simpa using hw) (by rw[aAJ,aAJ];exact hsz)) ⟨ho,ho2,?_⟩
  rw[e]
  exact h2 hw
noncomputable def sIx(n d:Nat):Option Int->Nat
 |none=>d
 |some v=>if v < 0 then(v+(n:Int)).toNat else min v.toNat n
theorem sIx_none(n d:Nat):sIx n d none=d:=rfl
theorem sIx_nat(n d k:Nat):sIx n d (some (k:Int))=min k n:=by
 show(if(k:Int) < 0 then((k:Int)+(n:Int)).toNat else min (k:Int).toNat n)=min k n
 rw[aAL (by lia),aBF]
theorem sIx_le(n d:Nat)(hd:d<=n)(o:Option Int):sIx n d o<=n:=by
 cases o with
 |none=>exact hd
 |some v =>
  show(if v < 0 then(v+(n:Int)).toNat else min v.toNat n)<=n
  by_cases hv:v < 0
  ·rw[aAH hv];lia
  ·rw[aAL hv];exact Nat.min_le_right _ _
theorem aAf(v:Int)(n d:Nat):(if v < 0 then max (v+(n:Int)) 0 else min v (n:Int))=((sIx n d (some v):Nat):Int):=by
 show(if v < 0 then max (v+(n:Int)) 0 else min v (n:Int))=(((if v < 0 then(v+(n:Int)).toNat else min v.toNat n):Nat):Int)
 by_cases hv:v < 0
 ·simp only[aAH hv];lia
 ·simp only[aAL hv];lia
theorem yB(lo hi:Option Int)(n:Nat):Builtin.Slice.sliceAdjust lo hi 1 (n:Int)=(((sIx n 0 lo:Nat):Int),((sIx n n hi:Nat):Int)):=by
 have h1:¬((1:Int) < 0):=by lia
 unfold Builtin.Slice.sliceAdjust
 simp only[h1,aDX]
 refine Prod.ext ?_ ?_
 ·cases lo with
  |none=>rfl
  |some v=>exact aAf v n 0
 ·cases hi with
  |none=>rfl
  |some v=>exact aAf v n n
theorem zA(i j:Nat):Builtin.Slice.slicePlaces (i:Int) (j:Int) 1=j - i:=by
 unfold Builtin.Slice.slicePlaces
 have h1:(1:Int) > 0:=by lia
 simp only[h1,aDI,Int.ediv_one]
 split <;> lia
theorem oS{v:Value}{o:Option Int}{Q:Option Int->Shared->Prop}(p:IsPart v o)(h:Q o s):wpAny (model prog w) A (Builtin.Slice.slicePartIndex v) Q E s:=by
 cases p with
 |none=>exact slicePart_none h
 |int i t=>exact slicePart_int h
variable{sl:Addr}
theorem iS{vl vu:Value}{Q:Int×Int×Nat->Shared->Prop}(hs:s.heap.IsSliceOf sl vl vu .none)(pl:IsPart vl lo)(pu:IsPart vu hi)
  (h:Q (((sIx n 0 lo:Nat):Int),1,sIx n n hi - sIx n 0 lo) s):wpAny (model prog w) A (Builtin.Slice.sliceApplied (.ref sl) (pure (n:Int))) Q E s:=by
 obtain⟨os,hos,hcs,hds⟩:=id hs
 unfold Builtin.Slice.sliceApplied Builtin.Slice.sliceFields
 refine aAB (aAB (aAZ hos hds (x:=vl) rfl (aAB (aAZ hos hds (x:=vu) rfl (aAB (aAZ hos hds (x:=.none) rfl (aAD ?_)))))))
 refine aAB (slicePart_none ?_)
 show wpAny _ _ (if((1:Int)==0)=true then _ else _) _ _ s
 rw[aAL (by decide)]
 refine aAB (oS pl (aAB (oS pu (aAB (aAD ?_)))))
 show wpAny _ _ (match Builtin.Slice.sliceAdjust lo hi 1 (n:Int)with|(lo,hi)=>pure (lo,(1:Int),Builtin.Slice.slicePlaces lo hi 1)) _ _ s
 rw[yB lo hi n]
 show wpAny _ _ (pure (((sIx n 0 lo:Nat):Int),(1:Int),Builtin.Slice.slicePlaces ((sIx n 0 lo:Nat):Int) ((sIx n n hi:Nat):Int) 1)) _ _ s
 rw[zA]
 exact aAD h
theorem aDm(xs:Array Value)(i k:Nat):((List.range k).filterMap λ(m:Nat)=>xs[((i:Int)+(m:Int)*1).toNat]?).toArray=((xs.toList.drop i).take k).toArray:=by
 have e:(λ(m:Nat)=>xs[((i:Int)+(m:Int)*1).toNat]?)=λm=>xs[i+m]?:=by
  funext m
  have:((i:Int)+(m:Int)*1).toNat=i+m:=by lia
  rw[this]
 rw[e]
 have:=pick_run xs i k
 rw[aFS]at this
 have e2:((λx=>xs[x]?) ∘ λx=>i+x)=λm=>xs[i+m]?:=rfl
 rw[e2]at this
 rw[this]
theorem getItem_tuple_cut{t:Addr}{vl vu:Value}(ht:IsTup s.heap t items)(hs:s.heap.IsSliceOf sl vl vu .none)(pl:IsPart vl lo)(pu:IsPart vu hi)
  (hw:¬(sIx items.size 0 lo=0/\sIx items.size items.size hi=items.size))
  (h:Q (.ref s.heap.objs.size) {s with heap:=s.heap.push {cls:=.type "tuple",data:=.seq ((items.toList.drop (sIx items.size 0 lo)).take (sIx items.size items.size hi - sIx items.size 0 lo)).toArray}})
  (hsz:items.size<=sizeLine):wpAny (model prog w) A (getItem (.ref t) (.ref sl)) Q E s:=by
 have htake:sizeOk (.seq ((items.toList.drop (sIx items.size 0 lo)).take (sIx items.size items.size hi - sIx items.size 0 lo)).toArray):=by
  show((items.toList.drop (sIx items.size 0 lo)).take (sIx items.size items.size hi - sIx items.size 0 lo)).toArray.size<=sizeLine
  rw[aAJ,aDP,aGJ,aFJ]
  lia
 have hj:sIx items.size items.size hi<=items.size:=sIx_le _ _ (aAI _) hi
 obtain⟨os,hos,hcs,hds⟩:=id hs
 have hTs:s.TypeIs (.ref sl) "slice":=⟨os,hos,hcs⟩
 unfold getItem
 try with_reducible refine aAY ?_
 first|refine aAB (aAD ?_)|skip
 refine aAB (wpAny_sequenceKey ht.typeIs (by decide) ?_)
 refine aAB (aBQ (name:=Str.ofString "__getitem__") ht.typeIs aCC
  (aBX aCC ht.typeIs entry_tuple_getitem ?_ (args_tuple_getitem _ _)))
 show wpAny _ _ (Builtin.Tuple.tupleItemsOf (.ref t) >>= _) _ _ s
 refine aAB (tupleItemsOf_ ht ?_)
 refine aAB (aEV hTs ?_)
 rw[aAH (by decide)]
 refine aAB (iS hs pl pu ?_)
 have hno:¬((((sIx items.size 0 lo:Nat):Int)==0&&(1:Int)==1&&(sIx items.size items.size hi - sIx items.size 0 lo)==items.size)=true):=by
  intro q
  rw[aBM,aBM]at q
  have q1:((sIx items.size 0 lo:Nat):Int)=0:=eq_of_beq q.1.1
  have q2:sIx items.size items.size hi - sIx items.size 0 lo=items.size:=eq_of_beq q.2
  exact hw ⟨by lia,by lia⟩
 show wpAny _ _ (if(((sIx items.size 0 lo:Nat):Int)==0&&(1:Int)==1&&(sIx items.size items.size hi - sIx items.size 0 lo)==items.size)=true then _ else _) _ _ s
 rw[aAL hno,aDm]
 first
  |exact aAB (m:=Builtin.Tuple.tupleExact _) (aCR (aAD ⟨_,rfl,aAD h⟩) htake)
  |exact aAB (m:=Builtin.Tuple.tupleExact _) (aCR (aAB (aAD (aAD ⟨_,rfl,aAD h⟩))) htake)
  |exact aAB (aAB (m:=Builtin.Tuple.tupleExact _) (aCR (aAD (aAD ⟨_,rfl,aAD h⟩)) htake))
  |exact aAB (aAB (m:=Builtin.Tuple.tupleExact _) (aCR (aAD ⟨_,rfl,aAD h⟩) htake))
end HT
section
open PySem PySem.Spec PyProof.Rows
namespace L2
noncomputable section
abbrev TO:=St->Hp->(Option Int->Hp->Prop)->Prop
def PO(X:Cx)(e:Option Expr)(t:TO):Prop :=
 ∀(pins:List (Addr×Obj)) (s:Shared) (σ:St) (H:Hp) (Q:Option Int->Hp->Prop),Inv X pins σ H s->t σ H Q ->
  wpAny (model X.prog X.w) X.A (evalPart e X.env) (λu s'=>∃o H',Inv X pins σ H' s'/\IsPart u o/\Q o H') X.xe s
def tNoPart:TO:=λ_ H Q=>Q none H
def tPart(t:TE):TO:=λσ H Q=>t σ H λx H1=>∃i,x=.int i/\Q (some i) H1
end
variable{e:Expr}{lo hi:Option Expr}{tl th:TO}
theorem aHw:PO X none tNoPart:=by
 intro pins s σ H Q I h
 rw[evalPart_none]
 exact aAD ⟨none,H,I,.none,h⟩
theorem aIx(h:PE X e te):PO X (some e) (tPart te):=by
 intro pins s σ H Q I hw
 rw[evalPart_some]
 refine thn (h pins s σ H _ I hw) λu s1 ⟨x,H1,I1,r1,q1⟩=>?_
 obtain⟨i,rfl,q⟩:=q1
 obtain⟨t,rfl⟩:=r1
 exact⟨some i,H1,I1,.int i t,q⟩
noncomputable def SlR(X:Cx)(r:V->Option Int->Option Int->Hp->VK->Prop):Prop :=
 ∀(pins:List (Addr×Obj)) (s:Shared) (σ:St) (H:Hp) (x:V) (v vl vu:Value) (lo hi:Option Int) (sl:Addr) (Q:VK),Inv X pins σ H s->RelV x v->s.heap.IsSliceOf sl vl vu .none->IsPart vl lo->IsPart vu hi->r x lo hi H Q ->
  ∃T id,typeLookup (.type T) "__getitem__"=pure (some (.builtin id))/\s.TypeIs v T/\wpAny (model X.prog X.w) X.A (getItem v (.ref sl)) (EP X pins σ Q) X.xe s
variable{r:V->Option Int->Option Int->Hp->VK->Prop}
theorem SlR.or{r':V->Option Int->Option Int->Hp->VK->Prop}(h:SlR X r)(h':SlR X r'):SlR X (λx lo hi H Q=>r x lo hi H Q\/r' x lo hi H Q):=by
 intro pins s σ H x v vl vu lo hi sl Q I rx hs pl pu q
 rcases q with q|q
 ·exact h pins s σ H x v vl vu lo hi sl Q I rx hs pl pu q
 ·exact h' pins s σ H x v vl vu lo hi sl Q I rx hs pl pu q
noncomputable section
def tSl(r:V->Option Int->Option Int->Hp->VK->Prop)(te:TE)(tl th:TO):TE:=λσ H Q=>te σ H λx H1=>tl σ H1 λl H2=>th σ H2 λu H3=>r x l u H3 Q
theorem aEd(hr:SlR X r)(he:PE X e te)(hl:PO X lo tl)(hu:PO X hi th):PE X (.Subscript e (.Slice lo hi none p2) pos) (tSl r te tl th):=by
 intro pins s σ H Q I h
 refine Subscript_ (thn (he pins s σ H _ I h) λv s1 ⟨x,H1,I1,r1,q1⟩=>?_)
 refine wpAny_Slice (thn (hl pins s1 σ H1 _ I1 q1) λvl s2 ⟨l,H2,I2,pl,q2⟩=>thn (hu pins s2 σ H2 _ I2 q2) λvu s3 ⟨u,H3,I3,pu,q3⟩=>?_)
 rw[evalPart_none]
 refine aAD ?_
 have I4:Inv X pins σ H3 {s3 with heap:=s3.heap.push {cls:=.type "slice",data:=.fields #[vl,vu,.none]}}:=I3.kept (t':=s3.toks) λb ob q=>aAA _ q
 obtain⟨T,id,hT,ht,hg⟩:=hr pins {s3 with heap:=s3.heap.push {cls:=.type "slice",data:=.fields #[vl,vu,.none]}} σ H3 x v vl vu l u s3.heap.objs.size Q I4 r1 (Heap.IsSliceOf.new ..) pl pu q3
 show wpAny (model X.prog X.w) X.A (subscriptTail e (.Slice lo hi none p2) v (.ref s3.heap.objs.size)) (EP X pins σ Q) X.xe {s3 with heap:=s3.heap.push {cls:=.type "slice",data:=.fields #[vl,vu,.none]}}
 exact tail_any (ops:=[.ref s3.heap.objs.size,v]) ht hT hg (by with_unfolding_all rfl)
def cutV(xs:List V)(lo hi:Option Int):List V:=(xs.drop (HT.sIx xs.length 0 lo)).take (HT.sIx xs.length xs.length hi - HT.sIx xs.length 0 lo)
theorem nV(xs:List V)(lo hi:Option Int):(cutV xs lo hi).length<=xs.length:=by
 unfold cutV
 rw[aDP,aGJ]
 lia
def rSlT(K:Frag):V->Option Int->Option Int->Hp->VK->Prop:=λx lo hi H Q=>∃a xs,x=.ref a/\SqT K H a xs /\
 ¬(HT.sIx xs.length 0 lo=0/\HT.sIx xs.length xs.length hi=xs.length)/\∀p,H p=none->Q (.ref p) (upd H p (.tup (cutV xs lo hi)))
theorem aNa:SlR X (rSlT X.K):=by
 intro pins s σ H x v vl vu lo hi sl Q I rx hs pl pu h
 obtain⟨a,xs,rfl,hx,hw,q⟩:=h
 cases rx
 obtain⟨its,r,ht,hz⟩:=I.tuple hx
 have hlen:its.toArray.size=xs.length:=by rw[aAJ];exact r.length.symm
 refine⟨"tuple",_,aCC.lookup,ht.typeIs,?_⟩
 refine HT.getItem_tuple_cut ht hs pl pu (by rw[hlen];exact hw) ?_ (by rw[hlen];exact hz)
 rw[hlen]
 refine⟨.ref s.heap.objs.size,_,I.laid (t':=s.toks) (o:=.tup (cutV xs lo hi)) (λb ob q=>aAA _ q) (aAI _) ?_,rfl,q _ (I.hok.fresh (aAI _))⟩
 exact⟨aBD (nV xs lo hi) hz,_,(r.drop (HT.sIx xs.length 0 lo)).take (HT.sIx xs.length xs.length hi - HT.sIx xs.length 0 lo),IsTup.new _ _⟩
def rCatT(K:Frag):R2:=λx y H Q=>∃a b xs ys,x=.ref a/\y=.ref b/\SqT K H a xs/\SqT K H b ys/\xs≠[]/\xs.length+ys.length<=sizeLine /\
 (ys=[]->Q (.ref a) H)/\(ys≠[]->∀p,H p=none->Q (.ref p) (upd H p (.tup (xs++ys))))
end
variable{xs:List V}
theorem Vals.nil_iff(r:Vals xs us):us=[] ↔ xs=[]:=by
 cases r with
 |nil=>simp
 |cons _ _=>simp
theorem aHh:OpR X (binaryOp .Add) (rCatT X.K):=by
 intro pins s σ H x y v u Q I rx ry h
 obtain⟨a,b,xs,ys,rfl,rfl,ha,hb,hx,hz,q1,q2⟩:=h
 cases rx
 cases ry
 obtain⟨its,r1,p1,_⟩:=I.tuple ha
 obtain⟨its2,r2,p2,_⟩:=I.tuple hb
 refine HT.cat_tup p1 p2 (λz=>hx (r1.nil_iff.mp z)) (λz=>⟨.ref a,H,I,rfl,q1 (r2.nil_iff.mp z)⟩) (λz=>?_) (by rw[<- r1.length,<- r2.length];exact hz)
 refine⟨.ref s.heap.objs.size,_,I.laid (t':=s.toks) (o:=.tup (xs++ys)) (λb ob q=>aAA _ q) (aAI _) ?_,rfl,q2 (λw=>z (r2.nil_iff.mpr w)) _ (I.hok.fresh (aAI _))⟩
 exact⟨by rw[aBB];exact hz,_,r1.append r2,IsTup.new _ _⟩
noncomputable def ixN(n:Nat)(i:Int):Option Nat:=if 0<=i then(if i < n then some i.toNat else none)else if -(n:Int)<=i then some (i+n).toNat else none
noncomputable def atI(xs:List α)(i:Int):Option α:=(ixN xs.length i).bind λj=>xs[j]?
variable{i:Int}
theorem aAk(h:ixN n i=some j):seqIndex? i n=some j/\j < n /\ -(n:Int)<=i/\i < n:=by
 unfold ixN at h
 by_cases h0:0<=i
 ·rw[aAH h0]at h
  by_cases h1:i < n
  ·rw[aAH h1]at h
   have e:i.toNat=j:=Option.some.inj h
   exact⟨by rw[seqIndex_of h0 h1,e],by lia,by lia,h1⟩
  ·rw[aAL h1]at h;cases h
 ·rw[aAL h0]at h
  by_cases h1 : -(n:Int)<=i
  ·rw[aAH h1]at h
   have e:(i+n).toNat=j:=Option.some.inj h
   exact⟨by rw[seqIndex_neg (by lia) h1,e],by lia,h1,by lia⟩
  ·rw[aAL h1]at h;cases h
theorem uL{xs:List α}{v:α}(h:atI xs i=some v):∃j,seqIndex? i xs.length=some j/\xs[j]?=some v/\j < xs.length /\ -(xs.length:Int)<=i/\i < xs.length:=by
 unfold atI at h
 cases e:ixN xs.length i with
 |none=>rw[e]at h;cases h
 |some j =>
  rw[e]at h
  obtain⟨h1,h2,h3,h4⟩:=aAk e
  exact⟨j,h1,h,h2,h3,h4⟩
noncomputable section
def PlainIx(b:Expr):Prop:=∀o i,subscripted b false o i=operate [o,i] (getItem o i)
def IxR(X:Cx)(r:R2):Prop :=
 ∀(value slice:Expr) (pins:List (Addr×Obj)) (s:Shared) (σ:St) (H:Hp) (x y:V) (v u:Value) (Q:VK),Inv X pins σ H s->RelV x v->RelV y u->r x y H Q ->
  subscripted slice false v u=operate [v,u] (getItem v u)->wpAny (model X.prog X.w) X.A (subscriptTail value slice v u) (EP X pins σ Q) X.xe s
def MtR(X:Cx)(id:String)(r:V->List V->Hp->VK->Prop):Prop :=
 ∀(pins:List (Addr×Obj)) (s:Shared) (σ:St) (H:Hp) (x:V) (xs:List V) (v:Value) (us:List Value) (Q:VK),Inv X pins σ H s->RelV x v->Vals xs us->r x xs H Q ->
  wpAny (model X.prog X.w) X.A (call (.builtin id) (v::us)) (EP X pins σ Q) X.xe s
end
section
variable{a b:Expr}{r:R2}
theorem IxR.or{r':R2}(h:IxR X r)(h':IxR X r'):IxR X (λx y H Q=>r x y H Q\/r' x y H Q):=by
 intro value slice pins s σ H x y v u Q I rx ry q hs
 rcases q with q|q
 ·exact h value slice pins s σ H x y v u Q I rx ry q hs
 ·exact h' value slice pins s σ H x y v u Q I rx ry q hs
theorem aPi(hr:IxR X r)(ha:PE X a ta)(hb:PE X b tb)(hs:PlainIx b):PE X (.Subscript a b pos) (tOp r ta tb):=by
 intro pins s σ H Q I h
 exact Subscript_ (binT ha hb I h λv u s2 x y H2 I2 rx ry q=>hr a b pins s2 σ H2 x y v u Q I2 rx ry q (hs _ _))
noncomputable section
def rIxL(K:Frag):R2:=λx y H Q=>∃p xs i v,x=.ref p/\y=.int i/\SqL K H p xs/\atI xs i=some v/\Q v H
def rIxT(K:Frag):R2:=λx y H Q=>∃p xs i v,x=.ref p/\y=.int i/\SqT K H p xs/\atI xs i=some v/\Q v H
def rIxS:R2:=λx y H Q=>∃z i c,x=.str z/\y=.int i/\z.length<=sizeLine/\atI z.cps.toList i=some c/\Q (.str ⟨#[c]⟩) H
theorem aHj:IxR X (rIxL X.K):=by
 intro value slice pins s σ H x y v u Q I rx ry h hs
 obtain⟨p,xs,i,z,rfl,rfl,hq,he,q⟩:=h
 cases rx
 obtain⟨t,rfl⟩:=ry
 obtain⟨its,r,pl,hz⟩:=I.list hq
 obtain⟨j,h1,h2,h3,h4,h5⟩:=uL he
 obtain⟨w,ew,rw'⟩:=r.get h2
 have hl:=r.length
 have hn:=line63
 have fin:EP X pins σ Q w s:=⟨z,H,I,rw',q⟩
 by_cases h0:0<=i
 ·have hj:i.toNat=j:=by
   rw[seqIndex_of h0 h5]at h1
   exact Option.some.inj h1
  exact item_listR pl.isList h0 (by lia) (by rw[hj];simpa using ew) fin hs
 ·have hj:(i+(its.toArray.size:Int)).toNat=j:=by
   rw[seqIndex_neg (by lia) h4]at h1
   rw[aAJ,<- hl]
   exact Option.some.inj h1
  exact subscriptTail_builtinR (x:=w) pl.isList.typeIs aHQ.lookup
   (wpAny_getItem_list_neg (Q:=λr s'=>r=w/\EP X pins σ Q r s') pl.isList (by lia) (by rw[aAJ] <;> lia) (by lia) (by rw[hj];simpa using ew) ⟨rfl,fin⟩) hs
theorem aPd:IxR X (rIxT X.K):=by
 intro value slice pins s σ H x y v u Q I rx ry h hs
 obtain⟨p,xs,i,z,rfl,rfl,hq,he,q⟩:=h
 cases rx
 obtain⟨t,rfl⟩:=ry
 obtain⟨its,r,pl,hz⟩:=I.tuple hq
 obtain⟨j,h1,h2,h3,h4,h5⟩:=uL he
 obtain⟨w,ew,rw'⟩:=r.get h2
 have hl:=r.length
 have hn:=line63
 have fin:EP X pins σ Q w s:=⟨z,H,I,rw',q⟩
 exact subscriptTail_builtinR (x:=w) pl.typeIs slot_tuple_getitem.lookup
  (getItem_tuple (j:=j) (Q:=λr s'=>r=w/\EP X pins σ Q r s') pl (by lia) (by lia) (by rw[aAJ,<- hl];exact h1) (by simpa using ew) ⟨rfl,fin⟩) hs
theorem aOw:IxR X rIxS:=by
 intro value slice pins s σ H x y v u Q I rx ry h hs
 obtain⟨z,i,c,rfl,rfl,hz,he,q⟩:=h
 obtain⟨t,rfl⟩:=rx
 obtain⟨t',rfl⟩:=ry
 obtain⟨j,h1,h2,h3,h4,h5⟩:=uL he
 have hl:z.cps.toList.length=z.length:=by simp[Str.length]
 rw[hl]at h1 h4 h5
 have hn:=line63
 exact tail_any (aFW s z t) slot_str_getitem.lookup (getItem_str (c:=c) (by
  have e1:decide (i < -(2 ^ 63:Int))=false:=aBI (by lia)
  have e2:decide (i>=2 ^ 63)=false:=aBI (by lia)
  rw[e1,e2,aGI]) (by rw[h1];simpa using h2) ⟨.str ⟨#[c]⟩,H,I.tok _,⟨_,rfl⟩,q⟩) hs
def rIx(K:Frag):R2:=λx y H Q=>rIxL K x y H Q\/rIxT K x y H Q\/rIxS x y H Q
end
theorem aOs:IxR X (rIx X.K):=aHj.or (aPd.or aOw)
theorem yM(its:List Value)(n j:Nat)(u:Value):Obj.mapSeq (·.setIfInBounds j u) {cls:=.type "list",data:=.seq its.toArray n}={cls:=.type "list",data:=.seq (its.set j u).toArray n}:=by
 simp[Obj.mapSeq]
theorem Inv.lst{pins:List (Addr×Obj)}{σ:St}{H:Hp}{s:Shared}{p:Addr}{xs:List V}(I:Inv X pins σ H s)(h:H p=some (.lst xs)) :
  ∃(its:List Value) (n:Nat),Vals xs its/\s.heap.get? p=some {cls:=.type "list",data:=.seq its.toArray n}/\xs.length<=sizeLine:=by
 obtain⟨z,its,n,r,e⟩:=I.hok p _ h
 exact⟨its,n,r,e,z⟩
variable{σ:St}
theorem Inv.lstUpd{p:Addr}{ys:List V}{its':List Value}{n':Nat}{f:Obj->Obj}(I:Inv X pins σ H s)(h:H p=some (.lst xs))
  (ho:s.heap.get? p=some {cls:=.type "list",data:=.seq its.toArray n})(hf:f {cls:=.type "list",data:=.seq its.toArray n}={cls:=.type "list",data:=.seq its'.toArray n'})(r:Vals ys its')(hz:ys.length<=sizeLine)(t:Nat) :
  Inv X pins σ (upd H p (.lst ys)) {s with heap:=s.heap.update p f,toks:=t}:=by
 have e:(s.heap.update p f).get? p=some {cls:=.type "list",data:=.seq its'.toArray n'}:=by
  rw[aCK f ho (by rw[hf] <;> rfl),hf]
 refine I.write (x:=p) (e:=p) (by rw[h];trivial) (.inl rfl) (λb u hb q=>(aCP _ _ (Ne.symm hb)).trans q) ⟨_,e⟩ ?_
 exact⟨hz,its',n',r,e⟩
noncomputable section
def rSetL:V->V->V->Hp->(Hp->Prop)->Prop:=λo i v H Q=>∃p xs k j,o=.ref p/\i=.int k/\H p=some (.lst xs)/\ixN xs.length k=some j/\Q (upd H p (.lst (xs.set j v)))
theorem aEz:PSet X rSetL:=by
 intro pins s σ H o i v ov iv u Q I ro ri rv h
 obtain⟨p,xs,k,j,rfl,rfl,hp,hj,q⟩:=h
 cases ro
 obtain⟨t,rfl⟩:=ri
 obtain⟨its,n,r,ho,hz⟩:=I.lst hp
 obtain⟨h1,h2,h3,h4⟩:=aAk hj
 have hl:=r.length
 have hn:=line63
 have I':Inv X pins σ (upd H p (.lst (xs.set j v))) {s with heap:=s.heap.update p (Obj.mapSeq (·.setIfInBounds j u))} :=
  I.lstUpd hp ho (yM its n j u) (r.set rv j) (by rw[List.length_set];exact hz) s.toks
 by_cases h0:0<=k
 ·have hk:k.toNat=j:=by
   rw[seqIndex_of h0 h4]at h1
   exact Option.some.inj h1
  exact PySem.W.ki_setAt ho h0 (by lia) (by rw[aAJ,<- hl];exact h4) (by rw[hk];exact⟨_,I',q⟩)
 ·have hk:(k+(its.toArray.size:Int)).toNat=j:=by
   rw[seqIndex_neg (by lia) h3]at h1
   rw[aAJ,<- hl]
   exact Option.some.inj h1
  exact PySem.W.ki_setBack ho (by lia) (by rw[aAJ,<- hl];exact h3) (by lia) (by rw[hk];exact⟨_,I',q⟩)
theorem lR(lo hi:Option Int)(n:Nat):(sliceBounds lo hi none n).1=((HT.sIx n 0 lo:Nat):Int)/\(sliceBounds lo hi none n).2.1=((HT.sIx n n hi:Nat):Int)/\(sliceBounds lo hi none n).2.2=1:=by
 refine⟨?_,?_,rfl⟩
 ·cases lo with
  |none=>simp[sliceBounds,HT.sIx]
  |some i =>
   simp only[sliceBounds,HT.sIx,Option.getD_none,show(1:Int) > 0 by decide,aDI]
   by_cases h:i < 0
   ·simp only[h,aDI] <;> lia
   ·simp only[h,aDX] <;> lia
 ·cases hi with
  |none=>simp[sliceBounds,HT.sIx]
  |some i =>
   simp only[sliceBounds,HT.sIx,Option.getD_none,show(1:Int) > 0 by decide,aDI]
   by_cases h:i < 0
   ·simp only[h,aDI] <;> lia
   ·simp only[h,aDX] <;> lia
theorem qX(its:List Value)(lo hi:Option Int):slicePick its.toArray lo hi none=((its.drop (HT.sIx its.length 0 lo)).take (HT.sIx its.length its.length hi - HT.sIx its.length 0 lo)).toArray:=by
 obtain⟨h1,h2,h3⟩:=lR lo hi its.toArray.size
 unfold slicePick
 rw[h1,h2,h3]
 simp only[sliceRange_one,pick_run,aAJ] <;> rfl
def rSlL(K:Frag):V->Option Int->Option Int->Hp->VK->Prop:=λx lo hi H Q=>∃a xs,x=.ref a/\SqL K H a xs/\∀p,H p=none->Q (.ref p) (upd H p (.lst (cutV xs lo hi)))
theorem aHf:SlR X (rSlL X.K):=by
 intro pins s σ H x v vl vu lo hi sl Q I rx hs pl pu h
 obtain⟨a,xs,rfl,hx,q⟩:=h
 cases rx
 obtain⟨its,r,ht,hz⟩:=I.list hx
 have hlen:=r.length
 refine⟨"list",_,aHQ.lookup,ht.isList.typeIs,?_⟩
 refine wpAny_getItem_list_slice ht.isList hs pl pu .none (by simp) ?_ (by rw[aAJ] <;> lia)
 rw[qX,<- hlen]
 refine⟨.ref s.heap.objs.size,_,I.laid (t':=s.toks) (o:=.lst (cutV xs lo hi)) (λb ob q=>aAA _ q) (aAI _) ?_,rfl,q _ (I.hok.fresh (aAI _))⟩
 exact⟨aBD (nV xs lo hi) hz,_,0,(r.drop (HT.sIx xs.length 0 lo)).take (HT.sIx xs.length xs.length hi - HT.sIx xs.length 0 lo),aAG _ rfl⟩
def flatV:V->Bool
 |.non=>true
 |.bl _=>true
 |.int _=>true
 |.str _=>true
 |_=>false
def eqV:V->V->Bool
 |.non,.non=>true
 |.bl a,.bl b=>a==b
 |.bl a,.int b=>(if a then 1 else 0)==b
 |.int a,.bl b=>a==(if b then 1 else 0)
 |.int a,.int b=>a==b
 |.str a,.str b=>a==b
 |_,_=>false
end
variable{x:V}{v:Value}
theorem aFm{y:V}(ry:RelV y u)(rx:RelV x v)(fy:flatV y=true)(fx:flatV x=true):SeqAt.EqAt A s u v (eqV y x):=by
 cases y with
 |non =>
  cases ry
  cases x with
  |non=>cases rx;exact SeqAt.EqAt.same _
  |bl b=>cases rx;exact SeqAt.EqAt.none_bool b
  |int b=>obtain⟨t,rfl⟩:=rx;exact SeqAt.EqAt.none_int b t
  |str b=>obtain⟨t,rfl⟩:=rx;exact SeqAt.EqAt.none_str b t
  |_=>exact absurd (show false=true from fx) aBA
 |bl a =>
  cases ry
  cases x with
  |non=>cases rx;exact SeqAt.EqAt.bool_none a
  |bl b=>cases rx;exact SeqAt.EqAt.bool_bool a b
  |int b=>obtain⟨t,rfl⟩:=rx;exact SeqAt.EqAt.bool_int a b t
  |str b=>obtain⟨t,rfl⟩:=rx;exact SeqAt.EqAt.bool_str a b t
  |_=>exact absurd (show false=true from fx) aBA
 |int a =>
  obtain⟨t',rfl⟩:=ry
  cases x with
  |non=>cases rx;exact SeqAt.EqAt.int_none a t'
  |bl b=>cases rx;exact SeqAt.EqAt.int_bool a t' b
  |int b=>obtain⟨t,rfl⟩:=rx;exact SeqAt.EqAt.int_int a t' b t
  |str b=>obtain⟨t,rfl⟩:=rx;exact SeqAt.EqAt.int_str a t' b t
  |_=>exact absurd (show false=true from fx) aBA
 |str a =>
  obtain⟨t',rfl⟩:=ry
  cases x with
  |non=>cases rx;exact SeqAt.EqAt.str_none a t'
  |bl b=>cases rx;exact SeqAt.EqAt.str_bool a t' b
  |int b=>obtain⟨t,rfl⟩:=rx;exact SeqAt.EqAt.str_int a t' b t
  |str b=>obtain⟨t,rfl⟩:=rx;exact SeqAt.EqAt.str_str a t' b t
  |_=>exact absurd (show false=true from fx) aBA
 |_=>exact absurd (show false=true from fy) aBA
noncomputable section
def eqU(x:V)(u:Value):Bool:=match u with
 |.none=>eqV .non x
 |.bool b=>eqV (.bl b) x
 |.int i _=>eqV (.int i) x
 |.str z _=>eqV (.str z) x
 |_=>false
theorem aEv{y:V}(r:RelV y u)(f:flatV y=true):eqU x u=eqV y x:=by
 cases y with
 |non=>cases r;rfl
 |bl b=>cases r;rfl
 |int i=>obtain⟨t,rfl⟩:=r;rfl
 |str z=>obtain⟨t,rfl⟩:=r;rfl
 |_=>exact absurd (show false=true from f) aBA
theorem lP{x:V}:∀{xs:List V} {us:List Value},Vals xs us->xs.all flatV=true->us.any (eqU x)=xs.any λy=>eqV y x
 |_,_,.nil,_=>rfl
 |y::xs,u::us,.cons r t,f=>by
  rw[aCY,aBM]at f
  rw[aDK,aDK,aEv r f.1,lP t f.2]
theorem kE{A:Around}{s:Shared}{x:V}{v:Value}(rx:RelV x v)(fx:flatV x=true):∀{xs:List V} {us:List Value},Vals xs us->xs.all flatV=true->∀u∈us,SeqAt.EqAt A s u v (eqU x u)
 |_,_,.nil,_=>λu hu=>by cases hu
 |y::xs,u::us,.cons r t,f=>λu' hu=>by
  rw[aCY,aBM]at f
  rcases aAO.mp hu with rfl|hu
  ·rw[aEv r f.1];exact aFm r rx f.1 fx
  ·exact kE rx fx t f.2 u' hu
def inV(x:V)(xs:List V):Bool:=xs.any λy=>eqV y x
def rIn(K:Frag)(neg:Bool):R2:=λx y H Q=>∃p xs,y=.ref p/\(SqL K H p xs\/SqT K H p xs)/\flatV x=true/\xs.all flatV=true/\Q (.bl (if neg then !inV x xs else inV x xs)) H
theorem aBj:OpR X (compareOp .In) (rIn X.K false):=by
 intro pins s σ H x y v u Q I rx ry h
 obtain⟨p,xs,rfl,hq,fx,fs,q⟩:=h
 cases ry
 rcases hq with hq|hq
 ·obtain⟨its,r,pl,hz⟩:=I.list hq
  refine SeqAt.in_listAt (eqU x) pl.isList (λw hw=>kE rx fx r fs w (by simpa using hw)) ⟨.bl _,H,I,rfl,?_⟩
  rw[show its.toArray.any (eqU x)=its.any (eqU x) by simp,lP r fs]
  exact q
 ·obtain⟨its,r,pl,hz⟩:=I.tuple hq
  refine SeqAt.in_tupleAt (eqU x) pl (λw hw=>kE rx fx r fs w (by simpa using hw)) ⟨.bl _,H,I,rfl,?_⟩
  rw[show its.toArray.any (eqU x)=its.any (eqU x) by simp,lP r fs]
  exact q
theorem uF:OpR X (compareOp .NotIn) (rIn X.K true):=by
 intro pins s σ H x y v u Q I rx ry h
 obtain⟨p,xs,rfl,hq,fx,fs,q⟩:=h
 cases ry
 rcases hq with hq|hq
 ·obtain⟨its,r,pl,hz⟩:=I.list hq
  refine SeqAt.notIn_listAt (eqU x) pl.isList (λw hw=>kE rx fx r fs w (by simpa using hw)) ⟨.bl _,H,I,rfl,?_⟩
  rw[show its.toArray.any (eqU x)=its.any (eqU x) by simp,lP r fs]
  exact q
 ·obtain⟨its,r,pl,hz⟩:=I.tuple hq
  refine SeqAt.notIn_tupleAt (eqU x) pl (λw hw=>kE rx fx r fs w (by simpa using hw)) ⟨.bl _,H,I,rfl,?_⟩
  rw[show its.toArray.any (eqU x)=its.any (eqU x) by simp,lP r fs]
  exact q
theorem uD:CallR X (.builtin "len") (λxs H Q=>∃p ys,xs=[.ref p]/\(SqL X.K H p ys\/SqT X.K H p ys)/\Q (.int ys.length) H):=by
 intro pins s σ H xs us Q I r h
 obtain⟨p,ys,rfl,hq,q⟩:=h
 obtain⟨u,rfl,rx⟩:=vals1 r
 cases rx
 have hn:=line63
 rcases hq with hq|hq
 ·obtain⟨its,r',pl,hz⟩:=I.list hq
  have hlen:=r'.length
  exact Calls.call_len_list pl.isList (by simp only[aAJ] <;> lia) ⟨.int ys.length,H,I.tok _,⟨s.toks+1,by rw[aAJ,hlen]⟩,q⟩
 ·obtain⟨its,r',pl,hz⟩:=I.tuple hq
  have hlen:=r'.length
  exact len_tuple pl (by simp only[aAJ] <;> lia) ⟨.int ys.length,H,I.tok _,⟨s.toks+1,by rw[aAJ,hlen]⟩,q⟩
theorem tI:CallR X (.builtin "len") (λxs H Q=>∃z,xs=[.str z]/\z.length<=sizeLine/\Q (.int z.length) H):=by
 intro pins s σ H xs us Q I r h
 obtain⟨z,rfl,hz,q⟩:=h
 obtain⟨u,rfl,t,rfl⟩:=vals1 r
 have hn:=line63
 exact len_str (by lia) ⟨.int z.length,H,I.tok _,⟨_,rfl⟩,q⟩
theorem CallR.or{f:Value}{r r':List V->Hp->VK->Prop}(h:CallR X f r)(h':CallR X f r'):CallR X f (λxs H Q=>r xs H Q\/r' xs H Q):=by
 intro pins s σ H xs us Q I rs q
 rcases q with q|q
 ·exact h pins s σ H xs us Q I rs q
 ·exact h' pins s σ H xs us Q I rs q
theorem uO:CallR X (.type "list") (λxs H Q=>∃p ys,xs=[.ref p]/\(SqL X.K H p ys\/SqT X.K H p ys)/\∀l,H l=none->Q (.ref l) (upd H l (.lst ys))):=by
 intro pins s σ H xs us Q I r h
 obtain⟨p,ys,rfl,hq,q⟩:=h
 obtain⟨u,rfl,rx⟩:=vals1 r
 cases rx
 have fin:∀(its:List Value),Vals ys its->ys.length<=sizeLine->∀(h':Heap) (c':Nat),(∀b o',s.heap.get? b=some o'->h'.get? b=some o') ->
   h'.get? s.heap.objs.size=some {cls:=.type "list",dict:=none,data:=.seq its.toArray c',slots:=#[]}->EP X pins σ Q (.ref s.heap.objs.size) {s with heap:=h'}:=λits r' hz h' c' kp e =>
  ⟨.ref s.heap.objs.size,_,I.laid (t':=s.toks) kp (aAI _) (show ObjOk X.prog X.w _ h' _ (.lst ys)from⟨hz,its,c',r',e⟩),rfl,q _ (I.hok.fresh (aAI _))⟩
 rcases hq with hq|hq
 ·obtain⟨its,r',pl,hz⟩:=I.list hq
  have hlen:=r'.length
  obtain⟨o,ho,hc,n,hd⟩:=pl.isList
  exact call_list_seq p (.inl rfl) ho hc hd (λh' c' kp e=>fin its r' hz h' c' kp e) (by simp only[aAJ] <;> lia)
 ·obtain⟨its,r',pl,hz⟩:=I.tuple hq
  have hlen:=r'.length
  obtain⟨o,ho,hc,n,hd⟩:=pl
  exact call_list_seq p (.inr rfl) ho hc hd (λh' c' kp e=>fin its r' hz h' c' kp e) (by simp only[aAJ] <;> lia)
theorem rF:CallR X (.type "tuple") (λxs H Q=>∃p ys,xs=[.ref p]/\((SqL X.K H p ys/\∀l,H l=none->Q (.ref l) (upd H l (.tup ys)))\/(SqT X.K H p ys/\Q (.ref p) H))):=by
 intro pins s σ H xs us Q I r h
 obtain⟨p,ys,rfl,h⟩:=h
 obtain⟨u,rfl,rx⟩:=vals1 r
 cases rx
 rcases h with⟨hq,q⟩|⟨hq,q⟩
 ·obtain⟨its,r',pl,hz⟩:=I.list hq
  have hlen:=r'.length
  refine call_tuple_list pl.isList (λh' kp=>?_) (by simp only[aAJ] <;> lia)
  have I1:Inv X pins σ H {s with heap:=h'}:=I.kept (t':=s.toks) kp
  have I2:Inv X pins σ (upd H h'.objs.size (.tup ys)) {s with heap:=h'.push {cls:=.type "tuple",data:=.seq its.toArray}} :=
   I1.laid (t':=s.toks) (λb o e=>aAA _ e) (aAI _) (show ObjOk X.prog X.w _ _ _ (.tup ys)from⟨hz,its,r',IsTup.new _ _⟩)
  exact⟨.ref h'.objs.size,_,I2,rfl,q _ (I1.hok.fresh (aAI _))⟩
 ·obtain⟨its,r',pl,hz⟩:=I.tuple hq
  exact call_tuple_same pl ⟨.ref p,H,I,rfl,q⟩
def tyV(K:Frag)(T:String)(x:V)(H:Hp):Prop:=match x with
 |.str _=>T="str"
 |.int _=>T="int"
 |.ref p=>(T="list"/\∃xs,SqL K H p xs)\/(T="tuple"/\∃o,K.lookup p=some o/\o.cls=.type "tuple"/\o.dict=none) \/
   (T="dict"/\((∃kvs,H p=some (.dK kvs))\/∃kvs,H p=some (.dT kvs)))\/(T="set"/\∃S n,H p=some (.set S n))
 |_=>False
end
variable{T:String}
theorem aDz(I:Inv X pins σ H s)(r:RelV x v)(ty:tyV X.K T x H) :
  s.TypeIs v T/\∀a,v=.ref a->∃ob,s.heap.get? a=some ob/\ob.dict=none:=by
 cases x with
 |str z =>
  obtain⟨t,rfl⟩:=r
  cases(show T="str"from ty)
  exact⟨aFW s z t,λ_ e=>nomatch e⟩
 |int i =>
  obtain⟨t,rfl⟩:=r
  cases(show T="int"from ty)
  exact⟨aHS s i t,λ_ e=>nomatch e⟩
 |ref p =>
  cases r
  rcases ty with⟨rfl,xs,hq⟩|⟨rfl,o,hk,hc,hd⟩|⟨rfl,hk⟩|⟨rfl,S,n,hk⟩
  ·obtain⟨its,_,pl,_⟩:=I.list hq
   refine⟨pl.isList.typeIs,λa e=>?_⟩
   cases e
   obtain⟨o,n,e,c,hd,_⟩:=pl
   exact⟨o,e,hd⟩
  ·refine⟨⟨o,I.kIn p o hk,hc⟩,λa e=>?_⟩
   cases e
   exact⟨o,I.kIn _ o hk,hd⟩
  ·have z:∃o,s.heap.get? p=some o/\o.ExactDict:=by
    rcases hk with⟨kvs,hk⟩|⟨kvs,hk⟩
    ·obtain⟨_,_,_,_,o,_,_,e,ex,_⟩:=I.hok p _ hk
     exact⟨o,e,ex⟩
    ·obtain⟨_,_,_,_,o,_,_,e,ex,_⟩:=I.hok p _ hk
     exact⟨o,e,ex⟩
   obtain⟨o,e,ex⟩:=z
   refine⟨⟨o,e,ex.1⟩,λa e2=>?_⟩
   cases e2
   exact⟨o,e,ex.2.1⟩
  ·obtain⟨o,_,_,_,e,ex,_⟩:=I.hok p _ hk
   refine⟨⟨o,e,ex.1⟩,λa e2=>?_⟩
   cases e2
   exact⟨o,e,ex.2.1⟩
 |_=>exact False.elim ty
noncomputable def tBM0(K:Frag)(T:String)(r:V->List V->Hp->VK->Prop)(to:TE):TE:=λσ H Q=>to σ H λx H1=>tyV K T x H1/\r x [] H1 Q
noncomputable def tBM(K:Frag)(T:String)(r:V->List V->Hp->VK->Prop)(to:TE)(t:TA):TE:=λσ H Q=>to σ H λx H1=>tyV K T x H1/\t σ H1 λxs H2=>r x xs H2 Q
variable{o:Expr}{es:List Expr}{to:TE}{t:TA}{id:String}{r:V->List V->Hp->VK->Prop}
theorem aLn(pa:PlainAttrs T)(slot:Slot T name id)(hty:typeOf (.builtin id)=pure (.type "method_descriptor"))(hm:MtR X id r)(ho:PE X o to)
  (hbase:attributeBase o name X.env (eval o X.env)=eval o X.env:=by rfl)(hline:(apos.endLine==cpos.line)=true:=by rfl):PE X (.Call (.Attribute o name apos) [] [] cpos) (tBM0 X.K T r to):=by
 intro pins s σ H Q I h
 refine wpAny_Call_method0_late hbase hline (thn (ho pins s σ H _ I h) λv s1 ⟨x,H1,I1,r1,ty,q1⟩=>?_)
 obtain⟨h1,h2⟩:=aDz I1 r1 ty
 exact⟨T,id,pa,slot,hty,h1,h2,aGF rfl (PySem.evalArgs_none (hm pins s1 σ H1 x [] v [] Q I1 r1 .nil q1))⟩
theorem sI(pa:PlainAttrs T)(slot:Slot T name id)(hty:typeOf (.builtin id)=pure (.type "method_descriptor"))(hm:MtR X id r)(ho:PE X o to)(ha:PA X (e::es) t)
  (hbase:attributeBase o name X.env (eval o X.env)=eval o X.env:=by rfl)
  (hfew:((backTo cpos (starEach (e::es) X.env)).all (λx=>!x.1)&&(backToKw cpos (keywordEach [] X.env)).all (λx=>x.1.isSome)
   && decide ((e::es).length+([]:List Keyword).length+(if([]:List Keyword).isEmpty then 0 else 1) < 30))=true:=by rfl)
  (hline:(apos.endLine==cpos.line)=true:=by rfl)(hs:starEach (e::es) X.env=(false,eval e X.env)::starEach es X.env:=by rfl)(hplain:(backTo cpos (starEach es X.env)).any (·.1)=false:=by rfl) :
  PE X (.Call (.Attribute o name apos) (e::es) [] cpos) (tBM X.K T r to t):=by
 intro pins s σ H Q I h
 refine wpAny_Call_method_late hbase hfew hline rfl (thn (ho pins s σ H _ I h) λv s1 ⟨x,H1,I1,r1,ty,q1⟩=>?_)
 obtain⟨h1,h2⟩:=aDz I1 r1 ty
 refine⟨T,id,pa,slot,hty,h1,h2,?_⟩
 have hA:=ha cpos pins s1 σ H1 _ I1 q1
 rw[hs]at hA ⊢
 refine aGF (by show(false || (backTo cpos (starEach es X.env)).any (·.1))=false;rw[hplain] <;> rfl) (Calls.evalArgs_plain ?_)
 exact thn hA λus s2 ⟨vs,H2,I2,r2,q2⟩=>hm pins s2 σ H2 x vs v us Q I2 r1 r2 q2
end
noncomputable def MtM(X:Cx)(id:String)(r:V->List V->Hp->VK->Prop):Prop :=
 ∀(pins:List (Addr×Obj)) (s:Shared) (σ:St) (H:Hp) (x:V) (xs:List V) (v:Value) (us:List Value) (Q:VK),Inv X pins σ H s->RelV x v->Vals xs us->r x xs H Q ->
  wpAny (model X.prog X.w) X.A (call (.builtin id) (v::us)) (EP X pins σ Q) X.xe s
theorem Vals.one:∀{x:V} {us:List Value},Vals [x] us->∃u,us=[u]/\RelV x u
 |_,_,.cons r .nil=>⟨_,rfl,r⟩
theorem Vals.two:∀{x y:V} {us:List Value},Vals [x,y] us->∃u v,us=[u,v]/\RelV x u/\RelV y v
 |_,_,_,.cons r (.cons q .nil)=>⟨_,_,rfl,r,q⟩
theorem Vals.zero:∀{us:List Value},Vals [] us->us=[]
 |_,.nil=>rfl
theorem Vals.dropLast{xs:List V}{us:List Value}(h:Vals xs us):Vals xs.dropLast us.dropLast:=by
 induction h with
 |nil=>exact .nil
 |cons r t ih =>
  cases t with
  |nil=>exact .nil
  |cons q t'=>exact .cons r ih
theorem Vals.rep{xs:List V}{us:List Value}(h:Vals xs us):∀k:Nat,Vals (List.replicate k xs).flatten (List.replicate k us).flatten
 |0=>.nil
 |k+1=>by
  rw[aCT,aCT,aET,aET]
  exact Vals.append h (Vals.rep h k)
theorem yV(l:List α):l.eraseIdx (l.length - 1)=l.dropLast:=by
 induction l with
 |nil=>rfl
 |cons a r ih =>
  cases r with
  |nil=>rfl
  |cons b r =>
   have e:(a::b::r).length - 1=((b::r).length - 1)+1:=by
    have h1:(a::b::r).length=r.length+2:=rfl
    have h2:(b::r).length=r.length+1:=rfl
    lia
   rw[e,List.eraseIdx_cons_succ,ih]
   all_goals rfl
theorem nH(its:List Value):∀(k:Nat) (acc:List Value),
  List.foldl (λx1 x2=>x1++x2) acc.toArray (List.replicate k its.toArray)=(acc++(List.replicate k its).flatten).toArray
 |0,acc=>by simp
 |k+1,acc=>by
  have e:acc.toArray++its.toArray=(acc++its).toArray:=by simp
  have e2:(acc++its)++(List.replicate k its).flatten=acc++(List.replicate (k+1) its).flatten:=by
   rw[aCT,aET,List.append_assoc]
  rw[<- e2,<- nH its k (acc++its),<- e,aCT,List.foldl_cons]
variable{σ:St}{l b:Addr}{ys zs:List V}
theorem Inv.lset{its':List Value}{f:Array Value->Array Value}(I:Inv X pins σ H s)(hH:H l=some (.lst xs))
  (e:s.heap.get? l=some {cls:=.type "list",data:=.seq its.toArray n})(hf:f its.toArray=its'.toArray)(hv:Vals ys its')(hz:ys.length<=sizeLine) :
  Inv X pins σ (upd H l (.lst ys)) {s with heap:=s.heap.update l (Obj.mapSeq f),toks:=t'}:=by
 have q:=PySem.IsL.update e f
 rw[hf]at q
 refine I.write (x:=l) (e:=l) (by rw[hH];exact trivial) (.inl rfl) (λb' u hb hu=>(aCP s.heap (Obj.mapSeq f) (Ne.symm hb)).trans hu) ⟨_,q⟩ ?_
 exact⟨hz,its',_,hv,q⟩
theorem Inv.lnew(I:Inv X pins σ H s)(hv:Vals ys its)(hz:ys.length<=sizeLine) :
  Inv X pins σ (upd H s.heap.objs.size (.lst ys)) {s with heap:=s.heap.push {cls:=.type "list",data:=.seq its.toArray},toks:=t'} :=
 I.laid (λ_ _ q=>aAA _ q) (aAI _) ⟨hz,its,0,hv,aAG _ rfl⟩
theorem Inv.fresh(I:Inv X pins σ H s):H s.heap.objs.size=none:=I.hok.fresh (aAI _)
theorem Inv.lstM(I:Inv X pins σ H s)(hH:H l=some (.lst xs)):xs.length<=sizeLine/\∃(its:List Value) (n:Nat),Vals xs its/\xs.length=its.length/\s.heap.get? l=some {cls:=.type "list",data:=.seq its.toArray n}:=by
 obtain⟨z,its,n,r,e⟩:=I.hok l _ hH
 exact⟨z,its,n,r,r.length,e⟩
theorem notLongL(h:n<=sizeLine):Builtin.List.listTooLong n=false:=by
 unfold Builtin.List.listTooLong
 exact aBI (by lia)
noncomputable section
def rAppend:V->List V->Hp->VK->Prop:=λx vs H Q=>∃l xs y,x=.ref l/\vs=[y]/\H l=some (.lst xs)/\xs.length < sizeLine/\Q .non (upd H l (.lst (xs++[y])))
theorem rZ:MtM X "list.append" rAppend:=by
 intro pins s σ H x vs v us Q I rx rv h
 obtain⟨l,xs,y,rfl,rfl,hH,hz,q⟩:=h
 cases rx
 obtain⟨u,rfl,ru⟩:=rv.one
 obtain⟨z,its,n,r,hl,e⟩:=I.lstM hH
 refine aCZ F.slot_list_append ⟨_,e,rfl⟩ F.entry_list_append (F.args_list_append_2 _ _) (PySem.list_append l its.toArray n u (by rw[aAJ];lia)) ⟨e,?_⟩
 refine⟨.non,_,I.lset (its':=its++[u]) hH e (by simp) (r.append (.cons ru .nil)) ?_,rfl,q⟩
 rw[aBB,List.length_singleton]
 lia
def rExtend:V->List V->Hp->VK->Prop:=λx vs H Q=>∃l b xs zs,x=.ref l/\vs=[.ref b]/\H l=some (.lst xs)/\H b=some (.lst zs)/\xs.length+zs.length<=sizeLine/\Q .non (upd H l (.lst (xs++zs)))
theorem aBv:MtM X "list.extend" rExtend:=by
 intro pins s σ H x vs v us Q I rx rv h
 obtain⟨l,b,xs,zs,rfl,rfl,hH,hB,hz,q⟩:=h
 cases rx
 obtain⟨u,rfl,ru⟩:=rv.one
 cases ru
 obtain⟨z,its,n,r,hl,e⟩:=I.lstM hH
 obtain⟨z2,its2,n2,r2,hl2,e2⟩:=I.lstM hB
 have hsz:its.toArray.size+its2.toArray.size<=sizeLine:=by rw[aAJ,aAJ];lia
 have hlong:¬(!its.toArray.isEmpty&&Builtin.List.listTooLong (its.toArray.size+its2.toArray.size))=true:=by
  rw[notLongL hsz,aEC]
  exact aBA
 refine aCZ F.slot_list_extend ⟨_,e,rfl⟩ F.entry_list_extend (F.args_list_extend_2 _ _)
  (AutoSeq1.list_extend_list_list_0 l its.toArray n b its2.toArray n2 hlong (by rw[aAJ];lia) (by lia)) ⟨e,e2,?_⟩
 refine⟨.non,_,I.lset (its':=its++its2) hH e (by simp) (r.append r2) ?_,rfl,q⟩
 rw[aBB]
 lia
def rPop:V->List V->Hp->VK->Prop:=λx vs H Q=>∃l xs y,x=.ref l/\vs=[]/\H l=some (.lst xs)/\xs[xs.length - 1]?=some y/\Q y (upd H l (.lst xs.dropLast))
theorem aLt:MtM X "list.pop" rPop:=by
 intro pins s σ H x vs v us Q I rx rv h
 obtain⟨l,xs,y,rfl,rfl,hH,hy,q⟩:=h
 cases rx
 have hus:=rv.zero
 subst hus
 obtain⟨z,its,n,r,hl,e⟩:=I.lstM hH
 obtain⟨u,hu,ru⟩:=r.get hy
 have hy':its.toArray[its.toArray.size - 1]?=some u:=by
  show its.toArray[its.length - 1]?=some u
  rw[<- aGP,<- hl]
  exact hu
 refine aCZ F.slot_list_pop ⟨_,e,rfl⟩ F.entry_list_pop (F.args_list_pop_1 _) (MeetsSeq.list_pop_last l its.toArray n u hy' (by rw[aAJ];lia)) ⟨e,?_⟩
 refine⟨y,_,I.lset (its':=its.dropLast) hH e ?_ r.dropLast ?_,ru,q⟩
 ·show its.toArray.eraseIdxIfInBounds (its.toArray.size - 1)=its.dropLast.toArray
  rw[aAJ,List.eraseIdxIfInBounds_toArray,yV]
 ·rw[List.length_dropLast]
  lia
def rCat:R2:=λx y H Q=>∃l b xs zs,x=.ref l/\y=.ref b/\H l=some (.lst xs)/\H b=some (.lst zs)/\xs.length+zs.length<=sizeLine/\∀p,H p=none->Q (.ref p) (upd H p (.lst (xs++zs)))
theorem aOh:OpR X (binaryOp .Add) rCat:=by
 intro pins s σ H x y v u Q I rx ry h
 obtain⟨l,b,xs,zs,rfl,rfl,hH,hB,hz,q⟩:=h
 cases rx
 cases ry
 obtain⟨z,its,n,r,hl,e⟩:=I.lstM hH
 obtain⟨z2,its2,n2,r2,hl2,e2⟩:=I.lstM hB
 refine PySem.P.add_list e e2 ?_ (by rw[aAJ,aAJ];lia)
 have ea:its.toArray++its2.toArray=(its++its2).toArray:=by simp
 rw[ea]
 exact⟨.ref _,_,I.lnew (t':=s.toks) (r.append r2) (by rw[aBB];lia),rfl,q _ I.fresh⟩
def rRep:R2:=λx y H Q=>∃l k xs,x=.ref l/\y=.int k/\H l=some (.lst xs) /\ -(2 ^ 63)<=k/\k < 2 ^ 63/\xs.length*k.toNat<=sizeLine /\
 ∀p,H p=none->Q (.ref p) (upd H p (.lst (List.replicate k.toNat xs).flatten))
end
theorem tZ(xs:List α)(k:Nat):(List.replicate k xs).flatten.length=k*xs.length:=by
 induction k with
 |zero=>simp
 |succ k ih=>rw[aCT,aET,aBB,ih,Nat.succ_mul,Nat.add_comm]
theorem aLh:OpR X (binaryOp .Mult) rRep:=by
 intro pins s σ H x y v u Q I rx ry h
 obtain⟨l,k,xs,rfl,rfl,hH,h1,h2,hz,q⟩:=h
 cases rx
 obtain⟨t,rfl⟩:=ry
 obtain⟨z,its,n,r,hl,e⟩:=I.lstM hH
 have hlen:its.toArray.size*k.toNat<=sizeLine:=by rw[aAJ,<- hl];exact hz
 have hcap:¬its.toArray.size*k.toNat > (2 ^ 63 - 1) / 8:=by
  have:(sizeLine:Nat)<=(2 ^ 63 - 1) / 8:=by decide
  lia
 have hfit:¬(!Builtin.List.listFitsIndex k)=true:=by
  rw[fitsIndex_both h1 h2]
  exact aBA
 have hlong:¬Builtin.List.listTooLong (its.toArray.size*k.toNat)=true:=by
  rw[notLongL hlen]
  exact aBA
 have hnew:List.foldl (λx1 x2=>x1++x2) #[] (List.replicate (if its.toArray.isEmpty=true then 0 else k.toNat) its.toArray)=(List.replicate k.toNat its).flatten.toArray:=by
  have f0:∀m:Nat,List.foldl (λx1 x2=>x1++x2) #[] (List.replicate m its.toArray)=(List.replicate m its).flatten.toArray:=λm=>by
   have:=nH its m []
   rw[List.nil_append]at this
   exact this
  rw[f0]
  cases its with
  |nil=>simp
  |cons a r'=>rw[aAL (by simp)]
 refine wpAny_binaryOp_repeat_ref (T:="list") (U:="int") (by decide) ⟨_,e,rfl⟩ (λs'=>aHS s' k t) noFill_list_mul F.fills_int_mul aGV repeat_list F.slot_int_index.lookup
  (aCZ aGV (aHS s k t) F.entry_int_rmul (F.args_int_rmul_2 _ _) (int___rmul___int_list k t l its.toArray n)
   ⟨e,rfl,⟨_,e,rfl⟩,aCZ F.slot_list_mul ⟨_,e,rfl⟩ F.entry_list_mul (F.args_list_mul_2 _ _) (AutoListH.list___mul___list_int_3 l its.toArray n k t hfit hcap hlong) ⟨e,?_⟩⟩)
 rw[hnew]
 exact⟨.ref _,_,I.lnew (t':=s.toks) (r.rep k.toNat) (by rw[tZ,Nat.mul_comm];exact hz),rfl,q _ I.fresh⟩
variable{prog:Program}{E:Value->Shared->Prop}
end L2
end
namespace Att
open PySem PySem.W PySem.Calls PyProof.Rows
variable{P:Params}
theorem oA :∀(ns:List Int) (vs:List Value),WellAll P h vs (ns.map WData.int)->IntsAre vs ns:=by
 intro ns
 induction ns with
 |nil =>
  intro vs w
  rw[List.map_nil]at w
  cases w
  exact .nil
 |cons n ns ih =>
  intro vs w
  rw[aAV]at w
  cases w with
  |cons a b =>
   cases a
   exact .cons _ _ (ih _ b)
variable{l:OpenLaw}
theorem aCn(hn:l.most=some n){args:List WData}{vals:List Value}
  (hpre:l.row.toRowW.claim.pre args=true)(hwl:WellAll P h vals args) :
  ∃a vs ns,vals=[Value.ref a]/\args=[WData.list (ns.map WData.int)]/\h.get? a=some {cls:=.type "list",data:=.seq vs.toArray}/\IntsAre vs ns/\ns.length<=n:=by
 have hsh:WShape.hasAll [] args [.list .int]=true:=(pre_splitW hpre).1
 have hc:l.pre.holds [] {args:=args}=true:=(pre_splitW hpre).2
 obtain⟨d,r,rfl,h1,h2⟩:=hasAllW_cons hsh
 obtain rfl:=hasAllW_nil h2
 obtain⟨xs,rfl,h3⟩:=hasW_list h1
 obtain⟨ns,rfl⟩:=items_int h3
 have hlen:ns.length<=n:=by
  unfold OpenLaw.pre at hc
  have h4:(WTm.not (.lt (.lit (.int (n:Int))) (.len (.arg 0)))).holds [] {args:=[.list (ns.map .int)]}=true:=by
   have h4:=(holds_andW hc).1
   rw[hn]at h4
   exact h4
  have h5:=condW_of h4 (w_not (w_lt w_lit (w_len_list (w_arg rfl))))
  rw[aAK]at h5
  refine Nat.le_of_not_lt λq=>?_
  have q':(n:Int) < ((ns.length:Nat):Int):=by lia
  first
   |(rw[aFV q']at h5;exact absurd h5 (by decide))
   |(simp at h5;lia)
 cases hwl with
 |cons w1 w2 =>
  cases w2
  cases w1 with
  |list ho hall=>exact⟨_,_,ns,rfl,rfl,ho,oA ns _ hall,hlen⟩
theorem aAz(l:OpenLaw)(args:List WData):l.row.toRowW.claim.post args (.bool true) args=true :=
 postW_of (r:=l.row.toRowW) (X:=(true==true))
  (show WShape.has [] (.bool true) .bool=true by first|rfl|decide|simp[WShape.has,WShape.arms,WShape.armsAll])
  (show(WTm.eq .res (.lit (.bool true))).value [] {args:=args,res:=some (.bool true),after:=args}=some (.bool (true==true))from w_eq_bool (w_res rfl) w_lit) rfl
theorem attach_call{q:Program}{d:DefRec}
  (hn:l.most=some n)(hdf:d.params.defaults=[])
  (call:∀(w:World) (s₀ s₁:Shared) (mg mb:Str->Option Value) (fa:Addr) (o:Obj) (pm cd doc:Value) (a:Addr) (vs:List Value) (ns:List Int),
   Ground q loose [] XP w s₀ mg mb s₁.heap->YP w s₁.heap ->
   s₁.heap.get? fa=some o->o.data=.func (docDef d.name d.params d.body d.scope pm cd doc)->s₁.heap.CodeRec cd d.name->mg d.name=some (.ref fa) ->
   s₁.heap.get? a=some {cls:=.type "list",data:=.seq vs.toArray}->IntsAre vs ns->ns.length<=n->s₁.gens=#[] ->
   codeAny (model l.prog w) callerA (.call (.ref fa) ⟨[.ref a],[]⟩) (λr s'=>r=.ok (.ret (.bool true))/\OldK s₁.heap s'.heap/\s'.os=s₁.os/\AllBare s'.gens) s₁) :
  WalkO q loose XP YP l.row.toRowW d [] (λf vs=>PySem.call f vs):=by
 intro w s₀ s₁ mg mb G Y fa o pm cd doc dV kV ho hd hcd hD hmg hg args vals as hpre hlay hrd hwl hlo
 obtain rfl:dV=.none:=Dflts.none hD hdf
 obtain rfl:kV=.none:=Dflts.noKw hD
 obtain⟨a,vs,ns,rfl,rfl,hobj,hints,hlen⟩:=aCn hn hpre hwl
 refine enter_call (aEW (call w s₀ s₁ mg mb fa o pm cd doc a vs ns G Y ho (fd_plain hd) hcd hmg hobj hints hlen hg) λr s' hq=>?_)
 obtain⟨rfl,h2,h3,h4⟩:=hq
 exact⟨.inl ⟨.bool true,.bool true,[],rfl,λ_=>rfl,.bool true,aAz l _,λ_=>⟨List.Pairwise.nil,λ_ hm=>(nomatch hm)⟩⟩,h2,h3,h4⟩
variable{prog:Program}{E:Value->Shared->Prop}{K:Frag}
noncomputable def ledger(h:Heap)(L d:Addr):List (Addr×Obj):=(List.range h.objs.size).filterMap λa=>if a=L\/a=d then none else(h.get? a).map λo=>(a,o)
end Att
section
open PySem PySem.Spec PyProof.Rows
namespace L2
theorem rR:∀{vs:List Value} {ns:List Int},IntsAre vs ns->Vals (ns.map V.int) vs
 |_,_,.nil=>.nil
 |_,_,.cons n t h=>.cons ⟨t,rfl⟩ (rR h)
noncomputable section
def Only(H:Hp):Prop:=∀b,H b=none\/∃o xs,H b=some (.frz o (.lst xs))
theorem aEp{mb:Str->Option Value}{k:Nat}{fa:Addr}{x:Str}{s₁:Shared}{vs:List Value}
  (KX:K.In s₁.heap)(hns:s₁.heap.Ns mainGlobals mg)(hb:s₁.heap.Ns builtinsNs mb)(hbb:∀x:Str,x≠"__name__"->mb x=bootBuiltins x)(hlim:s₁.heap.NoLimit)(hg:s₁.gens=#[])
  (ha:s₁.heap.get? a=some {cls:=.type "list",data:=.seq vs.toArray})(hi:IntsAre vs ns)(hl:ns.length<=sizeLine)(hr:Room k callerA)
  (F:∀base:Heap,K.In base->base.Ns mainGlobals mg->FnOk P w K mg base CX k fa fd [x] sp)(hbind:∀(s:Shared) (u:Value),BindsTo s fd ⟨[u],[]⟩ [(x,u)])
  (hsp:∀H:Hp,Only H->SqL K H a (ns.map V.int)->sp [.ref a] H (λv _=>v=.bl true) λ_ _ _=>False)
  (hCX:∀H e s',CX [] H s₁ (λ_ _ _=>False) e s'->False) :
  codeAny (model P w) callerA (.call (.ref fa) ⟨[.ref a],[]⟩) (λr s'=>r=.ok (.ret (.bool true))/\OldK s₁.heap s'.heap/\s'.os=s₁.os/\AllBare s'.gens) s₁:=by
 have rv:=rR hi
 have lenV:=hi.length
 have core:∀H:Hp,Only H->SqL K H a (ns.map V.int)->HOk P w H s₁.heap->(∀b,H b≠none->b=a)->(H a≠none->K.lookup a=none) ->
   codeAny (model P w) callerA (.call (.ref fa) ⟨[.ref a],[]⟩) (λr s'=>r=.ok (.ret (.bool true))/\OldK s₁.heap s'.heap/\s'.os=s₁.os/\AllBare s'.gens) s₁:=by
  intro H hO hS hok hA hK
  have base_of:∀{b:Addr} {o:Obj},s₁.heap.get? b=some o->H b=none->(hidT s₁.heap H).get? b=some o:=λe n=>aEs e n
  have noA:∀{b:Addr} {o:Obj} {es:Array DictEntry} {ep:Nat},s₁.heap.get? b=some o->o.data=.dict es ep->H b=none:=λ{b o es ep} e d=>by
   cases q:H b with
   |none=>rfl
   |some u =>
    have e':b=a:=hA b (by rw[q];simp)
    subst e'
    rw[ha]at e;cases e
    have d':Data.seq vs.toArray _=Data.dict es ep:=d
    cases d'
  have nsK:∀{b:Addr} {m:Str->Option Value},s₁.heap.Ns b m->(hidT s₁.heap H).Ns b m:=λ{b m} ⟨o,es,ep,e,d,r⟩=>⟨o,es,ep,base_of e (noA e d),d,r⟩
  have hKb:K.In (hidT s₁.heap H):=λb o e=>base_of (KX b o e) (by
   cases q:H b with
   |none=>rfl
   |some u =>
    have e':b=a:=hA b (by rw[q];simp)
    subst e'
    rw[hK (by rw[q];simp)]at e;cases e)
  have hM:Mod K mg (hidT s₁.heap H):=⟨hKb,nsK hns,⟨mb,nsK hb,hbb⟩,let⟨mc,h1,h2⟩:=hlim;⟨mc,nsK h1,h2⟩⟩
  have e0:Env0 P w K mg (hidT s₁.heap H) callerA [] s₁ H:=⟨rfl,hM,λb o e=>aKs e,Nat.le_of_eq (aBo _ _),trivial,λb hb=>absurd (show b∈([]:List Addr)from hb) (by simp),hok,.of_eq hg⟩
  refine aEW ((F _ hKb (nsK hns)).run callerA [] s₁ H ⟨[.ref a],[]⟩ [.ref a] [.ref a] _ _ hr e0 (hbind s₁ (.ref a)) (.cons rfl .nil) (hsp H hO hS)) λr s' h=>?_
  cases r with
  |error e=>exact(hCX H e s' h).elim
  |ok fl =>
   cases fl with
   |next=>exact False.elim h
   |brk=>exact False.elim h
   |cont=>exact False.elim h
   |ret u =>
    obtain⟨v,H',os,bare,un,hok',r',q⟩:=h
    have q':v=.bl true:=q
    subst q'
    obtain rfl:u=Value.bool true:=r'
    refine⟨rfl,OldK.of_keep λb o e=>?_,os,bare⟩
    cases q:H b with
    |none=>exact un.keep b o e q (by intro z;exact absurd (show b∈([]:List Addr)from z) (by simp)) (by simp)
    |some u =>
     rcases hO b with z|⟨ob,xs,z⟩
     ·rw[q]at z;cases z
     ·have z2:=un.frzs b ob _ z
      obtain⟨e1,_⟩:=hok b _ z
      obtain⟨e2,_⟩:=hok' b _ z2
      rw[e]at e1;cases e1
      exact e2
 cases hk:K.lookup a with
 |some o =>
  have e:=KX a o hk
  rw[ha]at e
  cases e
  refine core (λ_=>none) (λ_=>.inl rfl) (.inr ⟨_,vs.toArray,_,hk,rfl,rfl,rfl,by rw[aAJ,lenV];exact hl,by simpa using rv⟩) (λb u z=>by have z':(none:Option HO)=some u:=z;cases z') (λb z=>absurd rfl z) λz=>absurd rfl z
 |none =>
  refine core (λb=>if b=a then some (.frz {cls:=.type "list",data:=.seq vs.toArray} (.lst (ns.map V.int)))else none) (λb=>?_) (.inl (.inr ⟨{cls:=.type "list",data:=.seq vs.toArray},aAH rfl⟩)) (λb u z=>?_) (λb z=>?_) λ_=>hk
  ·by_cases hb:b=a
   ·exact .inr ⟨_,_,aAH hb⟩
   ·exact .inl (aAL hb)
  ·by_cases hb:b=a
   ·have z':=(aAH hb).symm.trans z
    cases z'
    subst hb
    exact⟨ha,by rw[aAK];exact hl,vs,_,rv,ha⟩
   ·have z':=(aAL hb).symm.trans z
    cases z'
  ·by_cases hb:b=a
   ·exact hb
   ·exact absurd (aAL hb) z
abbrev KOf(_:K.In h):Frag:=K
theorem zQ{l:PySem.W.OpenLaw}{k:Nat}{q:Program}{d:DefRec}{K:Params->Frag}{CX:World->CXT}{sp:World->Sp}
  (hn:l.most=some n)(hn2:n<=sizeLine)(hdf:d.params.defaults=[])(hr:Room k callerA)
  (hY:∀(w:World) (h:Heap),YP w h->(K w.params).In h)
  (F:∀(w:World) (mg:Str->Option Value) (fa:Addr) (h:Heap),(K w.params).In h->h.Ns mainGlobals mg->mg d.name=some (.ref fa) ->
   ∃fd:FuncData,(∀(s:Shared) (u:Value),BindsTo s fd ⟨[u],[]⟩ [(x,u)]) /\
    ∀base:Heap,(K w.params).In base->base.Ns mainGlobals mg->FnOk l.prog w (K w.params) mg base (CX w) k fa fd [x] (sp w))
  (hsp:∀(w:World) (H:Hp) (a:Addr) (ns:List Int),ns.length<=n->Only H->SqL (K w.params) H a (ns.map V.int)->sp w [.ref a] H (λv _=>v=.bl true) λ_ _ _=>False)
  (hCX:∀(w:World) (H:Hp) (s:Shared) (e:Value) (s':Shared),CX w [] H s (λ_ _ _=>False) e s'->False) :
  PySem.W.WalkO q loose XP YP l.row.toRowW d [] (λf vs=>PySem.call f vs):=by
 refine Att.attach_call hn hdf λw s₀ s₁ mg mb fa o pm cd doc a vs ns G Y ho hd hcd hmg hobj hints hlen hg=>?_
 have KX:=hY w _ Y
 obtain⟨fd,hb,hF⟩:=F w mg fa _ KX G.T.g hmg
 exact aEp KX G.T.g G.T.b G.T.builtins G.T.nolimit hg hobj hints (aBD hlen hn2) hr hF hb (λH hO hS=>hsp w H a ns hlen hO hS) λH e s'=>hCX w H s₁ e s'
def inClass(s:Stmt)(j:Nat):Stmt:=match s with
 |.ClassDef _ _ _ body _ _ _ _ _ _ _=>body.getD j (.Pass ⟨0,0,0,0⟩)
 |_=>.Pass ⟨0,0,0,0⟩
def defArgs(s:Stmt):Arguments:=match s with
 |.FunctionDef _ a _ _ _ _ _ _ _ _=>a
 |_=>{posonlyargs:=[],args:=[],vararg:=none,kwonlyargs:=[],kw_defaults:=[],kwarg:=none,defaults:=[]}
def defBody(s:Stmt):List Stmt:=match s with
 |.FunctionDef _ _ b _ _ _ _ _ _ _=>b
 |_=>[]
def defScope(s:Stmt):Scope:=match s with
 |.FunctionDef _ _ _ _ _ _ sc _ _ _=>sc
 |_=>{kind:=.function,names:=[],isGenerator:=false,isCoroutine:=false}
abbrev CX0:CXT:=λ_ _ _ _ _ _=>False
abbrev E0:XK:=λ_ _ _=>False
end
theorem pass0:Passes CX0 X E0:=λ_ _ _ _ _ _ _ h=>h.elim
structure Fun(K:Frag)(x qual:Str)(st:Stmt)(f:Addr)(fd:FuncData):Prop where
 ex:∃(oc:Value) (od:Option Addr) (kV doc pm:Value) (an:Option Addr) (cdv ct:Value) (osl:Array (Option Value)),
  fd=fnOf x qual (defArgs st) (defBody st) (defScope st) .none kV doc pm an cdv ct/\K.lookup f=some ⟨oc,od,.func fd,osl⟩/\codeIn K cdv qual=true
 kp:keepIn K (.ref f)=true
variable{K:Frag}{f:Addr}
theorem Fun.ok{k:Nat}(F:Fun K x qual st f fd)(S:FnScope N ps (defScope st))(len:∀vs H Q E,sp vs H Q E->vs.length=ps.length)
  (hbody:∀(cdv:Value) (A:Around) (outer:List Env) (s:Shared) (H:Hp) (vs:List V) (Q:VK) (E:XK),Room k (A.deeper (envOfC qual (defScope st) s.heap.objs.size f cdv))->sp vs H Q E ->
   ∃t,PSs (cxOf CX0 P w K mg base N qual (defScope st) f cdv A outer s H E).nox (defBody st) t/\t {nx:=λ_ H'=>Q .non H',rt:=Q} (start N vs) H):FnOk P w K mg base CX0 (k+1) f fd ps sp:=by
 obtain⟨oc,od,kV,doc,pm,an,cdv,ct,osl,rfl,lk,hcd⟩:=F.ex
 refine aDl lk hcd S len λA outer s H vs Q E hr hsp=>?_
 obtain⟨t,h,q⟩:=hbody cdv A outer s H vs Q E hr hsp
 exact⟨t,h.nox,q⟩
theorem Fun.binds(F:Fun K x qual st f fd)
  (h:∀(kV doc pm:Value) (an:Option Addr) (cdv ct:Value) (us:List Value),us.length=ps.length->bindArgs (fnOf x qual (defArgs st) (defBody st) (defScope st) .none kV doc pm an cdv ct) ⟨us,[]⟩=pure (ps.zip us)):Binds K fd ps []:=by
 obtain⟨oc,od,kV,doc,pm,an,cdv,ct,osl,rfl,lk,hcd⟩:=F.ex
 exact .all (h kV doc pm an cdv ct)
theorem aM{oc:Value}{od an:Option Addr}{kV doc pm cdv ct:Value}(l:K.lookup f=some ⟨oc,od,.func (fnOf x qual (defArgs st) (defBody st) (defScope st) .none kV doc pm an cdv ct),osl⟩)
  (c:codeIn K cdv qual=true)(k:keepIn K (.ref f)=true):Fun K x qual st f (fnOf x qual (defArgs st) (defBody st) (defScope st) .none kV doc pm an cdv ct):=⟨⟨oc,od,kV,doc,pm,an,cdv,ct,osl,rfl,l,c⟩,k⟩
theorem pv(i:Nat)(hN:X.N[i]?=some x:=by rfl)(hv:Vis X.env.scope x:=by first|exact Or.inl rfl|exact Or.inr (Or.inl rfl)|exact Or.inr (Or.inr rfl))(hd:(x==("__debug__":Str))=false:=by decide)
  (hcd:(x==("__classdict__":Str))=false:=by decide):PE X (.Name x pos) (tVar i):=aFx hN hv hd hcd
noncomputable def Same(H H':Hp):Prop:=∀b o,H b=some o->H' b=some o
theorem Same.trans(a:Same H H1)(b:Same H1 H2):Same H H2:=λc o h=>b c o (a c o h)
theorem Same.free(e:Same H H'){l:Addr}(h:H' l=Option.none):H l=Option.none:=by
 cases q:H l with
 |none=>rfl
 |some o =>
  rw[e l o q]at h
  cases h
theorem Same.seq{xs:List V}(e:Same H H')(h:SqL K H a xs):SqL K H' a xs:=by
 rcases h with(h|⟨o,h⟩)|h
 ·exact .inl (.inl (e _ _ h))
 ·exact .inl (.inr ⟨o,e _ _ h⟩)
 ·exact .inr h
end L2
set_option maxHeartbeats 4000000
namespace L2
variable{tg:Expr}
noncomputable def CDivW(_ j:Int):Prop:=0 < j/\j < 18446744073709551616
theorem aBf(h:n < 18446744073709551616):n.log2 < 9000:=by
 by_cases h0:n=0
 ·subst h0;decide
 ·have:n.log2 < 64:=(Nat.log2_lt h0).2 (by simpa using h)
  lia
theorem aDy:OpR X (binaryOp .FloorDiv) (rI CDivW λi j=>.int (i / j)):=opI λi j _ _ _ _ _ hc q=>by
 have h1:(0:Int) < j:=hc.1
 have h2:j < 18446744073709551616:=hc.2
 exact floordiv_int (by lia) (by rw[Int.fdiv_eq_ediv_of_nonneg i (by lia)];exact q) (.inl (PyProof.noPylong_of_log2 (aBf (by lia))))
noncomputable def rIsT(K:Frag):List V->Hp->VK->Prop:=λxs H Q=>∃x T t b,xs=[x,.ty T]/\TyOf K H x t/\PySem.W.kitOne K t (.type T)=some b/\Q (.bl b) H
theorem wA:CallR X (.builtin "isinstance") (rIsT X.K):=by
 intro pins s σ H xs us Q I r h
 obtain⟨x,T,t,b,e,ty,ek,q⟩:=h
 subst e
 obtain⟨u,w',rfl,r1,r2⟩:=vals2 r
 obtain rfl:w'=Value.type T:=r2
 exact aCi I r1 ty ek λtk=>⟨.bl b,H,I.tok tk,rfl,q⟩
inductive IntsE:List Expr->List Int->Prop where
 |nil:IntsE [] []
 |cons {i:Int} {j:Nat} {p:Pos} {r:List Expr} {ns:List Int} (h:IntsE r ns):IntsE (.Constant (.int i) j p::r) (i::ns)
theorem aKa{es:List Expr}(h:IntsE es ns):PA X es (λ_ H Q=>Q (ns.map V.int) H):=by
 induction h with
 |nil=>exact dE
 |cons h ih=>exact bJ aGc ih
structure JE(X:Cx)(e:Expr)(t:TE):Prop where
 h:PE X e t
structure JS(X:Cx)(st:Stmt)(t:TS):Prop where
 h:PS X st t
structure JSs(X:Cx)(sts:List Stmt)(t:TS):Prop where
 h:PSs X sts t
theorem kC{env:Env}{f:Str×NameKind->List (Str×Addr)->Sem (ForInStep (List (Str×Addr)))}
  (hf:∀y acc c,y.2=NameKind.free->env.cells.lookup y.1=some c->f y acc=pure (.yield ((y.1,c)::acc)))(hf':∀y acc,y.2≠NameKind.free->f y acc=pure (.yield acc)) :
  ∀(names:List (Str×NameKind)) (acc:List (Str×Addr)),(∀y∈names,y.2=NameKind.free->∃c,env.cells.lookup y.1=some c)->(∀x c,acc.lookup x=some c->env.cells.lookup x=some c) ->
   ∃cl,forIn names acc f=(pure cl:Sem (List (Str×Addr)))/\(∀x c,cl.lookup x=some c->env.cells.lookup x=some c)/\(∀y∈names,y.2=NameKind.free->∃c,cl.lookup y.1=some c)/\(∀x c,acc.lookup x=some c->∃c',cl.lookup x=some c')
 |[],acc,_,ha=>⟨acc,rfl,ha,(λ_ h=>nomatch h),λx c h=>⟨c,h⟩⟩
 |y::r,acc,hn,ha=>by
  by_cases hy:y.2=NameKind.free
  ·obtain⟨c,hc⟩:=hn y aDQ hy
   have ha':∀x d,((y.1,c)::acc).lookup x=some d->env.cells.lookup x=some d:=λx d h=>by
    rw[aCX]at h
    cases e:x==y.1 with
    |true =>
     rw[e]at h
     have:x=y.1:=by simpa using e
     subst this
     cases h
     exact hc
    |false=>rw[e]at h;exact ha x d h
   obtain⟨cl,h1,h2,h3,h4⟩:=kC hf hf' r _ (λz hz=>hn z (aBR _ hz)) ha'
   have hyl:∃c',cl.lookup y.1=some c':=h4 y.1 c (by rw[aCX];simp)
   refine⟨cl,?_,h2,λz hz hzf=>?_,λx d hx=>?_⟩
   ·rw[aEP,hf y acc c hy hc]
    exact h1
   ·rcases aAO.mp hz with rfl|hz
    ·exact hyl
    ·exact h3 z hz hzf
   ·by_cases e:x=y.1
    ·rw[e];exact hyl
    ·have e':(x==y.1)=false:=by simpa using e
     exact h4 x d (by rw[aCX,e'];exact hx)
  ·obtain⟨cl,h1,h2,h3,h4⟩:=kC hf hf' r acc (λz hz=>hn z (aBR _ hz)) ha
   refine⟨cl,?_,h2,λz hz hzf=>?_,h4⟩
   ·rw[aEP,hf' y acc hy]
    exact h1
   ·rcases aAO.mp hz with rfl|hz
    ·exact absurd hzf hy
    ·exact h3 z hz hzf
theorem kS{scope:Scope}(h:∀y∈scope.names,y.2=NameKind.free->∃c,env.cells.lookup y.1=some c) :
  ∃cl,closureFor scope env=pure cl/\(∀x c,cl.lookup x=some c->env.cells.lookup x=some c)/\(∀y∈scope.names,y.2=NameKind.free->∃c,cl.lookup y.1=some c):=by
 obtain⟨cl,h1,h2,h3,_⟩:=kC (env:=env) (f:=λx cs=>match x with
   |(name,kind)=>if(kind==NameKind.free)=true then do
     let a <- cellOf env name
     pure (ForInStep.yield ((name,a)::cs))
     else pure (ForInStep.yield cs)) (λy acc c hy hc=>by
    obtain⟨n,k⟩:=y
    simp only at hy hc
    subst hy
    simp only[aGN,aDI,cellOf,hc]
    rfl) (λy acc hy=>by
    obtain⟨n,k⟩:=y
    simp only at hy
    have:(k==NameKind.free)=false:=by simpa using hy
    simp only[this,aBG,aDX]) scope.names [] h (λ_ _ z=>by simp at z)
 refine⟨cl,?_,h2,h3⟩
 show(forIn scope.names [] _ >>= λcs=>pure cs)=pure cl
 exact(congrArg (· >>= λcs=>(pure cs:Sem (List (Str×Addr)))) h1).trans rfl
theorem fQ{env:Env}(hk:env.scope.kind=.function):∀{names:List (Str×NameKind)} {x:Str},names.lookup x=some .free->env.kindOf x=some .cell ->
  (names.map λ(n,k)=>if(k==NameKind.free&&env.scope.kind==.function&&env.kindOf n==some .cell)then(n,NameKind.cell)else(n,k)).lookup x=some .cell
 |[],_,h,_=>by simp at h
 |(n,k)::r,x,h,hx=>by
  rw[aAV]
  rw[aCX]at h
  cases e:x==n with
  |true =>
   rw[e]at h
   have:x=n:=by simpa using e
   subst this
   cases h
   simp[hk,hx,aCX]
  |false =>
   rw[e]at h
   have ih:=fQ hk h hx
   simp only
   split <;> (rw[aCX,e];exact ih)
theorem eZ{env:Env}:∀{names:List (Str×NameKind)} {x:Str} {k':NameKind},
  (names.map λ(n,k)=>if(k==NameKind.free&&env.scope.kind==.function&&env.kindOf n==some .cell)then(n,NameKind.cell)else(n,k)).lookup x=some k'->k'=.cell\/k'=.free ->
  ∃k,(x,k)∈names/\(k=.cell\/k=.free)
 |[],_,_,h,_=>by simp at h
 |(n,k)::r,x,k',h,hk=>by
  rw[aAV]at h
  simp only at h
  cases e:x==n with
  |true =>
   have:x=n:=by simpa using e
   subst this
   refine⟨k,aDQ,?_⟩
   split at h
   ·rename_i hc
    simp only[aBM]at hc
    exact .inr (by simpa using hc.1.1)
   ·rw[aCX,e]at h
    cases h
    exact hk
  |false =>
   have h':(r.map λ(n,k)=>if(k==NameKind.free&&env.scope.kind==.function&&env.kindOf n==some .cell)then(n,NameKind.cell)else(n,k)).lookup x=some k':=by
    split at h <;> (rw[aCX,e]at h;exact h)
   obtain⟨k1,h1,h2⟩:=eZ h' hk
   exact⟨k1,aBR _ h1,h2⟩
noncomputable def compCx(X:Cx)(Nc:List Str)(scope:Scope)(cl:List (Str×Addr))(C:Addr)(fp:List Addr)(pins:List (Addr×Obj))(s₂:Shared)(H₂:Hp):Cx where
 prog:=X.prog
 w:=X.w
 K:=X.K
 mg:=X.mg
 base:=X.base
 A:=X.A
 N:=Nc
 s₀:=s₂
 H₀:=H₂
 env:=compEnvC scope cl C X.env
 outer:=X.stack
 stack:=X.stack
 ex:=fp
 fn:=λ_=>false
 calm:=true
 pn:=X.pn++pins
 xe:=λ_ _=>False
structure CompOk(N0:List Str)(sc0:Scope)(scope:Scope)(Nc:List Str)(js:List (Option Nat)):Prop where
 kind:scope.kind=.function
 nocell:∀y∈scope.names,y.2≠.cell
 names:∀y∈scope.names,y.2=.local->scope.names.lookup y.1=some .local
 free:∀y∈scope.names,y.2=.free->sc0.names.lookup y.1=some .cell
 len:js.length=Nc.length
 slots:∀p∈Nc.zip js,∀j∈p.2,N0[j]?=some p.1/\scope.names.lookup p.1=some .free/\sc0.names.lookup p.1=some .cell
noncomputable def outσ(js:List (Option Nat))(σ:St):St:=js.map λo=>o.bind λj=>(σ[j]?).join
variable{σ:St}{H₂:Hp}{scope:Scope}{js:List (Option Nat)}
theorem aJj(I:Inv X pins σ H₂ s₂)(hc:X.calm=true)(T:CompOk X.N X.env.scope scope Nc js)(hcl:∀x c,cl.lookup x=some c->X.env.cells.lookup x=some c)(hfr:∀y∈scope.names,y.2=.free->∃c,cl.lookup y.1=some c)
  (hC:s₂.heap.objs.size<=C)(hf:∀b∈fp,FpOk X pins H₂ b)(ho:∀b∈fp,∃o,s₂.heap.get? b=some o):(compCx X Nc scope cl C fp pins s₂ H₂).Ok where
 mod:=I.ok.mod
 kind:=T.kind
 glob:=I.ok.glob
 blt:=I.ok.blt
 above:=hC
 inj:=λx y c h1 h2=>I.ok.inj x y c (hcl x c h1) (hcl y c h2)
 has:=λx hx=>by
  have hx':∃k',(relabel scope X.env).names.lookup x=some k'/\(k'=.cell\/k'=.free):=by
   rcases hx with h|h
   ·exact⟨_,h,.inl rfl⟩
   ·exact⟨_,h,.inr rfl⟩
  obtain⟨k',h1,h2⟩:=hx'
  obtain⟨k,h3,h4⟩:=eZ h1 h2
  rcases h4 with rfl|rfl
  ·exact absurd rfl (T.nocell _ h3)
  ·exact hfr _ h3 rfl
 cab:=λx c h=>by cases h
 hd:=λ_=>I.ok.hd hc
 frames:=I.ok.frames
 stk:=.inl rfl
 exf:=λb hb=>by
  obtain⟨f0,f1,f2,f3,f4,f5⟩:=hf b hb
  obtain⟨o,e⟩:=ho b hb
  exact⟨aAN (aAP (aAF e) hC),λx c h=>f4 x c (hcl x c h)⟩
 bs:=λb o e=>I.bs b o e
 bsz:=aBD I.ok.bsz I.sz
 noex:=λb o e hb=>by
  obtain⟨f0,f1,f2,f3,f4,f5⟩:=hf b hb
  rcases f3 with z|z
  ·exact I.ok.noex b o e z
  ·exact absurd (aAP (aAF (I.ok.bs b o e).1) z) (aDZ _)
 exfs:=λb hb z=>by
  obtain⟨f0,f1,f2,f3,f4,f5⟩:=hf b hb
  rcases aAO.mp (I.stkSub b z)with q|q
  ·exact f1 q
  ·exact f2 q
 funs:=I.stack
 frf:=I.stkFree
theorem xU(I:Inv X pins σ H₂ s₂)(hc:X.calm=true)(T:CompOk X.N X.env.scope scope Nc js)(hcl:∀x c,cl.lookup x=some c->X.env.cells.lookup x=some c)(hfr:∀y∈scope.names,y.2=.free->∃c,cl.lookup y.1=some c)
  (hf:∀b∈fp,FpOk X pins H₂ b)(ho:∀b∈fp,∃o,s₂.heap.get? b=some o){h₁:Heap}{m:Str->Option Value}{tk:Nat}(hC:C=s₂.heap.objs.size+1)(old:∀b u,s₂.heap.get? b=some u->h₁.get? b=some u)
  (hns:h₁.Ns C m)(hD:h₁.get? s₂.heap.objs.size=some {cls:=.type "list",data:=.seq #[] n}) :
  Inv (compCx X Nc scope cl C fp pins s₂ H₂) [] (outσ js σ) (upd H₂ s₂.heap.objs.size (.lst [])) {s₂ with heap:=h₁,toks:=tk}:=by
 have lt:∀b o,s₂.heap.get? b=some o->b < s₂.heap.objs.size:=λb o e=>aAF e
 have hle:s₂.heap.objs.size<=C:=by rw[hC];exact aFG _
 have cellc:∀x c,cl.lookup x=some c->c < s₂.heap.objs.size:=λx c h=>by
  obtain⟨v,o,e,_⟩:=I.cell x c (hcl x c h)
  exact lt c o e
 have new:ObjOk X.prog X.w (upd H₂ s₂.heap.objs.size (.lst [])) h₁ s₂.heap.objs.size (.lst []):=⟨aGG _,[],n,.nil,hD⟩
 refine⟨aJj I hc T hcl hfr hle hf ho,rfl,I.bare,?_,⟨m,hns,λi x v e1 e2 e3=>?_⟩,λx c h=>?_,?_,λx c h=>?_,λp hp=>?_,I.hok.laid old (aAI _) new,?_⟩
 ·exact Un.laid old (aAI _) (I.hok.fresh (aAI _))
 ·have e1:Nc[i]?=some x:=e1
  have e2':∃j,js[i]?=some (some j)/\σ[j]?=some (some v):=by
   unfold outσ at e2
   rw[aBN]at e2
   cases hj:js[i]? with
   |none=>rw[hj]at e2;cases e2
   |some o =>
    rw[hj]at e2
    cases o with
    |none=>cases e2
    |some j =>
     refine⟨j,rfl,?_⟩
     have e2:(σ[j]?).join=some v:=Option.some.inj e2
     cases hq:σ[j]? with
     |none=>rw[hq]at e2;cases e2
     |some o=>rw[hq]at e2;exact congrArg some e2
  obtain⟨j,hj,hv⟩:=e2'
  have hz:(x,some j)∈Nc.zip js:=by
   refine aCD (i:=i) ?_
   rw[List.getElem?_zip_eq_some]
   exact⟨e1,hj⟩
  obtain⟨t1,t2,t3⟩:=T.slots _ hz j rfl
  obtain⟨m0,hn0,hl0⟩:=I.loc
  obtain⟨u,ru,lk⟩:=hl0 j x v t1 hv (.inr (.inl t3))
  refine⟨u,ru,.inr ⟨.inl (fQ I.ok.kind t2 t3),?_⟩⟩
  rcases lk with⟨k,_⟩|⟨_,c,hcc,hcell⟩
  ·have k:X.env.scope.names.lookup x=some .local:=k
   rw[t3]at k;cases k
  ·have hm:(x,NameKind.free)∈scope.names:=by
    have:∀(l:List (Str×NameKind)),l.lookup x=some .free->(x,NameKind.free)∈l:=λl=>by
     induction l with
     |nil=>intro h;simp at h
     |cons y r ih =>
      obtain⟨n',k'⟩:=y
      intro h
      rw[aCX]at h
      cases e:x==n' with
      |true =>
       rw[e]at h
       have:x=n':=by simpa using e
       subst this
       cases h
       exact aDQ
      |false=>rw[e]at h;exact aBR _ (ih h)
    exact this _ t2
   obtain⟨c',hc'⟩:=hfr _ hm rfl
   have hc'':=hcl x c' hc'
   rw[hcc]at hc''
   cases hc''
   obtain⟨o,ho,hd⟩:=hcell
   exact⟨c,hc',o,old c o ho,hd⟩
 ·obtain⟨v,o,e,d⟩:=I.cell x c (hcl x c h)
  exact⟨v,o,old c o e,d⟩
 ·show upd H₂ _ _ C=none
  rw[aU (by rw[hC];exact aBL (aFC _))]
  exact I.hok.fresh hle
 ·show upd H₂ _ _ c=none
  rw[aU (aAN (cellc x c h))]
  exact I.freeC x c (hcl x c h)
 ·have hp:p∈X.pn++pins:=by
   have hp:p∈(X.pn++pins)++[]:=hp
   rwa[aDU]at hp
  obtain⟨e,n0,ne,nf,d⟩:=I.pin p hp
  have hlt:=lt _ _ e
  refine⟨old _ _ e,?_,?_,λz=>?_,d⟩
  ·show upd H₂ _ _ p.1=none
   rw[aU (aAN hlt)];exact n0
  ·show p.1≠C
   exact aAN (aAP hlt hle)
  ·rcases aAO.mp (I.stkSub _ z)with q|q
   ·exact ne q
   ·exact nf q
 ·show(outσ js σ).length=Nc.length
  unfold outσ
  rw[aAK]
  exact T.len
noncomputable section
def tTurns(J:It)(g:TG)(ti:TT)(te:TE)(D:Addr)(σ0:St)(H0:Hp)(Q:Hp->Prop):Prop :=
 ∃W:Nat->Nat->St->Hp->Prop,(∃m,W 0 m σ0 H0)/\∀i m σ' H',W i m σ' H' ->
  (J.stop i H'/\Q H')\/(J.go i H'/\∃Nn:St->Hp->Prop,(∀σ'' H'',Nn σ'' H''->∃m',m' < m/\W (i+1) m' σ'' H'') /\
   ∀x H'',J.yld i H' x H''->g x σ' H'' λσ2 H2=>ti σ2 H2 λok H3=>if ok=true then te σ2 H3 λy H4=>∃ys,H4 D=some (.lst ys)/\ys.length < sizeLine/\Nn σ2 (upd H4 D (.lst (ys++[y])))else Nn σ2 H3)
def tComp(js:List (Option Nat))(wi:TI)(g:TG)(ti:TT)(te:TE):TE:=λσ H Q=>wi σ H λJ H1=>∀D,H1 D=none->tTurns J g ti te D (outσ js σ) (upd H1 D (.lst [])) λH'=>Q (.ref D) H'
def PIf(X:Cx)(ifs:List Expr)(ti:TT):Prop :=
 ∀(pins:List (Addr×Obj)) (s:Shared) (σ:St) (H:Hp) (Q:Bool->Hp->Prop),Inv X pins σ H s->ti σ H Q ->
  wpAny (model X.prog X.w) X.A (forIn ifs true λc r=>if r=true then do let ok <- isTrue c X.env (eval c X.env);pure (ForInStep.yield ok)else pure (ForInStep.yield r)) (TP X pins σ Q) X.xe s
def tYes:TT:=λ_ H Q=>Q true H
end
theorem aKl:PIf X [] tYes:=λ_ _ _ H _ I h=>wpAny_tests_nil ⟨H,I,h⟩
theorem aIv{c:Expr}{tc:TT}(h:PT X c tc):PIf X [c] tc:=λpins s σ H Q I hq=>wpAny_tests_one (h pins s σ H Q I hq)
variable{E:Value->Shared->Prop}
theorem thnE{t:Sem α}{Q Q':α->Shared->Prop}{M:Model}{E0:Value->Shared->Prop}{s:Shared}(hE:∀e s,¬E0 e s)(h:wpAny M A t Q E0 s)(hQ:∀a s,Q a s->Q' a s):wpAny M A t Q' E s:=aCJ h hQ λe s z=>(hE e s z).elim
variable{ifs:List Expr}{J:It}{g:TG}{ti:TT}{D:Addr}{σ0:St}{H0:Hp}{Q:Hp->Prop}
theorem aBz{Y:Cx}{iter elt:Expr}{fp:List Addr}{R:Result->Shared->Prop}{s:Shared}
  (hc:Y.calm=true)(hx:∀e s,¬Y.xe e s)(T:Turn Y.prog Y.w Y.K tg J fp it tn)(hg:PG Y tg g)(hi:PIf Y ifs ti)(he:PE Y elt te)
  (stat:∀H',(∀b∈fp,H' b=none)->∀b∈fp,FpOk Y [] H' b)(I0:Inv Y [] σ0 H0 s)(st0:tn 0 s.heap)(fr0:∀b∈fp,H0 b=none)(h:tTurns J g ti te D σ0 H0 Q)
  (hR:∀σ' H' s',Inv Y [] σ' H' s'->Q H'->R (.ok .next) s') :
  codeAny (model Y.prog Y.w) Y.A (.compLoop (.ListComp elt [⟨tg,iter,ifs,0⟩] scope pos) 0 (.ref it) (.ref D) Y.env) R s:=by
 obtain⟨W,⟨m0,w0⟩,turn⟩:=h
 refine codeAny_loop rfl (λn s'=>∃i σ' H',Inv Y [] σ' H' s'/\tn i s'.heap/\(∀b∈fp,H' b=none)/\W i n σ' H') (λn s' hI=>?_) m0 ⟨0,σ0,H0,I0,st0,fr0,w0⟩
 show wpAny _ Y.A ((compTurn (.ListComp elt [⟨tg,iter,ifs,0⟩] scope pos) 0 (.ref it) (.ref D) Y.env).onRaise (λx=>do noteFrame x Y.env;theTreesLotGoes x)) _ _ s'
 refine wpAny_noted ?_
 rw[compTurn_list]
 obtain⟨i,σ3,H3,I3,st3,fr3,w3⟩:=hI
 refine aAB (aDL (aAB ?_))
 rcases turn i n σ3 H3 w3 with⟨stop,qn⟩|⟨go,Nn,hN,step⟩
 ·refine aCJ (T.done Y rfl rfl rfl hc i [] s' σ3 H3 _ I3 (stat H3 fr3) st3 stop) (λr s4 ⟨hr,I4⟩=>?_) (λ_ _ h=>h)
  subst hr
  exact aAD (hR σ3 H3 s4 I4 qn)
 ·refine aCJ (T.item Y rfl rfl rfl hc i [] s' σ3 H3 _ I3 (stat H3 fr3) st3 go) (λr s4 ⟨u,hr,h4⟩=>?_) (λ_ _ h=>h)
  subst hr
  refine aAB (aCJ h4 (λ_ s5 ⟨x,H5,I5,r5,y5,st5,fr5⟩=>?_) λ_ _ h=>h)
  have I5':=I5.pinned (stat H5 fr5) (T.obj _ _ st5)
  refine aAB (thnE hx (hg _ s5 σ3 H5 x u _ I5' r5 (step x H5 y5)) λ_ s6 ⟨σ6,H6,I6,q6⟩=>?_)
  refine aAB (thnE hx (hi _ s6 σ6 H6 _ I6 q6) λok s7 ⟨H7,I7,q7⟩=>?_)
  have again:∀{σ7:St} {H7:Hp} {s7:Shared},Inv Y ([]++pinsAt fp s5.heap) σ7 H7 s7->Nn σ7 H7->∃m,m < n/\∃i σ' H',Inv Y [] σ' H' s7/\tn i s7.heap/\(∀b∈fp,H' b=none)/\W i m σ' H':=λ{σ7 H7 s7} I7 n7=>by
   obtain⟨m',hm,w7⟩:=hN σ7 H7 n7
   refine⟨m',hm,i+1,σ7,H7,I7.unpinned,T.keep _ _ _ st5 λb hb o e=>(I7.pin (b,o) (aBV _ (aBV _ (iY hb e)))).1,λb hb=>?_,w7⟩
   obtain⟨o,e,d⟩:=T.obj _ _ st5 b hb
   exact(I7.pin (b,o) (aBV _ (aBV _ (iY hb e)))).2.1
  cases ok with
  |false=>exact aAD ⟨rfl,again I7 q7⟩
  |true =>
   refine aAB (aAB (thnE hx (he _ s7 σ6 H7 _ I7 q7) λy s8 ⟨yv,H8,I8,r8,ys,hD,hz,n8⟩=>aAB ?_))
   refine thnE hx (rZ _ s8 σ6 H8 (.ref D) [yv] (.ref D) [y] (λ_ H9=>Nn σ6 H9) I8 rfl (.cons r8 .nil) ⟨D,ys,yv,rfl,rfl,hD,hz,n8⟩) λ_ s9 ⟨_,H9,I9,_,q9⟩=>?_
   exact aAD (aAD ⟨rfl,again I9 q9⟩)
variable{iter elt:Expr}{js:List (Option Nat)}{wi:TI}
structure CompEnd(X:Cx)(pins:List (Addr×Obj))(σ:St)(H':Hp)(C:Addr)(s':Shared):Prop where
 inv:Inv X pins σ H' s'
 ns:∃m,s'.heap.Ns C m
 no:H' C=none
 ne:C≠X.env.locals
 ge:X.s₀.heap.objs.size<=C
 nc:∀x c,X.env.cells.lookup x=some c->c≠C
 np:∀p∈X.pn++pins,p.1≠C
theorem CompEnd.go{σ':St}{t:Shared}(e:CompEnd X pins σ H' C s')(I:Inv X pins σ' H' t)(hs:Heap.SameBut C t.heap h'):Inv X pins σ' H' {t with heap:=h'} :=
 I.turned (t':=t.toks) (it:=C) (λb o hb q=>(hs.2 b hb).trans q) e.no e.ne (.inr e.ge) e.nc e.np
theorem oZ{pins:List (Addr×Obj)}{H₂:Hp}{s₂:Shared}{fp:List Addr}{cl:List (Str×Addr)}{RR:Value->Addr->Result->Shared->Prop}{Q':Addr->Hp->Prop}
  (hc:X.calm=true)(T:CompOk X.N X.env.scope scope Nc js)(hcl:∀x c,cl.lookup x=some c->X.env.cells.lookup x=some c)(hfr:∀y∈scope.names,y.2=.free->∃c,cl.lookup y.1=some c)
  (hg:∀cl C fp pins s₂ H₂,PG (compCx X Nc scope cl C fp pins s₂ H₂) tg g)(hi:∀cl C fp pins s₂ H₂,PIf (compCx X Nc scope cl C fp pins s₂ H₂) ifs ti)(he:∀cl C fp pins s₂ H₂,PE (compCx X Nc scope cl C fp pins s₂ H₂) elt te)
  (I2:Inv X pins σ H₂ s₂)(Tn:Turn X.prog X.w X.K tg J fp it tn)(st2:tn 0 s₂.heap)(f2:∀b∈fp,FpOk X pins H₂ b)
  (q:∀D,H₂ D=none->tTurns J g ti te D (outσ js σ) (upd H₂ D (.lst [])) (Q' D))
  (hRR:∀D C H' s',CompEnd X pins σ H' C s'->Q' D H'->RR (.ref D) C (.ok .next) s') :
  wpAny (model X.prog X.w) X.A (newList []) (λacc s₃=>wpAny (model X.prog X.w) X.A (newFunctionEnv scope X.env.globals cl [] X.env.qual none .none (some X.env)) (λcenv s₄ =>
   codeAny (model X.prog X.w) X.A (.compStart (.ListComp elt [⟨tg,iter,ifs,0⟩] scope pos) 0 (.ref it) acc {cenv with scope:=relabel scope X.env}) (RR acc cenv.locals) s₄) E s₃) E s₂:=by
 refine aCR (wpAny_newFunctionEnv T.nocell (by intro y hy;simp at hy) (λh₁ hns₁ hsb₁=>?_) T.kind)
 dsimp only at hns₁ hsb₁ ⊢
 generalize hH2:s₂.heap.push {cls:=.type "list",dict:=none,data:=.seq ([]:List Value).toArray}=Hx at hns₁ hsb₁ ⊢
 have hC:Hx.objs.size=s₂.heap.objs.size+1:=by rw[<- hH2,aAW]
 have below:∀b,b < s₂.heap.objs.size->b≠Hx.objs.size:=λb hb=>by rw[hC];exact aAN (aGA hb)
 have old:∀b o,s₂.heap.get? b=some o->h₁.get? b=some o:=λb o e=>hsb₁.extBut b o (below b (aAF e)) (aAA _ (hH2▸aAA _ e))
 have hD:h₁.get? s₂.heap.objs.size=some {cls:=.type "list",data:=.seq #[]}:=hsb₁.extBut _ _ (by rw[hC];exact aAN (aFC _)) (aAA _ (hH2▸aAG _ rfl))
 have ho:∀b∈fp,∃o,s₂.heap.get? b=some o:=λb hb=>let⟨o,e,_⟩:=Tn.obj _ _ st2 b hb;⟨o,e⟩
 have hDn:H₂ s₂.heap.objs.size=none:=I2.hok.fresh (aAI _)
 have hle:s₂.heap.objs.size<=Hx.objs.size:=by rw[hC];exact aFG _
 have st1:tn 0 h₁:=Tn.keep _ _ _ st2 λb _ o e=>old b o e
 have fr1:∀b∈fp,upd H₂ s₂.heap.objs.size (.lst []) b=none:=λb hb=>by
  obtain⟨o,e⟩:=ho b hb
  rw[aU (aAN (aAF e))]
  exact(f2 b hb).1
 have stat:∀H',(∀b∈fp,H' b=none)->∀b∈fp,FpOk (compCx X Nc scope cl Hx.objs.size fp pins s₂ H₂) [] H' b:=λH' hn b hb=>by
  obtain⟨g0,g1,g2,g3,g4,g5⟩:=f2 b hb
  obtain⟨o,e⟩:=ho b hb
  refine⟨hn b hb,below b (aAF e),λz=>?_,.inl hb,λx c h=>g4 x c (hcl x c h),λp hp=>g5 p ?_⟩
  ·rcases aAO.mp (I2.stkSub b z)with y|y
   ·exact g1 y
   ·exact g2 y
  ·have hp:p∈(X.pn++pins)++[]:=hp
   rwa[aDU]at hp
 have loop:∀tk,codeAny (model X.prog X.w) X.A (.compLoop (.ListComp elt [⟨tg,iter,ifs,0⟩] scope pos) 0 (.ref it) (.ref s₂.heap.objs.size) (compEnvC scope cl Hx.objs.size X.env)) (RR (.ref s₂.heap.objs.size) Hx.objs.size) {s₂ with heap:=h₁,toks:=tk}:=λtk=>by
  refine aBz (Y:=compCx X Nc scope cl Hx.objs.size fp pins s₂ H₂) rfl (λ_ _ z=>z) Tn (hg _ _ _ _ _ _) (hi _ _ _ _ _ _) (he _ _ _ _ _ _) stat
   (xU (tk:=tk) I2 hc T hcl hfr f2 ho hC old hns₁ hD) st1 fr1 (q _ hDn) λσ' H' s' I' qQ=>?_
  obtain⟨m,hm,_⟩:=I'.loc
  refine hRR _ _ H' s' ⟨?_,⟨m,hm⟩,I'.free,aBL (aAP I2.lt hle),aBD I2.sz hle,λx c h=>?_,λp hp=>?_⟩ qQ
  ·exact I2.call' (ch:=fp) I'.os I'.base I'.hok I'.bare λb hb=>let⟨g0,g1,g2,g3,g4,g5⟩:=f2 b hb;⟨g3,g1,g4,g5⟩
  ·obtain⟨v,o,e,_⟩:=I2.cell x c h
   exact below c (aAF e)
  ·exact below _ (aAF (I2.pin p hp).1)
 exact codeAny_compStart_list (loop _) (Tn.self _ _ _ _ _ st1 (loop _))
theorem aHl(hc:X.calm=true)(T:CompOk X.N X.env.scope scope Nc js)(hit:PI X tg iter wi)
  (hg:∀cl C fp pins s₂ H₂,PG (compCx X Nc scope cl C fp pins s₂ H₂) tg g)(hi:∀cl C fp pins s₂ H₂,PIf (compCx X Nc scope cl C fp pins s₂ H₂) ifs ti)(he:∀cl C fp pins s₂ H₂,PE (compCx X Nc scope cl C fp pins s₂ H₂) elt te)
  (hs:∀x,foldedSetIterable iter X.env x=pure x:=by intro _;rfl):PE X (.ListComp elt [⟨tg,iter,ifs,0⟩] scope pos) (tComp js wi g ti te):=by
 intro pins s σ H Q I h
 rw[eval_ListComp]
 obtain⟨cl,hcl0,hcl,hfr⟩:=kS (scope:=scope) (env:=X.env) (λy hy hf=>I.ok.has y.1 (.inl (T.free y hy hf)))
 refine wpAny_comprehension_free (use:=none) rfl hs hcl0 T.kind T.names (thn (hit pins s σ H _ I h) λxv s1 h1=>thn h1 λitv s2 h2=>?_)
 obtain⟨it,fp,tn,J,H2,e,I2,Tn,st2,f2,q⟩:=h2
 subst e
 refine oZ (RR:=λacc C=>compPost (model X.prog X.w) X.A X.xe none (EP X pins σ Q) acc C) hc T hcl hfr hg hi he I2 Tn st2 f2 q λD C H' s' ce qD=>?_
 obtain⟨m,hm⟩:=ce.ns
 exact⟨m,hm,λh' hs'=>⟨.ref D,H',ce.go ce.inv hs',rfl,qD⟩⟩
theorem aHd{py spos:Pos}(hN:X.N.Nodup)(hyi:X.N[i]?=some y)(hy:X.env.scope.names.lookup y=some .local)(hc:X.calm=true)(T:CompOk X.N X.env.scope scope Nc js)(hit:PI X tg iter wi)
  (hg:∀cl C fp pins s₂ H₂,PG (compCx X Nc scope cl C fp pins s₂ H₂) tg g)(hi:∀cl C fp pins s₂ H₂,PIf (compCx X Nc scope cl C fp pins s₂ H₂) ifs ti)(he:∀cl C fp pins s₂ H₂,PE (compCx X Nc scope cl C fp pins s₂ H₂) elt te)
  (hsw:swapsWith (.ListComp elt [⟨tg,iter,ifs,0⟩] scope pos) (some (.Name y py)) spos.line X.env=pure true:=by rfl)
  (hs:∀x,foldedSetIterable iter X.env x=pure x:=by intro _;rfl):PS X (.Assign [.Name y py] (.ListComp elt [⟨tg,iter,ifs,0⟩] scope pos) spos) (tAsg (tComp js wi g ti te) (gName i)):=by
 intro pins s σ H D0 I h
 rw[exec_Assign_Name_used _ _ _ _ hsw]
 obtain⟨cl,hcl0,hcl,hfr⟩:=kS (scope:=scope) (env:=X.env) (λy hy hf=>I.ok.has y.1 (.inl (T.free y hy hf)))
 refine aAB (aDL (aAB ?_))
 show wpAny _ X.A (do let _ <- comprehension (.ListComp elt [⟨tg,iter,ifs,0⟩] scope pos) scope X.env _ (newList []) false (eval iter X.env) (some (assign (.Name y py) X.env))) _ _ s
 refine aAB (aCJ (wpAny_comprehension_free (use:=some (assign (.Name y py) X.env)) (Q:=λ_ s'=>SP X pins D0 .next s') rfl hs hcl0 T.kind T.names
  (thn (hit pins s σ H _ I h) λxv s1 h1=>thn h1 λitv s2 h2=>?_)) (λ_ s' hq=>aAD (aAD hq)) λ_ _ e=>e)
 obtain⟨it,fp,tn,J,H2,e,I2,Tn,st2,f2,q⟩:=h2
 subst e
 refine oZ (RR:=λacc C=>compPost (model X.prog X.w) X.A X.xe (some (assign (.Name y py) X.env)) (λ_ s'=>SP X pins D0 .next s') acc C) hc T hcl hfr hg hi he I2 Tn st2 f2 q λD C H' s' ce qD=>?_
 obtain⟨m,hm⟩:=ce.ns
 show wpAny _ _ (assign (.Name y py) X.env (.ref D)) _ _ _
 refine wpAny_assign_Name (rG (v:=.ref D) ce.inv hN hyi (.inl hy) rfl (λs'' I'' ⟨a,sb,ha⟩=>?_) (.inr hy))
 have hCa:C≠a:=by
  rcases ha with rfl|ha
  ·exact ce.ne
  ·exact λz=>ce.nc y a ha z.symm
 exact⟨m,hm.sameBut sb hCa,λh' hs'=>⟨_,H',ce.go I'' hs',qD⟩⟩
noncomputable def compOkB(N0:List Str)(sc0 scope:Scope)(Nc:List Str)(js:List (Option Nat)):Bool :=
 decide (scope.kind=.function)&&scope.names.all (λy=>y.2 != .cell)&&scope.names.all (λy=>y.2 != .local || scope.names.lookup y.1==some .local)&&scope.names.all (λy=>y.2 != .free || sc0.names.lookup y.1==some .cell) &&
  (js.length==Nc.length)&&(Nc.zip js).all (λp=>match p.2 with|none=>true|some j=>N0[j]?==some p.1&&scope.names.lookup p.1==some .free&&sc0.names.lookup p.1==some .cell)
theorem CompOk.of{N0:List Str}{sc0:Scope}(h:compOkB N0 sc0 scope Nc js=true):CompOk N0 sc0 scope Nc js:=by
 unfold compOkB at h
 simp only[aBM,aBC,aEM,aAU]at h
 obtain⟨⟨⟨⟨⟨h1,h2⟩,h3⟩,h4⟩,h5⟩,h6⟩:=h
 refine⟨h1,λy hy=>by simpa using h2 y hy,λy hy e=>?_,λy hy e=>?_,h5,λp hp j hj=>?_⟩
 ·have:=h3 y hy
  simpa[e]using this
 ·have:=h4 y hy
  simpa[e]using this
 ·have:=h6 p hp
  have hj:p.2=some j:=hj
  rw[hj]at this
  simpa[and_assoc]using this
section
variable{a b:Expr}{rest:List Expr}
end
variable{prog:Program}
section
variable{rest:List Stmt}{t u:TS}
end
theorem nR:bootBuiltins "int"=some (.type "int"):=by decide +kernel
theorem aAh:bootBuiltins "bool"=some (.type "bool"):=by decide +kernel
theorem hV:bootBuiltins "isinstance"=some (.builtin "isinstance"):=by decide +kernel
theorem cW:bootBuiltins "tuple"=some (.type "tuple"):=by decide +kernel
theorem aAe:bootBuiltins "list"=some (.type "list"):=by decide +kernel
theorem jA:bootBuiltins "str"=some (.type "str"):=by decide +kernel
theorem aLr:bootBuiltins "zip"=some (.type "zip"):=by decide +kernel
theorem sU:bootBuiltins "enumerate"=some (.type "enumerate"):=by decide +kernel
theorem nO:bootBuiltins "sorted"=some (.builtin "sorted"):=by decide +kernel
end L2
end
namespace L2
open PySem
noncomputable def Scr(K:Frag)(H:Hp)(a:Addr)(xs:List V):Prop:=(∃o,H a=some (.frz o (.lst xs)))\/∀H',SqL K H' a xs
theorem Scr.of{xs:List V}(hO:Only H)(h:SqL K H a xs):Scr K H a xs:=by
 rcases h with(h|⟨o,h⟩)|h
 ·rcases hO a with z|⟨o,ys,z⟩
  ·rw[h]at z;cases z
  ·rw[h]at z;cases z
 ·exact .inl ⟨o,h⟩
 ·exact .inr λ_=>.inr h
noncomputable def SB(l:Addr)(H H':Hp):Prop:=∀x o,x≠l->H x=some o->H' x=some o
theorem SB.trans{l:Addr}(s:SB l H H1)(t:SB l H1 H2):SB l H H2:=λx u n e=>t x u n (s x u n e)
open PySem.Spec PyProof.Rows
theorem aLv:bootBuiltins "all"=some (.builtin "all"):=by decide +kernel
end L2
namespace Com
open PySem L2
structure IW(n k high low past now:Int):Prop where
 h0:0<=high
 hb:high<=1000000
 l0:0<=low
 lb:low<=1000000
 g:Int.gcd high low=Int.gcd n (k % n)
 d1:n ∣ k*past - high
 d2:n ∣ k*now - low
structure PV(n k e told square left:Int):Prop where
 t0:0<=told
 t1:told < n
 s0:0<=square
 s1:square < n
 l0:0<=left
 eq:told*square ^ left.toNat % n=k ^ e.toNat % n
noncomputable def bitsN:List Int->Nat
 |[]=>0
 |b::r=>b.toNat+2*bitsN r
structure DG(e0 e:Int)(ds:List Int):Prop where
 nn:0<=e
 bit:∀d∈ds,d=0\/d=1
 len:∃m:Nat,e.toNat < 2 ^ m/\ds.length+m=62
 val:∀r,bitsN r=e.toNat->bitsN (ds++r)=e0.toNat
noncomputable def BoxAt(H:Hp)(b:Addr):Prop:=∃c s t:Int,H b=some (.lst [.int c,.int s,.int t])
noncomputable def Keep(b:Addr)(H H':Hp):Prop:=(∀a o,a≠b->H a=some o->H' a=some o)/\BoxAt H' b
theorem Keep.trans{b:Addr}(x:Keep b H H1)(y:Keep b H1 H2):Keep b H H2:=⟨λa o n e=>y.1 a o n (x.1 a o n e),y.2⟩
end Com
section
open PySem PySem.Spec PyProof.Rows
namespace L2
variable{K:Frag}
section
variable{W:World}{Ar:Around}{Ex:Value->Shared->Prop}{hp:Heap}{gn:Array GenState}{dr:Drawn}{tk:Nat}{oz:OsState}{nm qn:Str}{N:Addr}{bs bmB:List Value}{hdct:Bool}{sn:List Str}{sub:List Value}{ab:Bool}{col:Option Bool}{dd:Option Addr}{k0 k1 k2 k3 k5:Option Value}{B newId initId:String}{rs:List Value}{oI:Obj}
theorem tG(F:ExcBaseFacts B newId initId bmB)(T:OwnTail hp bmB bm){Q:Fin->Shared->Prop}
  (hC:hp.get? C=some (excClassObj nm qn C N bs bm hdct sn sub ab col dd k0 k1 k2 k3 k5 newId))(nsN:hp.Ns N mN)(iN:mN "__init__"=some (.ref fI))(gI:hp.get? fI=some oI)(cI:oI.cls=.type "function")
  (go:∀h' e,Heap.MadeExcOf hp h' e (.ref C) rs->wpAny (model P W) Ar (call (.ref fI) (.ref e::rs)) (λr s'=>r=.none/\Q (.done (.ret (.ref e))) s') Ex ⟨h',gn,dr,tk,oz⟩)(few:rs.length<=sizeLine:=by size_fits) :
  wpAny (model P W) Ar (Builtin.«type.__call__» ⟨.ref C::rs,[]⟩) Q Ex ⟨hp,gn,dr,tk,oz⟩:=by
 repeat(first|with_reducible refine aDJ hC ?_ |with_reducible refine wpAny_madeBy_exc hC ?_ |wp_step)
 refine codeAny_call_builtin_code (aFT _ F.quiet) (wpAny_check_new_subT F T hC (codeAny_exc_new_subT F T hC ?_ few))
 show wpAny _ _ _ _ _ _
 generalize eO1:({cls:=.type "tuple",data:=.seq rs.toArray}:Obj)=O1
 generalize eO2:({cls:=.ref C,data:=.fields #[.ref hp.objs.size,.none,.none,.none,.bool false,.none]}:Obj)=O2
 have keep:∀b o,hp.get? b=some o->((hp.push O1).push O2).get? b=some o:=λb o e=>aAA _ (aAA _ e)
 have at2:((hp.push O1).push O2).get? (hp.objs.size+1)=some O2:=by subst eO1 eO2;heap_get
 have own:(Value.ref C::bm).contains (.ref C)=true:=by simp
 have C1:=keep _ _ hC
 unfold isInstance
 have c2:O2.cls=.ref C:=by subst eO2;rfl
 repeat(first|(with_reducible refine aDJ at2 ?_;rw[c2])|(with_reducible refine aFH C1 ?_;rw[own])|wp_step)
 refine wpAny_typeLookup_tail C1 (nsN.keeps keep) (T.keeps keep) F.mroIs F.init.lookup ?_
 rw[iN]
 unfold bindSpecial
 refine aAY (aAB (aAB (aEV (T:="function") ⟨_,keep _ _ gI,cI⟩ ?_)))
 rw[aAH (by decide)]
 have made:Heap.MadeExcOf hp ((hp.push O1).push O2) (hp.objs.size+1) (.ref C) rs :=
  ⟨keep,aFB (aFG _),hp.objs.size,by rw[at2,<- eO2],aFB (aAI _),by subst eO1;exact aAA _ (Heap.get?_push_at rfl rfl)⟩
 refine aAD (aAB (aCJ (go _ _ made) (λr s' z=>?_) λ_ _ x=>x))
 obtain⟨rfl,z⟩:=z
 wp_walk
 exact z
theorem xQ(F:ExcBaseFacts B newId initId bmB)(T:OwnTail hp bmB bm) 
  (hC:hp.get? C=some (excClassObj nm qn C N bs bm hdct sn sub ab col dd k0 k1 k2 k3 k5 newId))(nsN:hp.Ns N mN)(iN:mN "__init__"=some (.ref fI))(gI:hp.get? fI=some oI)(cI:oI.cls=.type "function")
  (go:∀h' e,Heap.MadeExcOf hp h' e (.ref C) rs->wpAny (model P W) (Ar.under (.builtin "type.__call__" ⟨.ref C::rs,[]⟩)) (call (.ref fI) (.ref e::rs)) (λr s'=>r=.none/\Q (.ref e) s') Ex ⟨h',gn,dr,tk,oz⟩)(few:rs.length<=sizeLine:=by size_fits) :
  wpAny (model P W) Ar (call (.ref C) rs) Q Ex ⟨hp,gn,dr,tk,oz⟩:=by
 have f1:=tc_lookup
 have f2:=tc_bind (.ref C)
 have ty:(⟨hp,gn,dr,tk,oz⟩:Shared).TypeIs (.ref C) "type":=⟨_,hC,rfl⟩
 refine aEQ (codeAny_of_tree (show wpAny _ _ (callAny (.ref C) _) _ _ _ from ?_))
 repeat(any_goals (first|assumption|with_reducible refine aDJ hC ?_ |wp_step))
 exact⟨rfl,codeAny_call_builtin_at (aFT _ (by decide +kernel)) entry_typeCall (wpAny_check_type_call_sub hC (tG (few:=few) F T hC nsN iN gI cI go))⟩
end
noncomputable def XRec(P:Addr->Prop)(H:Hp)(h:Heap)(e C:Addr)(d:Option Addr):Prop :=
 ∃vs sl,h.get? e=some ⟨.ref C,d,.fields vs,sl⟩/\1 < vs.size /\
  (vs[1]?=some .none\/∃T cT dT ts sT,vs[1]?=some (.ref T)/\P T/\H T=none/\h.get? T=some ⟨cT,dT,.fields ts,sT⟩/\3 < ts.size)
variable{e:Addr}
theorem XRec.imp{P P':Addr->Prop}(x:XRec P H h e C d)(i:∀T,P T->P' T):XRec P' H h e C d:=by
 obtain⟨vs,sl,h1,h2,h3|⟨T,cT,dT,ts,sT,a1,a2,a3⟩⟩:=x
 ·exact⟨vs,sl,h1,h2,.inl h3⟩
 ·exact⟨vs,sl,h1,h2,.inr ⟨T,cT,dT,ts,sT,a1,i T a2,a3⟩⟩
variable{M:Model}{E:Value->Shared->Prop}{L:Addr}{P:Addr->Prop}{Q:Unit->Shared->Prop}{vs:Array Value}
theorem dH{c:Value}{x:Value}(ha:h.get? a=some ⟨c,d,.fields vs,sl⟩) :
  (h.update a (Obj.mapFields (·.setIfInBounds i x))).get? a=some ⟨c,d,.fields (vs.setIfInBounds i x),sl⟩:=aCK _ ha rfl
theorem bI{b:Addr}{f:Obj->Obj}(n:b≠a):(h.update a f).get? b=h.get? b:=aCP _ _ (Ne.symm n)
theorem pG{sl:Array (Option Value)}{head:Value}{hb:Bool}(hfr:A.frames=some (env::outer))(hl:s.heap.FunFrames base (env::outer))(hf:env.frame=some L)
  (he:s.heap.get? e=some ⟨.ref C,d,.fields vs,sl⟩)(hz:1 < vs.size)(hP:∀T,s.heap.objs.size<=T->P T)(hN:∀T,s.heap.objs.size<=T->H T=none)
  (hQ:∀h',(∀b o,b≠e->b∉frs (env::outer)->s.heap.get? b=some o->h'.get? b=some o)->(∀b o,b∈frs (env::outer)->s.heap.get? b=some o->∃sl,h'.get? b=some {o with slots:=sl}) ->
   XRec P H h' e C d->Q () {s with heap:=h'}) :
  wpAny M A (do let a <- frameOf env;let pl <- entryPlaceOf L hb;let t <- EntryCells.newEntry head a .none (rawInt L) .none pl;setField (.ref e) 1 t) (λ_ s₂=>wpAny M A' (setFlight (.ref e) none) Q E s₂) E s:=by
 have nfr:e∉frs (env::outer):=λz=>by
  obtain⟨_,o,q,n⟩:=hl.mem z
  rw[he]at q;cases q;exact n vs rfl
 refine aAB (wpAny_frameOf_fun hfr hl hf λh1 so=>?_)
 refine aAB (wpAny_entryPlaceOf λpl isp=>aAB ?_)
 unfold EntryCells.newEntry newFields
 refine aCR ?_ (isp.sizeOk5 _ _ _ _ _)
 generalize eT:([head,Value.ref L,.none,rawInt L,.none]++(if pl.isEmpty then List.replicate 6 Value.none else pl)).toArray=tv
 have hsz:3 < tv.size:=by rw[<- eT];simp only[aAJ,aBB,aBJ];lia
 have e1:h1.get? e=some ⟨.ref C,d,.fields vs,sl⟩:=(so.2.1 e nfr).trans he
 have ne:e≠h1.objs.size:=aAN (aAF e1)
 generalize eo:({cls:=.type "traceback",dict:=none,data:=.fields tv}:Obj)=oT
 have e2:(h1.push oT).get? e=some ⟨.ref C,d,.fields vs,sl⟩:=aAA _ e1
 refine aDO e2 rfl hz ?_
 have e3:=dH (i:=1) (x:=.ref h1.objs.size) e2
 have t3:((h1.push oT).update e (Obj.mapFields (·.setIfInBounds 1 (.ref h1.objs.size)))).get? h1.objs.size=some ⟨.type "traceback",none,.fields tv,#[]⟩:=by
  rw[bI (Ne.symm ne),<- eo];exact aAG h1 rfl
 unfold setFlight
 refine aAB (aAZ e3 rfl (x:=.ref h1.objs.size) (by simp[hz]) ?_)
 rw[aAH (by simp)]
 refine aDO t3 rfl hsz (hQ _ (λb o nb nf q=>?_) (λb o bf q=>?_) ?_)
 ·have q1:=(so.2.1 b nf).trans q
  rw[bI (aAN (aAF q1)),bI nb]
  exact aAA _ q1
 ·obtain⟨sl',q1⟩:=so.2.2 b o q
  have nb:b≠e:=λz=>nfr (z▸bf)
  exact⟨sl',by rw[bI (aAN (aAF q1)),bI nb];exact aAA _ q1⟩
 ·refine⟨_,sl,by rw[bI ne];exact e3,by simpa using hz,.inr ⟨h1.objs.size,_,_,_,_,by simp[hz],hP _ (by rw[so.1];exact aAI _),hN _ (by rw[so.1];exact aAI _),dH t3,?_⟩⟩
  simp[hsz]
theorem flight(hfr:A.frames=some (env::outer))(hl:s.heap.FunFrames base (env::outer))(hf:env.frame=some L)(x:XRec P H s.heap e C d)(he:H e≠none)
  (hP:∀T,s.heap.objs.size<=T->P T)(hN:∀T,s.heap.objs.size<=T->H T=none)
  (hQ:∀(h':Heap) (ch:List Addr),(∀b∈ch,P b/\H b=none/\b∉frs (env::outer))->(∀b o,b≠e->b∉frs (env::outer)->b∉ch->s.heap.get? b=some o->h'.get? b=some o)->(∀b o,b∈frs (env::outer)->s.heap.get? b=some o->∃sl,h'.get? b=some {o with slots:=sl}) ->
   (∀b o,s.heap.get? b=some o->∃o',h'.get? b=some o')->XRec P H h' e C d->Q () {s with heap:=h'}) :
  wpAny M A (noteFrame (.ref e) env) (λ_ s₂=>wpAny M A' (setFlight (.ref e) none) Q E s₂) E s:=by
 obtain⟨vs,sl,h1,h2,h3|⟨T,cT,dT,ts,sT,a1,a2,a3,a4,a5⟩⟩:=x
 ·unfold noteFrame
  simp only[hf]
  refine aAB (aAZ h1 rfl h3 ?_)
  rw[aAL (by decide)]
  refine pG (P:=P) (H:=H) hfr hl hf h1 h2 hP hN λh' k1 k2 r=>hQ h' [] (λ_ z=>nomatch z) (λb o n nf _ q=>k1 b o n nf q) k2 (λb o q=>?_) r
  by_cases hb:b∈frs (env::outer)
  ·obtain⟨sl,q⟩:=k2 b o hb q;exact⟨_,q⟩
  ·by_cases hbe:b=e
   ·subst hbe;obtain⟨_,_,r,_⟩:=r;exact⟨_,r⟩
   ·exact⟨_,k1 b o hbe hb q⟩
 ·have ne:e≠T:=λz=>he (z▸a3)
  have nfr:T∉frs (env::outer):=λz=>by
   obtain⟨_,o,q,n⟩:=hl.mem z
   rw[a4]at q;cases q;exact n ts rfl
  unfold noteFrame
  simp only[hf]
  refine aAB (aAZ h1 rfl a1 ?_)
  rw[aAH (show(Value.ref T != Value.none)=true by simp)]
  refine aAB (aAZ a4 rfl (aCF a5) ?_)
  by_cases here:(ts[3]==rawInt L)=true
  ·rw[aAH here]
   refine aAD ?_
   unfold setFlight
   refine aAB (aAZ h1 rfl a1 ?_)
   rw[aAH (show(Value.ref T != Value.none)=true by simp)]
   refine aDO a4 rfl a5 (hQ _ [T] (λb hb=>?_) (λb o _ _ nb q=>(bI λz=>nb (by simp[z])).trans q) (λb o hb q=>⟨o.slots,(bI (a:=T) (λ(z:b=T)=>nfr (z▸hb))).trans q⟩) (λb o q=>?_) ⟨vs,sl,(bI ne).trans h1,h2,.inr ⟨T,cT,dT,_,sT,a1,a2,a3,dH a4,by simpa using a5⟩⟩)
   ·rw[aBO]at hb;subst hb;exact⟨a2,a3,nfr⟩
   ·by_cases z:b=T
    ·subst z;exact⟨_,dH a4⟩
    ·exact⟨o,(bI z).trans q⟩
  rw[aAL here]
  refine aAB (aDO a4 rfl a5 ?_)
  have hsz:(s.heap.update T (Obj.mapFields (·.setIfInBounds 3 Value.none))).objs.size=s.heap.objs.size:=Heap.size_after_update ..
  refine pG (P:=P) (H:=H) hfr (hl.of_keeps λb o q n=>⟨o,(bI λz=>?_).trans q,rfl⟩) hf ((bI ne).trans h1) h2 (λU hU=>hP U (by rw[<- hsz];exact hU)) (λU hU=>hN U (by rw[<- hsz];exact hU)) λh' k1 k2 r=>hQ h' [T] (λb hb=>?_) (λb o n nf nc q=>k1 b o n nf ((bI λz=>nc (by simp[z])).trans q)) (λb o bf q=>k2 b o bf ((bI (a:=T) (λ(z:b=T)=>nfr (z▸bf))).trans q)) (λb o q=>?_) r
  ·subst z;rw[a4]at q;cases q;exact n ts rfl
  ·rw[aBO]at hb;subst hb;exact⟨a2,a3,nfr⟩
  ·have:∃o1,(s.heap.update T (Obj.mapFields (·.setIfInBounds 3 Value.none))).get? b=some o1:=by
    by_cases z:b=T
    ·subst z;exact⟨_,dH a4⟩
    ·exact⟨o,(bI z).trans q⟩
   obtain⟨o1,q⟩:=this
   by_cases hb:b∈frs (env::outer)
   ·obtain⟨sl,q⟩:=k2 b o1 hb q;exact⟨_,q⟩
   ·by_cases hbe:b=e
    ·subst hbe;obtain⟨_,_,r,_⟩:=r;exact⟨_,r⟩
    ·exact⟨_,k1 b o1 hbe hb q⟩
theorem yP(x:XRec P H s.heap e C d)(he:H e≠none) 
  (hQ:∀(h':Heap) (ch:List Addr),(∀b∈ch,P b/\H b=none)->(∀b o,b∉ch->s.heap.get? b=some o->h'.get? b=some o)->(∀b o,s.heap.get? b=some o->∃o',h'.get? b=some o')->XRec P H h' e C d->Q () {s with heap:=h'}) :
  wpAny M A (setFlight (.ref e) none) Q E s:=by
 obtain⟨vs,sl,h1,h2,h3|⟨T,cT,dT,ts,sT,a1,a2,a3,a4,a5⟩⟩:=x
 ·unfold setFlight
  refine aAB (aAZ h1 rfl h3 ?_)
  rw[aAL (by decide)]
  exact aAD (hQ s.heap [] (λ_ z=>nomatch z) (λ_ _ _ q=>q) (λb o q=>⟨o,q⟩) ⟨vs,sl,h1,h2,.inl h3⟩)
 ·have ne:e≠T:=λz=>he (z▸a3)
  have hz3:=a5
  unfold setFlight
  refine aAB (aAZ h1 rfl a1 ?_)
  rw[aAH (show(Value.ref T != Value.none)=true by simp)]
  refine aDO a4 rfl hz3 (hQ _ [T] (λb hb=>?_) (λb o nb q=>(bI λz=>nb (by simp[z])).trans q) (λb o q=>?_) ⟨vs,sl,(bI ne).trans h1,h2,.inr ⟨T,cT,dT,_,sT,a1,a2,a3,dH a4,?_⟩⟩)
  ·rw[aBO]at hb;subst hb;exact⟨a2,a3⟩
  ·by_cases z:b=T
   ·subst z;exact⟨_,dH a4⟩
   ·exact⟨o,(bI z).trans q⟩
  ·simp[hz3]
noncomputable def XO(e C:Addr)(d:Option Addr):HO:=.ext λh=>∃vs sl,h.get? e=some ⟨.ref C,d,.fields vs,sl⟩
variable{P:Program}
theorem XO.ok(q:h.get? e=some ⟨.ref C,d,.fields vs,sl⟩):ObjOk P w H h e (XO e C d) :=
 ⟨⟨vs,sl,q⟩,⟨_,q⟩,λh1 h2 ⟨vs,sl,z⟩ k=>⟨vs,sl,k _ z⟩⟩
theorem XO.at(x:HOk P w H h)(q:H e=some (XO e C d)):∃vs sl,h.get? e=some ⟨.ref C,d,.fields vs,sl⟩:=(x e _ q).1
noncomputable def Free(X:Cx)(pins:List (Addr×Obj))(T:Addr):Prop:=X.s₀.heap.objs.size<=T/\T≠X.env.locals/\(∀x c,X.env.cells.lookup x=some c->c≠T)/\∀p∈X.pn++pins,p.1≠T
variable{σ:List (Option V)}
theorem Inv.freeNew(I:Inv X pins σ H s){T:Addr}(h:s.heap.objs.size<=T):Free X pins T:=by
 refine⟨aBD I.sz h,aBL (aAP I.lt h),λx c q=>?_,λp hp=>?_⟩
 ·obtain⟨v,o,ho,_⟩:=I.cell x c q
  exact aAN (aAP (aAF ho) h)
 ·exact aAN (aAP (aAF (I.pin p hp).1) h)
theorem Inv.moved{ch:List Addr}(I:Inv X pins σ H s)(he:H e=some (XO e C d))(hst:X.stack=X.env::X.outer)(hfm:X.env.frame=some X.env.locals)
  (hc:∀b∈ch,Free X pins b/\H b=none)(k1:∀b o,b≠e->b∉frs (X.env::X.outer)->b∉ch->s.heap.get? b=some o->h'.get? b=some o)
  (k2:∀b o,b∈frs (X.env::X.outer)->s.heap.get? b=some o->∃sl,h'.get? b=some {o with slots:=sl})(k3:∀b o,s.heap.get? b=some o->∃o',h'.get? b=some o')
  {sl:Array (Option Value)}(new:h'.get? e=some ⟨.ref C,d,.fields vs,sl⟩):Inv X pins σ H {s with heap:=h'}:=by
 have hfr:∀b,b∈frs (X.env::X.outer) ↔ b=X.env.locals\/b∈X.fs:=λb=>by
  unfold frs;rw[aCG,hfm];exact aAO
 have ne:∀b,H b=none->b≠e:=λb n z=>by subst z;rw[he]at n;cases n
 have hsf:=I.stkFree
 rw[hst]at hsf
 refine I.step (g':=s.gens) (d':=s.drawn) (t':=s.toks) (ch:=ch) (λb hb=>⟨.inr (hc b hb).1.1,(hc b hb).1.2⟩) (λb o nL nf nc q n=>k1 b o (ne b n) (λz=>((hfr b).mp z).elim nL nf) nc q)
  (λb o nL bf nc q n=>k2 b o ((hfr b).mpr (.inr bf)) q) (λ_ _ _ _ n=>n) (λb o _ q=>k3 b o q) (λ_ _ q=>q) (λ_ _ _ q=>q) (λb ps q=>⟨#[],by rw[q];simp⟩) (λm hm=>?_) (λa o q=>?_) I.bare
 ·obtain⟨o,es,ep,ho,r⟩:=hm
  obtain⟨sl,q⟩:=k2 _ o ((hfr _).mpr (.inl rfl)) ho
  exact⟨_,es,ep,q,r⟩
 ·by_cases ha:a=e
  ·subst ha;rw[he]at q;cases q;exact XO.ok new
  ·refine(I.hok a o q).stay (λb u hb q'=>k1 b u ?_ ?_ ?_ q') (λ_ z=>z) λ_ _ z=>z
   ·rcases hb with rfl|hb
    ·exact ha
    ·rintro rfl;rw[he]at hb;cases hb
   ·intro z
    have n:=hsf b z
    rcases hb with rfl|hb
    ·rw[q]at n;cases n
    ·rw[hb]at n;cases n
   ·intro z
    have n:=(hc b z).2
    rcases hb with rfl|hb
    ·rw[q]at n;cases n
    ·rw[hb]at n;cases n
theorem Inv.flight(I:Inv X pins σ H s)(hst:X.stack=X.env::X.outer)(hfm:X.env.frame=some X.env.locals)(hA:A.frames=some X.stack)(x:XRec (Free X pins) H s.heap e C d)(he:H e=some (XO e C d))
  (hQ:∀h',Inv X pins σ H {s with heap:=h'}->XRec (Free X pins) H h' e C d->Q () {s with heap:=h'}) :
  wpAny M A (noteFrame (.ref e) X.env) (λ_ s₂=>wpAny M A' (setFlight (.ref e) none) Q E s₂) E s:=by
 have hl:=I.stack
 rw[hst]at hl hA
 refine L2.flight hA hl hfm x (by rw[he];simp) (λT hT=>I.freeNew hT) (λT hT=>I.hok.fresh hT) λh' ch hc k1 k2 k3 r=>?_
 obtain⟨vs,sl,q,_⟩:=id r
 exact hQ h' (I.moved he hst hfm (λb hb=>⟨(hc b hb).1,(hc b hb).2.1⟩) k1 k2 k3 q) r
theorem Inv.again(I:Inv X pins σ H s)(hst:X.stack=X.env::X.outer)(hfm:X.env.frame=some X.env.locals)(x:XRec (Free X pins) H s.heap e C d)(he:H e=some (XO e C d))
  (hQ:∀h',Inv X pins σ H {s with heap:=h'}->XRec (Free X pins) H h' e C d->Q () {s with heap:=h'}) :
  wpAny M A (setFlight (.ref e) none) Q E s:=by
 refine yP x (by rw[he];simp) λh' ch hc k1 k3 r=>?_
 obtain⟨vs,sl,q,_⟩:=id r
 have k2:∀b o,b∈frs (X.env::X.outer)->s.heap.get? b=some o->∃sl,h'.get? b=some {o with slots:=sl}:=λb o hb q=>by
  refine⟨o.slots,k1 b o (λz=>?_) q⟩
  have hl:=I.stack
  rw[hst]at hl
  rcases aAO.mp (show b∈X.env.locals::X.fs by unfold frs at hb;rw[aCG,hfm]at hb;exact hb)with rfl|hb'
  ·exact(hc _ z).1.2.1 rfl
  ·obtain⟨_,o',ho',_⟩:=I.ok.funs.mem hb'
   exact absurd (aAF ho') (Nat.not_lt.mpr (hc b z).1.1)
 exact hQ h' (I.moved he hst hfm hc (λb o _ _ nc q=>k1 b o nc q) k2 k3 q) r
noncomputable def CX1(P:Program)(w:World):CXT:=λouter H s E ev s'=>∃a H' C d,ev=.ref a/\s'.os=s.os/\AllBare s'.gens/\Un (frs outer) [] H H' s.heap s'.heap/\HOk P w H' s'.heap /\
 XRec (λT=>s.heap.objs.size<=T) H' s'.heap a C d/\H' a=some (XO a C d)/\E (.ref a) none H'
noncomputable def XE(X:Cx)(pins:List (Addr×Obj))(σ:List (Option V))(R:Addr->Hp->Prop)(ev:Value)(s':Shared):Prop :=
 ∃a H' C d,ev=.ref a/\Inv X pins σ H' s'/\XRec (Free X pins) H' s'.heap a C d/\H' a=some (XO a C d)/\R a H'
structure Xz(X:Cx)(R:Addr->Hp->Prop):Prop where
 go:∀pins σ ev s',XE X pins σ R ev s'->X.xe ev s'
variable{ev:Value}
theorem XE.imp{R':Addr->Hp->Prop}(x:XE X pins σ R ev s')(h:∀a H,R a H->R' a H):XE X pins σ R' ev s' :=
 let⟨a,H',C,d,x1,x2,x3,x4,x5⟩:=x
 ⟨a,H',C,d,x1,x2,x3,x4,h _ _ x5⟩
variable{E:XK}
theorem XE.call(I:Inv X pins σ H s)(h:CX1 X.prog X.w X.stack H s E ev s'):XE X pins σ (λa H'=>E (.ref a) none H') ev s':=by
 obtain⟨a,H',C,d,rfl,os,ba,un,hok,x,he,q⟩:=h
 exact⟨a,H',C,d,rfl,I.call' os un hok ba (λb z=>nomatch z),x.imp λT hT=>I.freeNew hT,he,q⟩
theorem wU(h:∀a H,¬R a H):Xz X R:=⟨λ_ _ _ _ ⟨_,_,_,_,_,_,_,_,q⟩=>(h _ _ q).elim⟩
theorem aPy{scope:Scope}{f:Addr}{cd:Value} :
  Xz (cxOf (CX1 P w) P w K mg base N qual scope f cd A outer s H E) (λa H'=>E (.ref a) none H'):=by
 refine⟨λpins σ ev s' ⟨a,H',C,d,e1,I,x,he,q⟩=>?_⟩
 subst e1
 refine aAB (I.flight rfl rfl I.ok.frames x he λh' I' x'=>?_)
 exact⟨a,H',C,d,rfl,I'.os,I'.bare,I'.base,I'.hok,x'.imp λT hT=>hT.1,he,q⟩
theorem nP(hP:X.prog=P)(hw:X.w=w)(z:Xz X (λa H'=>E (.ref a) none H')):Passes (CX1 P w) X E:=λpins σ H s e s' I h=>by
 subst hP hw
 exact z.go pins σ e s' (XE.call I h)
end L2
namespace L2
open PySem.W PySem.Calls Builtin Builtin.ObjectAttr
noncomputable abbrev vb:List Value:=[.type "ValueError",.type "Exception",.type "BaseException",.type "object"]
variable{prog:Program}{E:Value->Shared->Prop}{K:Frag}{x:Addr}{vs:Array Value}{v:Value}{M:Model}
theorem nQ(X:K.In h)(hc:clsIn K C=some cd)(hm:cd.mro=.ref C::.ref LE::vb)(b:Value):Looks M h (isSubtype (.ref C) b) ((Value.ref C::.ref LE::vb).contains b):=by
 refine looks_mroIn X ?_
 unfold mroIn
 rw[hc,aGM,hm]
 rfl
theorem xset{Q:Unit->Shared->Prop}(X:K.In s.heap)(hx:s.heap.get? x=some ⟨.ref C,none,.fields vs,sl⟩)(hc:clsIn K C=some cd)(hm:cd.mro=.ref C::.ref LE::vb)(hd:cd.hasDict=true)
  (hs:findIn K (.ref C) "__setattr__"=some (some (.builtin "object.__setattr__")))(hn:findIn K (.ref C) name=some none)
  (hq:∀h' tk',h'.get? x=some ⟨.ref C,some s.heap.objs.size,.fields vs,sl⟩->h'.Ns1 s.heap.objs.size (λy=>if y=name then some v else none)->(∀b o,b≠x->s.heap.get? b=some o->h'.get? b=some o) ->
   Q () {s with heap:=h',toks:=tk'}):wpAny (model prog w) A (setAttr (.ref x) name v) Q E s:=by
 obtain⟨hp,gn,dr,tk,oz⟩:=s
 dsimp only at X hx hq
 have I:InstAt hp x ⟨.ref C,none,.fields vs,sl⟩ C none:=⟨hx,rfl,rfl,trivial⟩
 have SF:=PySem.F.store_object
 have hsub:Looks (model prog w) hp (isInstance (.ref x) (.type "object")) true:=I.type.andThen (nQ X hc hm _)
 refine set_plain X I hs (aDG SF.slot.plain SF.entry (@check_slot (model prog w) _ _ ⟨hp,gn,dr,tk+1,oz⟩ "object.__setattr__" "object" "__setattr__" (.ref x) [.str name tk,v] [] _ SF.kind SF.split hsub (SF.args (.ref x) (.str name tk) v) ?_))
 have hmro:Looks (model prog w) hp (mroOf (.ref C)) (.ref C::.ref LE::vb):=hm▸(looks_clsIn X hc).andThen .now
 rw[osa_eq,refuse_eq]
 refine aAB (aAB (I.type.at (aAB (hmro.at ?_))))
 rw[refuseLoop_ref,refuseLoop_ref,PySem.F.store_ValueError.passes (.ref x)]
 refine aAD (aAB (I.type.at (aAB ((looks_findIn X hn).at (aAB (aAD ?_))))))
 show wpAny _ _ (storeInOwnDict (.ref x) (.ref C) (.str name tk) name v false) _ _ _
 unfold storeInOwnDict ownDictForStores instanceDict
 refine aAB (aAD ?_)
 refine aAB (aAB (wpAny_loadPart hx ?_))
 dsimp only
 refine aAB ((looks_clsIn X hc).at ?_)
 rw[hd]
 simp only[Bool.not_true,aBG,aDX,Bool.false_or,typeHasDict]
 have hne:x≠hp.objs.size:=aAN (aAF hx)
 refine aAB (wpAny_alloc' (aAB (wpAny_update' (aAA _ hx) (aAB (aAD (aAD ?_))))))
 generalize eh:(hp.push {cls:=Value.type "dict",data:=Data.dict #[]}).update x (λo=>{o with dict:=some hp.objs.size})=h1
 have hd1:h1.get? hp.objs.size=some {cls:=.type "dict",data:=.dict #[]}:=by
  rw[<- eh,bI (Ne.symm hne)];exact Heap.get?_push_at rfl rfl
 have hx1:h1.get? x=some ⟨.ref C,some hp.objs.size,.fields vs,sl⟩:=by
  rw[<- eh];exact aCK _ (aAA _ hx) rfl
 have k1:∀b o,b≠x->hp.get? b=some o->h1.get? b=some o:=λb o nb q=>by
  rw[<- eh,bI nb];exact aAA _ q
 have n1:h1.Ns1 hp.objs.size (λ_=>none):=Heap.Ns1.of_empty ⟨_,#[],_,hd1,rfl,λe he=>absurd he (by simp),λ_=>rfl⟩
 show wpAny _ _ (storeInDict hp.objs.size (.str name tk) name v) _ _ _
 unfold storeInDict newKeyGuard
 refine aAB (aAD (aAB (wpAny_nsSet1 n1 λh2 n2 same=>?_)))
 obtain⟨oD,es,ep,q1,q2,q3⟩:=n2.count (Within.cons name v Within.nil)
 refine aAB (wpAny_lookBehind q1 (by rw[q2];exact pastItsLine_dict (aBD q3 (by rw[aBJ,aGT,aAT];lia))) ?_)
 refine aAD (hq h2 _ ((same.2 x hne).trans hx1) n2 λb o nb q=>(same.2 b (aAN (aAF q))).trans (k1 b o nb q))
variable{K:Frag}
theorem wF:builtinKind "BaseException.__getattribute__"=some .slot:=by decide +kernel
theorem sE:splitId "BaseException.__getattribute__"=some ("BaseException","__getattribute__"):=by decide +kernel
theorem xget{expr:Bool}(X:K.In s.heap)(hx:s.heap.get? x=some ⟨.ref C,some dx,.fields vs,sl⟩)(n:s.heap.Ns1 dx mA)(hc:clsIn K C=some cd)(hm:cd.mro=.ref C::.ref LE::vb)(hd:hasDictIn K C=true)
  (hg:findIn K (.ref C) "__getattribute__"=some (some (.builtin "BaseException.__getattribute__")))(hh:findIn K (.ref C) "__getattr__"=some none)(hn:findIn K (.ref C) name=some none)(hv:mA name=some v)(hv':handedIn v=true)
  (hq:Q v {s with toks:=s.toks+1}):wpAny (model prog w) A (getAttr (.ref x) name expr) Q E s:=by
 obtain⟨hp,gn,dr,tk,oz⟩:=s
 dsimp only at X hx n hq
 obtain⟨od,ho,hl⟩:=mY n
 have I:InstAt hp x ⟨.ref C,some dx,.fields vs,sl⟩ C (some od):=⟨hx,rfl,rfl,ho⟩
 have hf:findObj K C (some od) name=some (.value v):=findObj_own hd hn rfl (by rw[hl,hv])
 have GA:=PySem.F.attr_ValueError.ga
 have hsub:Looks (model prog w) hp (isInstance (.ref x) (.type "BaseException")) true:=I.type.andThen (nQ X hc hm _)
 unfold getAttr getAttrBy
 refine aAB (wpAny_mkText (aAY (aAB (I.type.at (aAB ((looks_findIn X hg).at ?_))))))
 dsimp only
 rw[show(onTheHeap (Value.ref C)&&Value.builtin "BaseException.__getattribute__"==Value.builtin "object.__getattribute__")=false from by rw[show(Value.builtin "BaseException.__getattribute__"==Value.builtin "object.__getattribute__")=false from by decide +kernel,aEC],aAL (by decide)]
 unfold getAttrByItsOwn
 have hk:Looks (model prog w) hp (hookBefore (.ref C)) none:=looks_hook X (by rw[aAH (show onTheHeap (Value.ref C)=true from rfl)];exact hh)
 refine aAB (hk.at (aAB (aDM (aAY ?_))))
 unfold callGetattribute
 rw[show(expr&&onTheHeap (Value.builtin "BaseException.__getattribute__"))=false from aEC _,aAL (by decide)]
 unfold boundAndCalled
 rw[GA.bind]
 refine aAB (aAD ?_)
 show wpAny _ _ (call (.builtin "BaseException.__getattribute__") [.ref x,.str name tk]) _ _ _
 refine aEQ (aDG GA.plain PySem.F.entry_bexc_ga (@check_slot (model prog w) _ _ ⟨hp,gn,dr,tk+1,oz⟩ "BaseException.__getattribute__" "BaseException" "__getattribute__" (.ref x) [.str name tk] [] _ wF sE hsub (PySem.F.args_bexc_ga (.ref x) (.str name tk)) ?_))
 unfold Builtin.«object.__getattribute__»
 refine aAB (aAD (aAB (aAD (aAB (I.type.at (aAB ((looks_find X I hf).at (aAD ?_)))))))) 
 show wpAny _ _ (handedOut v) _ _ _
 rw[handedOut_of hv']
 exact aAD hq
variable{dr:Drawn}{e N t0:Addr}
theorem xinit{hp:Heap}{gn:Array GenState}{tk:Nat}{oz:OsState}{nm qn:Str}{bs:List Value}{hdct:Bool}{sn:List Str}{sub:List Value}{ab:Bool}{col:Option Bool}{dd:Option Addr}{k0 k1 k2 k3 k5:Option Value}
  (T:OwnTail hp vb bm)(hC:hp.get? C=some (excClassObj nm qn C N bs bm hdct sn sub ab col dd k0 k1 k2 k3 k5 "ValueError.__new__"))
  (he:hp.get? e=some ⟨.ref C,none,.fields vs,sl⟩)(h0:vs[0]?=some (.ref t0))
  (hq:∀h',h'.get? e=some ⟨.ref C,none,.fields (vs.setIfInBounds 0 (.ref hp.objs.size)),sl⟩->(∀b o,b≠e->hp.get? b=some o->h'.get? b=some o)->Q .none ⟨h',gn,dr,tk,oz⟩) :
  wpAny (model prog w) A (call (.builtin "ValueError.__init__") [.ref e,u]) Q E ⟨hp,gn,dr,tk,oz⟩:=by
 have F:=PySem.F.excBase_ValueError
 refine aEQ (aDG F.init.plain F.initEntry (wpAny_check_init_subT F T hC he rfl ?_))
 have ne:e≠hp.objs.size:=aAN (aAF he)
 have he2:(hp.push {cls:=.type "tuple",data:=.seq #[u]}).get? e=some ⟨.ref C,none,.fields vs,sl⟩:=aAA _ he
 have key:=hq ((hp.push {cls:=.type "tuple",data:=.seq #[u]}).update e (Obj.mapFields (·.setIfInBounds 0 (.ref hp.objs.size)))) (dH he2) λb o nb q=>(bI nb).trans (aAA _ q)
 wp_walk
 rw[h0]
 refine aAD (aAB (aDO he2 rfl (aFF.mp h0).1 ?_))
 wp_walk
 exact key
noncomputable def xcB(K:Frag)(C:Addr)(bm0:List Value)(ini:Option Value):Bool:=match K.lookup C with
 |some ⟨.type "type",_,.cls cd,sl⟩=>(match cd.mro,sl.toList with
  |.ref C'::bm,[_,_,_,_,some (.builtin n),_]=>C'==C&&bm==bm0&&n=="ValueError.__new__"&&!cd.hasDel&&nsOkIn K cd.ns&&nsIn K cd.ns "__init__"==some ini
  |_,_=>false)
 |_=>false
structure Xc(K:Frag)(c:Str)(C LE:Addr):Prop where
 nm:nsIn K mainGlobals c=some (some (.ref C))
 cd:∃cd,clsIn K C=some cd/\cd.name=c/\cd.mro=.ref C::.ref LE::vb
 le:∃cl,clsIn K LE=some cl/\cl.name="LentError"
 leN:nsIn K mainGlobals "LentError"=some (some (.ref LE))
 ne:c≠"LentError"
 hd:hasDictIn K C=true
 ga:findIn K (.ref C) "__getattribute__"=some (some (.builtin "BaseException.__getattribute__"))
 gh:findIn K (.ref C) "__getattr__"=some none
 cl:findIn K (.ref C) "__class__"=some (some (.builtin "object.__class__"))
 ob:∃ini,xcB K C (.ref LE::vb) ini=true
 leO:xcB K LE vb none=true
structure XcO(h:Heap)(C:Addr)(bm:List Value)(ini:Option Value):Prop where
 ex:∃nm q N bs hdct sn sub ab col dd k0 k1 k2 k3 k5,h.get? C=some (excClassObj nm q C N bs bm hdct sn sub ab col dd k0 k1 k2 k3 k5 "ValueError.__new__")/\∃mN,h.Ns N mN/\mN "__init__"=ini
theorem vW{x:Str}{r:Option Value}(X:K.In h)(e:nsOkIn K N=true)(q:nsIn K N x=some r):h.nsMap N x=r:=by
 cases r with
 |none=>exact nsMap_none_of_in X e q
 |some v =>
  obtain⟨o,es,ep,ho,hd,_,hf⟩:=Heap.Ns.of_isNs (isNs_of_in X e)
  unfold nsIn at q
  split at q
  ·rename_i c d es' n' sl z
   have:=X _ _ z
   rw[ho]at this
   cases this
   cases hd
   split at q
   ·rename_i en he
    cases q
    rw[<- hf]
    unfold nsFind findBy
    rw[<- Array.find?_toList,he]
    rfl
   ·split at q <;> cases q
  ·cases q
theorem pW(X:K.In h)(q:xcB K C bm ini=true):XcO h C bm ini:=by
 unfold xcB at q
 split at q
 ·rename_i dd cd sl ho
  split at q
  ·rename_i C' bm k0 k1 k2 k3 n k5 hm hs
   simp only[aBM,aEM,Bool.not_eq_true']at q
   obtain⟨⟨⟨⟨⟨rfl,rfl⟩,rfl⟩,hdel⟩,hok⟩,hni⟩:=q
   obtain⟨nm,bs,mro,ns,qn,hd,sn,sub,ab,col,del⟩:=cd
   dsimp only at hm hdel hok hni
   subst hm hdel
   have hsl:sl=#[k0,k1,k2,k3,some (.builtin "ValueError.__new__"),k5]:=by
    obtain⟨l⟩:=sl
    simp only at hs
    rw[hs]
   subst hsl
   exact⟨nm,qn,ns,bs,hd,sn,sub,ab,col,dd,k0,k1,k2,k3,k5,X _ _ ho,_,.of_isNs (isNs_of_in X hok),vW X hok hni⟩
  ·cases q
 ·cases q
variable{Q:Flow->Shared->Prop}
theorem aKp{x:Sem Value}(hB:bm.contains (.type "BaseException")=true)(hh:A.handled=none)
  (h:wpAny M A x (λv s₁=>∃e d vs sl,v=.ref e/\XcO s₁.heap C bm ini/\s₁.heap.get? e=some ⟨.ref C,d,.fields vs,sl⟩/\vs[1]?=some .none/\E (.ref e) s₁) E s):wpAny M A (raiseStmt env (some x) none) Q E s:=by
 unfold raiseStmt
 refine aAB (aCJ h (λv s₁ h₁=>?_) λ_ _ z=>z)
 obtain⟨e,d,vs,sl,rfl,⟨nm,q,N,bs,hdct,sn,sub,ab,col,dd,k0,k1,k2,k3,k5,hC,_⟩,he,h1,hE⟩:=h₁
 have hcB:(Value.ref C::bm).contains (.type "BaseException")=true:=by rw[List.contains_cons,hB,Bool.or_true]
 obtain⟨hp,g,dr,tk,os⟩:=s₁
 dsimp only at hC he
 repeat(first|with_reducible refine aDJ he ?_ |with_reducible refine aDJ hC ?_ |(with_reducible refine aFH hC ?_;rw[hcB])|wp_step)
 rw[h1]
 refine aAD ?_
 rw[aAL (by decide)]
 exact aAD (wpAny_raiseNew_none hh hE)
noncomputable def XN(e C:Addr)(d:Option Addr):HO:=.ext λh=>∃vs sl t0,h.get? e=some ⟨.ref C,d,.fields vs,sl⟩/\vs[1]?=some .none/\vs[0]?=some (.ref t0)
variable{o:HO}
theorem XN.ok(q:h.get? e=some ⟨.ref C,d,.fields vs,sl⟩)(q1:vs[1]?=some .none)(q0:vs[0]?=some (.ref t0)):ObjOk P w H h e (XN e C d) :=
 ⟨⟨vs,sl,t0,q,q1,q0⟩,⟨_,q⟩,λh1 h2 ⟨vs,sl,t0,z,z'⟩ k=>⟨vs,sl,t0,k _ z,z'⟩⟩
theorem XN.at(x:HOk P w H h)(q:H e=some (XN e C d)):∃vs sl t0,h.get? e=some ⟨.ref C,d,.fields vs,sl⟩/\vs[1]?=some .none/\vs[0]?=some (.ref t0):=(x e _ q).1
theorem aEu(q:H a=some o):upd H a o=H:=by
 funext b
 by_cases z:b=a
 ·subst z;rw[bB,q]
 ·rw[aU z]
theorem ObjOk.here(x:ObjOk P w H h a o):∃u,h.get? a=some u:=by
 cases o with
 |lst xs=>obtain⟨_,_,_,_,e⟩:=x;exact⟨_,e⟩
 |tup xs=>obtain⟨_,_,_,p⟩:=x;obtain⟨u,e,_⟩:=p;exact⟨_,e⟩
 |dK kvs=>obtain⟨_,_,_,_,o,_,_,e,_⟩:=x;exact⟨_,e⟩
 |dT kvs=>obtain⟨_,_,_,_,o,_,_,e,_⟩:=x;exact⟨_,e⟩
 |set S n=>obtain⟨o,_,_,_,e,_⟩:=x;exact⟨_,e⟩
 |ins C dx fs=>obtain⟨_,_,_,e,_⟩:=x;exact⟨_,e⟩
 |own y=>exact x
 |xd fs=>obtain⟨_,⟨_,_,_,e,_⟩,_⟩:=x;exact⟨_,e⟩
 |rng lo hi=>obtain⟨_,_,_,e⟩:=x;exact⟨_,e⟩
 |frz ob u=>obtain⟨e,_⟩:=x;exact⟨_,e⟩
 |tbl ps=>exact⟨_,(show h.get? a=some _ from x)⟩
 |met f y=>exact⟨_,(show h.get? a=some _ from x)⟩
 |ext φ=>exact x.2.1
theorem HOk.none_of(x:HOk P w H h)(n:h.get? a=none):H a=none:=by
 cases q:H a with
 |none=>rfl
 |some o=>obtain⟨u,z⟩:=(x a o q).here;rw[n]at z;cases z
variable{σ:List (Option V)}
theorem Inv.laid0(I:Inv X pins σ H s)(k:∀b u,s.heap.get? b=some u->h'.get? b=some u)(hn:s.heap.get? a=none)(new:ObjOk X.prog X.w (upd H a o) h' a o):Inv X pins σ (upd H a o) {s with heap:=h',toks:=t'}:=by
 have hH:=I.hok.none_of hn
 have ne:∀b u,s.heap.get? b=some u->b≠a:=λb u q z=>by subst z;rw[hn]at q;cases q
 refine I.un ⟨λb u q _ _ _=>k b u q,λb u q _ _ _=>⟨u.slots,k b u q⟩,λb u q n _=>by rw[aU (ne b u q)];exact n,λb u q _=>⟨u,k b u q⟩,λb xs q=>by rw[aU (bE q hH)];exact q,λb u xs q=>by rw[aU (bE q hH)];exact q,λb ps q=>⟨#[],by rw[aU (bE q hH),q];simp⟩⟩ λb u q=>?_
 by_cases z:b=a
 ·subst z;rw[bB]at q;cases q;exact new
 ·rw[aU z]at q
  exact(I.hok b u q).stay (λc v _ q=>k c v q) (λc q=>by rw[aU (bE q hH)];exact q) λc xs q=>by rw[aU (bE q hH)];exact q
variable{f:Str}
theorem Inv.gotDict{y:V}{u:Value}(I:Inv X pins σ H s)(he:H e=some (XN e C none))(hn:s.heap.get? dx=none)(k:∀b u,b≠e->s.heap.get? b=some u->h'.get? b=some u)
  (q:h'.get? e=some ⟨.ref C,some dx,.fields vs,sl⟩)(q1:vs[1]?=some .none)(q0:vs[0]?=some (.ref t0))(ns:h'.Ns1 dx (λz=>if z=f then some u else none))(r:RelV y u) :
  Inv X pins σ (upd (upd H dx (.xd [(f,y)])) e (XN e C (some dx))) {s with heap:=h',toks:=t'}:=by
 have hH:=I.hok.none_of hn
 have ned:dx≠e:=λz=>by subst z;rw[hH]at he;cases he
 have nd:∀b u,s.heap.get? b=some u->b≠dx:=λb u qq z=>by subst z;rw[hn]at qq;cases qq
 have ne:∀b,H b=none->b≠e:=λb n z=>by subst z;rw[he]at n;cases n
 have old:∀b o,H b=some o->b≠e->upd (upd H dx (.xd [(f,y)])) e (XN e C (some dx)) b=some o:=λb o q z=>by rw[aU z,aU (bE q hH)];exact q
 have hx:∀b u,H b=some u->(∀φ,u≠.ext φ)->b≠e:=λb u qq n z=>by subst z;rw[he]at qq;cases qq;exact n _ rfl
 refine I.un ⟨λb u q n _ _=>k b u (ne b n) q,λb u q n _ _=>⟨u.slots,k b u (ne b n) q⟩,λb u q n _=>by rw[aU (ne b n),aU (nd b u q)];exact n,λb u q _=>?_,λb xs q=>old b _ q (hx b _ q λ_ z=>nomatch z),λb u xs q=>old b _ q (hx b _ q λ_ z=>nomatch z),λb ps q=>⟨#[],by rw[old b _ q (hx b _ q λ_ z=>nomatch z)];simp⟩⟩ λb u z=>?_
 ·by_cases z:b=e
  ·subst z;exact⟨_,‹h'.get? b=some _›⟩
  ·exact⟨u,k b u z q⟩
 ·by_cases hb:b=e
  ·subst hb;rw[bB]at z;cases z;exact XN.ok q q1 q0
  ·rw[aU hb]at z
   by_cases hd:b=dx
   ·subst hd;rw[bB]at z;cases z
    refine⟨_,ns,λg=>?_⟩
    by_cases hg:g=f
    ·subst hg;simp[List.lookup,RelO,r]
    ·have:(g==f)=false:=by simpa using hg
     simp[List.lookup,RelO,hg,this]
   ·rw[aU hd]at z
    refine(I.hok b u z).stay (λc v hc q'=>k c v ?_ q') (λc q'=>old c _ q' (hx c _ q' λ_ z=>nomatch z)) λc xs q'=>old c _ q' (hx c _ q' λ_ z=>nomatch z)
    rcases hc with rfl|hc
    ·exact hb
    ·exact hx c _ hc λ_ z=>nomatch z
theorem Inv.flies(I:Inv X pins σ (upd H e (XN e C d)) s):Inv X pins σ (upd H e (XO e C d)) s/\XRec (Free X pins) (upd H e (XO e C d)) s.heap e C d:=by
 obtain⟨vs,sl,t0,q,q1,q0⟩:=XN.at I.hok bB
 refine⟨?_,vs,sl,q,(aFF.mp q1).1,.inl q1⟩
 have:=I.write (x:=e) (e:=e) (o:=XO e C d) (h':=s.heap) (t':=s.toks) (by rw[bB];trivial) (.inl rfl) (λ_ _ _ q=>q) ⟨_,q⟩ (XO.ok q)
 rw[aJp]at this
 exact this
structure LeF(K:Frag)(LE:Addr):Prop where
 rd:readsIn K LE (.type "type")=true
 ga:specialIn K (.ref LE) "__getattribute__"=some (some (.builtin "type.__getattribute__"))
 ini:findCls K (.ref LE) (.type "type") "__init__"=some (.val (.builtin "ValueError.__init__"))
 tl:tailIn K vb (.ref LE::vb)=true
section
variable{e1 e2 o v:Expr}{t:TA}{to tv:TE}{p1 ap cp:Pos}
noncomputable def tBinit(C:Addr)(t:TA):TE:=λσ H Q=>t σ H λvs H1=>∃e u,vs=[.ref e,u]/\H1 e=some (XN e C none)/\Q .non H1
theorem aFc{pl:Sem Bool}(F:LeF X.K LE)(hm:X.mg "LentError"=some (.ref LE))(hC:xcB X.K C (.ref LE::vb) ini=true)(ha:PA X [e1,e2] t)(hg:Gl X "LentError":=by rfl)
  (hs:starEach [e1,e2] X.env=[(false,eval e1 X.env),(false,eval e2 X.env)]:=by rfl)
  (hev:eval (.Call (.Attribute (.Name "LentError" p1) "__init__" ap) [e1,e2] [] cp) X.env=(do
   let ov <- eval (.Name "LentError" p1) X.env
   standAt ap.atName
   let(f,first) <- holding [ov] (getMethod ov "__init__" pl)
   callWith cp f first (backTo cp (starEach [e1,e2] X.env)) (backToKw cp (keywordEach [] X.env))):=by rfl) :
  PE X (.Call (.Attribute (.Name "LentError" p1) "__init__" ap) [e1,e2] [] cp) (tBinit C t):=by
 intro pins s σ H Q I h
 refine methodCall_KW (pl:=pl) (kL I hg hm ?_) hev
 refine method_cls I.kIn F.ga (cls_value I.kIn F.rd F.ini rfl ?_)
 have hA:=ha cp pins _ σ H _ (I.tok (s.toks+1)) h
 rw[hs]at hA ⊢
 refine aGF rfl (Calls.evalArgs_plain (thn hA λus s1 ⟨vs,H1,I1,r,e,u,ev,he,q⟩=>?_))
 subst ev
 obtain⟨a,b,rfl,ra,rb⟩:=Vals.two r
 cases(show a=Value.ref e from ra)
 obtain⟨vs',sl,t0,z,z1,z0⟩:=XN.at I1.hok he
 obtain⟨nm,qn,N,bs,hdct,sn,sub,ab,col,dd,k0,k1,k2,k3,k5,oC,_⟩:=pW I1.kIn hC
 obtain⟨hp,gn,dr,tk,oz⟩:=s1
 refine xinit (tail_of_in I1.kIn F.tl) oC z z0 λh' zn k=>?_
 have J:=I1.write (x:=e) (e:=e) (o:=XN e C none) (h':=h') (t':=tk) (by rw[he];trivial) (.inl rfl) (λb u n q=>k b u n q) ⟨_,zn⟩ (XN.ok (t0:=hp.objs.size) zn (by rw[Array.getElem?_setIfInBounds_ne (by decide)];exact z1) (by simp[(aFF.mp z0).1]))
 rw[aEu he]at J
 exact⟨.non,H1,J,rfl,q⟩
noncomputable def sXfld(K:Frag)(C:Addr)(to tv:TE)(f:Str):TS:=λD σ H=>tv σ H λy H1=>to σ H1 λx H2=>∃e,x=.ref e/\H2 e=some (XN e C none)/\∀dx,H2 dx=none->dx≠e->D.nx σ (upd (upd H2 dx (.xd [(f,y)])) e (XN e C (some dx)))
theorem aJx(hc:clsIn X.K C=some cd)(hm:cd.mro=.ref C::.ref LE::vb)(hd:cd.hasDict=true)(hsa:findIn X.K (.ref C) "__setattr__"=some (some (.builtin "object.__setattr__")))(hn:findIn X.K (.ref C) f=some none)
  (ho:PE X o to)(hv:PE X v tv)(hs:swapsWith v (some (.Attribute o f pos')) pos.line X.env=pure false:=by rfl):PS X (.Assign [.Attribute o f pos'] v pos) (sXfld X.K C to tv f):=by
 intro pins s σ H D I h
 refine plainObj_wpAny_Assign_Attribute (thn (hv pins s σ H _ I h) λu s1 ⟨y,H1,I1,ry,q⟩=>thn (ho pins s1 σ H1 _ I1 q) λov s2 ⟨x,H2,I2,rx,e,ex,he,q2⟩=>?_) hs
 subst ex
 cases(show ov=Value.ref e from rx)
 obtain⟨vs,sl,t0,z,z1,z0⟩:=XN.at I2.hok he
 have fresh:s2.heap.get? s2.heap.objs.size=none:=aFB (aAI _)
 refine xset I2.kIn z hc hm hd hsa hn λh' tk' w1 w2 w3=>?_
 exact⟨σ,_,I2.gotDict (t':=tk') he fresh w3 w1 z1 z0 w2 ry,q2 _ (I2.hok.none_of fresh) (aBL (aAF z))⟩
end
theorem aJh{p o':HO}(n:dx≠e):upd (upd (upd H e o) dx p) e o'=upd (upd H dx p) e o':=by
 funext b
 unfold upd
 by_cases h1:b=e
 ·simp[h1]
 ·by_cases h2:b=dx
  ·simp[h2,n]
  ·simp[h1,h2]
noncomputable def spXI(C:Addr)(f:Str):Sp:=λvs H Q _=>∃e y,vs=[.ref e,y]/\H e=some (XN e C none)/\∀dx,H dx=none->dx≠e->Q .non (upd (upd H dx (.xd [(f,y)])) e (XN e C (some dx)))
theorem Fun.okN{x:Str}{f:Addr}{N:List Str}{k:Nat}(F:Fun K x qual st f fd)(S:FnScope N ps (defScope st))(len:∀vs H Q E,sp vs H Q E->vs.length=ps.length)
  (hbody:∀(cdv:Value) (A:Around) (outer:List Env) (s:Shared) (H:Hp) (vs:List V) (Q:VK) (E:XK),Room k (A.deeper (envOfC qual (defScope st) s.heap.objs.size f cdv))->sp vs H Q E ->
   ∃t,PSs (cxOf CX P w K mg base N qual (defScope st) f cdv A outer s H E).nox (defBody st) t/\t {nx:=λ_ H'=>Q .non H',rt:=Q} (start N vs) H):FnOk P w K mg base CX (k+1) f fd ps sp:=by
 obtain⟨oc,od,kV,doc,pm,an,cdv,ct,osl,rfl,lk,hcd⟩:=F.ex
 refine aDl lk hcd S len λA outer s H vs Q E hr hsp=>?_
 obtain⟨t,h,q⟩:=hbody cdv A outer s H vs Q E hr hsp
 exact⟨t,h.nox,q⟩
theorem aIp{p txt:Str}(F:Fun K "__init__" qual st fI fd)(S:FnScope ["self",p] ["self",p] (defScope st))
  (hb:∀(cdv:Value) (A:Around) (outer:List Env) (s:Shared) (H:Hp) (E:XK),PSs (cxOf CX P w K mg base ["self",p] qual (defScope st) fI cdv A outer s H E).nox (defBody st) (tSeq (tDrop (tBinit C (tCons (tVar 0) (tCons (tC (.str txt)) tNil)))) (sXfld K C (tVar 0) (tVar 1) f))) :
  FnOk P w K mg base CX 1 fI fd ["self",p] (spXI C f):=by
 refine F.okN (k:=0) S (λvs H Q E ⟨e,y,h,_⟩=>by rw[h];rfl) λcdv A outer s H vs Q E _ ⟨e,y,hv,he,hq⟩=>⟨_,hb cdv A outer s H E,?_⟩
 subst hv
 exact⟨.ref e,rfl,e,.str txt,rfl,he,y,rfl,.ref e,rfl,e,rfl,he,hq⟩
section
variable{k:Nat}{E:XK}{x:Str}{e:Expr}{es:List Expr}{t:TA}{σ:St}{Q:VK}{vs:List V}
theorem aBt(hxo:xcB X.K C (.ref LE::vb) (some (.ref fI))=true)(F:LeF X.K LE)(hf:typeIn X.K (.ref fI)=some (.type "function"))(G:FnOk X.prog X.w X.K X.mg X.base CX k fI fd ps (spXI C f))(hr:Room (k+1) X.A)(hb:Binds X.K fd ps [])(hx:Passes CX X E)
  (I:Inv X pins σ H s)(r:Vals vs us)(h:∃y,vs=[y]/\∀e dx,H e=none->H dx=none->dx≠e->Q (.ref e) (upd (upd H dx (.xd [(f,y)])) e (XN e C (some dx)))) :
  wpAny (model X.prog X.w) X.A (call (.ref C) us) (EP X pins σ Q) X.xe s:=by
 obtain⟨y,rfl,h⟩:=h
 obtain⟨u,rfl,ru⟩:=Vals.one r
 obtain⟨nm,qn,N,bs,hdct,sn,sub,ab,col,dd,k0,k1,k2,k3,k5,oC,mN,nsN,iN⟩:=pW I.kIn hxo
 have gI:∃oI,s.heap.get? fI=some oI/\oI.cls=.type "function":=by
  obtain⟨o,z,zc⟩:=aAR.mp hf
  exact⟨o,I.kIn _ _ z,zc⟩
 obtain⟨oI,gI,cI⟩:=gI
 obtain⟨hp,gn,dr,tk,oz⟩:=s
 refine xQ (few:=by show 1<=sizeLine;decide) PySem.F.excBase_ValueError (tail_of_in I.kIn F.tl) oC nsN iN gI cI λh' a mk=>?_
 obtain⟨t0,ea,_,_⟩:=mk.there
 have hn:=I.hok.none_of mk.new
 have I2:Inv X pins σ (upd H a (XN a C none)) ⟨h',gn,dr,tk,oz⟩:=I.laid0 (t':=tk) mk.keeps mk.new (XN.ok (t0:=t0) ea rfl rfl)
 have sp:spXI C f [.ref a,y] (upd H a (XN a C none)) (λv H2=>v=.non/\Q (.ref a) H2) E:=⟨a,y,rfl,bB,λdx hd ne=>⟨rfl,by rw[aJh ne];exact h a dx hn (by rw[aU ne]at hd;exact hd) ne⟩⟩
 have r2:Vals [V.ref a,y] [Value.ref a,u]:=.cons rfl (.cons ru .nil)
 have hl:([Value.ref a,u]++[]).length=ps.length:=by have:=G.len _ _ _ _ sp;simpa using this
 refine aEQ (aEW (G.run _ X.stack _ _ ⟨[.ref a,u],[]⟩ [.ref a,u] _ _ E (hr.make C [u] []) (I2.env0.make C [u] []) (hb _ [.ref a,u] I2.kIn hl) r2 sp) λr s' hq'=>?_)
 cases r with
 |error e=>exact hx pins σ _ _ e s' I2 hq'
 |ok fl =>
  cases fl with
  |ret u =>
   obtain⟨v,H',I3,rv,ev,q3⟩:=I2.after hq'
   subst ev
   exact⟨rv,⟨V.ref a,H',I3,rfl,q3⟩⟩
  |next=>exact False.elim hq'
  |brk=>exact False.elim hq'
  |cont=>exact False.elim hq'
noncomputable def tXmake(C:Addr)(f:Str)(t:TA):TE:=λσ H Q=>t σ H λvs H1=>∃y,vs=[y]/\∀e dx,H1 e=none->H1 dx=none->dx≠e->Q (.ref e) (upd (upd H1 dx (.xd [(f,y)])) e (XN e C (some dx)))
theorem aDo(hxo:xcB X.K C (.ref LE::vb) (some (.ref fI))=true)(F:LeF X.K LE)(hf:typeIn X.K (.ref fI)=some (.type "function"))(G:FnOk X.prog X.w X.K X.mg X.base CX k fI fd ps (spXI C f))(hr:Room (k+1) X.A)(hb:Binds X.K fd ps [])(hx:Passes CX X E)
  (hm:X.mg x=some (.ref C))(hk:keepIn X.K (.ref C)=true)(ha:PA X (e::es) t)(hg:Gl X x:=by rfl)(hdb:(x==("__debug__":Str))=false:=by decide)(he:starEach (e::es) X.env=(false,eval e X.env)::starEach es X.env:=by rfl)(hpl:(backTo pos (starEach es X.env)).any (·.1)=false:=by rfl) :
  PE X (.Call (.Name x p) (e::es) [] pos) (tXmake C f t):=by
 intro pins s σ H Q I h
 refine aCV (kL I hg hm ?_ hdb)
 refine aHE (h₀:=X.base) I.ok.mod.kin hk (thn (ha pos pins s σ H _ I h) λus s1 ⟨vs,H1,I1,r,q⟩=>⟨I1.kIn,?_⟩) he hpl
 exact aBt hxo F hf G hr hb hx I1 r q
noncomputable def tRaise(C:Addr)(R:Addr->Hp->Prop)(te:TE):TS:=λ_ σ H=>te σ H λv H1=>∃e d H0,v=.ref e/\H1=upd H0 e (XN e C d)/\R e (upd H0 e (XO e C d))
theorem aFg(hxo:xcB X.K C (.ref LE::vb) ini=true)(hc:X.calm=true)(hz:Xz X R)(he:PE X e te):PS X (.Raise (some e) none pos) (tRaise C R te):=by
 intro pins s σ H D I h
 rw[arm_exec_Raise]
 refine aAB (aDL ?_)
 show wpAny _ _ (raiseStmt X.env (some (do let v <- eval e X.env;standAt pos;pure v)) none) _ _ s
 refine aKp (C:=C) (bm:=.ref LE::vb) (ini:=ini) rfl (I.ok.hd hc) (aAB (thn (he pins s σ H _ I h) λv s1 ⟨x,H1,I1,rx,a,d,H0,ex,eH,q⟩=>aAB (aDL (aAD ?_))))
 subst ex eH
 cases(show v=Value.ref a from rx)
 obtain⟨vs,sl,t0,z,z1,z0⟩:=XN.at I1.hok bB
 obtain⟨I2,x2⟩:=I1.flies
 exact⟨a,d,vs,sl,rfl,pW I1.kIn hxo,z,z1,hz.go pins σ _ _ ⟨a,_,C,d,rfl,I2,x2,bB,q⟩⟩
end
section
variable{g:Array GenState}{t:Nat}{os:OsState}{D:Addr}{oe:Obj}{bmD:List Value}{iniD:Option Value}{Q:Bool->Shared->Prop}
theorem excM(hC:XcO h C bm ini)(he:h.get? e=some oe)(hcls:oe.cls=.ref C)(hD:XcO h D bmD iniD)(hB:bmD.contains (.type "BaseException")=true)(hsub:(Value.ref C::bm).contains (.ref D)=true)(hq:Q true ⟨h,g,dr,t,os⟩) :
  wpAny M A (excMatches (.ref e) (.ref D)) Q E ⟨h,g,dr,t,os⟩:=by
 obtain⟨nm,qn,N,bs,hdct,sn,sub,ab,col,dd,k0,k1,k2,k3,k5,oC,_⟩:=hC
 obtain⟨nm',qn',N',bs',hdct',sn',sub',ab',col',dd',k0',k1',k2',k3',k5',oD,_⟩:=hD
 have hcB:(Value.ref D::bmD).contains (.type "BaseException")=true:=by rw[List.contains_cons,hB,Bool.or_true]
 have f:=tc_notTuple
 unfold excMatches
 repeat(first|(with_reducible refine aDJ he ?_;rw[hcls])|with_reducible refine aDJ oD ?_ |(with_reducible refine aFH oD ?_;rw[hcB])|(with_reducible refine aFH oC ?_;rw[hsub])|wp_step)
 exact hq
end
noncomputable section
def PEx(X:Cx)(e:Expr)(t:St->Hp->VK->(Addr->Hp->Prop)->Prop):Prop :=
 ∀(pins:List (Addr×Obj)) (s:Shared) (σ:St) (H:Hp) (Q:VK) (R:Addr->Hp->Prop),Inv X pins σ H s->t σ H Q R->wpAny (model X.prog X.w) X.A (eval e X.env) (EP X pins σ Q) (XE X pins σ R) s
def PBx(X:Cx)(b:List Stmt)(t:Ends->(Addr->Hp->Prop)->St->Hp->Prop):Prop :=
 ∀(pins:List (Addr×Obj)) (s:Shared) (σ:St) (H:Hp) (D:Ends) (R:Addr->Hp->Prop),Inv X pins σ H s->t D R σ H->wpAny (model X.prog X.w) X.A (execs b X.env) (SP X pins D) (XE X pins σ R) s
abbrev Cx.hnd(X:Cx)(e:Addr):Cx:={X with A:=X.A.mark (some (.ref e)),calm:=false,xe:=λ_ _=>False}
end
theorem Cx.Ok.hnd{X:Cx}(ok:X.Ok)(e:Addr):(X.hnd e).Ok :=
 ⟨ok.mod,ok.kind,ok.glob,ok.blt,ok.above,ok.inj,ok.has,ok.cab,(λz=>nomatch z),ok.frames,ok.stk,ok.exf,ok.bs,ok.bsz,ok.noex,ok.exfs,ok.funs,ok.frf⟩
variable{σ:St}
theorem Inv.hnd(I:Inv X pins σ H s)(e:Addr):Inv (X.hnd e) pins σ H s:=⟨I.ok.hnd e,I.os,I.bare,I.base,I.loc,I.cell,I.free,I.freeC,I.pin,I.hok,I.len⟩
theorem Inv.unhnd(ok:X.Ok)(I:Inv (X.hnd e) pins σ H s):Inv X pins σ H s:=⟨ok,I.os,I.bare,I.base,I.loc,I.cell,I.free,I.freeC,I.pin,I.hok,I.len⟩
theorem SP.unhnd{D:Ends}{f:Flow}{s':Shared}(ok:X.Ok)(h:SP (X.hnd e) pins D f s'):SP X pins D f s':=by
 cases f with
 |next=>obtain⟨σ',H',I,q⟩:=h;exact⟨σ',H',I.unhnd ok,q⟩
 |brk=>obtain⟨σ',H',I,q⟩:=h;exact⟨σ',H',I.unhnd ok,q⟩
 |cont=>obtain⟨σ',H',I,q⟩:=h;exact⟨σ',H',I.unhnd ok,q⟩
 |ret u=>obtain⟨v,σ',H',I,r,q⟩:=h;exact⟨v,σ',H',I.unhnd ok,r,q⟩
variable{n:Str}
theorem kM{Q:Unit->Shared->Prop}(I:Inv X pins σ H s)(hi:X.N[i]?=some n)(hN:X.N.Nodup)(hl:X.env.scope.names.lookup n=some .local)
  (h:∀s',Inv X pins (σ.set i none) H s'->Q () s'):wpAny M A (do bindName X.env n .none;unbindBehindTheSuite X.env n pos) Q E s:=by
 obtain⟨m,hn,hv⟩:=id I.loc
 have hcls:(X.env.scope.kind==.class || (X.env.scope.kind==.module&&X.env.locals != X.env.globals))=false:=by rw[I.ok.kind];rfl
 refine wpAny_nameGoes_keeps hl hn hcls λh' v nn same=>h _ ?_
 have nL:∀b o,X.s₀.heap.get? b=some o->b≠X.env.locals:=λb o q=>aAN (aAP (aAF q) I.ok.above)
 refine⟨I.ok,I.os,I.bare,⟨λb o q n hb hx=>(same.2 b (nL b o q)).trans (I.base.keep b o q n hb hx),λb o q n hb hx=>?_,I.base.free,λb o q hx=>?_,I.base.tups,I.base.frzs,I.base.tbls⟩,⟨_,nn,λj y u e1 e2 e3=>?_⟩,λy c q=>?_,I.free,I.freeC,λp hp=>?_,λb o q=>?_,by simpa using I.len⟩
 ·obtain⟨sl,z⟩:=I.base.slot b o q n hb hx
  exact⟨sl,(same.2 b (nL b o q)).trans z⟩
 ·obtain⟨o',z⟩:=I.base.there b o q hx
  exact⟨o',(same.2 b (nL b o q)).trans z⟩
 ·by_cases hj:j=i
  ·subst hj
   rw[List.getElem?_set_self' ]at e2
   cases z:σ[j]? <;> rw[z]at e2 <;> cases e2
  ·rw[aBS (Ne.symm hj)]at e2
   obtain⟨u',r',q⟩:=hv j y u e1 e2 e3
   refine⟨u',r',?_⟩
   rcases q with⟨k,z⟩|⟨k,c,z,w⟩
   ·have:y≠n:=λz=>hj (qA hN e1 (z▸hi))
    exact .inl ⟨k,by simp[this,z]⟩
   ·exact .inr ⟨k,c,z,w.sameBut same (I.cne y c z)⟩
 ·obtain⟨w',z⟩:=I.cell y c q
  exact⟨w',z.sameBut same (I.cne y c q)⟩
 ·obtain⟨z,n,ne,nf,dd⟩:=I.pin p hp
  exact⟨(same.2 p.1 ne).trans z,n,ne,nf,dd⟩
 ·refine(I.hok b o q).stay (λc u hc z=>(same.2 c ?_).trans z) (λ_ z=>z) λ_ _ z=>z
  rintro rfl
  rcases hc with rfl|hc
  ·have:=I.free;rw[q]at this;cases this
  ·have:=I.free;rw[hc]at this;cases this
structure XM(K:Frag)(C D:Addr):Prop where
 c:∃bm ini,xcB K C bm ini=true/\(Value.ref C::bm).contains (.ref D)=true
 d:∃bm ini,xcB K D bm ini=true/\bm.contains (.type "BaseException")=true
variable{b₀:Stmt}{suite:List Stmt}{np hpos:Pos}{tb:Ends->(Addr->Hp->Prop)->St->Hp->Prop}{ts:TS}
noncomputable def tTryAs(K:Frag)(Dc:Addr)(i:Nat)(tb:Ends->(Addr->Hp->Prop)->St->Hp->Prop)(ts:TS):TS:=λD σ H=>tb D (λa H'=>(∃C d,H' a=some (XO a C d)/\XM K C Dc) /\
 ts {nx:=λσ' H''=>D.nx (σ'.set i none) H'',rt:=D.rt,bk:=λσ' H''=>D.bk (σ'.set i none) H'',ct:=λσ' H''=>D.ct (σ'.set i none) H''} (σ.set i (some (.ref a))) H') σ H
theorem aHa{C':Addr}{d':Option Addr}(ok:HOk P w H h)(q:H a=some (XO a C d))(q':H a=some (XO a C' d')):C=C'/\d=d':=by
 obtain⟨_,_,z⟩:=XO.at ok q
 obtain⟨_,_,z'⟩:=XO.at ok q'
 rw[z]at z';cases z';exact⟨rfl,rfl⟩
theorem aDf(hN:X.N.Nodup)(hb:PBx X body tb)(hs:∀a,PSs (X.hnd a) (b₀::suite) ts)(hm:X.mg cn=some (.ref Dc))(hi:X.N[i]?=some n:=by rfl)(hl:X.env.scope.names.lookup n=some .local:=by rfl)(hg:Gl X cn:=by rfl)(hst:X.stack=X.env::X.outer:=by rfl)(hfm:X.env.frame=some X.env.locals:=by rfl)(hdb:(cn==("__debug__":Str))=false:=by decide) :
  PS X (.Try body [.ExceptHandler (some (.Name cn np)) (some n) (b₀::suite) hpos] [] [] pos) (tTryAs X.K Dc i tb ts):=by
 intro pins s σ H D I h
 refine wpAny_Try_except (aCJ (hb pins s σ H D _ I h) (λf s1 q=>?_) λev s1 ⟨a,H1,C,d,ee,I1,x1,hx,⟨C',d',hx',xm⟩,q⟩=>?_)
 ·cases f with
  |next=>exact aEN q
  |brk=>exact q
  |cont=>exact q
  |ret u=>exact q
 ·subst ee
  obtain⟨rfl,rfl⟩:=aHa I1.hok hx hx'
  refine I1.flight hst hfm I1.ok.frames x1 hx λh2 I2 x2=>?_
  refine wpAny_handleBy_cons (codeAny_handlers_test (kL (X:=X.hnd a) (I2.hnd a) hg hm ?_ hdb)) (by intro q;cases q)
  obtain⟨bm,ini,c1,c2⟩:=xm.c
  obtain⟨bmD,iniD,d1,d2⟩:=xm.d
  obtain⟨vs,sl,z⟩:=XO.at I2.hok hx
  refine excM (pW I2.kIn c1) z rfl (pW I2.kIn d1) d2 c2 ?_
  refine codeAny_handlers_suite_as (I2.again hst hfm x2 hx λh3 I3 x3=>?_)
  refine gC I3 hN hi (.inl hl) (v:=.ref a) rfl (λs4 I4=>?_) (.inr hl)
  refine aCJ ((hs a) pins _ (σ.set i (some (.ref a))) H1 _ (I4.hnd a) q) (λf s5 q5=>?_) λ_ _ z=>z.elim
  have q5:=q5.unhnd I4.ok
  cases f with
  |next=>obtain⟨σ',H',I',q'⟩:=q5;exact kM I' hi hN hl λs6 I6=>⟨_,H',I6,q'⟩
  |brk=>obtain⟨σ',H',I',q'⟩:=q5;exact kM I' hi hN hl λs6 I6=>⟨_,H',I6,q'⟩
  |cont=>obtain⟨σ',H',I',q'⟩:=q5;exact kM I' hi hN hl λs6 I6=>⟨_,H',I6,q'⟩
  |ret u=>obtain⟨v,σ',H',I',r,q'⟩:=q5;exact kM I' hi hN hl λs6 I6=>⟨v,_,H',I6,r,q'⟩
variable{K:Frag}{c:Str}
theorem aKo(K:Frag):specialIn K (.builtin "object.__class__") "__get__"=some (some (.builtin "getset_descriptor.__get__")):=by with_unfolding_all rfl
theorem aPb(K:Frag):takesIn K (.builtin "object.__class__")=some true:=by with_unfolding_all rfl
theorem yS{a g:Value}(hc:(clsIn K C).isSome=true)(ha:findIn K (.ref C) name=some (some a))(hg:specialIn K a "__get__"=some (some g))(ht:takesIn K a=some true):findObj K C od name=some (.bind g a):=by
 obtain⟨cd,hc⟩:=aDF.mp hc
 unfold findObj
 simp only[hc,ha,aGM,hg,ht]
theorem Xc.mro(F:Xc K c C LE)(b:Value):mroIn K C b=some ((Value.ref C::.ref LE::vb).contains b):=by
 obtain⟨cd,h1,_,h2⟩:=F.cd
 unfold mroIn
 rw[h1,aGM,h2]
 rfl
variable{ox:Obj}
theorem xclass{Q:Option Value->Shared->Prop}(F:Xc K c C LE)(X:K.In s.heap)(I:InstAt s.heap x ox C od)(h:Q (some (.ref C)) {s with toks:=s.toks+1}):wpAny (model prog w) A (getAttr? (.ref x) "__class__") Q E s:=by
 obtain⟨hp,gn,dr,tk,oz⟩:=s
 dsimp only at X I h
 obtain⟨cd,hc,_,hm⟩:=F.cd
 have hf:findObj K C od "__class__"=some (.bind (.builtin "getset_descriptor.__get__") (.builtin "object.__class__")):=yS (by rw[hc];rfl) F.cl (aKo K) (aPb K)
 have GA:=PySem.F.attr_ValueError.ga
 have hsub:Looks (model prog w) hp (isInstance (.ref x) (.type "BaseException")) true:=I.type.andThen (nQ X hc hm _)
 unfold getAttr? getAttrBy? getAttrBy
 refine aAB (wpAny_mkText (aAB (aDM (aAY (aAB (I.type.at (aAB ((looks_findIn X F.ga).at ?_))))))))
 dsimp only
 rw[show(onTheHeap (Value.ref C)&&Value.builtin "BaseException.__getattribute__"==Value.builtin "object.__getattribute__")=false from by rw[show(Value.builtin "BaseException.__getattribute__"==Value.builtin "object.__getattribute__")=false from by decide +kernel,aEC],aAL (by decide)]
 unfold getAttrByItsOwn
 have hk:Looks (model prog w) hp (hookBefore (.ref C)) none:=looks_hook X (by rw[aAH (show onTheHeap (Value.ref C)=true from rfl)];exact F.gh)
 refine aAB (hk.at (aAB (aDM (aAY ?_))))
 unfold callGetattribute
 rw[show(false&&onTheHeap (Value.builtin "BaseException.__getattribute__"))=false from rfl,aAL (by decide)]
 unfold boundAndCalled
 rw[GA.bind]
 refine aAB (aAD ?_)
 show wpAny _ _ (call (.builtin "BaseException.__getattribute__") [.ref x,.str "__class__" tk]) _ _ _
 refine aEQ (aDG GA.plain PySem.F.entry_bexc_ga (@check_slot (model prog w) _ _ ⟨hp,gn,dr,tk+1,oz⟩ "BaseException.__getattribute__" "BaseException" "__getattribute__" (.ref x) [.str "__class__" tk] [] _ wF sE hsub (PySem.F.args_bexc_ga (.ref x) (.str "__class__" tk)) ?_))
 unfold Builtin.«object.__getattribute__»
 refine aAB (aAD (aAB (aAD (aAB (I.type.at (aAB ((looks_find X I hf).at ?_)))))))
 show wpAny _ _ (holding [Value.builtin "object.__class__"] (call (.builtin "getset_descriptor.__get__") [.builtin "object.__class__",.ref x,.ref C]) >>= ret) _ _ _
 refine aAB (aAY (aEQ (class_get X I ?_ (aAD ?_))))
 ·have:=F.mro (.type "object");exact this
 ·show wpAny _ _ (handedOut (.ref C)) _ _ _
  rw[handedOut_of rfl]
  exact aAD (aAD h)
theorem wQ(F:Xc K c C LE):KitX K (.ref x) (.ref C) (λh=>InstAt h x ox C od)where
 ty:=λ_ _ _ I=>I.type
 it:=λ_ _ X _=>by
  obtain⟨cd,hc,_⟩:=F.cd
  unfold clsIn at hc
  split at hc
  ·rename_i c' d' cd' sl' ho
   intro A' Q' E' s' k q
   unfold isType loadHead
   exact aAB (wpAny_loadPart (k _ _ (X _ _ ho)) (aAD q))
  ·cases hc
 ne:=λh tp dd its n sl X htp=>by
  obtain⟨cd,hc,_⟩:=F.cd
  refine Bool.eq_false_iff.mpr λq=>?_
  cases Value.ref.inj (aEM.mp q)
  unfold clsIn at hc
  split at hc
  ·rename_i c' d' cd' sl' ho
   cases(X _ _ ho).symm.trans htp
  ·cases hc
 ca:=λX I k=>xclass F X I k
noncomputable def clV:V->Option Value
 |.ref a=>some (.ref a)
 |.ty n=>some (.type n)
 |_=>none
theorem zK{v:V}{c:Value}(h:clV v=some c)(r:RelV v u):u=c:=by
 cases v <;> simp only[clV,aAQ,reduceCtorEq]at h <;> (subst h;exact r)
variable{σ:List (Option V)}
theorem vY{f:Str}{u:V}(I:Inv X pins σ H s)(he:H x=some (XO x C d))(hd:d=none\/∃dx fs,d=some dx/\H dx=some (.xd fs)):∃ox od,InstAt s.heap x ox C od:=by
 obtain⟨vs,sl,q⟩:=XO.at I.hok he
 rcases hd with rfl|⟨dx,fs,rfl,hx⟩
 ·exact⟨_,none,q,rfl,rfl,trivial⟩
 ·obtain⟨mA,n,_⟩:=(show ObjOk X.prog X.w H s.heap dx (.xd fs)from I.hok dx _ hx)
  obtain⟨od,ho,_⟩:=mY n
  exact⟨_,some od,q,rfl,rfl,ho⟩
noncomputable section
def rIsX(K:Frag):List V->Hp->VK->Prop:=λxs H Q=>∃x C LE c d y cv b,xs=[.ref x,y]/\H x=some (XO x C d)/\(d=none\/∃dx fs,d=some dx/\H dx=some (.xd fs))/\Xc K c C LE/\clV y=some cv/\kitOne K (.ref C) cv=some b/\Q (.bl b) H
def rIsXs(K:Frag):List V->Hp->VK->Prop:=λxs H Q=>∃x C LE c d tp ys cvs b,xs=[.ref x,.ref tp]/\H x=some (XO x C d)/\(d=none\/∃dx fs,d=some dx/\H dx=some (.xd fs))/\Xc K c C LE/\H tp=some (.tup ys)/\ys.map clV=cvs.map some/\kitAny K (.ref C) cvs=some b/\Q (.bl b) H
theorem aDa:CallR X (.builtin "isinstance") (rIsX X.K):=by
 intro pins s σ H xs us Q I r h
 obtain⟨x,C,LE,c,d,y,cv,b,ex,hx,hd,F,hy,ek,q⟩:=h
 subst ex
 obtain⟨u,w',rfl,r1,r2⟩:=Vals.two r
 cases(show u=Value.ref x from r1)
 cases zK hy r2
 obtain⟨ox,od,J⟩:=vY (f:=c) (u:=y) I hx hd
 exact kia_one (wQ (od:=od) (ox:=ox) F) I.kIn J ek (λz=>nomatch z) λtk=>⟨.bl b,H,I.tok tk,rfl,q⟩
theorem vN:∀{ys:List V} {us cvs:List Value},ys.map clV=cvs.map some->Vals ys us->us=cvs
 |[],us,cvs,h,r=>by cases r;cases cvs with|nil=>rfl|cons=>simp at h
 |y::ys,us,cvs,h,r=>by
  cases r with
  |cons r1 r2 =>
   cases cvs with
   |nil=>simp at h
   |cons cv cvs =>
    simp only[aAV,List.cons.injEq]at h
    rw[zK h.1 r1,vN h.2 r2]
theorem aCw:CallR X (.builtin "isinstance") (rIsXs X.K):=by
 intro pins s σ H xs us Q I r h
 obtain⟨x,C,LE,c,d,tp,ys,cvs,b,ex,hx,hd,F,ht,hy,ek,q⟩:=h
 subst ex
 obtain⟨u,w',rfl,r1,r2⟩:=Vals.two r
 cases(show u=Value.ref x from r1)
 cases(show w'=Value.ref tp from r2)
 obtain⟨_,its,rv,o,ho,oc,n,od'⟩:=(show ObjOk X.prog X.w H s.heap tp (.tup ys)from I.hok tp _ ht)
 cases vN hy rv
 obtain⟨ox,od,J⟩:=vY (f:=c) (u:=.non) I hx hd
 obtain⟨c0,d0,dt0,sl0⟩:=o
 dsimp only at oc od'
 subst oc od'
 exact kia_tup (wQ (od:=od) (ox:=ox) F) I.kIn J ho ek (λz=>nomatch z) λtk=>⟨.bl b,H,I.tok tk,rfl,q⟩
def tXget(K:Frag)(te:TE)(f:Str):TE:=λσ H Q=>te σ H λv H1=>∃x C LE c dx y,v=.ref x/\H1 x=some (XO x C (some dx))/\H1 dx=some (.xd [(f,y)])/\Xc K c C LE/\findIn K (.ref C) f=some none/\(∀i,y≠.ty i)/\Q y H1
end
theorem aHv{e:Expr}(he:PE X e te)(hb:attributeBase e f X.env (eval e X.env)=eval e X.env:=by rfl):PE X (.Attribute e f pos) (tXget X.K te f):=by
 intro pins s σ H Q I h
 refine aIi hb (thn (he pins s σ H _ I h) λu s1 ⟨v,H1,I1,rx,x,C,LE,c,dx,y,ex,hx,hd,F,hn,ny,q⟩=>?_)
 subst ex
 cases(show u=Value.ref x from rx)
 obtain⟨vs,sl,z⟩:=XO.at I1.hok hx
 obtain⟨mA,n,hr⟩:=(show ObjOk X.prog X.w H1 s1.heap dx (.xd [(f,y)])from I1.hok dx _ hd)
 have hf:=hr f
 simp only[List.lookup,aGN]at hf
 cases hm:mA f with
 |none=>rw[hm]at hf;exact hf.elim
 |some w =>
  rw[hm]at hf
  obtain⟨cd,hc,_,hmro⟩:=F.cd
  refine xget I1.kIn z n hc hmro F.hd F.ga F.gh hn hm ?_ ⟨y,H1,I1.tok _,hf,q⟩
  cases y <;> first|(cases hf;rfl)|(obtain⟨t,rfl⟩:=hf;rfl)|(cases(show w=_ from hf);rfl)
end L2
namespace EV
open L2
noncomputable abbrev St:=L2.St
inductive D where
 |non|bl (b:Bool)|int (i:Int)|str (x:Str)|tup (xs:List D)|lst (xs:List D)|fz (xs:List D)
 |exn (c f:Str) (xs:List D)
inductive W where
 |d (x:D)|ref (i:Nat)
 |ob (c:Str) (i:Nat)|nest (js:List Nat)
noncomputable section
abbrev Lc:=List (Option W)
abbrev Mm:=List (List D)
abbrev Exn:=D
end
inductive Oc(α:Type)where
 |ok (a:α) (M:Mm)|ex (x:Exn) (M:Mm)|bad
noncomputable def Oc.bind(o:Oc α)(k:α->Mm->Oc β):Oc β:=match o with
 |.ok a M=>k a M
 |.ex x M=>.ex x M
 |.bad=>.bad
@[simp]theorem eW(a:α)(M:Mm)(k:α->Mm->Oc β):(Oc.ok a M).bind k=k a M:=rfl
@[simp]theorem aKc(x:Exn)(M:Mm)(k:α->Mm->Oc β):(Oc.ex x M:Oc α).bind k=.ex x M:=rfl
@[simp]theorem aQa(k:α->Mm->Oc β):(Oc.bad:Oc α).bind k=.bad:=rfl
section
variable(K:Frag)(μ:List Addr)(H:Hp)
noncomputable def FzL(a:Addr)(vs:List V):Prop:=(∃o,H a=some (.frz o (.lst vs))) \/
 ∃(o:Obj) (its:Array Value) (n:Nat),K.lookup a=some o/\o.cls=.type "list"/\o.dict=none/\o.data=.seq its n/\its.size<=sizeLine/\Vals vs its.toList
noncomputable def XFl(C:Addr)(f:Str)(d:Option Addr)(vs:List V):Prop:=(d=none/\vs=[])\/∃dx u,d=some dx/\vs=[u]/\H dx=some (.xd [(f,u)])/\PySem.W.findIn K (.ref C) f=some none
mutual
noncomputable def Rp:D->V->Prop
 |.non,v=>v=.non
 |.bl b,v=>v=.bl b
 |.int i,v=>v=.int i
 |.str x,v=>v=.str x
 |.tup ds,v=>∃a vs,v=.ref a/\H a=some (.tup vs)/\Rps ds vs
 |.lst ds,v=>∃a vs,v=.ref a/\H a=some (.lst vs)/\a∉μ/\Rps ds vs
 |.fz ds,v=>∃a vs,v=.ref a/\FzL K H a vs/\Rps ds vs
 |.exn c f ds,v=>∃a vs C LE d,v=.ref a/\H a=some (XO a C d)/\Xc K c C LE/\XFl K H C f d vs/\Rps ds vs
noncomputable def Rps:List D->List V->Prop
 |[],vs=>vs=[]
 |d::ds,vs=>∃v r,vs=v::r/\Rp d v/\Rps ds r
end
noncomputable section
def IsL(H:Hp)(a:Addr):Prop:=∃vs,H a=some (.lst vs)
def IsO(c:Str)(H:Hp)(a:Addr):Prop:=(∃C dx fs,H a=some (.ins C dx fs)/\nsIn K mainGlobals c=some (some (.ref C)))\/(c="dict"/\∃kvs,H a=some (.dT kvs))
def Rjs:List Nat->List V->Prop
 |[],vs=>vs=[]
 |j::js,vs=>∃a r,vs=.ref a::r/\μ[j]?=some a/\IsL H a/\Rjs js r
def Rw:W->V->Prop
 |.d x,v=>Rp K μ H x v
 |.ref i,v=>∃a,μ[i]?=some a/\v=.ref a/\IsL H a
 |.ob c i,v=>∃a,μ[i]?=some a/\v=.ref a/\IsO K c H a
 |.nest js,v=>∃a vs,v=.ref a/\H a=some (.lst vs)/\a∉μ/\Rjs μ H js vs
def Frs:List D->List (Str×V)->Prop
 |[],fs=>fs=[]
 |d::ds,fs=>∃f x v r,d=.tup [.str f,x]/\fs=(f,v)::r/\Rp K μ H x v/\Frs ds r
def kyD:Key->D
 |.inl i=>.int i
 |.inr x=>.str x
def Krs:List D->List (List Key×V)->Prop
 |[],fs=>fs=[]
 |d::ds,fs=>∃k x v r,d=.tup [.tup (k.map kyD),x]/\fs=(k,v)::r/\Rp K μ H x v/\Krs ds r
def CelO:HO->List D->Prop
 |.lst vs,ds=>Rps K μ H ds vs
 |.ins _ _ fs,ds=>Frs K μ H ds fs
 |.dT kvs,ds=>Krs K μ H ds kvs
 |_,_=>False
def Rws:List W->List V->Prop
 |[],vs=>vs=[]
 |d::ds,vs=>∃v r,vs=v::r/\Rw K μ H d v/\Rws ds r
end
structure HR(M:Mm):Prop where
 len:μ.length=M.length
 nd:μ.Nodup
 ent:∀(i:Nat) (a:Addr) (ds:List D),μ[i]?=some a->M[i]?=some ds->∃o,H a=some o/\CelO K μ H o ds
structure LR(L:Lc)(σ:St):Prop where
 len:L.length=σ.length
 ent:∀(i:Nat) (w:W),L[i]?=some (some w)->∃v,σ[i]?=some (some v)/\Rw K μ H w v
end
structure SameK(o o':HO):Prop where
 l:∀vs,o=.lst vs->∃us,o'=.lst us
 i:∀C dx fs,o=.ins C dx fs->∃gs,o'=.ins C dx gs
 t:∀kvs,o=.dT kvs->∃ls,o'=.dT ls
variable{o:HO}
theorem SameK.refl:SameK o o:=⟨λ_ h=>⟨_,h⟩,λ_ _ _ h=>⟨_,h⟩,λ_ h=>⟨_,h⟩⟩
theorem SameK.trans{p q:HO}(a:SameK o p)(b:SameK p q):SameK o q:=⟨λ_ h=>let⟨_,h⟩:=a.l _ h;b.l _ h,λ_ _ _ h=>let⟨_,h⟩:=a.i _ _ _ h;b.i _ _ _ h,λ_ h=>let⟨_,h⟩:=a.t _ h;b.t _ h⟩
structure Ext(μ:List Addr)(H:Hp)(μ':List Addr)(H':Hp):Prop where
 keep:∀a o,a∉μ->H a=some o->H' a=some o
 new:∀a,a∈μ'->a∈μ\/H a=none
 pre:∀(i:Nat) (a:Addr),μ[i]?=some a->μ'[i]?=some a
 kin:∀a o,H a=some o->∃o',H' a=some o'/\SameK o o'
variable{K:Frag}{μ2:List Addr}{M:Mm}
theorem FzL.sq(h:FzL K H a vs):SqL K H a vs:=by
 rcases h with⟨o,h⟩|h
 ·exact .inl (.inr ⟨o,h⟩)
 ·exact .inr h
theorem Ext.refl:Ext μ H μ H:=⟨λ_ _ _ h=>h,λ_ h=>.inl h,λ_ _ h=>h,λ_ _ h=>⟨_,h,.refl⟩⟩
theorem Ext.out(e:Ext μ H μ1 H1)(h:H a=some o)(n:a∉μ):a∉μ1:=λz=>by
 rcases e.new a z with z|z
 ·exact n z
 ·rw[h]at z;cases z
theorem Ext.trans(e:Ext μ H μ1 H1)(f:Ext μ1 H1 μ2 H2):Ext μ H μ2 H2 where
 keep:=λa o n h=>f.keep a o (e.out h n) (e.keep a o n h)
 new:=λa h=>by
  rcases f.new a h with h|h
  ·exact e.new a h
  ·by_cases n:a∈μ
   ·exact .inl n
   ·cases q:H a with
    |none=>exact .inr rfl
    |some o=>rw[e.keep a o n q]at h;cases h
 pre:=λi a h=>f.pre i a (e.pre i a h)
 kin:=λa o h=>let⟨_,h1,k1⟩:=e.kin a o h;let⟨_,h2,k2⟩:=f.kin a _ h1;⟨_,h2,k1.trans k2⟩
noncomputable def MutO:HO->Prop
 |.lst _=>True
 |.ins _ _ _=>True
 |.dT _=>True
 |_=>False
theorem CelO.mut{ds:List D}(h:CelO K μ H o ds):MutO o:=by cases o <;> first|exact h.elim|trivial
noncomputable def Lsts(μ:List Addr)(H:Hp):Prop:=∀a∈μ,∃o,H a=some o/\MutO o
theorem HR.lsts(h:HR K μ H M):Lsts μ H:=λa ha=>by
 obtain⟨i,hi,e⟩:=aEA.mp ha
 have hM:i < M.length:=h.len▸hi
 obtain⟨vs,q,m⟩:=h.ent i a M[i] (by rw[aEF hi,e]) (by simp[hM])
 exact⟨vs,q,m.mut⟩
theorem FzL.ext(l:Lsts μ H)(e:Ext μ H μ1 H1)(h:FzL K H a vs):FzL K H1 a vs:=by
 rcases h with⟨o,h⟩|h
 ·exact .inl ⟨o,e.keep a _ (λz=>by obtain⟨vs,q,m⟩:=l a z;rw[h]at q;cases q;exact m) h⟩
 ·exact .inr h
theorem XFl.ext{f:Str}(l:Lsts μ H)(e:Ext μ H μ1 H1)(h:XFl K H C f d vs):XFl K H1 C f d vs:=by
 rcases h with h|⟨dx,u,h1,h2,h3,h4⟩
 ·exact .inl h
 ·exact .inr ⟨dx,u,h1,h2,e.keep dx _ (λz=>by obtain⟨vs,q,m⟩:=l dx z;rw[h3]at q;cases q;exact m) h3,h4⟩
mutual
theorem Rp.ext(l:Lsts μ H)(e:Ext μ H μ1 H1):∀(d:D) (v:V),Rp K μ H d v->Rp K μ1 H1 d v
 |.non,v,h=>by simpa[Rp]using h
 |.bl b,v,h=>by simpa[Rp]using h
 |.int b,v,h=>by simpa[Rp]using h
 |.str b,v,h=>by simpa[Rp]using h
 |.tup ds,v,h=>by
  simp only[Rp]at h ⊢
  obtain⟨a,vs,e1,e2,e3⟩:=h
  exact⟨a,vs,e1,e.keep _ _ (λz=>by obtain⟨us,q,m⟩:=l a z;rw[e2]at q;cases q;exact m) e2,Rps.ext l e ds vs e3⟩
 |.lst ds,v,h=>by
  simp only[Rp]at h ⊢
  obtain⟨a,vs,e1,e2,n,e3⟩:=h
  exact⟨a,vs,e1,e.keep _ _ n e2,e.out e2 n,Rps.ext l e ds vs e3⟩
 |.fz ds,v,h=>by
  simp only[Rp]at h ⊢
  obtain⟨a,vs,e1,e2,e3⟩:=h
  exact⟨a,vs,e1,FzL.ext l e e2,Rps.ext l e ds vs e3⟩
 |.exn c f ds,v,h=>by
  simp only[Rp]at h ⊢
  obtain⟨a,vs,C,LE,d,e1,e2,e3,e4,e5⟩:=h
  exact⟨a,vs,C,LE,d,e1,e.keep _ _ (λz=>by obtain⟨us,q,m⟩:=l a z;rw[e2]at q;cases q;exact m) e2,e3,XFl.ext l e e4,Rps.ext l e ds vs e5⟩
theorem Rps.ext(l:Lsts μ H)(e:Ext μ H μ1 H1):∀(ds:List D) (vs:List V),Rps K μ H ds vs->Rps K μ1 H1 ds vs
 |[],vs,h=>by simpa[Rps]using h
 |d::ds,vs,h=>by
  simp only[Rps]at h ⊢
  obtain⟨v,r,e1,e2,e3⟩:=h
  exact⟨v,r,e1,Rp.ext l e d v e2,Rps.ext l e ds r e3⟩
end
theorem IsL.ext(e:Ext μ H μ1 H1)(h:IsL H a):IsL H1 a:=by
 obtain⟨vs,h⟩:=h
 obtain⟨o,h1,k⟩:=e.kin a _ h
 obtain⟨us,rfl⟩:=k.l _ rfl
 exact⟨us,h1⟩
theorem IsO.ext(e:Ext μ H μ1 H1){c:Str}(h:IsO K c H a):IsO K c H1 a:=by
 rcases h with⟨C,dx,fs,h,n⟩|⟨hc,kvs,h⟩
 ·obtain⟨o,h1,k⟩:=e.kin a _ h
  obtain⟨gs,rfl⟩:=k.i _ _ _ rfl
  exact .inl ⟨C,dx,gs,h1,n⟩
 ·obtain⟨o,h1,k⟩:=e.kin a _ h
  obtain⟨gs,rfl⟩:=k.t _ rfl
  exact .inr ⟨hc,gs,h1⟩
theorem Rjs.ext(e:Ext μ H μ1 H1):∀{js:List Nat} {vs:List V},Rjs μ H js vs->Rjs μ1 H1 js vs
 |[],_,h=>h
 |_::_,_,⟨a,r,e1,e2,e3,e4⟩=>⟨a,r,e1,e.pre _ _ e2,e3.ext e,Rjs.ext e e4⟩
theorem Frs.ext(l:Lsts μ H)(e:Ext μ H μ1 H1):∀{ds:List D} {fs:List (Str×V)},Frs K μ H ds fs->Frs K μ1 H1 ds fs
 |[],_,h=>h
 |_::_,_,⟨f,x,v,r,e1,e2,e3,e4⟩=>⟨f,x,v,r,e1,e2,Rp.ext l e _ _ e3,Frs.ext l e e4⟩
theorem Krs.ext(l:Lsts μ H)(e:Ext μ H μ1 H1):∀{ds:List D} {fs:List (List Key×V)},Krs K μ H ds fs->Krs K μ1 H1 ds fs
 |[],_,h=>h
 |_::_,_,⟨f,x,v,r,e1,e2,e3,e4⟩=>⟨f,x,v,r,e1,e2,Rp.ext l e _ _ e3,Krs.ext l e e4⟩
theorem CelO.ext(l:Lsts μ H)(e:Ext μ H μ1 H1){o:HO}{ds:List D}(h:CelO K μ H o ds):CelO K μ1 H1 o ds:=by
 cases o <;> first|exact h.elim|skip
 ·exact Rps.ext l e _ _ h
 ·exact Krs.ext l e h
 ·exact Frs.ext l e h
theorem Rw.ext(l:Lsts μ H)(e:Ext μ H μ1 H1){w:W}{v:V}(h:Rw K μ H w v):Rw K μ1 H1 w v:=by
 cases w with
 |d x=>exact Rp.ext l e x v h
 |ref i=>obtain⟨a,h1,h2,h3⟩:=h;exact⟨a,e.pre i a h1,h2,h3.ext e⟩
 |ob c i=>obtain⟨a,h1,h2,h3⟩:=h;exact⟨a,e.pre i a h1,h2,h3.ext e⟩
 |nest js=>obtain⟨a,vs,h1,h2,h3,h4⟩:=h;exact⟨a,vs,h1,e.keep _ _ h3 h2,e.out h2 h3,h4.ext e⟩
theorem LR.ext(l:Lsts μ H)(e:Ext μ H μ1 H1){L:Lc}{σ:St}(h:LR K μ H L σ):LR K μ1 H1 L σ :=
 ⟨h.len,λi w q=>let⟨v,q1,q2⟩:=h.ent i w q;⟨v,q1,Rw.ext l e q2⟩⟩
theorem Rps.length:∀{ds:List D} {vs:List V},Rps K μ H ds vs->ds.length=vs.length
 |[],_,h=>by simp only[Rps]at h;subst h;rfl
 |_::_,_,h=>by simp only[Rps]at h;obtain⟨v,r,e1,_,e3⟩:=h;subst e1;simp[Rps.length e3]
theorem Rps.get:∀{ds:List D} {vs:List V} {i:Nat} {d:D},Rps K μ H ds vs->ds[i]?=some d->∃v,vs[i]?=some v/\Rp K μ H d v
 |[],_,_,_,_,q=>by simp at q
 |_::_,_,0,_,h,q=>by simp only[Rps]at h;obtain⟨v,r,e1,e2,e3⟩:=h;simp at q;subst q e1;exact⟨v,rfl,e2⟩
 |_::_,_,i+1,_,h,q=>by
  simp only[Rps]at h;obtain⟨v,r,e1,e2,e3⟩:=h;subst e1
  obtain⟨u,q1,q2⟩:=Rps.get (i:=i) e3 (by simpa using q)
  exact⟨u,by simpa using q1,q2⟩
theorem Rps.nil:Rps K μ H [] []:=by simp[Rps]
theorem Rps.cons{d:D}{v:V}{ds:List D}{vs:List V}(h:Rp K μ H d v)(t:Rps K μ H ds vs):Rps K μ H (d::ds) (v::vs):=by simp only[Rps];exact⟨v,vs,rfl,h,t⟩
theorem Rps.append:∀{ds es:List D} {vs us:List V},Rps K μ H ds vs->Rps K μ H es us->Rps K μ H (ds++es) (vs++us)
 |[],_,_,_,h,t=>by simp only[Rps]at h;subst h;exact t
 |_::_,_,_,_,h,t=>by simp only[Rps]at h;obtain⟨v,r,e1,e2,e3⟩:=h;subst e1;exact .cons e2 (Rps.append e3 t)
theorem Rps.drop:∀{ds:List D} {vs:List V} (n:Nat),Rps K μ H ds vs->Rps K μ H (ds.drop n) (vs.drop n)
 |_,_,0,h=>by simpa using h
 |[],_,n+1,h=>by simp only[Rps]at h;subst h;exact .nil
 |_::_,_,n+1,h=>by simp only[Rps]at h;obtain⟨v,r,e1,e2,e3⟩:=h;subst e1;simpa using Rps.drop n e3
theorem Rps.take:∀{ds:List D} {vs:List V} (n:Nat),Rps K μ H ds vs->Rps K μ H (ds.take n) (vs.take n)
 |_,_,0,h=>by simpa using Rps.nil
 |[],_,n+1,h=>by simp only[Rps]at h;subst h;exact .nil
 |_::_,_,n+1,h=>by simp only[Rps]at h;obtain⟨v,r,e1,e2,e3⟩:=h;subst e1;simpa using Rps.cons e2 (Rps.take n e3)
theorem Rps.set{d:D}{v:V}(q:Rp K μ H d v):∀{ds:List D} {vs:List V} (n:Nat),Rps K μ H ds vs->Rps K μ H (ds.set n d) (vs.set n v)
 |[],_,n,h=>by simp only[Rps]at h;subst h;simpa using Rps.nil
 |_::_,_,0,h=>by simp only[Rps]at h;obtain⟨u,r,e1,e2,e3⟩:=h;subst e1;simpa using Rps.cons q e3
 |_::_,_,n+1,h=>by simp only[Rps]at h;obtain⟨u,r,e1,e2,e3⟩:=h;subst e1;simpa using Rps.cons e2 (Rps.set q n e3)
theorem Rps.dropLast{ds:List D}{vs:List V}(h:Rps K μ H ds vs):Rps K μ H ds.dropLast vs.dropLast:=by
 rw[List.dropLast_eq_take,List.dropLast_eq_take,<- h.length];exact h.take _
theorem Rps.rep{ds:List D}{vs:List V}(h:Rps K μ H ds vs):∀k:Nat,Rps K μ H (List.replicate k ds).flatten (List.replicate k vs).flatten
 |0=>by simpa using Rps.nil
 |k+1=>by simpa[aCT]using h.append (h.rep k)
theorem Rps.ints:Rps K μ H (ns.map D.int) (ns.map V.int):=by
 induction ns with
 |nil=>exact .nil
 |cons n r ih=>exact .cons (by simp[Rp]) ih
theorem Rws.length:∀{ws:List W} {vs:List V},Rws K μ H ws vs->ws.length=vs.length
 |[],_,h=>by cases h;rfl
 |_::_,_,⟨v,r,e1,_,e3⟩=>by subst e1;simp[Rws.length e3]
theorem Rws.get:∀{ws:List W} {vs:List V} {i:Nat} {w:W},Rws K μ H ws vs->ws[i]?=some w->∃v,vs[i]?=some v/\Rw K μ H w v
 |[],_,_,_,_,q=>by simp at q
 |_::_,_,0,_,⟨v,r,e1,e2,e3⟩,q=>by simp at q;subst q e1;exact⟨v,rfl,e2⟩
 |_::_,_,i+1,_,⟨v,r,e1,e2,e3⟩,q=>by
  subst e1
  obtain⟨u,q1,q2⟩:=Rws.get (i:=i) e3 (by simpa using q)
  exact⟨u,by simpa using q1,q2⟩
variable{p:Addr}
theorem HR.out(h:HR K μ H M)(hp:H p=none):p∉μ:=λz=>by
 obtain⟨vs,q,_⟩:=h.lsts p z
 rw[hp]at q;cases q
theorem fS(h:HR K μ H M)(hp:H p=none):Ext μ H μ (upd H p o) :=
 ⟨λa u n q=>by rw[aU (bE q hp)];exact q,λa q=>.inl q,λ_ _ q=>q,λa u q=>⟨u,by rw[aU (bE q hp)];exact q,.refl⟩⟩
theorem HR.lay(h:HR K μ H M)(hp:H p=none):HR K μ (upd H p o) M where
 len:=h.len
 nd:=h.nd
 ent:=λi a ds q1 q2=>by
  obtain⟨vs,q3,q4⟩:=h.ent i a ds q1 q2
  exact⟨vs,by rw[aU (bE q3 hp)];exact q3,CelO.ext h.lsts (fS h hp) q4⟩
theorem wH(h:HR K μ H M)(hp:H p=none):Ext μ H (μ++[p]) (upd H p o)where
 keep:=λa u n q=>by rw[aU (bE q hp)];exact q
 new:=λa q=>by
  rcases aBH.mp q with q|q
  ·exact .inl q
  ·rw[aBO]at q;subst q;exact .inr hp
 pre:=λi a q=>by
  rw[aAX (aAE.mp q).1];exact q
 kin:=λa u q=>⟨u,by rw[aU (bE q hp)];exact q,.refl⟩
theorem aAo(h:HR K μ H M)(hp:H p=none):Ext μ H (μ++[p]) (upd H p (.lst vs)):=wH h hp
theorem HR.newO(h:HR K μ H M){ds:List D}(hp:H p=none)(r:CelO K μ H o ds):HR K (μ++[p]) (upd H p o) (M++[ds])where
 len:=by simp[h.len]
 nd:=List.nodup_append.mpr ⟨h.nd,by simp,λa ha b hb=>by rw[aBO]at hb;subst hb;rintro rfl;exact h.out hp ha⟩
 ent:=λi a es q1 q2=>by
  have x:=wH (o:=o) h hp
  by_cases hi:i < μ.length
  ·rw[aAX hi]at q1
   rw[aAX (by rw[<- h.len];exact hi)]at q2
   obtain⟨us,q3,q4⟩:=h.ent i a es q1 q2
   exact⟨us,by rw[aU (bE q3 hp)];exact q3,CelO.ext h.lsts x q4⟩
  ·have:i=μ.length:=by
    have:=(aAE.mp q1).1
    simp at this;lia
   subst this
   rw[aCN (aAI _)]at q1
   rw[h.len,aCN (aAI _)]at q2
   simp at q1 q2
   subst q1 q2
   exact⟨o,bB,CelO.ext h.lsts x r⟩
theorem HR.new(h:HR K μ H M){ds:List D}(hp:H p=none)(r:Rps K μ H ds vs):HR K (μ++[p]) (upd H p (.lst vs)) (M++[ds]):=h.newO hp (o:=.lst vs) r
theorem wD{o':HO}(q:μ[i]?=some a)(ho:H a=some o')(k:SameK o' o):Ext μ H μ (upd H a o) :=
 ⟨λb u n q'=>by rw[aU (λz=>n (by subst z;exact aCD q))];exact q',λa q=>.inl q,λ_ _ q=>q,λb u q'=>by
  by_cases e:b=a
  ·subst e;rw[ho]at q';cases q';exact⟨o,bB,k⟩
  ·exact⟨u,by rw[aU e];exact q',.refl⟩⟩
theorem SameK.lst{vs us:List V}:SameK (.lst vs) (.lst us):=⟨λ_ _=>⟨us,rfl⟩,λ_ _ _ h=>(nomatch h),λ_ h=>(nomatch h)⟩
theorem dN(q:μ[i]?=some a)(hl:IsL H a:=by first|assumption|exact⟨_,by assumption⟩):Ext μ H μ (upd H a (.lst vs)):=let⟨_,h⟩:=hl;wD q h .lst
theorem HR.setO(h:HR K μ H M){ds:List D}{o':HO}(q:μ[i]?=some a)(ho:H a=some o')(k:SameK o' o)(r:CelO K μ H o ds):HR K μ (upd H a o) (M.set i ds)where
 len:=by simp[h.len]
 nd:=h.nd
 ent:=λj b es q1 q2=>by
  have x:=wD (H:=H) (o:=o) q ho k
  by_cases hj:i=j
  ·subst hj
   rw[q]at q1;cases q1
   have hlt:i < M.length:=by rw[<- h.len];exact(aAE.mp q).1
   rw[aBT hlt]at q2;cases q2
   exact⟨o,bB,CelO.ext h.lsts x r⟩
  ·rw[aBS hj]at q2
   obtain⟨us,q3,q4⟩:=h.ent j b es q1 q2
   have hb:b≠a:=by
    rintro rfl
    have h1:=(aAE.mp q).1
    have h2:=(aAE.mp q1).1
    have e1:=(aAE.mp q).2
    have e2:=(aAE.mp q1).2
    have pw:=aDE.mp h.nd
    rcases Nat.lt_or_gt_of_ne hj with l|l
    ·exact pw i j h1 h2 l (e1.trans e2.symm)
    ·exact pw j i h2 h1 l (e2.trans e1.symm)
   exact⟨us,by rw[aU hb];exact q3,CelO.ext h.lsts x q4⟩
theorem HR.set(h:HR K μ H M){i:Nat}{a:Addr}{ds:List D}{vs:List V}(q:μ[i]?=some a)(r:Rps K μ H ds vs)(hl:IsL H a:=by first|assumption|exact⟨_,by assumption⟩):HR K μ (upd H a (.lst vs)) (M.set i ds):=let⟨_,e⟩:=hl;h.setO q e .lst (o:=.lst vs) r
theorem HR.atO(h:HR K μ H M){ds:List D}(q:M[i]?=some ds):∃a o,μ[i]?=some a/\H a=some o/\CelO K μ H o ds:=by
 have hlt:i < μ.length:=by rw[h.len];exact(aAE.mp q).1
 obtain⟨vs,q1,q2⟩:=h.ent i μ[i] ds (by simp[hlt]) q
 exact⟨μ[i],vs,by simp[hlt],q1,q2⟩
theorem HR.at(h:HR K μ H M){i:Nat}{ds:List D}(q:M[i]?=some ds){a':Addr}(qa:μ[i]?=some a')(hl:IsL H a':=by assumption):∃a vs,μ[i]?=some a/\H a=some (.lst vs)/\Rps K μ H ds vs:=by
 obtain⟨a,o,q1,q2,q3⟩:=h.atO q
 rw[qa]at q1;cases q1
 obtain⟨vs,hl⟩:=hl
 rw[hl]at q2;cases q2
 exact⟨a',vs,qa,hl,q3⟩
structure Zt where
 z:Exn->Mm->List Addr->Hp->Prop
 mono:∀{x M μ H μ' H':_},Ext μ H μ' H'->z x M μ H->z x M μ' H'
noncomputable def Z0:Zt:=⟨λ_ _ _ _=>False,λ_ h=>h⟩
noncomputable def Pst(K:Frag)(Z:Zt)(μ:List Addr)(H:Hp)(o:Oc α)(Q:List Addr->Hp->Mm->α->Prop):Prop:=match o with
 |.ok a M'=>∀μ' H',Ext μ H μ' H'->HR K μ' H' M'->Q μ' H' M' a
 |.ex x M'=>Z.z x M' μ H
 |.bad=>False
variable{α β:Type}{K:Frag}{Z:Zt}{o:Oc α}{Q Q':List Addr->Hp->Mm->α->Prop}
theorem Pst.mono(e:Ext μ H μ1 H1)(h:Pst K Z μ H o Q):Pst K Z μ1 H1 o Q:=by
 cases o with
 |ok a M=>exact λμ' H' e' hr=>h μ' H' (e.trans e') hr
 |ex x M=>exact Z.mono e h
 |bad=>exact h
theorem Pst.imp(h:Pst K Z μ H o Q)(f:∀μ' H' M' a,Ext μ H μ' H'->HR K μ' H' M'->o=.ok a M'->Q μ' H' M' a->Q' μ' H' M' a):Pst K Z μ H o Q':=by
 cases o with
 |ok a M=>exact λμ' H' e' hr=>f μ' H' M a e' hr rfl (h μ' H' e' hr)
 |ex x M=>exact h
 |bad=>exact h
theorem Pst.bind{k:α->Mm->Oc β}{R:List Addr->Hp->Mm->β->Prop}(h:Pst K Z μ H (o.bind k) R):Pst K Z μ H o (λμ' H' M' a=>Pst K Z μ' H' (k a M') R):=by
 cases o with
 |ok a M=>exact λμ' H' e' hr=>Pst.mono e' h
 |ex x M=>exact h
 |bad=>exact h
noncomputable section
abbrev FE:=Lc->Mm->Oc W
abbrev FT:=Lc->Mm->Oc Bool
abbrev FA:=Lc->Mm->Oc (List W)
end
inductive Out where
 |nx (L:Lc)|bk (L:Lc)|ct (L:Lc)|rt (w:W)
noncomputable section
abbrev FS:=Lc->Mm->Oc Out
abbrev FG:=W->Lc->Mm->Oc Lc
abbrev FGs:=List D->Lc->Mm->Oc Lc
abbrev Fn:=List W->Mm->Oc W
end
section
variable(K:Frag)(Z:Zt)
noncomputable section
def lift(f:FE):TE:=λσ H Q=>∃μ M L,HR K μ H M/\LR K μ H L σ/\Pst K Z μ H (f L M) λμ' H' _ w=>∀v,Rw K μ' H' w v->Q v H'
def liftT(f:FT):TT:=λσ H Q=>∃μ M L,HR K μ H M/\LR K μ H L σ/\Pst K Z μ H (f L M) λμ' H' M' b=>Q b H'
def liftA(f:FA):TA:=λσ H Q=>∃μ M L,HR K μ H M/\LR K μ H L σ/\Pst K Z μ H (f L M) λμ' H' _ ws=>∀vs,Rws K μ' H' ws vs->Q vs H'
end
end
section
variable(X:Cx)(K:Frag)(Z:Zt)
noncomputable section
abbrev Sk(K:Frag)(E:Ends)(μ':List Addr)(H':Hp)(_:Mm)(o:Out):Prop:=match o with
 |.nx L'=>∀σ',LR K μ' H' L' σ'->E.nx σ' H'
 |.bk L'=>∀σ',LR K μ' H' L' σ'->E.bk σ' H'
 |.ct L'=>∀σ',LR K μ' H' L' σ'->E.ct σ' H'
 |.rt w=>∀v,Rw K μ' H' w v->E.rt v H'
def liftS(F:FS):TS:=λE σ H=>∃μ M L,HR K μ H M/\LR K μ H L σ/\Pst K Z μ H (F L M) (Sk K E)
def liftG(g:FG):TG:=λv σ H Q=>∃μ M L w,HR K μ H M/\LR K μ H L σ/\Rw K μ H w v/\Pst K Z μ H (g w L M) λμ' H' _ L'=>∀σ',LR K μ' H' L' σ'->Q σ' H'
def liftGs(g:FGs):TGs:=λvs σ H Q=>∃μ M L ds,HR K μ H M/\LR K μ H L σ/\Rps K μ H ds vs/\Pst K Z μ H (g ds L M) λμ' H' _ L'=>∀σ',LR K μ' H' L' σ'->Q σ' H'
end
structure Ev(e:Expr)(f:FE):Prop where
 k:X.K=K
 h:PE X e (lift K Z f)
structure Et(e:Expr)(f:FT):Prop where
 k:X.K=K
 h:PT X e (liftT K Z f)
structure Ew(e:Expr)(f:FT):Prop where
 k:X.K=K
 h:PW X e (liftT K Z f)
structure Ea(es:List Expr)(f:FA):Prop where
 k:X.K=K
 h:PA X es (liftA K Z f)
structure Es(st:Stmt)(F:FS):Prop where
 k:X.K=K
 h:PS X st (liftS K Z F)
structure Ess(st:List Stmt)(F:FS):Prop where
 k:X.K=K
 h:PSs X st (liftS K Z F)
structure Eg(tg:Expr)(g:FG):Prop where
 k:X.K=K
 h:PG X tg (liftG K Z g)
structure Egs(tg:List Expr)(g:FGs):Prop where
 k:X.K=K
 h:PGs X tg (liftGs K Z g)
end
section
variable{K:Frag}{e a b:Expr}{es:List Expr}{f fa fb fc:FE}{t ta tb:FT}{fs:FA}
theorem cqE{t t':TE}(h:PE X e t)(i:∀σ H Q,t' σ H Q->t σ H Q):PE X e t':=λpins s σ H Q I q=>h pins s σ H Q I (i _ _ _ q)
theorem cqT{t t':TT}(h:PT X e t)(i:∀σ H Q,t' σ H Q->t σ H Q):PT X e t':=λpins s σ H Q I q=>h pins s σ H Q I (i _ _ _ q)
theorem cqW{t t':TT}(h:PW X e t)(i:∀σ H Q,t' σ H Q->t σ H Q):PW X e t':=λwh pins s σ H Q I q=>h wh pins s σ H Q I (i _ _ _ q)
theorem cqA{t t':TA}(h:PA X es t)(i:∀σ H Q,t' σ H Q->t σ H Q):PA X es t':=λp pins s σ H Q I q=>h p pins s σ H Q I (i _ _ _ q)
theorem cqS{t t':TS}(h:PS X st t)(i:∀E σ H,t' E σ H->t E σ H):PS X st t':=λpins s σ H E I q=>h pins s σ H E I (i _ _ _ q)
theorem cqSs{st:List Stmt}{t t':TS}(h:PSs X st t)(i:∀E σ H,t' E σ H->t E σ H):PSs X st t':=λpins s σ H E I q=>h pins s σ H E I (i _ _ _ q)
theorem cqG{t t':TG}(h:PG X e t)(i:∀v σ H Q,t' v σ H Q->t v σ H Q):PG X e t':=λpins s σ H v u Q I r q=>h pins s σ H v u Q I r (i _ _ _ _ q)
theorem cqGs{t t':TGs}(h:PGs X es t)(i:∀v σ H Q,t' v σ H Q->t v σ H Q):PGs X es t':=λpins s σ H v u Q I r q=>h pins s σ H v u Q I r (i _ _ _ _ q)
noncomputable section
def eV(i:Nat):FE:=λL M=>match L[i]? with
 |some (some w)=>.ok w M
 |_=>.bad
def eC(d:D):FE:=λ_ M=>.ok (.d d) M
theorem aA(i:Nat)(hN:X.N[i]?=some x:=by rfl)(hk:X.K=K:=by rfl)(hv:Vis X.env.scope x:=by first|exact Or.inl rfl|exact Or.inr (Or.inl rfl)|exact Or.inr (Or.inr rfl))
  (hd:(x==("__debug__":Str))=false:=by decide)(hcd:(x==("__classdict__":Str))=false:=by decide):Ev X K Z (.Name x pos) (eV i) :=
 ⟨hk,cqE (aFx hN hv hd hcd) λσ H Q ⟨μ,M,L,hr,lr,p⟩=>by
  unfold eV at p
  cases q:L[i]? with
  |none=>rw[q]at p;exact p.elim
  |some o =>
   cases o with
   |none=>rw[q]at p;exact p.elim
   |some w =>
    rw[q]at p
    obtain⟨v,q1,q2⟩:=lr.ent i w q
    exact⟨v,q1,p μ H .refl hr v q2⟩⟩
theorem aCc{d:D}(hd:∀K μ H,Rp K μ H d v)(hk:X.K=K)(h:PE X e (tC v)):Ev X K Z e (eC d) :=
 ⟨hk,cqE h λσ H Q ⟨μ,M,L,hr,lr,p⟩=>p μ H .refl hr v (hd K μ H)⟩
theorem aD{i:Int}(hk:X.K=K:=by rfl):Ev X K Z (.Constant (.int i) j pos) (eC (.int i)):=aCc (λ_ _ _=>by simp[Rp]) hk aGc
theorem jM{i:Bool}(hk:X.K=K:=by rfl):Ev X K Z (.Constant (.bool i) j pos) (eC (.bl i)):=aCc (λ_ _ _=>by simp[Rp]) hk aQr
theorem bG(hk:X.K=K:=by rfl):Ev X K Z (.Constant .none j pos) (eC .non):=aCc (λ_ _ _=>by simp[Rp]) hk aNp
theorem aO(hk:X.K=K:=by rfl):Ev X K Z (.Constant (.str x) j pos) (eC (.str x)):=aCc (λ_ _ _=>by simp[Rp]) hk yW
def e1(g:W->Mm->Oc W)(f:FE):FE:=λL M=>(f L M).bind g
def e2(g:W->W->Mm->Oc W)(f1 f2:FE):FE:=λL M=>(f1 L M).bind λx M1=>(f2 L M1).bind λy M2=>g x y M2
abbrev Wk(K:Frag)(Q:VK):List Addr->Hp->Mm->W->Prop:=λμ' H' _ w=>∀v,Rw K μ' H' w v->Q v H'
def Op2(K:Frag)(Z:Zt)(r:R2)(g:W->W->Mm->Oc W):Prop :=
 ∀(μ:List Addr) (H:Hp) (M:Mm) (x y:W) (v u:V) (Q:VK),HR K μ H M->Rw K μ H x v->Rw K μ H y u->Pst K Z μ H (g x y M) (Wk K Q)->r v u H Q
def OpG(X:Cx)(K:Frag)(Z:Zt)(f:Value->Value->Sem Value)(g:W->W->Mm->Oc W):Prop:=X.K=K->∃r,OpR X f r/\Op2 K Z r g
theorem lift2{r:R2}{g:W->W->Mm->Oc W}(hg:Op2 K Z r g):∀σ H Q,lift K Z (e2 g fa fb) σ H Q->tOp r (lift K Z fa) (lift K Z fb) σ H Q:=by
 rintro σ H Q ⟨μ,M,L,hr,lr,p⟩
 refine⟨μ,M,L,hr,lr,p.bind.imp λμ1 H1 M1 x e1 hr1 _ p1 v rx=>?_⟩
 refine⟨μ1,M1,L,hr1,lr.ext hr.lsts e1,p1.bind.imp λμ2 H2 M2 y e2 hr2 _ p2 u ry=>?_⟩
 exact hg μ2 H2 M2 x y v u Q hr2 (rx.ext hr1.lsts e2) ry p2
theorem aS{op:Operator}{g:W->W->Mm->Oc W}(ho:OpG X K Z (binaryOp op) g)(ha:Ev X K Z a fa)(hb:Ev X K Z b fb):Ev X K Z (.BinOp a op b pos) (e2 g fa fb):=by
 obtain⟨r,h1,h2⟩:=ho ha.k
 exact⟨ha.k,cqE (aQo h1 ha.h hb.h) (lift2 h2)⟩
theorem jS{g:W->W->Mm->Oc W}(ho:OpG X K Z (compareOp op) g)(ha:Ev X K Z a fa)(hb:Ev X K Z b fb)(hm:behindInMarks op b=false):Ev X K Z (.Compare a [op] [b] pos) (e2 g fa fb):=by
 obtain⟨r,h1,h2⟩:=ho ha.k
 exact⟨ha.k,cqE (aJi h1 ha.h hb.h hm) (lift2 h2)⟩
def tB(f:FE):FT:=λL M=>(f L M).bind λw M1=>match w with
 |.d (.bl b)=>.ok b M1
 |_=>.bad
theorem aI{g:W->W->Mm->Oc W}(ho:OpG X K Z (compareOp op) g)(ha:Ev X K Z a fa)(hb:Ev X K Z b fb)(hm:behindInMarks op b=false):Et X K Z (.Compare a [op] [b] pos) (tB (e2 g fa fb)):=by
 obtain⟨r,h1,h2⟩:=ho ha.k
 refine⟨ha.k,cqT (aHc h1 ha.h hb.h hm) ?_⟩
 rintro σ H Q ⟨μ,M,L,hr,lr,p⟩
 refine lift2 h2 σ H _ ⟨μ,M,L,hr,lr,p.bind.imp λμ1 H1 M1 x e1 hr1 _ p1 v rx=>?_⟩
 cases x with
 |d y=>cases y with
  |bl c=>exact⟨c,by simpa[Rw,Rp]using rx,p1 μ1 H1 .refl hr1⟩
  |_=>exact p1.elim
 |ref i=>exact p1.elim
 |ob _ _=>exact p1.elim
 |nest _=>exact p1.elim
def e3c(g g':W->W->Mm->Oc W)(f1 f2 f3:FE):FE:=λL M=>(f1 L M).bind λx M1=>(f2 L M1).bind λy M2=>(g x y M2).bind λw M3=>match w with
 |.d (.bl true)=>(f3 L M3).bind λz M4=>g' y z M4
 |.d (.bl false)=>.ok (.d (.bl false)) M3
 |_=>.bad
def tru(M:Mm):W->Option Bool
 |.d .non=>some false
 |.d (.bl b)=>some b
 |.d (.int i)=>some (i != 0)
 |.d (.str x)=>if x.length<=16777216 then some (x.length != 0)else none
 |.d (.tup xs)=>some (!xs.isEmpty)
 |.d (.lst xs)=>some (!xs.isEmpty)
 |.d (.fz xs)=>some (!xs.isEmpty)
 |.d (.exn _ _ _)=>none
 |.ref i=>(M[i]?).map λxs=>!xs.isEmpty
 |.ob _ _=>none
 |.nest _=>none
def tV(f:FE):FT:=λL M=>(f L M).bind λw M1=>match tru M1 w with
 |some b=>.ok b M1
 |none=>.bad
theorem emp{ds:List D}(r:Rps K μ H ds vs):(!ds.isEmpty)=!vs.isEmpty:=by
 have:=r.length
 cases ds <;> cases vs <;> simp_all
theorem aQw{w:W}{b:Bool}(hr:HR K μ H M)(r:Rw K μ H w v)(h:tru M w=some b):TruV K v H b:=by
 cases w with
 |ref i =>
  obtain⟨a,q,rfl,il⟩:=r
  simp only[tru,aAR]at h
  obtain⟨xs,h1,rfl⟩:=h
  obtain⟨a',vs,q1,q2,q3⟩:=hr.at h1 q
  rw[q]at q1;cases q1
  exact .inl ⟨vs,SqL.of q2,emp q3⟩
 |ob _ _=>simp[tru]at h
 |nest _=>simp[tru]at h
 |d x =>
  cases x with
  |non=>simp only[Rw,Rp]at r;subst r;simp only[tru,aAQ]at h;exact h.symm
  |bl c=>simp only[Rw,Rp]at r;subst r;simp only[tru,aAQ]at h;exact h.symm
  |int i=>simp only[Rw,Rp]at r;subst r;simp only[tru,aAQ]at h;exact h.symm
  |str z =>
   simp only[Rw,Rp]at r;subst r
   simp only[tru]at h
   split at h
   ·rename_i hz
    cases h
    refine⟨by rw[aAT];exact hz,?_⟩
    rw[aGS];simp
   ·cases h
  |tup xs=>simp only[Rw,Rp]at r;obtain⟨a,vs,rfl,q1,q2⟩:=r;simp only[tru,aAQ]at h;subst h;exact .inr (.inl ⟨vs,SqT.of q1,emp q2⟩)
  |lst xs=>simp only[Rw,Rp]at r;obtain⟨a,vs,rfl,q1,_,q2⟩:=r;simp only[tru,aAQ]at h;subst h;exact .inl ⟨vs,SqL.of q1,emp q2⟩
  |fz xs=>simp only[Rw,Rp]at r;obtain⟨a,vs,rfl,q1,q2⟩:=r;simp only[tru,aAQ]at h;subst h;exact .inl ⟨vs,q1.sq,emp q2⟩
  |exn c f xs=>simp[tru]at h
theorem gD(ha:Ev X K Z a f)(he:∀whole,isTrue a X.env whole=(do let v <- whole;standAt a.pos;holding [v] (truthy v)):=by intro _;rfl):Et X K Z a (tV f):=by
 refine⟨ha.k,cqT (aFs ha.h he) ?_⟩
 rintro σ H Q ⟨μ,M,L,hr,lr,p⟩
 refine⟨μ,M,L,hr,lr,p.bind.imp λμ1 H1 M1 x e1 hr1 _ p1 v rx=>?_⟩
 cases q:tru M1 x with
 |none=>rw[q]at p1;exact p1.elim
 |some k=>rw[q]at p1;exact⟨k,by rw[ha.k];exact aQw hr1 rx q,p1 μ1 H1 .refl hr1⟩
def tNot(t:FT):FT:=λL M=>(t L M).bind λb M1=>.ok (!b) M1
def tAnd(t u:FT):FT:=λL M=>(t L M).bind λb M1=>if b=true then u L M1 else .ok false M1
def tOr(t u:FT):FT:=λL M=>(t L M).bind λb M1=>if b=true then .ok true M1 else u L M1
end
theorem fB(ha:Et X K Z a ta):Et X K Z (.UnaryOp .Not a pos) (tNot ta):=by
 refine⟨ha.k,cqT (aMi ha.h) ?_⟩
 rintro σ H Q ⟨μ,M,L,hr,lr,p⟩
 exact⟨μ,M,L,hr,lr,p.bind.imp λμ1 H1 M1 x e1 hr1 _ p1=>p1 μ1 H1 .refl hr1⟩
variable{rest:List Expr}
theorem gX(ha:Et X K Z a ta):Ew X K Z (.BoolOp .And [a] pos) ta:=⟨ha.k,aKq ha.h⟩
theorem cG(ha:Et X K Z a ta):Ew X K Z (.BoolOp .Or [a] pos) ta:=⟨ha.k,aLk ha.h⟩
theorem jB(ha:Et X K Z a ta)(hb:Ew X K Z (.BoolOp .And (b::rest) pos) tb):Ew X K Z (.BoolOp .And (a::b::rest) pos) (tAnd ta tb):=by
 refine⟨ha.k,cqW (aOv ha.h hb.h) ?_⟩
 rintro σ H Q ⟨μ,M,L,hr,lr,p⟩
 refine⟨μ,M,L,hr,lr,p.bind.imp λμ1 H1 M1 x e1 hr1 _ p1=>?_⟩
 cases x with
 |true=>exact⟨μ1,M1,L,hr1,lr.ext hr.lsts e1,p1⟩
 |false=>exact p1 μ1 H1 .refl hr1
theorem cP(ha:Et X K Z a ta)(hb:Ew X K Z (.BoolOp .Or (b::rest) pos) tb):Ew X K Z (.BoolOp .Or (a::b::rest) pos) (tOr ta tb):=by
 refine⟨ha.k,cqW (aPt ha.h hb.h) ?_⟩
 rintro σ H Q ⟨μ,M,L,hr,lr,p⟩
 refine⟨μ,M,L,hr,lr,p.bind.imp λμ1 H1 M1 x e1 hr1 _ p1=>?_⟩
 cases x with
 |true=>exact p1 μ1 H1 .refl hr1
 |false=>exact⟨μ1,M1,L,hr1,lr.ext hr.lsts e1,p1⟩
theorem eI(h:Ew X K Z a ta):Et X K Z a ta:=⟨h.k,h.h.pt⟩
theorem fM{op':CmpOp}{c:Expr}{g g':W->W->Mm->Oc W}(ho:OpG X K Z (compareOp op) g)(ho':OpG X K Z (compareOp op') g')(ha:Ev X K Z a fa)(hb:Ev X K Z b fb)(hc:Ev X K Z c fc)
  (hm:lastMarks [op,op'] [b,c]=false:=by with_unfolding_all rfl):Et X K Z (.Compare a [op,op'] [b,c] pos) (tB (e3c g g' fa fb fc)):=by
 obtain⟨r,h1,h2⟩:=ho ha.k
 obtain⟨r',h1',h2'⟩:=ho' ha.k
 refine⟨ha.k,cqT (aGm h1 h1' ha.h hb.h hc.h hm) ?_⟩
 rintro σ H Q ⟨μ,M,L,hr,lr,p⟩
 have p:=p.bind.bind
 refine⟨μ,M,L,hr,lr,p.imp λμ1 H1 M1 x e1 hr1 _ p1 v rx=>?_⟩
 refine⟨μ1,M1,L,hr1,lr.ext hr.lsts e1,p1.bind.imp λμ2 H2 M2 y e2 hr2 _ p2 u ry=>?_⟩
 refine h2 μ2 H2 M2 x y v u _ hr2 (rx.ext hr1.lsts e2) ry (p2.bind.imp λμ3 H3 M3 w e3 hr3 _ p3 vw rw'=>?_)
 cases w with
 |ref i=>exact p3.elim
 |ob _ _=>exact p3.elim
 |nest _=>exact p3.elim
 |d z=>cases z with
  |bl k =>
   refine⟨k,by simpa[Rw,Rp]using rw',?_⟩
   cases k with
   |false=>exact⟨false,rfl,p3 μ3 H3 .refl hr3 μ3 H3 .refl hr3⟩
   |true =>
    refine⟨μ3,M3,L,hr3,lr.ext hr.lsts ((e1.trans e2).trans e3),p3.bind.imp λμ4 H4 M4 z e4 hr4 _ p4 v4 rz=>?_⟩
    refine h2' μ4 H4 M4 y z u v4 _ hr4 (ry.ext hr2.lsts (e3.trans e4)) rz (p4.imp λμ5 H5 M5 q e5 hr5 _ p5 v5 rq=>?_)
    cases q with
    |ref i=>exact p5.elim
    |ob _ _=>exact p5.elim
    |nest _=>exact p5.elim
    |d z=>cases z with
     |bl c=>exact⟨c,by simpa[Rw,Rp]using rq,p5 μ5 H5 .refl hr5⟩
     |_=>exact p5.elim
  |_=>exact p3.elim
end
noncomputable section
def lv(M:Mm):W->Option (List D)
 |.d (.lst xs)=>some xs
 |.ref i=>M[i]?
 |_=>none
def lr(M:Mm):W->Option (List D)
 |.d (.fz xs)=>some xs
 |w=>lv M w
def sv(M:Mm):W->Option (List D)
 |.d (.tup xs)=>some xs
 |w=>lr M w
def okD(d:D)(M:Mm):Oc W:=.ok (.d d) M
end
@[simp]theorem aQy(d:D)(M:Mm):okD d M=.ok (.d d) M:=rfl
variable{K:Frag}{e a b:Expr}{es:List Expr}{f fa fb:FE}{fs:FA}{F:Value->Value->Sem Value}
theorem OpR.or{r r':R2}(h:OpR X F r)(h':OpR X F r'):OpR X F (λx y H Q=>r x y H Q\/r' x y H Q):=by
 intro pins s σ H x y v u Q I rx ry q
 rcases q with q|q
 ·exact h pins s σ H x y v u Q I rx ry q
 ·exact h' pins s σ H x y v u Q I rx ry q
theorem rU{w:W}{ds:List D}(hr:HR K μ H M)(r:Rw K μ H w v)(h:lv M w=some ds):∃a vs,v=.ref a/\H a=some (.lst vs)/\Rps K μ H ds vs:=by
 cases w with
 |ref i =>
  obtain⟨a,q,rfl,il⟩:=r
  obtain⟨a',vs,q1,q2,q3⟩:=hr.at h q
  rw[q]at q1;cases q1
  exact⟨a,vs,rfl,q2,q3⟩
 |ob _ _=>simp[lv]at h
 |nest _=>simp[lv]at h
 |d x =>
  cases x with
  |lst xs=>simp only[lv,aAQ]at h;subst h;simp only[Rw,Rp]at r;obtain⟨a,vs,e,q1,_,q2⟩:=r;exact⟨a,vs,e,q1,q2⟩
  |_=>simp[lv]at h
theorem pK{w:W}{ds:List D}(hr:HR K μ H M)(r:Rw K μ H w v)(h:lr M w=some ds):∃a vs,v=.ref a/\SqL K H a vs/\Rps K μ H ds vs:=by
 by_cases hf:∃xs,w=.d (.fz xs)
 ·obtain⟨xs,rfl⟩:=hf
  simp only[lr,aAQ]at h;subst h
  simp only[Rw,Rp]at r;obtain⟨a,vs,e,q1,q2⟩:=r
  exact⟨a,vs,e,q1.sq,q2⟩
 ·have:lr M w=lv M w:=by
   cases w with
   |ref i=>rfl
   |ob _ _=>rfl
   |nest _=>rfl
   |d x=>cases x <;> first|rfl|exact(hf ⟨_,rfl⟩).elim
  rw[this]at h
  obtain⟨a,vs,e,q1,q2⟩:=rU hr r h
  exact⟨a,vs,e,SqL.of q1,q2⟩
theorem lU{w:W}{ds:List D}(hr:HR K μ H M)(r:Rw K μ H w v)(h:sv M w=some ds):∃a vs,v=.ref a/\(SqL K H a vs\/SqT K H a vs)/\Rps K μ H ds vs:=by
 by_cases hf:∃xs,w=.d (.tup xs)
 ·obtain⟨xs,rfl⟩:=hf
  simp only[sv,aAQ]at h;subst h
  simp only[Rw,Rp]at r;obtain⟨a,vs,e,q1,q2⟩:=r
  exact⟨a,vs,e,.inr (SqT.of q1),q2⟩
 ·have:sv M w=lr M w:=by
   cases w with
   |ref i=>rfl
   |ob _ _=>rfl
   |nest _=>rfl
   |d x=>cases x <;> first|rfl|exact(hf ⟨_,rfl⟩).elim
  rw[this]at h
  obtain⟨a,vs,e,q1,q2⟩:=pK hr r h
  exact⟨a,vs,e,.inl q1,q2⟩
variable{Q:VK}
theorem lV{ds:List D}(hr:HR K μ H M)(r:Rps K μ H ds vs)(p:Pst K Z μ H (okD (.tup ds) M) (Wk K Q)):∀q,H q=none->Q (.ref q) (upd H q (.tup vs)):=λq hq =>
 p μ _ (fS hr hq) (hr.lay hq) (.ref q) (by simp only[Rw,Rp];exact⟨q,vs,rfl,bB,Rps.ext hr.lsts (fS hr hq) _ _ r⟩)
theorem fE{ds:List D}(hr:HR K μ H M)(r:Rps K μ H ds vs)(p:Pst K Z μ H (okD (.lst ds) M) (Wk K Q)):∀q,H q=none->Q (.ref q) (upd H q (.lst vs)):=λq hq =>
 p μ _ (fS hr hq) (hr.lay hq) (.ref q) (by simp only[Rw,Rp];exact⟨q,vs,rfl,bB,hr.out hq,Rps.ext hr.lsts (fS hr hq) _ _ r⟩)
theorem aJm{ds:List D}(hr:HR K μ H M)(r:Rps K μ H ds vs)(p:Pst K Z μ H (.ok (.ref M.length) (M++[ds])) (Wk K Q)):∀q,H q=none->Q (.ref q) (upd H q (.lst vs)):=λq hq =>
 p _ _ (aAo hr hq) (hr.new hq r) (.ref q) ⟨q,by rw[<- hr.len];simp,rfl,_,bB⟩
noncomputable def rCatA(K:Frag):R2:=λx y H Q=>∃a b xs ys,x=.ref a/\y=.ref b/\SqT K H a xs/\SqT K H b ys/\xs.length+ys.length<=sizeLine /\
 (xs=[]->Q (.ref b) H)/\(ys=[]->Q (.ref a) H)/\(∀p,H p=none->Q (.ref p) (upd H p (.tup (xs++ys))))
theorem aJg:OpR X (binaryOp .Add) (rCatA X.K):=by
 intro pins s σ H x y v u Q I rx ry h
 obtain⟨a,b,xs,ys,rfl,rfl,ha,hb,hz,q0,q1,q2⟩:=h
 by_cases hx:xs=[]
 ·subst hx
  cases rx
  cases ry
  obtain⟨its,r1,p1,_⟩:=I.tuple ha
  obtain⟨its2,r2,p2,_⟩:=I.tuple hb
  have hv:its=[]:=r1.nil_iff.mpr rfl
  subst hv
  obtain⟨⟨cls,dd,data,sl⟩,ho,hc,n,hd⟩:=id p1
  obtain⟨⟨cls2,dd2,data2,sl2⟩,ho2,hc2,n2,hd2⟩:=id p2
  simp only at hc hd hc2 hd2
  subst hc hd hc2 hd2
  exact concat_meets ⟨_,ho,rfl⟩ ⟨_,ho2,rfl⟩ noFill_tuple_add seq_tuple_add aGE aFX (aFP _ _)
   (tuple_addW0 a b _ its2.toArray n n2 dd dd2 sl sl2 (by simp)) ⟨ho,ho2,⟨.ref b,H,I,rfl,q0 rfl⟩⟩
 ·exact aHh pins s σ H _ _ v u Q I rx ry ⟨a,b,xs,ys,rfl,rfl,ha,hb,hx,hz,q1,λ_=>q2⟩
noncomputable def pAdd(x y:W)(M:Mm):Oc W:=match x,y with
 |.d (.int i),.d (.int j)=>.ok (.d (.int (i+j))) M
 |.d (.tup xs),.d (.tup ys)=>if xs.length+ys.length<=16777216 then .ok (.d (.tup (xs++ys))) M else .bad
 |.d (.str i),.d (.str j)=>if i.length+j.length<=16777216 then .ok (.d (.str (i++j))) M else .bad
 |x,y=>match lv M x,lv M y with
  |some xs,some ys=>if xs.length+ys.length<=16777216 then .ok (.d (.lst (xs++ys))) M else .bad
  |_,_=>.bad
variable{u:V}
theorem yY{x y:W}(hr:HR K μ H M)(rx:Rw K μ H x v)(ry:Rw K μ H y u)(p:Pst K Z μ H (match lv M x,lv M y with
  |some xs,some ys=>if xs.length+ys.length<=16777216 then .ok (.d (.lst (xs++ys))) M else .bad
  |_,_=>.bad) (Wk K Q)):rCat v u H Q:=by
 cases q1:lv M x with
 |none=>rw[q1]at p;exact p.elim
 |some xs =>
  cases q2:lv M y with
  |none=>rw[q1,q2]at p;exact p.elim
  |some ys =>
   rw[q1,q2]at p
   simp only at p
   split at p
   ·rename_i hz
    obtain⟨a,vs,rfl,h1,r1⟩:=rU hr rx q1
    obtain⟨b,us,rfl,h2,r2⟩:=rU hr ry q2
    exact⟨a,b,vs,us,rfl,rfl,h1,h2,by rw[<- r1.length,<- r2.length,aAT];exact hz,fE hr (r1.append r2) p⟩
   ·exact p.elim
theorem opAdd:OpG X K Z (binaryOp .Add) pAdd:=λhk=>by
 refine⟨_,OpR.or (OpR.or aOf (hk▸aJg)) (OpR.or aOh xP),?_⟩
 intro μ H M x y v u Q hr rx ry p
 have gen:=λp=>yY (Q:=Q) (K:=K) (Z:=Z) hr rx ry p
 cases x with
 |ref i=>exact .inr (.inl (gen p))
 |ob _ _=>exact .inr (.inl (gen p))
 |nest _=>exact .inr (.inl (gen p))
 |d x =>
  cases y with
  |ref j=>exact .inr (.inl (gen (by cases x <;> exact p)))
  |ob _ _=>exact .inr (.inl (gen (by cases x <;> exact p)))
  |nest _=>exact .inr (.inl (gen (by cases x <;> exact p)))
  |d y =>
   cases x <;> cases y <;> first
    |exact .inr (.inl (gen p))
    |skip
   ·simp only[Rw,Rp]at rx ry;exact .inl (.inl ⟨_,_,rx,ry,p μ H .refl hr _ (by simp[Rw,Rp])⟩)
   ·simp only[Rw,Rp]at rx ry
    simp only[pAdd]at p
    split at p
    ·rename_i hz
     exact .inr (.inr ⟨_,_,rx,ry,by rw[aAT];exact hz,p μ H .refl hr _ (by simp[Rw,Rp])⟩)
    ·exact p.elim
   ·rename_i xs ys
    have rx':=rx
    have ry':=ry
    simp only[Rw,Rp]at rx ry
    obtain⟨a,vs,rfl,h1,r1⟩:=rx
    obtain⟨b,us,rfl,h2,r2⟩:=ry
    simp only[pAdd]at p
    split at p
    ·rename_i hz
     refine .inl (.inr ⟨a,b,vs,us,rfl,rfl,SqT.of h1,SqT.of h2,by rw[<- r1.length,<- r2.length,aAT];exact hz,λe=>?_,λe=>?_,lV hr (r1.append r2) p⟩)
     ·subst e
      have:xs=[]:=by have:=r1.length;simpa using this
      subst this
      exact p μ H .refl hr _ (by simpa using ry')
     ·subst e
      have:ys=[]:=by have:=r2.length;simpa using this
      subst this
      exact p μ H .refl hr _ (by simpa using rx')
    ·exact p.elim
noncomputable def pI(c:Int->Int->Bool)(g:Int->Int->D)(x y:W)(M:Mm):Oc W:=match x,y with
 |.d (.int i),.d (.int j)=>if c i j=true then .ok (.d (g i j)) M else .bad
 |_,_=>.bad
variable{gv:Int->Int->V}
theorem opI{C:Int->Int->Prop}{c:Int->Int->Bool}{g:Int->Int->D}(h:OpR X F (rI C gv))(hc:∀i j,c i j=true->C i j)(hg:∀K μ H i j,Rp K μ H (g i j) (gv i j)) :
  OpG X K Z F (pI c g):=λhk=>⟨_,h,by
 intro μ H M x y v u Q hr rx ry p
 cases x with
 |ref i=>exact p.elim
 |ob _ _=>exact p.elim
 |nest _=>exact p.elim
 |d x=>cases y with
  |ref j=>cases x <;> exact p.elim
  |ob _ _=>cases x <;> exact p.elim
  |nest _=>cases x <;> exact p.elim
  |d y=>cases x <;> cases y <;> first
   |exact p.elim
   |(simp only[Rw,Rp]at rx ry
     simp only[pI]at p
     split at p
     ·rename_i hz;exact⟨_,_,rx,ry,hc _ _ hz,p μ H .refl hr _ (hg K μ H _ _)⟩
     ·exact p.elim)⟩
theorem opI0{g:Int->Int->D}(h:OpR X F (rI0 gv))(hg:∀K μ H i j,Rp K μ H (g i j) (gv i j)):OpG X K Z F (pI (λ_ _=>true) g):=λhk=>⟨_,h,by
 intro μ H M x y v u Q hr rx ry p
 cases x with
 |ref i=>exact p.elim
 |ob _ _=>exact p.elim
 |nest _=>exact p.elim
 |d x=>cases y with
  |ref j=>cases x <;> exact p.elim
  |ob _ _=>cases x <;> exact p.elim
  |nest _=>cases x <;> exact p.elim
  |d y=>cases x <;> cases y <;> first
   |exact p.elim
   |(simp only[Rw,Rp]at rx ry
     exact⟨_,_,rx,ry,p μ H .refl hr _ (hg K μ H _ _)⟩)⟩
noncomputable section
abbrev pSub:=pI (λ_ _=>true) λi j=>.int (i - j)
abbrev pLt:=pI (λ_ _=>true) λi j=>.bl (decide (i < j))
abbrev pLe:=pI (λ_ _=>true) λi j=>.bl (decide (i<=j))
abbrev pGt:=pI (λ_ _=>true) λi j=>.bl (decide (j < i))
abbrev pGe:=pI (λ_ _=>true) λi j=>.bl (decide (j<=i))
abbrev pMod:=pI (λ_ j=>decide (0 < j)) λi j=>.int (i % j)
abbrev pDiv:=pI (λ_ j=>decide (0 < j/\j < 18446744073709551616)) λi j=>.int (i / j)
abbrev pPow:=pI (λi j=>decide (0<=j/\j<=1000000/\i.natAbs < 18446744073709551616)) λi j=>.int (i ^ j.toNat)
theorem opSub:OpG X K Z (binaryOp .Sub) pSub:=opI0 aLm λ_ _ _ _ _=>by simp[Rp]
theorem opLt:OpG X K Z (compareOp .Lt) pLt:=opI0 aPv λ_ _ _ _ _=>by simp[Rp]
theorem opLe:OpG X K Z (compareOp .LtE) pLe:=opI0 aQi λ_ _ _ _ _=>by simp[Rp]
theorem opGt:OpG X K Z (compareOp .Gt) pGt:=opI0 aQg λ_ _ _ _ _=>by simp[Rp]
theorem opGe:OpG X K Z (compareOp .GtE) pGe:=opI0 aQu λ_ _ _ _ _=>by simp[Rp]
theorem opMod:OpG X K Z (binaryOp .Mod) pMod:=opI aOb (λ_ _ h=>aCI h) λ_ _ _ _ _=>by simp[Rp]
theorem opDiv:OpG X K Z (binaryOp .FloorDiv) pDiv:=opI aDy (λ_ _ h=>by simp only[aAU]at h;exact h) λ_ _ _ _ _=>by simp[Rp]
theorem opPow:OpG X K Z (binaryOp .Pow) pPow:=opI aNc (λ_ _ h=>by simp only[aAU]at h;exact h) λ_ _ _ _ _=>by simp[Rp]
def isN:W->Bool
 |.d .non=>true
 |_=>false
def pIs(x y:W)(M:Mm):Oc W:=match y with
 |.d .non=>.ok (.d (.bl (isN x))) M
 |_=>.bad
def pIsNot(x y:W)(M:Mm):Oc W:=match y with
 |.d .non=>.ok (.d (.bl (!isN x))) M
 |_=>.bad
end
theorem aKy{x:W}(r:Rw K μ H x v):decide (v=.non)=isN x:=by
 cases x with
 |ref i=>obtain⟨a,_,rfl,_⟩:=r;simp[isN]
 |ob c i=>obtain⟨a,_,rfl,_⟩:=r;simp[isN]
 |nest c=>obtain⟨a,_,rfl,_⟩:=r;simp[isN]
 |d x=>cases x with
  |non=>simp only[Rw,Rp]at r;subst r;simp[isN]
  |bl b=>simp only[Rw,Rp]at r;subst r;simp[isN]
  |int b=>simp only[Rw,Rp]at r;subst r;simp[isN]
  |str b=>simp only[Rw,Rp]at r;subst r;simp[isN]
  |tup b=>simp only[Rw,Rp]at r;obtain⟨a,vs,rfl,_⟩:=r;simp[isN]
  |lst b=>simp only[Rw,Rp]at r;obtain⟨a,vs,rfl,_⟩:=r;simp[isN]
  |fz b=>simp only[Rw,Rp]at r;obtain⟨a,vs,rfl,_⟩:=r;simp[isN]
  |exn c f b=>simp only[Rw,Rp]at r;obtain⟨a,vs,_,_,_,rfl,_⟩:=r;simp[isN]
theorem opIs:OpG X K Z (compareOp .Is) pIs:=λhk=>⟨_,aLo,by
 intro μ H M x y v u Q hr rx ry p
 cases y with
 |ref j=>exact p.elim
 |ob _ _=>exact p.elim
 |nest _=>exact p.elim
 |d y=>cases y with
  |non=>simp only[Rw,Rp]at ry;exact⟨ry,p μ H .refl hr _ (by simp only[Rw,Rp];rw[aKy rx])⟩
  |_=>exact p.elim⟩
theorem opIsNot:OpG X K Z (compareOp .IsNot) pIsNot:=λhk=>⟨_,aKb,by
 intro μ H M x y v u Q hr rx ry p
 cases y with
 |ref j=>exact p.elim
 |ob _ _=>exact p.elim
 |nest _=>exact p.elim
 |d y=>cases y with
  |non=>simp only[Rw,Rp]at ry;exact⟨ry,p μ H .refl hr _ (by simp only[Rw,Rp];rw[aKy rx])⟩
  |_=>exact p.elim⟩
variable{K:Frag}
mutual
noncomputable def eqD:D->D->Bool
 |.non,.non=>true
 |.bl a,.bl b=>a==b
 |.bl a,.int b=>(if a then 1 else 0)==b
 |.int a,.bl b=>a==(if b then 1 else 0)
 |.int a,.int b=>a==b
 |.str a,.str b=>a==b
 |.tup xs,.tup ys=>eqDs xs ys
 |.lst xs,.lst ys=>eqDs xs ys
 |.lst xs,.fz ys=>eqDs xs ys
 |.fz xs,.lst ys=>eqDs xs ys
 |.fz xs,.fz ys=>eqDs xs ys
 |.exn c f xs,.exn c' f' ys=>c==c'&&f==f'&&eqDs xs ys
 |_,_=>false
noncomputable def eqDs:List D->List D->Bool
 |[],[]=>true
 |x::xs,y::ys=>eqD x y&&eqDs xs ys
 |_,_=>false
end
mutual
noncomputable def dep:D->Nat
 |.tup xs=>deps xs+1
 |.lst xs=>deps xs+1
 |.fz xs=>deps xs+1
 |.exn _ _ _=>1000
 |_=>0
noncomputable def deps:List D->Nat
 |[]=>0
 |x::xs=>max (dep x) (deps xs)
end
theorem uU:∀{xs:List D} {i:Nat} {x:D},xs[i]?=some x->dep x<=deps xs
 |[],_,_,h=>by simp at h
 |y::xs,0,x,h=>by simp at h;subst h;simp only[deps];lia
 |y::xs,i+1,x,h=>by
  have:=uU (xs:=xs) (i:=i) (x:=x) (by simpa using h)
  simp only[deps];lia
theorem mB:∀(xs ys:List D),eqDs xs ys=((List.range (min xs.length ys.length)).all (λi=>eqD (xs.getD i .non) (ys.getD i .non))&&xs.length==ys.length)
 |[],[]=>rfl
 |[],y::ys=>by simp[eqDs]
 |x::xs,[]=>by simp[eqDs]
 |x::xs,y::ys=>by
  simp only[eqDs]
  rw[mB xs ys]
  have:min (x::xs).length (y::ys).length=min xs.length ys.length+1:=by simp
  rw[this,aES,aCY]
  simp only[List.getD_cons_zero,List.all_map,Bool.and_assoc,aBJ]
  congr 1
  congr 1
  rw[aGS];simp
variable{σ:L2.St}
theorem zT{ds:List D}(r:Rps K μ H ds vs)(rv:Vals vs its)(h:i < its.toArray.size):∃d v,ds[i]?=some d/\Rp K μ H d v/\RelV v its.toArray[i]:=by
 have h1:i < its.length:=by simpa using h
 have h2:i < vs.length:=by rw[rv.length];exact h1
 have h3:i < ds.length:=by rw[r.length];exact h2
 obtain⟨v,q1,q2⟩:=r.get (i:=i) (d:=ds[i]) (by simp[h3])
 obtain⟨u,q3,q4⟩:=rv.get q1
 refine⟨ds[i],v,by simp[h3],q2,?_⟩
 rw[aEF h1]at q3
 cases q3
 simpa using q4
theorem aAm{ds:List D}{d:D}(h:ds[i]?=some d):ds.getD i .non=d:=by rw[List.getD_eq_getElem?_getD,h];rfl
noncomputable abbrev Eqs(K:Frag)(μ:List Addr)(H:Hp)(s:Shared)(A:Around)(xs:List D):Prop :=
 ∀(j:Nat) (d:D),xs[j]?=some d->∀(d2:D) (v1 v2:V) (u1 u2:Value),dep d2<=100->Rp K μ H d v1->Rp K μ H d2 v2->RelV v1 u1->RelV v2 u2->SeqAt.EqAt A s u1 u2 (eqD d d2)
variable{us:List V}
theorem lL{xs ys:List D}{its its2:List Value}(r1:Rps K μ H xs vs)(r2:Rps K μ H ys us)(q1:Vals vs its)(q2:Vals us its2)(n2:deps ys<=100)(ih:Eqs K μ H s A xs) :
  ∀j (h1:j < its.toArray.size) (h2:j < its2.toArray.size),SeqAt.EqAt A s its.toArray[j] its2.toArray[j] ((λi=>eqD (xs.getD i .non) (ys.getD i .non)) j):=by
 intro j h1 h2
 obtain⟨d,v,e1,e2,e3⟩:=zT r1 q1 h1
 obtain⟨d',v',e1',e2',e3'⟩:=zT r2 q2 h2
 simp only[aAm e1,aAm e1']
 exact ih j d e1 d' v v' _ _ (aBD (uU e1') n2) e2 e2' e3 e3'
theorem mS{xs ys:List D}{its2:List Value}(r1:Rps K μ H xs vs)(r2:Rps K μ H ys us)(q1:Vals vs its)(q2:Vals us its2):its.toArray.size=xs.length/\its2.toArray.size=ys.length:=by
 simp[r1.length,r2.length,q1.length,q2.length]
theorem aLy{xs ys:List D}{a b:Addr}(I:Inv X pins σ H s)(h1:SqT X.K H a vs)(h2:SqT X.K H b us)(r1:Rps K μ H xs vs)(r2:Rps K μ H ys us)(hu:A.units < cLine)(n2:deps ys<=100)(ih:Eqs K μ H s A.in1 xs) :
  SeqAt.RcAt A s (.ref a) (.ref b) (eqDs xs ys):=by
 obtain⟨its,q1,p1,_⟩:=I.tuple h1
 obtain⟨its2,q2,p2,_⟩:=I.tuple h2
 have:=SeqAt.RcAt.tuples p1 p2 hu (lL r1 r2 q1 q2 n2 ih)
 obtain⟨e1,e2⟩:=mS r1 r2 q1 q2
 rw[e1,e2]at this
 rw[mB];exact this
theorem aDv{xs ys:List D}{a b:Addr}(I:Inv X pins σ H s)(h1:SqT X.K H a vs)(h2:SqT X.K H b us)(r1:Rps K μ H xs vs)(r2:Rps K μ H ys us)(hu:A.units < cLine)(n2:deps ys<=100)(ih:Eqs K μ H s A.in1 xs) :
  SeqAt.RcNeAt A s (.ref a) (.ref b) (!eqDs xs ys):=by
 obtain⟨its,q1,p1,_⟩:=I.tuple h1
 obtain⟨its2,q2,p2,_⟩:=I.tuple h2
 have:=SeqAt.RcNeAt.tuples p1 p2 hu (lL r1 r2 q1 q2 n2 ih)
 obtain⟨e1,e2⟩:=mS r1 r2 q1 q2
 rw[e1,e2]at this
 rw[mB];exact this
theorem vJ{xs ys:List D}(h:xs.length≠ys.length):eqDs xs ys=false:=by
 rw[mB]
 have:(xs.length==ys.length)=false:=by simpa using h
 rw[this,aEC]
theorem sF{xs ys:List D}(h:xs.length=ys.length):eqDs xs ys=(List.range xs.length).all (λi=>eqD (xs.getD i .non) (ys.getD i .non)):=by
 rw[mB,<- h];simp
theorem tH{xs ys:List D}{a b:Addr}(I:Inv X pins σ H s)(h1:SqL X.K H a vs)(h2:SqL X.K H b us)(r1:Rps K μ H xs vs)(r2:Rps K μ H ys us)(hu:A.units < cLine)(n2:deps ys<=100)(ih:Eqs K μ H s A.in1 xs) :
  SeqAt.RcAt A s (.ref a) (.ref b) (eqDs xs ys):=by
 obtain⟨its,q1,p1,_⟩:=I.list h1
 obtain⟨its2,q2,p2,_⟩:=I.list h2
 obtain⟨e1,e2⟩:=mS r1 r2 q1 q2
 by_cases hl:xs.length=ys.length
 ·have:=SeqAt.RcAt.lists p1.isList p2.isList (by rw[e1,e2,hl]) hu (lL r1 r2 q1 q2 n2 ih)
  rw[e1]at this
  rw[sF hl];exact this
 ·rw[vJ hl]
  exact SeqAt.RcAt.lists_lengths p1.isList p2.isList (by rw[e1,e2];simpa using hl) hu
theorem lI{xs ys:List D}{a b:Addr}(I:Inv X pins σ H s)(h1:SqL X.K H a vs)(h2:SqL X.K H b us)(r1:Rps K μ H xs vs)(r2:Rps K μ H ys us)(hu:A.units < cLine)(n2:deps ys<=100)(ih:Eqs K μ H s A.in1 xs) :
  SeqAt.RcNeAt A s (.ref a) (.ref b) (!eqDs xs ys):=by
 obtain⟨its,q1,p1,_⟩:=I.list h1
 obtain⟨its2,q2,p2,_⟩:=I.list h2
 obtain⟨e1,e2⟩:=mS r1 r2 q1 q2
 by_cases hl:xs.length=ys.length
 ·have:=SeqAt.RcNeAt.lists p1.isList p2.isList (by rw[e1,e2,hl]) hu (lL r1 r2 q1 q2 n2 ih)
  rw[e1]at this
  rw[sF hl];exact this
 ·rw[vJ hl]
  exact SeqAt.RcNeAt.lists_lengths p1.isList p2.isList (by rw[e1,e2];simpa using hl) hu
noncomputable def fv:D->Option V
 |.non=>some .non
 |.bl b=>some (.bl b)
 |.int i=>some (.int i)
 |.str x=>some (.str x)
 |_=>none
theorem rM{d:D}(h:fv d=some u)(r:Rp K μ H d v):v=u/\flatV u=true:=by
 cases d <;> simp only[fv,aAQ,reduceCtorEq]at h <;> (simp only[Rp]at r;subst h;exact⟨r,rfl⟩)
variable{w:V}
theorem aEj{d e:D}(h:fv d=some u)(h':fv e=some w):eqV u w=eqD d e:=by
 cases d <;> simp only[fv,aAQ,reduceCtorEq]at h <;> (cases e <;> simp only[fv,aAQ,reduceCtorEq]at h' <;> (subst h;subst h';simp[eqV,eqD]))
theorem aQc{d:D}(r:Rp K μ H d v)(h:flatV v=true):fv d=some v:=by
 cases d with
 |non=>simp only[Rp]at r;subst r;rfl
 |bl b=>simp only[Rp]at r;subst r;rfl
 |int b=>simp only[Rp]at r;subst r;rfl
 |str b=>simp only[Rp]at r;subst r;rfl
 |tup b=>simp only[Rp]at r;obtain⟨a,vs,rfl,_⟩:=r;cases h
 |lst b=>simp only[Rp]at r;obtain⟨a,vs,rfl,_⟩:=r;cases h
 |fz b=>simp only[Rp]at r;obtain⟨a,vs,rfl,_⟩:=r;cases h
 |exn c f b=>simp only[Rp]at r;obtain⟨a,vs,_,_,_,rfl,_⟩:=r;cases h
theorem aDj(h:flatV v=true):eqV v v=true:=by cases v <;> first|(cases h;done)|rfl|(simp[eqV];done)
theorem mH{d d':D}(hf:fv d=some u)(h:Rp K μ H d v)(h':Rp K μ H d' v):eqD d d'=true:=by
 obtain⟨rfl,fl⟩:=rM hf h
 rw[<- aEj hf (aQc h' fl)]
 exact aDj fl
inductive At(K:Frag)(μ:List Addr)(H:Hp):D->Addr->List D->Bool->Prop where
 |tup {a vs ds:_}:SqT K H a vs->Rps K μ H ds vs->At K μ H (.tup ds) a ds true
 |lst {a vs ds:_}:SqL K H a vs->Rps K μ H ds vs->At K μ H (.lst ds) a ds false
 |fz {a vs ds:_}:SqL K H a vs->Rps K μ H ds vs->At K μ H (.fz ds) a ds false
theorem oO{a:Addr}(I:Inv X pins σ H s)(h1:SqT X.K H a vs)(h2:SqL X.K H a us):False:=by
 obtain⟨its,q1,p1,_⟩:=I.tuple h1
 obtain⟨its2,q2,p2,_⟩:=I.list h2
 exact SeqAt.ne_of_list_tuple p2.isList p1 rfl
mutual
theorem aDg(I:Inv X pins σ H s)(hk:X.K=K):∀(d d':D) (v:V),dep d<=100->dep d'<=100->Rp K μ H d v->Rp K μ H d' v->eqD d d'=true
 |.non,d',v,n,n',h,h'=>mH rfl h h'
 |.bl x,d',v,n,n',h,h'=>mH rfl h h'
 |.int x,d',v,n,n',h,h'=>mH rfl h h'
 |.str x,d',v,n,n',h,h'=>mH rfl h h'
 |.tup xs,d',v,n,n',h,h'=>by
  simp only[Rp]at h
  obtain⟨a,vs,rfl,h1,r1⟩:=h
  cases d' with
  |tup ys =>
   simp only[Rp]at h'
   obtain⟨b,us,e,h2,r2⟩:=h'
   cases e
   cases I.tuple_inj (SqT.of (K:=X.K) h1) (SqT.of h2)
   simp only[eqD]
   exact kJ I hk xs ys vs (by simp only[dep]at n;lia) (by simp only[dep]at n';lia) r1 r2
  |lst ys=>simp only[Rp]at h';obtain⟨b,us,e,h2,_,r2⟩:=h';cases e;exact(oO I (SqT.of h1) (SqL.of h2)).elim
  |fz ys=>simp only[Rp]at h';obtain⟨b,us,e,h2,r2⟩:=h';cases e;exact(oO I (SqT.of h1) (hk▸h2.sq)).elim
  |exn c f ys=>simp[dep]at n'
  |_=>simp only[Rp]at h';cases h'
 |.lst xs,d',v,n,n',h,h'=>by
  simp only[Rp]at h
  obtain⟨a,vs,rfl,h1,_,r1⟩:=h
  cases d' with
  |tup ys=>simp only[Rp]at h';obtain⟨b,us,e,h2,r2⟩:=h';cases e;exact(oO I (SqT.of h2) (SqL.of h1)).elim
  |lst ys =>
   simp only[Rp]at h';obtain⟨b,us,e,h2,_,r2⟩:=h';cases e
   cases I.list_inj (SqL.of h1) (SqL.of h2)
   simp only[eqD]
   exact kJ I hk xs ys vs (by simp only[dep]at n;lia) (by simp only[dep]at n';lia) r1 r2
  |fz ys =>
   simp only[Rp]at h';obtain⟨b,us,e,h2,r2⟩:=h';cases e
   cases I.list_inj (SqL.of h1) (hk▸h2.sq)
   simp only[eqD]
   exact kJ I hk xs ys vs (by simp only[dep]at n;lia) (by simp only[dep]at n';lia) r1 r2
  |exn c f ys=>simp[dep]at n'
  |_=>simp only[Rp]at h';cases h'
 |.fz xs,d',v,n,n',h,h'=>by
  simp only[Rp]at h
  obtain⟨a,vs,rfl,h1,r1⟩:=h
  cases d' with
  |tup ys=>simp only[Rp]at h';obtain⟨b,us,e,h2,r2⟩:=h';cases e;exact(oO I (SqT.of h2) (hk▸h1.sq)).elim
  |lst ys =>
   simp only[Rp]at h';obtain⟨b,us,e,h2,_,r2⟩:=h';cases e
   cases I.list_inj (hk▸h1.sq) (SqL.of h2)
   simp only[eqD]
   exact kJ I hk xs ys vs (by simp only[dep]at n;lia) (by simp only[dep]at n';lia) r1 r2
  |fz ys =>
   simp only[Rp]at h';obtain⟨b,us,e,h2,r2⟩:=h';cases e
   cases I.list_inj (hk▸h1.sq) (hk▸h2.sq)
   simp only[eqD]
   exact kJ I hk xs ys vs (by simp only[dep]at n;lia) (by simp only[dep]at n';lia) r1 r2
  |exn c f ys=>simp[dep]at n'
  |_=>simp only[Rp]at h';cases h'
 |.exn c f xs,d',v,n,n',h,h'=>by simp[dep]at n
theorem kJ(I:Inv X pins σ H s)(hk:X.K=K):∀(xs ys:List D) (vs:List V),deps xs<=100->deps ys<=100->Rps K μ H xs vs->Rps K μ H ys vs->eqDs xs ys=true
 |[],ys,vs,n,n',h,h'=>by simp only[Rps]at h;subst h;cases ys with|nil=>rfl|cons y ys=>simp only[Rps]at h';obtain⟨_,_,e,_⟩:=h';cases e
 |x::xs,ys,vs,n,n',h,h'=>by
  simp only[Rps]at h
  obtain⟨v,r,rfl,e2,e3⟩:=h
  cases ys with
  |nil=>simp only[Rps]at h';cases h'
  |cons y ys =>
   simp only[Rps]at h'
   obtain⟨v',r',e,e2',e3'⟩:=h'
   cases e
   simp only[deps]at n n'
   simp only[eqDs,aDg I hk x y v (by lia) (by lia) e2 e2',kJ I hk xs ys r (by lia) (by lia) e3 e3',Bool.and_self]
end
theorem kF{d:D}(h:fv d=none)(n:dep d<=100)(r:Rp K μ H d v):∃a ds k,v=.ref a/\At K μ H d a ds k:=by
 cases d with
 |tup xs=>simp only[Rp]at r;obtain⟨a,vs,e,q1,q2⟩:=r;exact⟨a,xs,true,e,.tup (SqT.of q1) q2⟩
 |lst xs=>simp only[Rp]at r;obtain⟨a,vs,e,q1,_,q2⟩:=r;exact⟨a,xs,false,e,.lst (SqL.of q1) q2⟩
 |fz xs=>simp only[Rp]at r;obtain⟨a,vs,e,q1,q2⟩:=r;exact⟨a,xs,false,e,.fz q1.sq q2⟩
 |exn c f xs=>simp[dep]at n
 |_=>simp[fv]at h
variable{v1 v2 w2:V}{u1:Value}
theorem aKn{d d2:D}(n1:fv d=some w)(n2:fv d2=some w2)(h1:Rp K μ H d v1)(h2:Rp K μ H d2 v2)(q1:RelV v1 u1)(q2:RelV v2 u2) :
  (SeqAt.RcAt A s u1 u2 (eqD d d2)/\SeqAt.RcNeAt A s u1 u2 (!eqD d d2)):=by
 cases d with
 |non =>
  simp only[Rp]at h1;subst h1;cases q1
  cases d2 with
  |non=>simp only[Rp]at h2;subst h2;cases q2;simp only[eqD];exact⟨SeqAt.RcAt.none_none,SeqAt.RcNeAt.none_none⟩
  |bl y=>simp only[Rp]at h2;subst h2;cases q2;simp only[eqD];exact⟨SeqAt.RcAt.none_bool y,SeqAt.RcNeAt.none_bool y⟩
  |int y=>simp only[Rp]at h2;subst h2;obtain⟨t2,rfl⟩:=q2;simp only[eqD];exact⟨SeqAt.RcAt.none_int y t2,SeqAt.RcNeAt.none_int y t2⟩
  |str y=>simp only[Rp]at h2;subst h2;obtain⟨t2,rfl⟩:=q2;simp only[eqD];exact⟨SeqAt.RcAt.none_str y t2,SeqAt.RcNeAt.none_str y t2⟩
  |_=>simp[fv]at n2
 |bl x =>
  simp only[Rp]at h1;subst h1;cases q1
  cases d2 with
  |non=>simp only[Rp]at h2;subst h2;cases q2;simp only[eqD];exact⟨SeqAt.RcAt.bool_none x,SeqAt.RcNeAt.bool_none x⟩
  |bl y=>simp only[Rp]at h2;subst h2;cases q2;simp only[eqD];exact⟨SeqAt.RcAt.bool_bool x y,SeqAt.RcNeAt.bool_bool x y⟩
  |int y=>simp only[Rp]at h2;subst h2;obtain⟨t2,rfl⟩:=q2;simp only[eqD];exact⟨SeqAt.RcAt.bool_int x y t2,SeqAt.RcNeAt.bool_int x y t2⟩
  |str y=>simp only[Rp]at h2;subst h2;obtain⟨t2,rfl⟩:=q2;simp only[eqD];exact⟨SeqAt.RcAt.bool_str x y t2,SeqAt.RcNeAt.bool_str x y t2⟩
  |_=>simp[fv]at n2
 |int x =>
  simp only[Rp]at h1;subst h1;obtain⟨t,rfl⟩:=q1
  cases d2 with
  |non=>simp only[Rp]at h2;subst h2;cases q2;simp only[eqD];exact⟨SeqAt.RcAt.int_none x t,SeqAt.RcNeAt.int_none x t⟩
  |bl y=>simp only[Rp]at h2;subst h2;cases q2;simp only[eqD];exact⟨SeqAt.RcAt.int_bool x t y,SeqAt.RcNeAt.int_bool x t y⟩
  |int y=>simp only[Rp]at h2;subst h2;obtain⟨t2,rfl⟩:=q2;simp only[eqD];exact⟨SeqAt.RcAt.int_int x t y t2,SeqAt.RcNeAt.int_int x t y t2⟩
  |str y=>simp only[Rp]at h2;subst h2;obtain⟨t2,rfl⟩:=q2;simp only[eqD];exact⟨SeqAt.RcAt.int_str x t y t2,SeqAt.RcNeAt.int_str x t y t2⟩
  |_=>simp[fv]at n2
 |str x =>
  simp only[Rp]at h1;subst h1;obtain⟨t,rfl⟩:=q1
  cases d2 with
  |non=>simp only[Rp]at h2;subst h2;cases q2;simp only[eqD];exact⟨SeqAt.RcAt.str_none x t,SeqAt.RcNeAt.str_none x t⟩
  |bl y=>simp only[Rp]at h2;subst h2;cases q2;simp only[eqD];exact⟨SeqAt.RcAt.str_bool x t y,SeqAt.RcNeAt.str_bool x t y⟩
  |int y=>simp only[Rp]at h2;subst h2;obtain⟨t2,rfl⟩:=q2;simp only[eqD];exact⟨SeqAt.RcAt.str_int x t y t2,SeqAt.RcNeAt.str_int x t y t2⟩
  |str y=>simp only[Rp]at h2;subst h2;obtain⟨t2,rfl⟩:=q2;simp only[eqD];exact⟨SeqAt.RcAt.str_str x t y t2,SeqAt.RcNeAt.str_str x t y t2⟩
  |_=>simp[fv]at n2
 |_=>simp[fv]at n1
variable{its:Array Value}
theorem yD{d2:D}{a:Addr}(pl:s.heap.IsTuple a its)(hu:A.units < cLine)(n2:fv d2=some w2)(h2:Rp K μ H d2 v2)(q2:RelV v2 u2) :
  SeqAt.EqAt A s (.ref a) u2 false/\SeqAt.EqAt A s u2 (.ref a) false/\SeqAt.RcAt A s (.ref a) u2 false/\SeqAt.RcNeAt A s (.ref a) u2 true/\SeqAt.RcAt A s u2 (.ref a) false/\SeqAt.RcNeAt A s u2 (.ref a) true:=by
 cases d2 with
 |non=>simp only[Rp]at h2;subst h2;cases q2;exact⟨SeqAt.EqAt.tuple_none pl hu,SeqAt.EqAt.none_tuple pl hu,SeqAt.RcAt.tuple_none pl hu,SeqAt.RcNeAt.tuple_none pl hu,SeqAt.RcAt.none_tuple pl hu,SeqAt.RcNeAt.none_tuple pl hu⟩
 |bl y=>simp only[Rp]at h2;subst h2;cases q2;exact⟨SeqAt.EqAt.tuple_bool y pl hu,SeqAt.EqAt.bool_tuple y pl hu,SeqAt.RcAt.tuple_bool y pl hu,SeqAt.RcNeAt.tuple_bool y pl hu,SeqAt.RcAt.bool_tuple y pl hu,SeqAt.RcNeAt.bool_tuple y pl hu⟩
 |int y=>simp only[Rp]at h2;subst h2;obtain⟨t2,rfl⟩:=q2;exact⟨SeqAt.EqAt.tuple_int y t2 pl hu,SeqAt.EqAt.int_tuple y t2 pl hu,SeqAt.RcAt.tuple_int y t2 pl hu,SeqAt.RcNeAt.tuple_int y t2 pl hu,SeqAt.RcAt.int_tuple y t2 pl hu,SeqAt.RcNeAt.int_tuple y t2 pl hu⟩
 |str y=>simp only[Rp]at h2;subst h2;obtain⟨t2,rfl⟩:=q2;exact⟨SeqAt.EqAt.tuple_str y t2 pl hu,SeqAt.EqAt.str_tuple y t2 pl hu,SeqAt.RcAt.tuple_str y t2 pl hu,SeqAt.RcNeAt.tuple_str y t2 pl hu,SeqAt.RcAt.str_tuple y t2 pl hu,SeqAt.RcNeAt.str_tuple y t2 pl hu⟩
 |_=>simp[fv]at n2
theorem rP{d2:D}{a:Addr}(pl:s.heap.IsList a its)(hu:A.units < cLine)(n2:fv d2=some w2)(h2:Rp K μ H d2 v2)(q2:RelV v2 u2) :
  SeqAt.EqAt A s (.ref a) u2 false/\SeqAt.EqAt A s u2 (.ref a) false/\SeqAt.RcAt A s (.ref a) u2 false/\SeqAt.RcNeAt A s (.ref a) u2 true/\SeqAt.RcAt A s u2 (.ref a) false/\SeqAt.RcNeAt A s u2 (.ref a) true:=by
 cases d2 with
 |non=>simp only[Rp]at h2;subst h2;cases q2;exact⟨SeqAt.EqAt.list_none pl hu,SeqAt.EqAt.none_list pl hu,SeqAt.RcAt.list_none pl hu,SeqAt.RcNeAt.list_none pl hu,SeqAt.RcAt.none_list pl hu,SeqAt.RcNeAt.none_list pl hu⟩
 |bl y=>simp only[Rp]at h2;subst h2;cases q2;exact⟨SeqAt.EqAt.list_bool y pl hu,SeqAt.EqAt.bool_list y pl hu,SeqAt.RcAt.list_bool y pl hu,SeqAt.RcNeAt.list_bool y pl hu,SeqAt.RcAt.bool_list y pl hu,SeqAt.RcNeAt.bool_list y pl hu⟩
 |int y=>simp only[Rp]at h2;subst h2;obtain⟨t2,rfl⟩:=q2;exact⟨SeqAt.EqAt.list_int y t2 pl hu,SeqAt.EqAt.int_list y t2 pl hu,SeqAt.RcAt.list_int y t2 pl hu,SeqAt.RcNeAt.list_int y t2 pl hu,SeqAt.RcAt.int_list y t2 pl hu,SeqAt.RcNeAt.int_list y t2 pl hu⟩
 |str y=>simp only[Rp]at h2;subst h2;obtain⟨t2,rfl⟩:=q2;exact⟨SeqAt.EqAt.list_str y t2 pl hu,SeqAt.EqAt.str_list y t2 pl hu,SeqAt.RcAt.list_str y t2 pl hu,SeqAt.RcNeAt.list_str y t2 pl hu,SeqAt.RcAt.str_list y t2 pl hu,SeqAt.RcNeAt.str_list y t2 pl hu⟩
 |_=>simp[fv]at n2
variable{k:Bool}
theorem oK{d d2:D}{a:Addr}{xs:List D}(I:Inv X pins σ H s)(hk:X.K=K)(hu:A.units < cLine)(h1:At K μ H d a xs k)(n2:fv d2=some w2)(h2:Rp K μ H d2 v2)(q2:RelV v2 u2) :
  SeqAt.EqAt A s (.ref a) u2 false/\SeqAt.EqAt A s u2 (.ref a) false/\SeqAt.RcAt A s (.ref a) u2 false/\SeqAt.RcNeAt A s (.ref a) u2 true/\SeqAt.RcAt A s u2 (.ref a) false/\SeqAt.RcNeAt A s u2 (.ref a) true:=by
 cases h1 with
 |tup h r=>obtain⟨its,r',pl,_⟩:=I.tuple (hk▸h);exact yD pl hu n2 h2 q2
 |lst h r=>obtain⟨its,r',pl,_⟩:=I.list (hk▸h);exact rP pl.isList hu n2 h2 q2
 |fz h r=>obtain⟨its,r',pl,_⟩:=I.list (hk▸h);exact rP pl.isList hu n2 h2 q2
theorem jF{d d2:D}(n1:fv d=none)(n2:fv d2=some w):eqD d d2=false/\eqD d2 d=false:=by
 cases d <;> simp only[fv,reduceCtorEq]at n1 <;> (cases d2 <;> simp only[fv,reduceCtorEq]at n2 <;> exact⟨rfl,rfl⟩)
theorem aLa{d d2:D}{a b:Addr}{xs ys:List D}{k2:Bool}(I:Inv X pins σ H s)(hk:X.K=K)(hu:A.units < cLine)(h1:At K μ H d a xs k)(h2:At K μ H d2 b ys k2)(n2:dep d2<=100)(ih:Eqs K μ H s A.in1 xs) :
  SeqAt.RcAt A s (.ref a) (.ref b) (eqD d d2)/\SeqAt.RcNeAt A s (.ref a) (.ref b) (!eqD d d2):=by
 cases h1 with
 |tup h r=>cases h2 with
  |tup h' r'=>exact⟨aLy I (hk▸h) (hk▸h') r r' hu (by simp only[dep]at n2;lia) ih,aDv I (hk▸h) (hk▸h') r r' hu (by simp only[dep]at n2;lia) ih⟩
  |lst h' r' =>
   obtain⟨_,_,pl,_⟩:=I.tuple (hk▸h);obtain⟨_,_,pl',_⟩:=I.list (hk▸h')
   exact⟨.tuple_list pl pl'.isList hu,.tuple_list pl pl'.isList hu⟩
  |fz h' r' =>
   obtain⟨_,_,pl,_⟩:=I.tuple (hk▸h);obtain⟨_,_,pl',_⟩:=I.list (hk▸h')
   exact⟨.tuple_list pl pl'.isList hu,.tuple_list pl pl'.isList hu⟩
 |lst h r=>cases h2 with
  |tup h' r' =>
   obtain⟨_,_,pl,_⟩:=I.list (hk▸h);obtain⟨_,_,pl',_⟩:=I.tuple (hk▸h')
   exact⟨.list_tuple pl.isList pl' hu,.list_tuple pl.isList pl' hu⟩
  |lst h' r'=>exact⟨tH I (hk▸h) (hk▸h') r r' hu (by simp only[dep]at n2;lia) ih,lI I (hk▸h) (hk▸h') r r' hu (by simp only[dep]at n2;lia) ih⟩
  |fz h' r'=>exact⟨tH I (hk▸h) (hk▸h') r r' hu (by simp only[dep]at n2;lia) ih,lI I (hk▸h) (hk▸h') r r' hu (by simp only[dep]at n2;lia) ih⟩
 |fz h r=>cases h2 with
  |tup h' r' =>
   obtain⟨_,_,pl,_⟩:=I.list (hk▸h);obtain⟨_,_,pl',_⟩:=I.tuple (hk▸h')
   exact⟨.list_tuple pl.isList pl' hu,.list_tuple pl.isList pl' hu⟩
  |lst h' r'=>exact⟨tH I (hk▸h) (hk▸h') r r' hu (by simp only[dep]at n2;lia) ih,lI I (hk▸h) (hk▸h') r r' hu (by simp only[dep]at n2;lia) ih⟩
  |fz h' r'=>exact⟨tH I (hk▸h) (hk▸h') r r' hu (by simp only[dep]at n2;lia) ih,lI I (hk▸h) (hk▸h') r r' hu (by simp only[dep]at n2;lia) ih⟩
theorem jI{d d2:D}(I:Inv X pins σ H s)(hk:X.K=K)(hu:A.units < cLine)(h1:Rp K μ H d v1)(h2:Rp K μ H d2 v2)(q1:RelV v1 u1)(q2:RelV v2 u2)(m1:dep d<=100)(m2:dep d2<=100)
  (ih:∀a xs k,At K μ H d a xs k->Eqs K μ H s A.in1 xs):SeqAt.EqAt A s u1 u2 (eqD d d2):=by
 cases n1:fv d with
 |some w =>
  cases n2:fv d2 with
  |some w2 =>
   obtain⟨rfl,f1⟩:=rM n1 h1
   obtain⟨rfl,f2⟩:=rM n2 h2
   rw[<- aEj n1 n2]
   exact aFm q1 q2 f1 f2
  |none =>
   obtain⟨a,ds,k,rfl,at2⟩:=kF n2 m2 h2
   cases q2
   rw[(jF n2 n1).2]
   exact(oK I hk hu at2 n1 h1 q1).2.1
 |none =>
  cases n2:fv d2 with
  |some w2 =>
   obtain⟨a,ds,k,rfl,at1⟩:=kF n1 m1 h1
   cases q1
   rw[(jF n1 n2).1]
   exact(oK I hk hu at1 n2 h2 q2).1
  |none =>
   obtain⟨a,xs,k,rfl,at1⟩:=kF n1 m1 h1
   obtain⟨b,ys,k2,rfl,at2⟩:=kF n2 m2 h2
   cases q1
   cases q2
   by_cases hab:a=b
   ·subst hab
    rw[aDg I hk d d2 _ m1 m2 h1 h2]
    exact .same _
   ·exact .of_refs hab (aLa I hk hu at1 at2 m2 (ih a xs k at1)).1
mutual
theorem aCz(I:Inv X pins σ H s)(hk:X.K=K):∀(d:D) (A:Around) (d2:D) (v1 v2:V) (u1 u2:Value),A.units+dep d < cLine->dep d<=100->dep d2<=100->Rp K μ H d v1->Rp K μ H d2 v2->RelV v1 u1->RelV v2 u2->SeqAt.EqAt A s u1 u2 (eqD d d2)
 |.non,A,d2,v1,v2,u1,u2,hu,m1,m2,h1,h2,q1,q2=>jI I hk (by lia) h1 h2 q1 q2 m1 m2 λa xs k z=>nomatch z
 |.bl x,A,d2,v1,v2,u1,u2,hu,m1,m2,h1,h2,q1,q2=>jI I hk (by lia) h1 h2 q1 q2 m1 m2 λa xs k z=>nomatch z
 |.int x,A,d2,v1,v2,u1,u2,hu,m1,m2,h1,h2,q1,q2=>jI I hk (by lia) h1 h2 q1 q2 m1 m2 λa xs k z=>nomatch z
 |.str x,A,d2,v1,v2,u1,u2,hu,m1,m2,h1,h2,q1,q2=>jI I hk (by lia) h1 h2 q1 q2 m1 m2 λa xs k z=>nomatch z
 |.tup xs,A,d2,v1,v2,u1,u2,hu,m1,m2,h1,h2,q1,q2=>jI I hk (by lia) h1 h2 q1 q2 m1 m2 λa ys k z=>by
  have e:xs=ys:=by cases z;rfl
  subst e
  exact mK I hk xs A.in1 (by simp only[dep]at hu;show A.units+1+deps xs < cLine;lia) (by simp only[dep]at m1;lia)
 |.lst xs,A,d2,v1,v2,u1,u2,hu,m1,m2,h1,h2,q1,q2=>jI I hk (by lia) h1 h2 q1 q2 m1 m2 λa ys k z=>by
  have e:xs=ys:=by cases z;rfl
  subst e
  exact mK I hk xs A.in1 (by simp only[dep]at hu;show A.units+1+deps xs < cLine;lia) (by simp only[dep]at m1;lia)
 |.fz xs,A,d2,v1,v2,u1,u2,hu,m1,m2,h1,h2,q1,q2=>jI I hk (by lia) h1 h2 q1 q2 m1 m2 λa ys k z=>by
  have e:xs=ys:=by cases z;rfl
  subst e
  exact mK I hk xs A.in1 (by simp only[dep]at hu;show A.units+1+deps xs < cLine;lia) (by simp only[dep]at m1;lia)
 |.exn c f xs,A,d2,v1,v2,u1,u2,hu,m1,m2,h1,h2,q1,q2=>by simp[dep]at m1
theorem mK(I:Inv X pins σ H s)(hk:X.K=K):∀(xs:List D) (A:Around),A.units+deps xs < cLine->deps xs<=100->Eqs K μ H s A xs
 |[],A,hu,m=>λj d h=>by simp at h
 |x::xs,A,hu,m=>λj d h=>match j,h with
  |0,h=>λd2 v1 v2 u1 u2 m2 r1 r2 q1 q2=>by
   have e:d=x:=by simpa using h.symm
   rw[e]at r1 ⊢
   exact aCz I hk x A d2 v1 v2 u1 u2 (by simp only[deps]at hu;lia) (by simp only[deps]at m;lia) m2 r1 r2 q1 q2
  |j+1,h=>λd2 v1 v2 u1 u2 m2 r1 r2 q1 q2=>mK I hk xs A (by simp only[deps]at hu;lia) (by simp only[deps]at m;lia) j d (by simpa using h) d2 v1 v2 u1 u2 m2 r1 r2 q1 q2
end
noncomputable section
def wd(M:Mm):W->Option D
 |.d x=>some x
 |.ref i=>(M[i]?).map D.lst
 |_=>none
def Rq(K:Frag)(μ:List Addr)(H:Hp)(d:D)(v:V):Prop:=Rp K μ H d v\/∃a ds vs,d=.lst ds/\v=.ref a/\H a=some (.lst vs)/\Rps K μ H ds vs
theorem zL{w:W}{d:D}(hr:HR K μ H M)(r:Rw K μ H w v)(h:wd M w=some d):Rq K μ H d v:=by
 cases w with
 |d x=>simp only[wd,aAQ]at h;subst h;exact .inl r
 |ref i =>
  simp only[wd,aAR]at h
  obtain⟨ds,h1,rfl⟩:=h
  obtain⟨a,q,rfl,il⟩:=r
  obtain⟨a',vs,q1,q2,q3⟩:=hr.at h1 q
  rw[q]at q1;cases q1
  exact .inr ⟨a,ds,vs,rfl,rfl,q2,q3⟩
 |ob _ _=>simp[wd]at h
 |nest _=>simp[wd]at h
theorem tU{d:D}(n:fv d=none)(m:dep d<=100)(h:Rq K μ H d v):∃a ds k,v=.ref a/\At K μ H d a ds k:=by
 rcases h with h|⟨a,ds,vs,rfl,rfl,q1,q2⟩
 ·exact kF n m h
 ·exact⟨a,ds,false,rfl,.lst (SqL.of q1) q2⟩
theorem aGt{d:D}(n:fv d=some w)(h:Rq K μ H d v):Rp K μ H d v:=by
 rcases h with h|⟨a,ds,vs,rfl,rfl,q1,q2⟩
 ·exact h
 ·cases n
theorem aMp{d:D}{a:Addr}{xs:List D}(h:At K μ H d a xs k):dep d=deps xs+1:=by cases h <;> rfl
def pEq(x y:W)(M:Mm):Oc W:=match wd M x,wd M y with
 |some d,some e=>if dep d<=100/\dep e<=100 then .ok (.d (.bl (eqD d e))) M else .bad
 |_,_=>.bad
def pNe(x y:W)(M:Mm):Oc W:=match wd M x,wd M y with
 |some d,some e=>if dep d<=100/\dep e<=100 then .ok (.d (.bl (!eqD d e))) M else .bad
 |_,_=>.bad
def rEqD(K:Frag)(neg:Bool):R2:=λv u H Q=>∃μ d e,Rq K μ H d v/\Rq K μ H e u/\(dep d<=100/\dep e<=100)/\Q (.bl (if neg=true then !eqD d e else eqD d e)) H
end
theorem aQe(I:Inv X pins σ H s)(hk:X.K=K){d d2:D}(hu:A.units+dep d+1 < cLine)(m1:dep d<=100)(m2:dep d2<=100)(h1:Rq K μ H d v1)(h2:Rq K μ H d2 v2)(q1:RelV v1 u1)(q2:RelV v2 u2) :
  (SeqAt.RcAt A s u1 u2 (eqD d d2)/\SeqAt.RcNeAt A s u1 u2 (!eqD d d2)):=by
 have hu0:A.units < cLine:=by lia
 cases n1:fv d with
 |some w =>
  have h1:=aGt n1 h1
  cases n2:fv d2 with
  |some w2=>exact aKn n1 n2 h1 (aGt n2 h2) q1 q2
  |none =>
   obtain⟨b,ys,k2,rfl,at2⟩:=tU n2 m2 h2
   cases q2
   rw[(jF n2 n1).2]
   obtain⟨_,_,_,_,x,y⟩:=oK I hk hu0 at2 n1 h1 q1
   exact⟨x,y⟩
 |none =>
  obtain⟨a,xs,k,rfl,at1⟩:=tU n1 m1 h1
  cases q1
  cases n2:fv d2 with
  |some w2 =>
   rw[(jF n1 n2).1]
   obtain⟨_,_,x,y,_⟩:=oK I hk hu0 at1 n2 (aGt n2 h2) q2
   exact⟨x,y⟩
  |none =>
   obtain⟨b,ys,k2,rfl,at2⟩:=tU n2 m2 h2
   cases q2
   have:=aMp at1
   exact aLa I hk hu0 at1 at2 m2 (mK I hk xs A.in1 (by show A.units+1+deps xs < cLine;lia) (by lia))
theorem aMw(hu:X.A.units+101 < cLine):OpR X (compareOp .Eq) (rEqD X.K false):=by
 intro pins s σ H x y v u Q I rx ry h
 obtain⟨μ,d,e,h1,h2,h3,q⟩:=h
 exact(aQe I rfl (A:=X.A) (by lia) h3.1 h3.2 h1 h2 rx ry).1 _ _ _ _ ⟨.bl _,H,I,rfl,q⟩
theorem aOk(hu:X.A.units+101 < cLine):OpR X (compareOp .NotEq) (rEqD X.K true):=by
 intro pins s σ H x y v u Q I rx ry h
 obtain⟨μ,d,e,h1,h2,h3,q⟩:=h
 exact(aQe I rfl (A:=X.A) (by lia) h3.1 h3.2 h1 h2 rx ry).2 _ _ _ _ ⟨.bl _,H,I,rfl,q⟩
theorem opEq(hu:X.A.units+101 < cLine):OpG X K Z (compareOp .Eq) pEq:=λhk=>⟨_,hk▸aMw hu,by
 intro μ H M x y v u Q hr rx ry p
 unfold pEq at p
 cases q1:wd M x with
 |none=>rw[q1]at p;exact p.elim
 |some d=>cases q2:wd M y with
  |none=>rw[q1,q2]at p;exact p.elim
  |some e =>
   rw[q1,q2]at p
   simp only at p
   split at p
   ·exact⟨μ,d,e,zL hr rx q1,zL hr ry q2,by assumption,p μ H .refl hr _ (by simp[Rw,Rp])⟩
   ·exact p.elim⟩
theorem opNe(hu:X.A.units+101 < cLine):OpG X K Z (compareOp .NotEq) pNe:=λhk=>⟨_,hk▸aOk hu,by
 intro μ H M x y v u Q hr rx ry p
 unfold pNe at p
 cases q1:wd M x with
 |none=>rw[q1]at p;exact p.elim
 |some d=>cases q2:wd M y with
  |none=>rw[q1,q2]at p;exact p.elim
  |some e =>
   rw[q1,q2]at p
   simp only at p
   split at p
   ·exact⟨μ,d,e,zL hr rx q1,zL hr ry q2,by assumption,p μ H .refl hr _ (by simp[Rw,Rp])⟩
   ·exact p.elim⟩
section
variable{K:Frag}{o:Expr}{fo:FE}
@[irreducible] noncomputable def lid:Nat:=2 ^ 4096
variable{i:Int}
theorem vD(h:i.natAbs < lid):Builtin.Int.intBits i<=4096:=by unfold lid at h;exact intBits_le_iff.mpr h
noncomputable section
def mulOk(i j:Int):Bool:=decide ((-18446744073709551616 < i/\i < 18446744073709551616)\/(-18446744073709551616 < j/\j < 18446744073709551616)\/(i.natAbs < lid/\j.natAbs < lid))
theorem aHi:OpR X (binaryOp .Mult) (rI (λi j=>CMul i j\/(i.natAbs < lid/\j.natAbs < lid)) λi j=>.int (i*j)):=L2.opI λ_ _ _ _ _ _ _ hc q=>mul_int q (by
 rcases hc with hc|⟨h1,h2⟩
 ·exact hc.ok
 ·exact mulOk_of_bits (vD h1) (vD h2) (by lia))
def pMul(x y:W)(M:Mm):Oc W:=match x,y with
 |.d (.int i),.d (.int j)=>if mulOk i j=true then .ok (.d (.int (i*j))) M else .bad
 |x,.d (.int k)=>match lv M x with
  |some xs=>if xs.length*k.toNat<=16777216/\k < 9223372036854775808 /\ -9223372036854775808<=k then .ok (.d (.lst (List.replicate k.toNat xs).flatten)) M else .bad
  |none=>.bad
 |_,_=>.bad
theorem lS{x:W}{k:Int}(hr:HR K μ H M)(rx:Rw K μ H x v)(p:Pst K Z μ H (match lv M x with
  |some xs=>if xs.length*k.toNat<=16777216/\k < 9223372036854775808 /\ -9223372036854775808<=k then .ok (.d (.lst (List.replicate k.toNat xs).flatten)) M else .bad
  |none=>.bad) (Wk K Q)):rRep v (.int k) H Q:=by
 cases q1:lv M x with
 |none=>rw[q1]at p;exact p.elim
 |some xs =>
  rw[q1]at p
  simp only at p
  split at p
  ·rename_i hz
   obtain⟨a,vs,rfl,h1,r1⟩:=rU hr rx q1
   exact⟨a,k,vs,rfl,rfl,h1,hz.2.2,hz.2.1,by rw[<- r1.length,aAT];exact hz.1,fE hr (r1.rep k.toNat) p⟩
  ·exact p.elim
theorem opMul:OpG X K Z (binaryOp .Mult) pMul:=λhk=>by
 refine⟨_,OpR.or aHi aLh,?_⟩
 intro μ H M x y v u Q hr rx ry p
 cases y with
 |ref j=>cases x with
  |d x=>cases x <;> exact p.elim
  |_=>exact p.elim
 |ob _ _=>cases x with
  |d x=>cases x <;> exact p.elim
  |_=>exact p.elim
 |nest _=>cases x with
  |d x=>cases x <;> exact p.elim
  |_=>exact p.elim
 |d y=>cases y with
  |int k =>
   have ry':u=.int k:=by simpa only[Rw,Rp]using ry
   subst ry'
   cases x with
   |ref i=>exact .inr (lS hr rx p)
   |ob _ _=>exact .inr (lS hr rx p)
   |nest _=>exact .inr (lS hr rx p)
   |d x=>cases x with
    |int i =>
     simp only[pMul]at p
     simp only[Rw,Rp]at rx
     split at p
     ·rename_i hz
      refine .inl ⟨i,k,rx,rfl,?_,p μ H .refl hr _ (by simp[Rw,Rp])⟩
      simp only[mulOk,aAU]at hz
      rcases hz with hz|hz|hz
      ·exact .inl (.inl hz)
      ·exact .inl (.inr hz)
      ·exact .inr hz
     ·exact p.elim
    |_=>exact .inr (lS hr rx p)
  |_=>cases x with
   |ref i=>exact p.elim
   |ob _ _=>exact p.elim
   |nest _=>exact p.elim
   |d x=>cases x <;> exact p.elim
def eAnd(f g:FE):FE:=λL M=>(f L M).bind λx M1=>match x with
 |.d (.bl true)=>g L M1
 |.d (.bl false)=>.ok (.d (.bl false)) M1
 |_=>.bad
def eOr(f g:FE):FE:=λL M=>(f L M).bind λx M1=>match x with
 |.d (.bl true)=>.ok (.d (.bl true)) M1
 |.d (.bl false)=>g L M1
 |_=>.bad
end
variable{rest:List Expr}
theorem aGh{op}(ha:Ev X K Z a fa):Ev X K Z (.BoolOp op [a] pos) fa:=⟨ha.k,aMb ha.h⟩
theorem aEq(ha:Ev X K Z a fa)(hb:Ev X K Z (.BoolOp .And (b::rest) pos) fb):Ev X K Z (.BoolOp .And (a::b::rest) pos) (eAnd fa fb):=by
 refine⟨ha.k,cqE (aPa ha.h hb.h) ?_⟩
 rintro σ H Q ⟨μ,M,L,hr,lr,p⟩
 refine⟨μ,M,L,hr,lr,p.bind.imp λμ1 H1 M1 x e1 hr1 _ p1 v rx=>?_⟩
 cases x with
 |ref i=>exact p1.elim
 |ob _ _=>exact p1.elim
 |nest _=>exact p1.elim
 |d x=>cases x with
  |bl i =>
   simp only[Rw,Rp]at rx
   refine⟨i,rx,?_⟩
   cases i with
   |true=>exact⟨μ1,M1,L,hr1,lr.ext hr.lsts e1,p1⟩
   |false=>exact p1 μ1 H1 .refl hr1 _ (by simp[Rw,Rp])
  |_=>exact p1.elim
theorem aQf(ha:Ev X K Z a fa)(hb:Ev X K Z (.BoolOp .Or (b::rest) pos) fb):Ev X K Z (.BoolOp .Or (a::b::rest) pos) (eOr fa fb):=by
 refine⟨ha.k,cqE (aQm ha.h hb.h) ?_⟩
 rintro σ H Q ⟨μ,M,L,hr,lr,p⟩
 refine⟨μ,M,L,hr,lr,p.bind.imp λμ1 H1 M1 x e1 hr1 _ p1 v rx=>?_⟩
 cases x with
 |ref i=>exact p1.elim
 |ob _ _=>exact p1.elim
 |nest _=>exact p1.elim
 |d x=>cases x with
  |bl i =>
   simp only[Rw,Rp]at rx
   refine⟨i,rx,?_⟩
   cases i with
   |true=>exact p1 μ1 H1 .refl hr1 _ (by simp[Rw,Rp])
   |false=>exact⟨μ1,M1,L,hr1,lr.ext hr.lsts e1,p1⟩
  |_=>exact p1.elim
noncomputable section
def pIx(x y:W)(M:Mm):Oc W:=match y with
 |.d (.int i)=>match x with
  |.d (.str z)=>match atI z.cps.toList i with
   |some c=>if z.length<=16777216 then .ok (.d (.str ⟨#[c]⟩)) M else .bad
   |none=>.bad
  |x=>match sv M x with
   |some xs=>match atI xs i with
    |some d=>.ok (.d d) M
    |none=>.bad
   |none=>.bad
 |_=>.bad
theorem aLq{ds:List D}{d:D}(r:Rps K μ H ds vs)(h:atI ds i=some d):∃v,atI vs i=some v/\Rp K μ H d v:=by
 unfold atI at h ⊢
 rw[r.length]at h
 cases q:ixN vs.length i with
 |none=>rw[q]at h;cases h
 |some j=>rw[q]at h;exact r.get h
theorem oF{x:W}(hr:HR K μ H M)(rx:Rw K μ H x v)(p:Pst K Z μ H (match sv M x with
   |some xs=>match atI xs i with
    |some d=>Oc.ok (.d d) M
    |none=>.bad
   |none=>.bad) (Wk K Q)):rIx K v (.int i) H Q:=by
 cases q1:sv M x with
 |none=>rw[q1]at p;exact p.elim
 |some xs =>
  rw[q1]at p
  cases q2:atI xs i with
  |none=>simp only[q2]at p;exact p.elim
  |some d =>
   simp only[q2]at p
   obtain⟨a,vs,rfl,h1,r1⟩:=lU hr rx q1
   obtain⟨v,h2,r2⟩:=aLq r1 q2
   have q:=p μ H .refl hr v r2
   rcases h1 with h1|h1
   ·exact .inl ⟨a,vs,i,v,rfl,rfl,h1,h2,q⟩
   ·exact .inr (.inl ⟨a,vs,i,v,rfl,rfl,h1,h2,q⟩)
theorem aOt:Op2 K Z (rIx K) pIx:=by
 intro μ H M x y v u Q hr rx ry p
 cases y with
 |ref j=>exact p.elim
 |ob _ _=>exact p.elim
 |nest _=>exact p.elim
 |d y=>cases y with
  |int i =>
   have:u=.int i:=by simpa only[Rw,Rp]using ry
   subst this
   cases x with
   |ref j=>exact oF hr rx p
   |ob _ _=>exact oF hr rx p
   |nest _=>exact oF hr rx p
   |d x=>cases x with
    |str z =>
     simp only[Rw,Rp]at rx
     simp only[pIx]at p
     cases q:atI z.cps.toList i with
     |none=>simp only[q]at p;exact p.elim
     |some c =>
      simp only[q]at p
      split at p
      ·exact .inr (.inr ⟨z,i,c,rx,rfl,by rw[aAT];assumption,q,p μ H .refl hr _ (by simp[Rw,Rp])⟩)
      ·exact p.elim
    |_=>exact oF hr rx p
  |_=>exact p.elim
theorem aN(ha:Ev X K Z a fa)(hb:Ev X K Z b fb)(hs:PlainIx b:=by intro _ _;rfl):Ev X K Z (.Subscript a b pos) (e2 pIx fa fb):=by
 have h:=aPi (pos:=pos) (aOs (X:=X)) ha.h hb.h hs
 rw[ha.k]at h
 exact⟨ha.k,cqE h (lift2 aOt)⟩
def aNil:FA:=λ_ M=>.ok [] M
def aCons(f:FE)(g:FA):FA:=λL M=>(f L M).bind λw M1=>(g L M1).bind λws M2=>.ok (w::ws) M2
theorem aE(hk:X.K=K:=by rfl):Ea X K Z [] aNil:=⟨hk,cqA dE λσ H Q ⟨μ,M,L,hr,lr,p⟩=>p μ H .refl hr [] rfl⟩
theorem aB(ha:Ev X K Z e fa)(hr:Ea X K Z es fs)(hs:starEach (e::es) X.env=(false,eval e X.env)::starEach es X.env:=by rfl):Ea X K Z (e::es) (aCons fa fs):=by
 refine⟨ha.k,cqA (bJ ha.h hr.h hs) ?_⟩
 rintro σ H Q ⟨μ,M,L,hr,lr,p⟩
 refine⟨μ,M,L,hr,lr,p.bind.imp λμ1 H1 M1 x e1 hr1 _ p1 v rx=>?_⟩
 refine⟨μ1,M1,L,hr1,lr.ext hr.lsts e1,p1.bind.imp λμ2 H2 M2 y e2 hr2 _ p2 us ry=>?_⟩
 exact p2 μ2 H2 .refl hr2 (v::us) ⟨v,us,rfl,rx.ext hr1.lsts e2,ry⟩
def allD:List W->Option (List D)
 |[]=>some []
 |.d x::ws=>(allD ws).map (x::·)
 |_::_=>none
theorem mT:∀{ws:List W} {vs:List V} {ds:List D},Rws K μ H ws vs->allD ws=some ds->Rps K μ H ds vs
 |[],_,_,h,q=>by cases h;simp only[allD,aAQ]at q;subst q;exact .nil
 |.d x::ws,_,_,⟨v,r,e1,e2,e3⟩,q=>by
  simp only[allD,aAR]at q
  obtain⟨ds,q1,rfl⟩:=q
  subst e1
  exact .cons e2 (mT e3 q1)
 |.ref i::ws,_,_,_,q=>by simp[allD]at q
 |.ob _ i::ws,_,_,_,q=>by simp[allD]at q
 |.nest i::ws,_,_,_,q=>by simp[allD]at q
def mkT(ws:List W)(M:Mm):Oc W:=match allD ws with
 |some ds=>if ds.length<=16777216 then okD (.tup ds) M else .bad
 |none=>.bad
def mkL(ws:List W)(M:Mm):Oc W:=match allD ws with
 |some ds=>if ds.length<=16777216 then okD (.lst ds) M else .bad
 |none=>.bad
def mkR(ws:List W)(M:Mm):Oc W:=match allD ws with
 |some ds=>if ds.length<=16777216 then .ok (.ref M.length) (M++[ds])else .bad
 |none=>.bad
def eA(g:List W->Mm->Oc W)(fs:FA):FE:=λL M=>(fs L M).bind g
theorem cE{x1}(h:Ea X K Z es fs):Ev X K Z (.Tuple es x1 pos) (eA mkT fs):=by
 refine⟨h.k,cqE (aGp h.h) ?_⟩
 rintro σ H Q ⟨μ,M,L,hr,lr,p⟩
 refine⟨μ,M,L,hr,lr,p.bind.imp λμ1 H1 M1 ws e1 hr1 _ p1 vs rx=>?_⟩
 unfold mkT at p1
 cases q:allD ws with
 |none=>rw[q]at p1;exact p1.elim
 |some ds =>
  rw[q]at p1
  simp only at p1
  split at p1
  ·have r:=mT rx q
   exact⟨by rw[<- r.length,aAT];assumption,lV hr1 r p1⟩
  ·exact p1.elim
theorem eB(h:Ea X K Z es fs):Ev X K Z (.List es pos) (eA mkL fs):=by
 refine⟨h.k,cqE (yL h.h) ?_⟩
 rintro σ H Q ⟨μ,M,L,hr,lr,p⟩
 refine⟨μ,M,L,hr,lr,p.bind.imp λμ1 H1 M1 ws e1 hr1 _ p1 vs rx=>?_⟩
 unfold mkL at p1
 cases q:allD ws with
 |none=>rw[q]at p1;exact p1.elim
 |some ds =>
  rw[q]at p1
  simp only at p1
  split at p1
  ·have r:=mT rx q
   exact⟨by rw[<- r.length,aAT];assumption,fE hr1 r p1⟩
  ·exact p1.elim
theorem fW(h:Ea X K Z es fs):Ev X K Z (.List es pos) (eA mkR fs):=by
 refine⟨h.k,cqE (yL h.h) ?_⟩
 rintro σ H Q ⟨μ,M,L,hr,lr,p⟩
 refine⟨μ,M,L,hr,lr,p.bind.imp λμ1 H1 M1 ws e1 hr1 _ p1 vs rx=>?_⟩
 unfold mkR at p1
 cases q:allD ws with
 |none=>rw[q]at p1;exact p1.elim
 |some ds =>
  rw[q]at p1
  simp only at p1
  split at p1
  ·have r:=mT rx q
   exact⟨by rw[<- r.length,aAT];assumption,aJm hr1 r p1⟩
  ·exact p1.elim
def eInts(ns:List Int):FE:=λ_ M=>.ok (.d (.lst (ns.map D.int))) M
theorem aHe(h:IntsE es ns)(hn:ns.length<=16777216:=by decide)(hk:X.K=K:=by rfl):Ev X K Z (.List es pos) (eInts ns):=by
 refine⟨hk,cqE (yL (aKa h)) ?_⟩
 rintro σ H Q ⟨μ,M,L,hr,lr,p⟩
 exact⟨by rw[aAK,aAT];exact hn,fE hr Rps.ints p⟩
def Cl(K:Frag)(Z:Zt)(r:List V->Hp->VK->Prop)(g:List W->Mm->Oc W):Prop :=
 ∀(μ:List Addr) (H:Hp) (M:Mm) (ws:List W) (vs:List V) (Q:VK),HR K μ H M->Rws K μ H ws vs->Pst K Z μ H (g ws M) (Wk K Q)->r vs H Q
def ClG(X:Cx)(K:Frag)(Z:Zt)(f:Value)(g:List W->Mm->Oc W):Prop:=X.K=K->∃r,CallR X f r/\Cl K Z r g
end
theorem liftC{g:List W->Mm->Oc W}(h:Cl K Z r g):∀σ H Q,lift K Z (eA g fs) σ H Q->tCB r (liftA K Z fs) σ H Q:=by
 rintro σ H Q ⟨μ,M,L,hr,lr,p⟩
 exact⟨μ,M,L,hr,lr,p.bind.imp λμ1 H1 M1 ws e1 hr1 _ p1 vs rx=>h μ1 H1 M1 ws vs Q hr1 rx p1⟩
variable{p:Pos}
theorem aW{id:String}{g:List W->Mm->Oc W}(hc:ClG X K Z (.builtin id) g)(hg:Gl X x)(hm:X.mg x=none)(hv:bootBuiltins x=some (.builtin id))(ha:Ea X K Z (e::es) fs)
  (hn:x≠"__name__":=by decide)(hdb:(x==("__debug__":Str))=false:=by decide)(he:starEach (e::es) X.env=(false,eval e X.env)::starEach es X.env:=by rfl)
  (hpl:(backTo pos (starEach es X.env)).any (·.1)=false:=by rfl):Ev X K Z (.Call (.Name x p) (e::es) [] pos) (eA g fs):=by
 obtain⟨r,h1,h2⟩:=hc ha.k
 exact⟨ha.k,cqE (mR h1 hg hm hv ha.h hn hdb he hpl) (liftC h2)⟩
theorem bD{T:String}{g:List W->Mm->Oc W}(hc:ClG X K Z (.type T) g)(hg:Gl X x)(hm:X.mg x=none)(hv:bootBuiltins x=some (.type T))(ha:Ea X K Z (e::es) fs)
  (hn:x≠"__name__":=by decide)(hdb:(x==("__debug__":Str))=false:=by decide)(he:starEach (e::es) X.env=(false,eval e X.env)::starEach es X.env:=by rfl)
  (hpl:(backTo pos (starEach es X.env)).any (·.1)=false:=by rfl):Ev X K Z (.Call (.Name x p) (e::es) [] pos) (eA g fs):=by
 obtain⟨r,h1,h2⟩:=hc ha.k
 exact⟨ha.k,cqE (aBd h1 hg hm hv ha.h hn hdb he hpl) (liftC h2)⟩
noncomputable section
def cLen(ws:List W)(M:Mm):Oc W:=match ws with
 |[.d (.str z)]=>if z.length<=16777216 then .ok (.d (.int z.length)) M else .bad
 |[w]=>match sv M w with
  |some xs=>.ok (.d (.int xs.length)) M
  |none=>.bad
 |_=>.bad
theorem mF{w:W}(hr:HR K μ H M)(rx:Rw K μ H w v)(p:Pst K Z μ H (match sv M w with
  |some xs=>Oc.ok (.d (.int xs.length)) M
  |none=>.bad) (Wk K Q)):∃p ys,[v]=[V.ref p]/\(SqL K H p ys\/SqT K H p ys)/\Q (.int ys.length) H:=by
 cases q1:sv M w with
 |none=>rw[q1]at p;exact p.elim
 |some xs =>
  rw[q1]at p
  obtain⟨a,vs,rfl,h1,r1⟩:=lU hr rx q1
  exact⟨a,vs,rfl,h1,p μ H .refl hr _ (by simp[Rw,Rp,r1.length])⟩
theorem callLen:ClG X K Z (.builtin "len") cLen:=λhk=>by
 refine⟨_,CallR.or (hk▸uD) tI,?_⟩
 intro μ H M ws vs Q hr rx p
 match ws,rx,p with
 |[],_,p=>exact p.elim
 |.ref i::[],⟨v,r,e1,e2,e3⟩,p=>cases e3;subst e1;exact .inl (mF hr e2 p)
 |.ob _ i::[],⟨v,r,e1,e2,e3⟩,p=>cases e3;subst e1;exact .inl (mF hr e2 p)
 |.nest i::[],⟨v,r,e1,e2,e3⟩,p=>cases e3;subst e1;exact .inl (mF hr e2 p)
 |.d x::[],⟨v,r,e1,e2,e3⟩,p =>
  cases e3;subst e1
  cases x with
  |str z =>
   simp only[cLen]at p
   simp only[Rw,Rp]at e2
   subst e2
   split at p
   ·exact .inr ⟨z,rfl,by rw[aAT];assumption,p μ H .refl hr _ (by simp[Rw,Rp])⟩
   ·exact p.elim
  |_=>exact .inl (mF hr e2 p)
 |.ref i::_::_,_,p=>exact p.elim
 |.ob _ i::_::_,_,p=>exact p.elim
 |.nest i::_::_,_,p=>exact p.elim
 |.d x::_::_,_,p=>cases x <;> exact p.elim
def cInt(ws:List W)(M:Mm):Oc W:=match ws with
 |[.d (.int i)]=>.ok (.d (.int i)) M
 |[.d (.bl k)]=>.ok (.d (.int (if k=true then 1 else 0))) M
 |_=>.bad
theorem callInt:ClG X K Z (.type "int") cInt:=λhk=>by
 refine⟨_,aBc,?_⟩
 intro μ H M ws vs Q hr rx p
 match ws,rx,p with
 |[],_,p=>exact p.elim
 |.ref i::_,_,p=>exact p.elim
 |.ob _ i::_,_,p=>exact p.elim
 |.nest i::_,_,p=>exact p.elim
 |.d x::[],⟨v,r,e1,e2,e3⟩,p =>
  cases e3;subst e1
  cases x with
  |int i=>simp only[Rw,Rp]at e2;subst e2;exact .inl ⟨i,rfl,p μ H .refl hr _ (by simp[Rw,Rp])⟩
  |bl k=>simp only[Rw,Rp]at e2;subst e2;exact .inr ⟨k,rfl,p μ H .refl hr _ (by simp[Rw,Rp])⟩
  |_=>exact p.elim
 |.d x::_::_,_,p=>cases x <;> exact p.elim
def cList(ws:List W)(M:Mm):Oc W:=match ws with
 |[w]=>match sv M w with
  |some xs=>okD (.lst xs) M
  |none=>.bad
 |_=>.bad
def cTup(ws:List W)(M:Mm):Oc W:=match ws with
 |[w]=>match sv M w with
  |some xs=>okD (.tup xs) M
  |none=>.bad
 |_=>.bad
end
theorem zN{g:List D->Oc W}{ws:List W}{Q:List Addr->Hp->Mm->W->Prop}(hr:HR K μ H M)(rx:Rws K μ H ws vs)(p:Pst K Z μ H (match ws with
 |[w]=>match sv M w with
  |some xs=>g xs
  |none=>.bad
 |_=>.bad) Q):∃w a us xs,ws=[w]/\vs=[.ref a]/\sv M w=some xs/\Rw K μ H w (.ref a)/\(SqL K H a us\/SqT K H a us)/\Rps K μ H xs us/\Pst K Z μ H (g xs) Q:=by
 match ws,rx,p with
 |[],_,p=>exact p.elim
 |[w],⟨v,r,e1,e2,e3⟩,p =>
  cases e3;subst e1
  simp only at p
  cases q:sv M w with
  |none=>rw[q]at p;exact p.elim
  |some xs =>
   rw[q]at p
   obtain⟨a,us,rfl,h1,r1⟩:=lU hr e2 q
   exact⟨w,a,us,xs,rfl,rfl,q,e2,h1,r1,p⟩
 |_::_::_,_,p=>exact p.elim
theorem callList:ClG X K Z (.type "list") cList:=λhk=>by
 refine⟨_,hk▸uO,?_⟩
 intro μ H M ws vs Q hr rx p
 obtain⟨w,a,us,xs,rfl,rfl,q,e2,h1,r1,p⟩:=zN hr rx p
 exact⟨a,us,rfl,h1,fE hr r1 p⟩
theorem callTup:ClG X K Z (.type "tuple") cTup:=λhk=>by
 refine⟨_,hk▸rF,?_⟩
 intro μ H M ws vs Q hr rx p
 obtain⟨w,a,us,xs,rfl,rfl,q,e2,h1,r1,p⟩:=zN hr rx p
 by_cases hw:∃ys,w=.d (.tup ys)
 ·obtain⟨ys,rfl⟩:=hw
  simp only[sv,aAQ]at q
  subst q
  have e2':=e2
  simp only[Rw,Rp]at e2
  obtain⟨a',vs',ea,h1',r1'⟩:=e2
  cases ea
  exact⟨a,vs',rfl,.inr ⟨SqT.of h1',p μ H .refl hr _ e2'⟩⟩
 ·have hl:lr M w=some xs:=by
   cases w with
   |ref i=>exact q
   |ob _ _=>exact q
   |nest _=>exact q
   |d x=>cases x <;> first|exact q|exact(hw ⟨_,rfl⟩).elim
  obtain⟨a',vs',ea,h1',r1'⟩:=pK hr e2 hl
  cases ea
  exact⟨a,vs',rfl,.inl ⟨h1',lV hr r1' p⟩⟩
end
section
variable{K:Frag}{o:Expr}{fo:FE}{rest:List Stmt}{F G:FS}
noncomputable section
def sNil:FS:=λL M=>.ok (.nx L) M
def sSeq(F G:FS):FS:=λL M=>(F L M).bind λo M1=>match o with
 |.nx L1=>G L1 M1
 |.bk L1=>.ok (.bk L1) M1
 |.ct L1=>.ok (.ct L1) M1
 |.rt w=>.ok (.rt w) M1
theorem aR(hk:X.K=K:=by rfl):Ess X K Z [] sNil:=⟨hk,cqSs aJt λE σ H ⟨μ,M,L,hr,lr,p⟩=>p μ H .refl hr σ lr⟩
theorem aC(h1:Es X K Z st F)(h2:Ess X K Z rest G):Ess X K Z (st::rest) (sSeq F G):=by
 refine⟨h1.k,cqSs (wL h1.h h2.h) ?_⟩
 rintro E σ H ⟨μ,M,L,hr,lr,p⟩
 refine⟨μ,M,L,hr,lr,p.bind.imp λμ1 H1 M1 o e1 hr1 _ p1=>?_⟩
 cases o with
 |nx L1=>exact λσ' lr'=>⟨μ1,M1,L1,hr1,lr',p1⟩
 |bk L1=>exact p1 μ1 H1 .refl hr1
 |ct L1=>exact p1 μ1 H1 .refl hr1
 |rt w=>exact p1 μ1 H1 .refl hr1
theorem aF(h1:Es X K Z st F):Ess X K Z [st] F:=⟨h1.k,zO h1.h⟩
def sEx(f:FE):FS:=λL M=>(f L M).bind λ_ M1=>.ok (.nx L) M1
theorem jJ(h:Ev X K Z e f)(hs:swapsWith e none pos.line X.env=pure false:=by rfl):Es X K Z (.Expr e pos) (sEx f):=by
 refine⟨h.k,cqS (aAj h.h hs) ?_⟩
 rintro E σ H ⟨μ,M,L,hr,lr,p⟩
 exact⟨μ,M,L,hr,lr,p.bind.imp λμ1 H1 M1 x e1 hr1 _ p1 v rx=>p1 μ1 H1 .refl hr1 σ (lr.ext hr.lsts e1)⟩
def sRt(f:FE):FS:=λL M=>(f L M).bind λw M1=>.ok (.rt w) M1
theorem aJ(h:Ev X K Z e f):Es X K Z (.Return (some e) pos) (sRt f):=by
 refine⟨h.k,cqS (aOg h.h) ?_⟩
 rintro E σ H ⟨μ,M,L,hr,lr,p⟩
 exact⟨μ,M,L,hr,lr,p.bind.imp λμ1 H1 M1 x e1 hr1 _ p1 v rx=>p1 μ1 H1 .refl hr1 v rx⟩
def sIf(t:FT)(F G:FS):FS:=λL M=>(t L M).bind λb M1=>if b=true then F L M1 else G L M1
theorem bC{c:Expr}{p q:List Stmt}{t:FT}(hc:Et X K Z c t)(ha:Ess X K Z p F)(hb:Ess X K Z q G):Es X K Z (.If c p q pos) (sIf t F G):=by
 refine⟨hc.k,cqS (aPn hc.h ha.h hb.h) ?_⟩
 rintro E σ H ⟨μ,M,L,hr,lr,p⟩
 refine⟨μ,M,L,hr,lr,p.bind.imp λμ1 H1 M1 x e1 hr1 _ p1=>?_⟩
 cases x with
 |true=>exact⟨μ1,M1,L,hr1,lr.ext hr.lsts e1,p1⟩
 |false=>exact⟨μ1,M1,L,hr1,lr.ext hr.lsts e1,p1⟩
def gN(i:Nat):FG:=λw L M=>.ok (L.set i (some w)) M
theorem LR.set{L:Lc}{σ:St}{i:Nat}{w:W}{v:V}(h:LR K μ H L σ)(r:Rw K μ H w v):LR K μ H (L.set i (some w)) (σ.set i (some v))where
 len:=by simp[h.len]
 ent:=λj u q=>by
  by_cases hj:i=j
  ·subst hj
   have hl:i < L.length:=by
    by_cases hl:i < L.length
    ·exact hl
    ·rw[List.set_eq_of_length_le (by lia)]at q
     rw[aDW (by lia)]at q;cases q
   rw[aBT hl]at q
   cases q
   exact⟨v,by rw[aBT (by rw[<- h.len];exact hl)],r⟩
  ·rw[aBS hj]at q
   obtain⟨x,q1,q2⟩:=h.ent j u q
   exact⟨x,by rw[aBS hj];exact q1,q2⟩
theorem aK(hN:X.N.Nodup)(hi:X.N[i]?=some x:=by rfl)(hx:Loc X.env.scope x:=by first|exact Or.inl rfl|exact Or.inr rfl)(hk:X.K=K:=by rfl)(hf:X.fn x=true\/X.env.scope.names.lookup x=some .local:=by first|exact .inl rfl|exact .inr rfl|assumption) :
  Eg X K Z (.Name x pos) (gN i):=⟨hk,cqG (aIt hN hi hx hf) λv σ H Q ⟨μ,M,L,w,hr,lr,rx,p⟩=>p μ H .refl hr _ (lr.set rx)⟩
def gsNil:FGs:=λds L M=>match ds with
 |[]=>.ok L M
 |_=>.bad
def gsCons(g:FG)(gs:FGs):FGs:=λds L M=>match ds with
 |d::r=>(g (.d d) L M).bind λL1 M1=>gs r L1 M1
 |[]=>.bad
end
theorem eQ(hk:X.K=K:=by rfl):Egs X K Z [] gsNil:=⟨hk,cqGs aHy λvs σ H Q ⟨μ,M,L,ds,hr,lr,rx,p⟩=>by
 cases ds with
 |nil=>simp only[Rps]at rx;exact⟨rx,p μ H .refl hr σ lr⟩
 |cons d r=>exact p.elim⟩
variable{gs:FGs}
theorem aX{g:FG}(h1:Eg X K Z e g)(h2:Egs X K Z es gs)(hs:(assignEach (e::es) X.env).map (·.2)=assign e X.env::(assignEach es X.env).map (·.2):=by rfl):Egs X K Z (e::es) (gsCons g gs) :=
 ⟨h1.k,cqGs (aEo h1.h h2.h hs) λvs σ H Q ⟨μ,M,L,ds,hr,lr,rx,p⟩=>by
  cases ds with
  |nil=>exact p.elim
  |cons d r =>
   simp only[Rps]at rx
   obtain⟨v,vr,e1,rd,rr⟩:=rx
   refine⟨v,vr,e1,μ,M,L,.d d,hr,lr,rd,p.bind.imp λμ1 H1 M1 L1 e1 hr1 _ p1 σ1 lr1=>?_⟩
   exact⟨μ1,M1,L1,r,hr1,lr1,Rps.ext hr.lsts e1 _ _ rr,p1⟩⟩
noncomputable section
def gT(n:Nat)(gs:FGs):FG:=λw L M=>match w with
 |.d (.tup xs)=>if xs.length=n then gs xs L M else .bad
 |_=>.bad
theorem iW{k:Nat}(hc:X.calm=true)(h:Egs X K Z es gs)(hn:(assignEach es X.env).length=n:=by rfl)(hst:(assignEach es X.env).findIdx? (·.1)=none:=by rfl):Eg X K Z (.Tuple es k pos) (gT n gs):=by
 have h':=aNt (k:=k) (pos:=pos) hc h.h hn hst
 rw[h.k]at h'
 refine⟨h.k,cqG h' λv σ H Q ⟨μ,M,L,w,hr,lr,rx,p⟩=>?_⟩
 cases w with
 |ref i=>exact p.elim
 |ob _ _=>exact p.elim
 |nest _=>exact p.elim
 |d x=>cases x with
  |tup xs =>
   simp only[gT]at p
   split at p
   ·simp only[Rw,Rp]at rx
    obtain⟨a,vs,e1,q1,r1⟩:=rx
    exact⟨a,vs,e1,SqT.of q1,by rw[<- r1.length];assumption,μ,M,L,xs,hr,lr,r1,p⟩
   ·exact p.elim
  |_=>exact p.elim
def gS(fo fi:FE):FG:=λw L M=>(fo L M).bind λo M1=>(fi L M1).bind λi M2=>match o,i,w with
 |.ref k,.d (.int j),.d x=>match M2[k]? with
  |some xs=>match ixN xs.length j with
   |some t=>.ok L (M2.set k (xs.set t x))
   |none=>.bad
  |none=>.bad
 |_,_,_=>.bad
theorem xX{i:Expr}{fi:FE}(ho:Ev X K Z o fo)(hi:Ev X K Z i fi)(ha:∀v,assign (.Subscript o i pos) X.env v=(do
   let ov <- holding [v] (eval o X.env)
   let iv <- holding [v,ov] (eval i X.env)
   standAt pos
   holding [v,ov,iv] (setItem ov iv v)
   release [v,ov,iv] []):=by intro _;rfl):Eg X K Z (.Subscript o i pos) (gS fo fi):=by
 refine⟨ho.k,cqG (aNu ho.h hi.h aEz ha) λv σ H Q ⟨μ,M,L,w,hr,lr,rx,p⟩=>?_⟩
 refine⟨μ,M,L,hr,lr,p.bind.imp λμ1 H1 M1 x e1 hr1 _ p1 vo ro=>?_⟩
 refine⟨μ1,M1,L,hr1,lr.ext hr.lsts e1,p1.bind.imp λμ2 H2 M2 y e2 hr2 _ p2 vi ri=>?_⟩
 cases x with
 |d x=>exact p2.elim
 |ob _ _=>exact p2.elim
 |nest _=>exact p2.elim
 |ref k=>cases y with
  |ref j=>exact p2.elim
  |ob _ _=>exact p2.elim
  |nest _=>exact p2.elim
  |d y=>cases y with
   |int j=>cases w with
    |ref q=>exact p2.elim
    |ob _ _=>exact p2.elim
    |nest _=>exact p2.elim
    |d z =>
     simp only at p2
     cases q1:M2[k]? with
     |none=>simp only[q1]at p2;exact p2.elim
     |some xs =>
      simp only[q1]at p2
      cases q2:ixN xs.length j with
      |none=>simp only[q2]at p2;exact p2.elim
      |some t =>
       simp only[q2]at p2
       have ro:=ro.ext hr1.lsts e2
       obtain⟨a,qa,rfl,il⟩:=ro
       obtain⟨a',vs,qa',h1,r1⟩:=hr2.at q1 qa
       rw[qa]at qa';cases qa'
       simp only[Rw,Rp]at ri
       subst ri
       have rz:=Rw.ext hr1.lsts e2 (Rw.ext hr.lsts e1 rx)
       refine⟨a,vs,j,t,rfl,rfl,h1,by rw[<- r1.length];exact q2,?_⟩
       exact p2 μ2 _ (dN qa) (hr2.set qa (Rps.set rz t r1)) σ ((lr.ext hr.lsts (e1.trans e2)).ext hr2.lsts (dN qa))
   |_=>exact p2.elim
def sAs(f:FE)(g:FG):FS:=λL M=>(f L M).bind λw M1=>(g w L M1).bind λL1 M2=>.ok (.nx L1) M2
theorem gE{tg:Expr}{g:FG}(he:Ev X K Z e f)(hg:Eg X K Z tg g)(hs:swapsWithSole [tg] e pos.line X.env=pure false:=by rfl)(hw:swappedStores [tg] e X.env=pure none:=by rfl)
  (h1:(assignEach [tg] X.env).map (·.2)=[assign tg X.env]:=by rfl):Es X K Z (.Assign [tg] e pos) (sAs f g):=by
 refine⟨he.k,cqS (aMe he.h hg.h hs hw h1) ?_⟩
 rintro E σ H ⟨μ,M,L,hr,lr,p⟩
 refine⟨μ,M,L,hr,lr,p.bind.imp λμ1 H1 M1 x e1 hr1 _ p1 v rx=>?_⟩
 exact⟨μ1,M1,L,x,hr1,lr.ext hr.lsts e1,rx,p1.bind.imp λμ2 H2 M2 L2 e2 hr2 _ p2 σ2 lr2=>p2 μ2 H2 .refl hr2 σ2 lr2⟩
theorem aQ(hN:X.N.Nodup)(he:Ev X K Z e f)(hi:X.N[i]?=some x:=by rfl)(hx:Loc X.env.scope x:=by first|exact Or.inl rfl|exact Or.inr rfl)(hs:swapsWith e (some (.Name x pos')) pos.line X.env=pure false:=by rfl)
  (hf:X.fn x=true\/X.env.scope.names.lookup x=some .local:=by first|exact .inl rfl|exact .inr rfl|assumption):Es X K Z (.Assign [.Name x pos'] e pos) (sAs f (gN i)):=by
 refine⟨he.k,cqS (aOn hN hi hx he.h hs hf) ?_⟩
 rintro E σ H ⟨μ,M,L,hr,lr,p⟩
 refine⟨μ,M,L,hr,lr,p.bind.imp λμ1 H1 M1 x e1 hr1 _ p1 v rx=>?_⟩
 exact p1 μ1 H1 .refl hr1 _ (LR.set (lr.ext hr.lsts e1) rx)
def sPar(i j:Nat)(fs:FA):FS:=λL M=>(fs L M).bind λws M1=>match ws with
 |[v,w]=>.ok (.nx ((L.set i (some v)).set j (some w))) M1
 |_=>.bad
end
end
section
variable{K:Frag}{o:Expr}{fo:FE}{rest:List Stmt}{F G:FS}
theorem kX{px py pt:Pos}{kt k2 pt2}(hc:X.calm=true)(hN:X.N.Nodup)(ha:Ea X K Z [a,b] fs)(hi:X.N[i]?=some x:=by rfl)(hj:X.N[j]?=some y:=by rfl)(hij:i≠j:=by decide)
  (hx:X.env.scope.names.lookup x=some .local:=by rfl)(hy:X.env.scope.names.lookup y=some .local:=by rfl)
  (hw:swappedStores [.Tuple [.Name x px,.Name y py] kt pt] (.Tuple [a,b] k2 pt2) X.env=pure (some [x,y]):=by rfl)
  (hs:swapsWithSole [.Tuple [.Name x px,.Name y py] kt pt] (.Tuple [a,b] k2 pt2) pos.line X.env=pure false:=by rfl) :
  Es X K Z (.Assign [.Tuple [.Name x px,.Name y py] kt pt] (.Tuple [a,b] k2 pt2) pos) (sPar i j fs):=by
 refine⟨ha.k,cqS (aMq hc hN hi hj hij hx hy ha.h hw hs) ?_⟩
 rintro E σ H ⟨μ,M,L,hr,lr,p⟩
 refine⟨μ,M,L,hr,lr,p.bind.imp λμ1 H1 M1 ws e1 hr1 _ p1 vs rx=>?_⟩
 match ws,rx,p1 with
 |[],_,p1=>exact p1.elim
 |[_],_,p1=>exact p1.elim
 |[v,w],⟨v1,r,q1,q2,v2,r',q1',q2',q3⟩,p1 =>
  cases q3;subst q1' q1
  exact⟨v1,v2,rfl,p1 μ1 H1 .refl hr1 _ (LR.set (LR.set (lr.ext hr.lsts e1) q2) q2')⟩
 |_::_::_::_,_,p1=>exact p1.elim
noncomputable section
def sAug(g:W->W->Mm->Oc W)(i:Nat)(f:FE):FS:=λL M=>(eV i L M).bind λx _=>(f L M).bind λy M1=>(g x y M1).bind λz M2=>.ok (.nx (L.set i (some z))) M2
theorem aAv{i:Nat}{op:Operator}{g:Int->Int->Int}(hN:X.N.Nodup)(ho:PIp X op (ipI g))(he:Ev X K Z e f)(hi:X.N[i]?=some x:=by rfl)(hx:Loc X.env.scope x:=by first|exact Or.inl rfl|exact Or.inr rfl)
  (hf:X.fn x=true\/X.env.scope.names.lookup x=some .local:=by first|exact .inl rfl|exact .inr rfl|assumption):Es X K Z (.AugAssign (.Name x pos') op e pos) (sAug (pI (λ_ _=>true) λi j=>.int (g i j)) i f):=by
 refine⟨he.k,cqS (aFh hN hi hx he.h ho hf) ?_⟩
 rintro E σ H ⟨μ,M,L,hr,lr,p⟩
 unfold sAug eV at p
 cases q:L[i]? with
 |none=>rw[q]at p;exact p.elim
 |some o =>
  cases o with
  |none=>rw[q]at p;exact p.elim
  |some w =>
   rw[q]at p
   obtain⟨v,q1,q2⟩:=lr.ent i w q
   refine⟨v,q1,μ,M,L,hr,lr,(show Pst K Z μ H ((f L M).bind _) _ from p).bind.imp λμ1 H1 M1 y e1 hr1 _ p1 u ru=>?_⟩
   cases w with
   |ref i=>exact p1.elim
   |ob _ _=>exact p1.elim
   |nest _=>exact p1.elim
   |d w=>cases y with
    |ref j=>cases w <;> exact p1.elim
    |ob _ _=>cases w <;> exact p1.elim
    |nest _=>cases w <;> exact p1.elim
    |d y=>cases w <;> cases y <;> first
     |exact p1.elim
     |(simp only[Rw,Rp]at q2 ru
       exact⟨_,_,q2,ru,p1 μ1 H1 .refl hr1 _ (LR.set (lr.ext hr.lsts e1) (by simp[Rw,Rp]))⟩)
def pAppend(x y:W)(M:Mm):Oc W:=match x,y with
 |.ref k,.d d=>match M[k]? with
  |some xs=>if xs.length < 16777216 then .ok (.d .non) (M.set k (xs++[d]))else .bad
  |none=>.bad
 |_,_=>.bad
theorem yX{k:Nat}(hr:HR K μ H M)(r:Rw K μ H (.ref k) v):tyV K "list" v H:=by
 obtain⟨a,q,rfl,il⟩:=r
 obtain⟨vs,h⟩:=il
 exact .inl ⟨rfl,vs,SqL.of h⟩
def eM1(g:W->W->Mm->Oc W)(fo fe:FE):FE:=λL M=>(fo L M).bind λx M1=>match x with
 |.ref k=>(fe L M1).bind λy M2=>g (.ref k) y M2
 |_=>.bad
theorem gB(ho:Ev X K Z o fo)(he:Ev X K Z e fa)(hbase:attributeBase o "append" X.env (eval o X.env)=eval o X.env:=by rfl)
  (hfew:((backTo cpos (starEach [e] X.env)).all (λx=>!x.1)&&(backToKw cpos (keywordEach [] X.env)).all (λx=>x.1.isSome)&&decide ([e].length+([]:List Keyword).length+(if([]:List Keyword).isEmpty then 0 else 1) < 30))=true:=by rfl)
  (hline:(apos.endLine==cpos.line)=true:=by rfl)(hs:starEach [e] X.env=(false,eval e X.env)::starEach [] X.env:=by rfl)(hplain:(backTo cpos (starEach [] X.env)).any (·.1)=false:=by rfl) :
  Ev X K Z (.Call (.Attribute o "append" apos) [e] [] cpos) (eM1 pAppend fo fa):=by
 have h:=sI aEK PySem.F.slot_list_append PySem.F.type_list_append rZ ho.h (bJ he.h dE hs) hbase hfew hline hs hplain
 rw[ho.k]at h
 refine⟨ho.k,cqE h ?_⟩
 rintro σ H Q ⟨μ,M,L,hr,lr,p⟩
 refine⟨μ,M,L,hr,lr,p.bind.imp λμ1 H1 M1 x e1 hr1 _ p1 v rx=>?_⟩
 cases x with
 |d x=>exact p1.elim
 |ob _ _=>exact p1.elim
 |nest _=>exact p1.elim
 |ref k =>
  refine⟨yX hr1 rx,μ1,M1,L,hr1,lr.ext hr.lsts e1,p1.bind.imp λμ2 H2 M2 y e2 hr2 _ p2 u ry=>?_⟩
  cases y with
  |ref j=>exact p2.elim
  |ob _ _=>exact p2.elim
  |nest _=>exact p2.elim
  |d d =>
   simp only[pAppend]at p2
   cases q1:M2[k]? with
   |none=>simp only[q1]at p2;exact p2.elim
   |some xs =>
    simp only[q1]at p2
    split at p2
    ·rename_i hz
     obtain⟨a,qa,rfl,il⟩:=rx.ext hr1.lsts e2
     obtain⟨a',vs,qa',h1,r1⟩:=hr2.at q1 qa
     rw[qa]at qa';cases qa'
     refine⟨a,vs,u,rfl,rfl,h1,by rw[<- r1.length,aAT];exact hz,?_⟩
     exact p2 μ2 _ (dN qa) (hr2.set qa (r1.append (.cons ry .nil))) _ (by simp[Rw,Rp])
    ·exact p2.elim
def pExtend(x y:W)(M:Mm):Oc W:=match x with
 |.ref k=>match M[k]?,lv M y with
  |some xs,some ys=>if xs.length+ys.length<=16777216 then .ok (.d .non) (M.set k (xs++ys))else .bad
  |_,_=>.bad
 |_=>.bad
def pPop(x:W)(M:Mm):Oc W:=match x with
 |.ref k=>match M[k]? with
  |some xs=>match xs.getLast? with
   |some d=>.ok (.d d) (M.set k xs.dropLast)
   |none=>.bad
  |none=>.bad
 |_=>.bad
theorem aOm(ho:Ev X K Z o fo)(hbase:attributeBase o "pop" X.env (eval o X.env)=eval o X.env:=by rfl)(hline:(apos.endLine==cpos.line)=true:=by rfl) :
  Ev X K Z (.Call (.Attribute o "pop" apos) [] [] cpos) (e1 pPop fo):=by
 have h:=aLn aEK PySem.F.slot_list_pop PySem.F.type_list_pop aLt ho.h hbase hline
 rw[ho.k]at h
 refine⟨ho.k,cqE h ?_⟩
 rintro σ H Q ⟨μ,M,L,hr,lr,p⟩
 refine⟨μ,M,L,hr,lr,p.bind.imp λμ1 H1 M1 x e1 hr1 _ p1 v rx=>?_⟩
 cases x with
 |d x=>exact p1.elim
 |ob _ _=>exact p1.elim
 |nest _=>exact p1.elim
 |ref k =>
  refine⟨yX hr1 rx,?_⟩
  simp only[pPop]at p1
  cases q1:M1[k]? with
  |none=>simp only[q1]at p1;exact p1.elim
  |some xs =>
   simp only[q1]at p1
   cases q2:xs.getLast? with
   |none=>simp only[q2]at p1;exact p1.elim
   |some d =>
    simp only[q2]at p1
    obtain⟨a,qa,rfl,il⟩:=rx
    obtain⟨a',vs,qa',h1,r1⟩:=hr1.at q1 qa
    rw[qa]at qa';cases qa'
    rw[List.getLast?_eq_getElem?]at q2
    obtain⟨u,q3,q4⟩:=r1.get q2
    refine⟨a,vs,u,rfl,rfl,h1,by rw[<- r1.length];exact q3,?_⟩
    exact p1 μ1 _ (dN qa) (hr1.set qa r1.dropLast) u (Rp.ext hr1.lsts (dN qa) _ _ q4)
abbrev FO:=Lc->Mm->Oc (Option Int)
def liftO(K:Frag)(Z:Zt)(f:FO):TO:=λσ H Q=>∃μ M L,HR K μ H M/\LR K μ H L σ/\Pst K Z μ H (f L M) λμ' H' _ w=>Q w H'
end
structure Eo(X:Cx)(K:Frag)(Z:Zt)(e:Option Expr)(f:FO):Prop where
 k:X.K=K
 h:PO X e (liftO K Z f)
noncomputable section
def oNo:FO:=λ_ M=>.ok none M
def oAt(f:FE):FO:=λL M=>(f L M).bind λw M1=>match w with
 |.d (.int i)=>.ok (some i) M1
 |_=>.bad
theorem cqO{oe:Option Expr}{t t':TO}(h:PO X oe t)(i:∀σ H Q,t' σ H Q->t σ H Q):PO X oe t':=λpins s σ H Q I q=>h pins s σ H Q I (i _ _ _ q)
theorem gO(hk:X.K=K:=by rfl):Eo X K Z none oNo:=⟨hk,cqO aHw λσ H Q ⟨μ,M,L,hr,lr,p⟩=>p μ H .refl hr⟩
theorem dQ(h:Ev X K Z e f):Eo X K Z (some e) (oAt f):=by
 refine⟨h.k,cqO (aIx h.h) ?_⟩
 rintro σ H Q ⟨μ,M,L,hr,lr,p⟩
 refine⟨μ,M,L,hr,lr,p.bind.imp λμ1 H1 M1 x e1 hr1 _ p1 v rx=>?_⟩
 cases x with
 |ref i=>exact p1.elim
 |ob _ _=>exact p1.elim
 |nest _=>exact p1.elim
 |d x=>cases x with
  |int i=>simp only[Rw,Rp]at rx;exact⟨i,rx,p1 μ1 H1 .refl hr1⟩
  |_=>exact p1.elim
def cut(xs:List α)(lo hi:Option Int):List α:=(xs.drop (HT.sIx xs.length 0 lo)).take (HT.sIx xs.length xs.length hi - HT.sIx xs.length 0 lo)
def pSl(x:W)(lo hi:Option Int)(M:Mm):Oc W:=match x with
 |.d (.tup xs)=>okD (.tup (cut xs lo hi)) M
 |x=>match lr M x with
  |some xs=>okD (.lst (cut xs lo hi)) M
  |none=>.bad
end
theorem aAq{ds:List D}(r:Rps K μ H ds vs):Rps K μ H (cut ds lo hi) (cutV vs lo hi):=by
 unfold cut cutV
 rw[r.length]
 exact(r.drop _).take _
end
theorem nJ:fillsNumberSlot (.type "tuple") "mul"=pure false :=
 PySem.fillsNumberSlot_seq (id:="tuple.__mul__") (r:=some (.builtin "tuple.__rmul__")) aFE.lookup (by decide +kernel) F.slot_tuple_rmul.lookup (by decide +kernel)
theorem tQ:seqRepeat? (.type "tuple")=pure (some (.builtin "tuple.__mul__")):=by
 unfold seqRepeat?
 rw[PySem.seqSlot_of (T:="tuple") (name:="__mul__") (id:="tuple.__mul__") aFE.lookup (by decide +kernel),PySem.seqSlot_of (T:="tuple") (name:="__rmul__") (id:="tuple.__rmul__") F.slot_tuple_rmul.lookup (by decide +kernel)]
 rfl
theorem pM(a:Int)(t:Tok)(l:Addr)(items:Array Value)(n:Nat)(dd:Option Addr)(sl:Array (Option Value)) :
  Meets (Builtin.«int.__rmul__» ⟨[.int a t,.ref l],[]⟩) (λ_ R s=>s.heap.get? l=some {cls:=.type "tuple",dict:=dd,data:=.seq items n,slots:=sl}/\R (.ok (.ret Value.notImplemented)) s) :=
 .of_wp λprog w A R s h=>by obtain⟨hp,g,d,tk,os⟩:=s;obtain⟨hl,h⟩:=h;wp_walk using aBK hl;exact⟨_,rfl,h⟩
theorem xR(l:Addr)(items:Array Value)(n:Nat)(dd:Option Addr)(sl:Array (Option Value))(x:Int)(u:Tok)(h1:(decide (x < -(2 ^ 63)) || decide (x>=2 ^ 63))=false)(h2:(items.isEmpty || x==1)=true) :
  Meets (Builtin.«tuple.__mul__» ⟨[.ref l,.int x u],[]⟩) (λ_ R s=>s.heap.get? l=some {cls:=.type "tuple",dict:=dd,data:=.seq items n,slots:=sl}/\R (.ok (.ret (Value.ref l))) s) :=
 .of_wp λprog w A R s h=>by
  obtain⟨hp,g,d,tk,os⟩:=s;obtain⟨hl,h⟩:=h
  have f1:=aGO
  wp_walk using aBK hl
  refine aGW (by rw[h1];rfl) ?_
  wp_walk using aBK hl
  exact⟨_,rfl,h⟩
theorem xH(l:Addr)(items:Array Value)(n:Nat)(dd:Option Addr)(sl:Array (Option Value))(x:Int)(u:Tok)(h1:(decide (x < -(2 ^ 63)) || decide (x>=2 ^ 63))=false)(h2:(items.isEmpty || x==1)=false)(h3:(decide (x<=0) || items.isEmpty)=true) :
  Meets (Builtin.«tuple.__mul__» ⟨[.ref l,.int x u],[]⟩) (λ_ R s=>s.heap.get? l=some {cls:=.type "tuple",dict:=dd,data:=.seq items n,slots:=sl}/\R (.ok (.ret (Value.ref s.heap.objs.size))) {s with heap:=s.heap.push {cls:=Value.type "tuple",data:=Data.seq #[]},toks:=s.toks}) :=
 .of_wp λprog w A R s h=>by
  obtain⟨hp,g,d,tk,os⟩:=s;obtain⟨hl,h⟩:=h
  have f1:=aGO
  wp_walk using aBK hl
  refine aGW (by rw[h1];rfl) ?_
  wp_walk using aBK hl
  exact⟨_,rfl,h⟩
theorem xA(l:Addr)(items:Array Value)(n:Nat)(dd:Option Addr)(sl:Array (Option Value))(x:Int)(u:Tok)(h1:(decide (x < -(2 ^ 63)) || decide (x>=2 ^ 63))=false)(h2:(items.isEmpty || x==1)=false)(h3:(decide (x<=0) || items.isEmpty)=false)
  (h4:¬((items.size:Int)*x > (2 ^ 63 - 1) / 8))(h5:¬Builtin.Tuple.tupleTooMany (items.size*x)=true)(hsz:(List.foldl (λx1 x2=>x1++x2) #[] (List.replicate x.toNat items)).size<=sizeLine) :
  Meets (Builtin.«tuple.__mul__» ⟨[.ref l,.int x u],[]⟩) (λ_ R s=>s.heap.get? l=some {cls:=.type "tuple",dict:=dd,data:=.seq items n,slots:=sl}/\R (.ok (.ret (Value.ref s.heap.objs.size))) {s with heap:=s.heap.push {cls:=Value.type "tuple",data:=Data.seq (List.foldl (λx1 x2=>x1++x2) #[] (List.replicate x.toNat items))},toks:=s.toks}) :=
 .of_wp λprog w A R s h=>by
  obtain⟨hp,g,d,tk,os⟩:=s;obtain⟨hl,h⟩:=h
  have f1:=aGO
  wp_walk using aBK hl
  refine aGW (by rw[h1];rfl) ?_
  wp_walk using aBK hl
  refine aGW (aBI h4) ?_
  wp_walk using aBK hl
  exact⟨_,rfl,h⟩
variable{K:Frag}
noncomputable def rRepT(K:Frag):R2:=λx y H Q=>∃a k xs,x=.ref a/\y=.int k/\SqT K H a xs /\ -(2 ^ 63)<=k/\k < 2 ^ 63/\xs.length*k.toNat<=sizeLine /\
 ((xs=[]\/k=1)->Q (.ref a) H)/\∀p,H p=none->Q (.ref p) (upd H p (.tup (List.replicate k.toNat xs).flatten))
theorem pX(its:List Value)(m:Nat):List.foldl (λx1 x2=>x1++x2) #[] (List.replicate m its.toArray)=(List.replicate m its).flatten.toArray:=by
 have:=nH its m []
 rw[List.nil_append]at this
 exact this
theorem aIa:OpR X (binaryOp .Mult) (rRepT X.K):=by
 intro pins s σ H x y v u Q I rx ry h
 obtain⟨l,k,xs,rfl,rfl,hH,h1,h2,hz,qs,q⟩:=h
 cases rx
 obtain⟨t,rfl⟩:=ry
 obtain⟨its,r,pl,hsz⟩:=I.tuple hH
 obtain⟨⟨cls,dd,data,sl⟩,ho,hc,n,hd⟩:=id pl
 simp only at hc hd
 subst hc hd
 have hl:=r.length
 have b1:(decide (k < -(2 ^ 63)) || decide (k>=2 ^ 63))=false:=by
  rw[aGY];exact⟨aBI (by lia),aBI (by lia)⟩
 refine wpAny_binaryOp_repeat_ref (T:="tuple") (U:="int") (by decide) ⟨_,ho,rfl⟩ (λs'=>aHS s' k t) nJ F.fills_int_mul aGV tQ F.slot_int_index.lookup
  (aCZ aGV (aHS s k t) F.entry_int_rmul (F.args_int_rmul_2 _ _) (pM k t l its.toArray n dd sl) ⟨ho,rfl,⟨_,ho,rfl⟩,?_⟩)
 by_cases hs:xs=[]\/k=1
 ·refine aCZ aFE ⟨_,ho,rfl⟩ aHO (aHK _ _) (xR l its.toArray n dd sl k t b1 ?_) ⟨ho,⟨.ref l,H,I,rfl,qs hs⟩⟩
  rcases hs with hs|hs
  ·subst hs
   have:its=[]:=by simpa using hl.symm
   simp[this]
  ·simp[hs]
 ·have hne:its≠[]:=λz=>hs (.inl (by subst z;simpa using hl))
  have hn1:(its.toArray.isEmpty || k==1)=false:=by
   rw[aGY];exact⟨by simpa using hne,by simp;exact λz=>hs (.inr z)⟩
  by_cases h0:k<=0
  ·refine aCZ aFE ⟨_,ho,rfl⟩ aHO (aHK _ _) (xH l its.toArray n dd sl k t b1 hn1 (by simp[h0])) ⟨ho,?_⟩
   have e:(List.replicate k.toNat xs).flatten=[]:=by rw[show k.toNat=0 by lia];rfl
   have q:=q s.heap.objs.size I.fresh
   rw[e]at q
   refine⟨.ref s.heap.objs.size,_,I.laid (t':=s.toks) (o:=.tup []) (λb ob q=>aAA _ q) (aAI _) ?_,rfl,q⟩
   exact⟨aGG _,[],.nil,IsTup.new _ _⟩
  ·have hk:((k.toNat:Nat):Int)=k:=by lia
   have hz':its.length*k.toNat<=sizeLine:=by rw[<- hl];exact hz
   have hcast:((its.toArray.size:Nat):Int)*k=((its.length*k.toNat:Nat):Int):=by
    rw[aAJ,Int.natCast_mul,hk]
   have hs24:(sizeLine:Nat)=16777216:=aAT
   refine aCZ aFE ⟨_,ho,rfl⟩ aHO (aHK _ _) (xA l its.toArray n dd sl k t b1 hn1 ?_ ?_ ?_ ?_) ⟨ho,?_⟩
   ·rw[aGY];exact⟨aBI h0,by simpa using hne⟩
   ·rw[hcast];lia
   ·unfold Builtin.Tuple.tupleTooMany
    rw[hcast]
    intro z
    have z:=aCI z
    lia
   ·rw[pX,aAJ,tZ,Nat.mul_comm];exact hz'
   ·rw[pX]
    refine⟨.ref s.heap.objs.size,_,I.laid (t':=s.toks) (o:=.tup (List.replicate k.toNat xs).flatten) (λb ob q=>aAA _ q) (aAI _) ?_,rfl,q _ I.fresh⟩
    exact⟨by rw[tZ,Nat.mul_comm];exact hz,_,r.rep k.toNat,IsTup.new _ _⟩
noncomputable def pMulA(x y:W)(M:Mm):Oc W:=match x,y with
 |.d (.tup xs),.d (.int k)=>if xs.length*k.toNat<=16777216/\k < 9223372036854775808 /\ -9223372036854775808<=k then okD (.tup (List.replicate k.toNat xs).flatten) M else .bad
 |x,y=>pMul x y M
theorem opMulA:OpG X K Z (binaryOp .Mult) pMulA:=λhk=>by
 obtain⟨r,h1,h2⟩:=(opMul (X:=X) (K:=K) (Z:=Z)) hk
 refine⟨_,OpR.or (hk▸aIa) h1,?_⟩
 intro μ H M x y v u Q hr rx ry p
 have gen:=λp=>(Or.inr (h2 μ H M x y v u Q hr rx ry p):rRepT K v u H Q\/r v u H Q)
 cases x with
 |ref i=>exact gen (by cases y with|ref j=>exact p|ob _ _=>exact p|nest _=>exact p|d y=>cases y <;> exact p)
 |ob _ _=>exact gen (by cases y with|ref j=>exact p|ob _ _=>exact p|nest _=>exact p|d y=>cases y <;> exact p)
 |nest _=>exact gen (by cases y with|ref j=>exact p|ob _ _=>exact p|nest _=>exact p|d y=>cases y <;> exact p)
 |d x=>cases x with
  |tup xs=>cases y with
   |ref j=>exact gen p
   |ob _ _=>exact gen p
   |nest _=>exact gen p
   |d y=>cases y with
    |int k =>
     simp only[pMulA]at p
     split at p
     ·rename_i hz
      have rx':=rx
      simp only[Rw,Rp]at rx ry
      obtain⟨a,vs,rfl,q1,r1⟩:=rx
      refine .inl ⟨a,k,vs,rfl,ry,SqT.of q1,hz.2.2,hz.2.1,by rw[<- r1.length,aAT];exact hz.1,λe=>?_,lV hr (r1.rep k.toNat) p⟩
      refine p μ H .refl hr _ ?_
      have:(List.replicate k.toNat xs).flatten=xs:=by
       rcases e with e|e
       ·subst e
        have:xs=[]:=by have:=r1.length;simpa using this
        subst this;simp
       ·subst e;simp[List.replicate]
      rw[this];exact rx'
     ·exact p.elim
    |_=>exact gen p
  |_=>exact gen (by cases y with|ref j=>exact p|ob _ _=>exact p|nest _=>exact p|d y=>cases y <;> exact p)
end EV
end
variable{M M':EV.Mm}{f fa fb fc fo fi:EV.FE}{L:EV.Lc}{Z:EV.Zt}{F G:EV.FS}{gs:EV.FGs}{Fm:EV.Fn}{QS:EV.Out->EV.Mm->Prop}{QG:EV.Lc->EV.Mm->Prop}{QO:Option Int->EV.Mm->Prop}{EX:EV.Exn->EV.Mm->Prop}
section
open PySem PySem.Spec PyProof.Rows
namespace HT
variable{prog:Program}{E:Value->Shared->Prop}
theorem getItem_tuple_whole{t sl:Addr}{vl vu:Value}(ht:IsTup s.heap t items)(hs:s.heap.IsSliceOf sl vl vu .none)(pl:IsPart vl lo)(pu:IsPart vu hi)
  (hw:sIx items.size 0 lo=0/\sIx items.size items.size hi=items.size)(h:Q (.ref t) s):wpAny (model prog w) A (getItem (.ref t) (.ref sl)) Q E s:=by
 obtain⟨os,hos,hcs,hds⟩:=id hs
 have hTs:s.TypeIs (.ref sl) "slice":=⟨os,hos,hcs⟩
 unfold getItem
 try with_reducible refine aAY ?_
 first|refine aAB (aAD ?_)|skip
 refine aAB (wpAny_sequenceKey ht.typeIs (by decide) ?_)
 refine aAB (aBQ (name:=Str.ofString "__getitem__") ht.typeIs aCC
  (aBX aCC ht.typeIs entry_tuple_getitem ?_ (args_tuple_getitem _ _)))
 show wpAny _ _ (Builtin.Tuple.tupleItemsOf (.ref t) >>= _) _ _ s
 refine aAB (tupleItemsOf_ ht ?_)
 refine aAB (aEV hTs ?_)
 rw[aAH (by decide)]
 refine aAB (iS hs pl pu ?_)
 have hyes:((((sIx items.size 0 lo:Nat):Int)==0&&(1:Int)==1&&(sIx items.size items.size hi - sIx items.size 0 lo)==items.size)=true):=by
  rw[hw.1,hw.2];simp
 show wpAny _ _ (if(((sIx items.size 0 lo:Nat):Int)==0&&(1:Int)==1&&(sIx items.size items.size hi - sIx items.size 0 lo)==items.size)=true then _ else _) _ _ s
 rw[aAH hyes]
 refine aAB (m:=Builtin.Tuple.tupleIsExact _) ?_
 unfold Builtin.Tuple.tupleIsExact
 refine aAB (aEV ht.typeIs (aAD ?_))
 show wpAny _ _ (if((Value.type "tuple"==Value.type "tuple")=true)then _ else _) _ _ s
 rw[aAH (by decide)]
 first
  |exact aAB (aEB (aAD ⟨_,rfl,aAD h⟩))
  |exact aAB (aEB (aAB (aAD ⟨_,rfl,aAD h⟩)))
  |exact aAB (aEB (aAB (aAD (aAD ⟨_,rfl,aAD h⟩))))
end HT
namespace EV
open L2
theorem mX(K:Frag):PySem.W.kitOne K (.type "NoneType") (.type "int")=some false:=by with_unfolding_all rfl
theorem mP(K:Frag):PySem.W.kitOne K (.type "NoneType") (.type "bool")=some false:=by with_unfolding_all rfl
theorem lA(K:Frag):PySem.W.kitOne K (.type "NoneType") (.type "tuple")=some false:=by with_unfolding_all rfl
theorem tN(K:Frag):PySem.W.kitOne K (.type "bool") (.type "int")=some true:=by with_unfolding_all rfl
theorem qU(K:Frag):PySem.W.kitOne K (.type "bool") (.type "bool")=some true:=by with_unfolding_all rfl
theorem qK(K:Frag):PySem.W.kitOne K (.type "bool") (.type "tuple")=some false:=by with_unfolding_all rfl
theorem vH(K:Frag):PySem.W.kitOne K (.type "int") (.type "int")=some true:=by with_unfolding_all rfl
theorem tS(K:Frag):PySem.W.kitOne K (.type "int") (.type "bool")=some false:=by with_unfolding_all rfl
theorem qT(K:Frag):PySem.W.kitOne K (.type "int") (.type "tuple")=some false:=by with_unfolding_all rfl
theorem wB(K:Frag):PySem.W.kitOne K (.type "str") (.type "int")=some false:=by with_unfolding_all rfl
theorem uK(K:Frag):PySem.W.kitOne K (.type "str") (.type "bool")=some false:=by with_unfolding_all rfl
theorem rA(K:Frag):PySem.W.kitOne K (.type "str") (.type "tuple")=some false:=by with_unfolding_all rfl
theorem tR(K:Frag):PySem.W.kitOne K (.type "list") (.type "int")=some false:=by with_unfolding_all rfl
theorem qM(K:Frag):PySem.W.kitOne K (.type "list") (.type "bool")=some false:=by with_unfolding_all rfl
theorem qC(K:Frag):PySem.W.kitOne K (.type "list") (.type "tuple")=some false:=by with_unfolding_all rfl
theorem qY(K:Frag):PySem.W.kitOne K (.type "tuple") (.type "int")=some false:=by with_unfolding_all rfl
theorem oU(K:Frag):PySem.W.kitOne K (.type "tuple") (.type "bool")=some false:=by with_unfolding_all rfl
theorem nZ(K:Frag):PySem.W.kitOne K (.type "tuple") (.type "tuple")=some true:=by with_unfolding_all rfl
section
variable{K:Frag}{e a b o:Expr}{es:List Expr}{fs:FA}{rest:List Stmt}
noncomputable section
def rSlA(K:Frag):V->Option Int->Option Int->Hp->VK->Prop:=λx lo hi H Q=>∃a xs,x=.ref a/\SqT K H a xs /\
 ((HT.sIx xs.length 0 lo=0/\HT.sIx xs.length xs.length hi=xs.length)->Q (.ref a) H)/\∀p,H p=none->Q (.ref p) (upd H p (.tup (cutV xs lo hi)))
theorem aGz:SlR X (rSlA X.K):=by
 intro pins s σ H x v vl vu lo hi sl Q I rx hs pl pu h
 obtain⟨a,xs,rfl,hx,q1,q2⟩:=h
 by_cases hw:HT.sIx xs.length 0 lo=0/\HT.sIx xs.length xs.length hi=xs.length
 ·cases rx
  obtain⟨its,r,ht,hz⟩:=I.tuple hx
  have hlen:its.toArray.size=xs.length:=by rw[aAJ];exact r.length.symm
  refine⟨"tuple",_,aCC.lookup,ht.typeIs,?_⟩
  exact HT.getItem_tuple_whole ht hs pl pu (by rw[hlen];exact hw) ⟨.ref a,H,I,rfl,q1 hw⟩
 ·exact aNa pins s σ H _ v vl vu lo hi sl Q I rx hs pl pu ⟨a,xs,rfl,hx,hw,q2⟩
theorem aCq{xs:List D}(h:HT.sIx xs.length 0 lo=0/\HT.sIx xs.length xs.length hi=xs.length):cut xs lo hi=xs:=by
 unfold cut;rw[h.1,h.2];simp
theorem mI{x:W}{Q:VK}(hr:HR K μ H M)(rx:Rw K μ H x v)(p:Pst K Z μ H (match lr M x with
  |some xs=>okD (.lst (cut xs lo hi)) M
  |none=>.bad) (Wk K Q)):rSlL K v lo hi H Q:=by
 cases q1:lr M x with
 |none=>rw[q1]at p;exact p.elim
 |some xs =>
  rw[q1]at p
  obtain⟨a,vs,rfl,h1,r1⟩:=pK hr rx q1
  exact⟨a,vs,rfl,h1,fE hr (aAq r1) p⟩
def isT(T:String)(M:Mm):W->Option Bool
 |.d .non=>some false
 |.d (.bl _)=>some (T=="bool" || T=="int")
 |.d (.int _)=>some (T=="int")
 |.d (.str _)=>some (T=="str")
 |.d (.tup _)=>some (T=="tuple")
 |.d (.lst _)=>some (T=="list")
 |.d (.fz _)=>none
 |.d (.exn _ _ _)=>none
 |.ref _=>some (T=="list")
 |.ob _ _=>none
 |.nest _=>none
def pIsI(T:String)(x:W)(M:Mm):Oc W:=match isT T M x with
 |some b=>.ok (.d (.bl b)) M
 |none=>.bad
end
structure KitT(T:String):Prop where
 non:∀K,PySem.W.kitOne K (.type "NoneType") (.type T)=some false
 bl:∀K,PySem.W.kitOne K (.type "bool") (.type T)=some (T=="bool" || T=="int")
 int:∀K,PySem.W.kitOne K (.type "int") (.type T)=some (T=="int")
 str:∀K,PySem.W.kitOne K (.type "str") (.type T)=some (T=="str")
 tup:∀K,PySem.W.kitOne K (.type "tuple") (.type T)=some (T=="tuple")
 lst:∀K,PySem.W.kitOne K (.type "list") (.type T)=some (T=="list")
theorem aEf:KitT "int":=⟨mX,tN,vH,wB,qY,tR⟩
theorem zV:KitT "bool":=⟨mP,qU,tS,uK,oU,qM⟩
theorem pS:KitT "tuple":=⟨lA,qK,qT,rA,nZ,qC⟩
theorem aNv{T:String}(k:KitT T){x:W}{c:Bool}(hr:HR K μ H M)(rx:Rw K μ H x v)(h:isT T M x=some c):∃t,TyOf K H v t/\PySem.W.kitOne K t (.type T)=some c:=by
 cases x with
 |ref i =>
  simp only[isT,aAQ]at h;subst h
  obtain⟨a,q,rfl,il⟩:=rx
  obtain⟨vs,h⟩:=il
  exact⟨_,.lst h,k.lst K⟩
 |ob _ _=>simp[isT]at h
 |nest _=>simp[isT]at h
 |d x=>cases x with
  |non=>simp only[isT,aAQ]at h;subst h;simp only[Rw,Rp]at rx;subst rx;exact⟨_,.non,k.non K⟩
  |bl y=>simp only[isT,aAQ]at h;subst h;simp only[Rw,Rp]at rx;subst rx;exact⟨_,.bl y,k.bl K⟩
  |int y=>simp only[isT,aAQ]at h;subst h;simp only[Rw,Rp]at rx;subst rx;exact⟨_,.int y,k.int K⟩
  |str y=>simp only[isT,aAQ]at h;subst h;simp only[Rw,Rp]at rx;subst rx;exact⟨_,.str y,k.str K⟩
  |tup y=>simp only[isT,aAQ]at h;subst h;simp only[Rw,Rp]at rx;obtain⟨a,vs,rfl,q1,_⟩:=rx;exact⟨_,.tup q1,k.tup K⟩
  |lst y=>simp only[isT,aAQ]at h;subst h;simp only[Rw,Rp]at rx;obtain⟨a,vs,rfl,q1,_⟩:=rx;exact⟨_,.lst q1,k.lst K⟩
  |fz y=>simp[isT]at h
  |exn c f y=>simp[isT]at h
theorem kZ{T:String}(kt:KitT T)(hm:X.mg "isinstance"=none)(hmT:X.mg x=none)(hvT:bootBuiltins x=some (.type T))(he:Ev X K Z e f)(hg:Gl X "isinstance":=by rfl)(hgT:Gl X x:=by rfl)(hn:x≠"__name__":=by decide)(hd:(x==("__debug__":Str))=false:=by decide)
  (hs:starEach [e,.Name x q] X.env=(false,eval e X.env)::starEach [.Name x q] X.env:=by rfl)(hs2:starEach [.Name x q] X.env=(false,eval (.Name x q) X.env)::starEach [] X.env:=by rfl)(hpl:(backTo pos (starEach [.Name x q] X.env)).any (·.1)=false:=by rfl) :
  Ev X K Z (.Call (.Name "isinstance" p) [e,.Name x q] [] pos) (e1 (pIsI T) f):=by
 have h:=mR (pos:=pos) (p:=p) wA hg hm hV (bJ he.h (bJ (zM (v:=.ty T) hgT hmT hvT rfl hn hd) dE hs2) hs) (by decide) (by decide) hs hpl
 rw[he.k]at h
 refine⟨he.k,cqE h ?_⟩
 rintro σ H Q ⟨μ,M,L,hr,lr,p⟩
 refine⟨μ,M,L,hr,lr,p.bind.imp λμ1 H1 M1 x e1 hr1 _ p1 v rx=>?_⟩
 unfold pIsI at p1
 cases q:isT T M1 x with
 |none=>rw[q]at p1;exact p1.elim
 |some c =>
  rw[q]at p1
  obtain⟨t,h1,h2⟩:=aNv kt hr1 rx q
  exact⟨v,T,t,c,rfl,h1,h2,p1 μ1 H1 .refl hr1 _ (by simp[Rw,Rp])⟩
noncomputable section
def flatD(d:D):Bool:=(fv d).isSome
def pInG(neg:Bool)(x y:W)(M:Mm):Oc W:=match x,sv M y with
 |.d d,some xs=>if flatD d=true/\xs.all flatD=true then .ok (.d (.bl (if neg then !(xs.any λy=>eqD y d)else xs.any λy=>eqD y d))) M else .bad
 |_,_=>.bad
theorem zY:∀{xs:List D} {vs:List V} {d:D} {v:V},Rps K μ H xs vs->xs.all flatD=true->Rp K μ H d v->flatD d=true->vs.all flatV=true/\inV v vs=xs.any (λy=>eqD y d)
 |[],_,_,_,h,_,_,_=>by simp only[Rps]at h;subst h;exact⟨rfl,rfl⟩
 |x::xs,_,d,v,h,hf,hd,hfd=>by
  simp only[Rps]at h
  obtain⟨u,r,rfl,e2,e3⟩:=h
  rw[aCY,aBM]at hf
  obtain⟨i1,i2⟩:=zY e3 hf.2 hd hfd
  obtain⟨w,hw⟩:=aDF.mp hf.1
  obtain⟨w2,hw2⟩:=aDF.mp hfd
  obtain⟨rfl,f1⟩:=rM hw e2
  obtain⟨rfl,f2⟩:=rM hw2 hd
  refine⟨by rw[aCY,f1,i1];rfl,?_⟩
  show(eqV u v || inV v r)=_
  rw[i2,aEj hw hw2,aDK]
theorem aEl(neg:Bool):Op2 K Z (rIn K neg) (pInG neg):=by
 intro μ H M x y v u Q hr rx ry p
 cases x with
 |ref i=>exact p.elim
 |ob _ _=>exact p.elim
 |nest _=>exact p.elim
 |d d =>
  simp only[pInG]at p
  cases q:sv M y with
  |none=>rw[q]at p;exact p.elim
  |some xs =>
   rw[q]at p
   simp only at p
   split at p
   ·rename_i hz
    obtain⟨a,vs,rfl,h1,r1⟩:=lU hr ry q
    obtain⟨i1,i2⟩:=zY r1 hz.2 rx hz.1
    obtain⟨w,hw⟩:=aDF.mp hz.1
    obtain⟨rfl,f1⟩:=rM hw rx
    refine⟨a,vs,rfl,h1,f1,i1,p μ H .refl hr _ ?_⟩
    simp only[Rw,Rp]
    cases neg <;> simp[i2]
   ·exact p.elim
abbrev pIn:=pInG false
abbrev pNotIn:=pInG true
end
theorem opIn:OpG X K Z (compareOp .In) pIn:=λhk=>⟨_,hk▸aBj,aEl false⟩
theorem opNotIn:OpG X K Z (compareOp .NotIn) pNotIn:=λhk=>⟨_,hk▸uF,aEl true⟩
end
noncomputable def whileD(t:FT)(B:FS):Nat->FS
 |0=>λ_ _=>.bad
 |n+1=>λL M=>(t L M).bind λb M1=>if b=true then(B L M1).bind λo M2=>match o with
   |.nx L2=>whileD t B n L2 M2
   |.ct L2=>whileD t B n L2 M2
   |.bk L2=>.ok (.nx L2) M2
   |.rt w=>.ok (.rt w) M2
  else .ok (.nx L) M1
inductive Ck
 |one (t:Nat)
 |two (t:Nat) (ys:List D)
noncomputable instance:Coe Nat Ck:=⟨.one⟩
noncomputable def Ck.ok(ds:List D)(M:Mm):Ck->Prop
 |.one t=>M[t]?=some ds
 |.two t ys=>M[t]?=some ys
structure Src where
 ds:List D
 k:Option Ck
noncomputable abbrev FI:=Lc->Mm->Oc Src
noncomputable def Chk(s:Src)(M:Mm):Prop:=∀t,s.k=some t->t.ok s.ds M
open Classical in
noncomputable def forD(s:Src)(g:FG)(B:FS):List D->FS
 |[]=>λL M=>if Chk s M then .ok (.nx L) M else .bad
 |d::r=>λL M=>if Chk s M then(g (.d d) L M).bind λL1 M1=>(B L1 M1).bind λo M2=>match o with
   |.nx L2=>forD s g B r L2 M2
   |.ct L2=>forD s g B r L2 M2
   |.bk L2=>.ok (.nx L2) M2
   |.rt w=>.ok (.rt w) M2
  else .bad
noncomputable section
def sFor(fi:FI)(g:FG)(B:FS):FS:=λL M=>(fi L M).bind λs M1=>forD s g B s.ds L M1
def ItOk(K:Frag)(μ:List Addr)(H:Hp)(s:Src)(J:It):Prop :=
 ∃S:List Addr->Hp->Prop,S μ H/\(∀μ1 H1 μ2 H2,Lsts μ1 H1->S μ1 H1->Ext μ1 H1 μ2 H2->S μ2 H2) /\
  ∀μ1 H1 M1 i,HR K μ1 H1 M1->S μ1 H1->Chk s M1 ->
   (∀d,s.ds[i]?=some d->J.go i H1/\∀x H2,J.yld i H1 x H2->Ext μ1 H1 μ1 H2/\HR K μ1 H2 M1/\Rp K μ1 H2 d x)/\(s.ds.length<=i->J.stop i H1)
def liftI(K:Frag)(Z:Zt)(fi:FI):TI:=λσ H R=>∃μ M L,HR K μ H M/\LR K μ H L σ/\Pst K Z μ H (fi L M) λμ' H' _ s=>∀J,ItOk K μ' H' s J->R J H'
end
structure Ei(X:Cx)(K:Frag)(Z:Zt)(tg iter:Expr)(fi:FI):Prop where
 k:X.K=K
 h:PI X tg iter (liftI K Z fi)
variable{tg iter:Expr}
theorem cqI{t t':TI}(h:PI X tg iter t)(i:∀σ H Q,t' σ H Q->t σ H Q):PI X tg iter t':=λpins s σ H Q I q=>h pins s σ H Q I (i _ _ _ q)
section
variable{K:Frag}{e a b o:Expr}{es:List Expr}{fs:FA}{rest:List Stmt}{B:FS}
theorem iB{c:Expr}{t:FT}(n:Nat)(hp:PassesOwn (model X.prog X.w) X.A X.env X.xe)(hc:Et X K Z c t)(hb:Ess X K Z body B):Es X K Z (.While c body [] pos) (whileD t B n):=by
 refine⟨hc.k,cqS (aGb hp hc.h hb.h) ?_⟩
 rintro E σ H ⟨μ,M,L,hr,lr,p⟩
 refine⟨λm σ H=>∃μ M L,HR K μ H M/\LR K μ H L σ/\Pst K Z μ H (whileD t B m L M) (Sk K E),⟨n,μ,M,L,hr,lr,p⟩,?_⟩
 rintro m σ H ⟨μ,M,L,hr,lr,p⟩
 cases m with
 |zero=>exact p.elim
 |succ m =>
  refine⟨μ,M,L,hr,lr,(show Pst K Z μ H ((t L M).bind _) _ from p).bind.imp λμ1 H1 M1 b e1 hr1 _ p1=>?_⟩
  cases b with
  |false=>exact p1 μ1 H1 .refl hr1 σ (lr.ext hr.lsts e1)
  |true =>
   refine⟨λσ' H'=>∃μ M L,HR K μ H' M/\LR K μ H' L σ'/\Pst K Z μ H' (whileD t B m L M) (Sk K E),λσ' H' q=>⟨m,aFC m,q⟩,?_⟩
   refine⟨μ1,M1,L,hr1,lr.ext hr.lsts e1,(show Pst K Z μ1 H1 ((B L M1).bind _) _ from p1).bind.imp λμ2 H2 M2 o e2 hr2 _ p2=>?_⟩
   cases o with
   |nx L2=>exact λσ' lr'=>⟨μ2,M2,L2,hr2,lr',p2⟩
   |ct L2=>exact λσ' lr'=>⟨μ2,M2,L2,hr2,lr',p2⟩
   |bk L2=>exact p2 μ2 H2 .refl hr2
   |rt w=>exact p2 μ2 H2 .refl hr2
theorem lD{fi:FI}{g:FG}(hp:PassesOwn (model X.prog X.w) X.A X.env X.xe)(hc:X.calm=true)(hi:Ei X K Z tg iter fi)(hg:Eg X K Z tg g)(hb:Ess X K Z body B)
  (hs:∀x,foldedSetIterable iter X.env x=pure x:=by intro _;rfl):Es X K Z (.For tg iter body [] pos) (sFor fi g B):=by
 refine⟨hi.k,cqS (aNl hp hc hi.h hg.h hb.h hs) ?_⟩
 rintro E σ H ⟨μ,M,L,hr,lr,p⟩
 refine⟨μ,M,L,hr,lr,p.bind.imp λμ1 H1 M1 s e1 hr1 _ p1 J hJ=>?_⟩
 obtain⟨S,s0,sx,step⟩:=hJ
 refine⟨λi m σ H=>m=s.ds.length - i/\i<=s.ds.length/\∃μ M L,HR K μ H M/\LR K μ H L σ/\S μ H/\Pst K Z μ H (forD s g B (s.ds.drop i) L M) (Sk K E),⟨s.ds.length,by simp,aGG _,μ1,M1,L,hr1,lr.ext hr.lsts e1,s0,by simpa using p1⟩,?_⟩
 rintro i m σ H ⟨rfl,hi,μ,M,L,hr,lr,sS,p⟩
 by_cases hlt:i < s.ds.length
 ·rw[aCA hlt]at p
  unfold forD at p
  split at p
  ·rename_i hch
   obtain⟨go,yl⟩:=(step μ H M i hr sS hch).1 s.ds[i] (by simp[hlt])
   refine .inr ⟨go,λσ' H'=>i+1<=s.ds.length/\∃μ M L,HR K μ H' M/\LR K μ H' L σ'/\S μ H'/\Pst K Z μ H' (forD s g B (s.ds.drop (i+1)) L M) (Sk K E),λσ' H' q=>⟨s.ds.length - (i+1),by lia,rfl,q.1,q.2⟩,λx H2 y=>?_⟩
   obtain⟨e2,hr2,rx⟩:=yl x H2 y
   have lr2:=lr.ext hr.lsts e2
   have s2:=sx _ _ _ _ hr.lsts sS e2
   refine⟨μ,M,L,.d s.ds[i],hr2,lr2,rx,(Pst.mono e2 p).bind.imp λμ3 H3 M3 L3 e3 hr3 _ p3 σ3 lr3=>?_⟩
   refine⟨μ3,M3,L3,hr3,lr3,p3.bind.imp λμ4 H4 M4 o e4 hr4 _ p4=>?_⟩
   have s4:=sx _ _ _ _ hr3.lsts (sx _ _ _ _ hr2.lsts s2 e3) e4
   cases o with
   |nx L4=>exact λσ' lr'=>⟨hlt,μ4,M4,L4,hr4,lr',s4,p4⟩
   |ct L4=>exact λσ' lr'=>⟨hlt,μ4,M4,L4,hr4,lr',s4,p4⟩
   |bk L4=>exact p4 μ4 H4 .refl hr4
   |rt w=>exact p4 μ4 H4 .refl hr4
  ·exact p.elim
 ·have e:i=s.ds.length:=by lia
  subst e
  rw[aCE (aAI _)]at p
  unfold forD at p
  split at p
  ·rename_i hch
   exact .inl ⟨(step μ H M _ hr sS hch).2 (aAI _),p μ H .refl hr σ lr⟩
  ·exact p.elim
theorem aDp{ds:List D}:Chk ⟨ds,none⟩ M:=λt h=>by cases h
@[simp]theorem aId{ds:List D}:Chk ⟨ds,none⟩ M ↔ True:=⟨λ_=>trivial,λ_=>aDp⟩
@[simp]theorem aIf{ds:List D}{t:Nat}:Chk ⟨ds,some t⟩ M ↔ M[t]?=some ds:=⟨λh=>h t rfl,λh t' e=>by cases e;exact h⟩
noncomputable def iSq(K:Frag)(tl:TE):TI:=λσ H R=>tl σ H λx H1=>∃a,x=.ref a/\(((∃xs,SqL K H1 a xs)/\R (Itl K a) H1)\/((∃xs,SqT K H1 a xs)/\R (Itt K a) H1))
theorem aQd{l:Expr}{tl:TE}(hl:PE X l tl):PI X tg l (iSq X.K tl):=by
 intro pins s σ H R I h
 refine thn (hl pins s σ H _ I h) λv s1 ⟨x,H1,I1,r1,q1⟩=>?_
 obtain⟨a,e,⟨⟨xs,hq⟩,q⟩|⟨⟨xs,hq⟩,q⟩⟩:=q1
 ·subst e
  cases r1
  obtain⟨its,rv,p,hz⟩:=I1.list hq
  refine aCS p.isList ?_
  refine⟨s1.heap.objs.size,[s1.heap.objs.size],_,_,H1,rfl,I1.kept (t':=s1.toks) λb o e=>aAA _ e,aBq a _,⟨_,aAG _ rfl,rfl,rfl⟩,λb hb=>?_,q⟩
  have e:b=s1.heap.objs.size:=by simpa using hb
  subst e
  exact I1.fpOk (aAI _) (I1.hok.fresh (aAI _))
 ·subst e
  cases r1
  obtain⟨its,rv,p,hz⟩:=I1.tuple hq
  refine aDR (show s1.heap.IsTuple a its.toArray from p) ?_
  refine⟨s1.heap.objs.size,[s1.heap.objs.size],_,_,H1,rfl,I1.kept (t':=s1.toks) λb o e=>aAA _ e,xM a _,⟨_,aAG _ rfl,rfl,rfl⟩,λb hb=>?_,q⟩
  have e:b=s1.heap.objs.size:=by simpa using hb
  subst e
  exact I1.fpOk (aAI _) (I1.hok.fresh (aAI _))
noncomputable def srcOf(M:Mm):W->Option Src
 |.d (.tup xs)=>some ⟨xs,none⟩
 |.d (.lst xs)=>some ⟨xs,none⟩
 |.d (.fz xs)=>some ⟨xs,none⟩
 |.ref t=>(M[t]?).map λxs=>⟨xs,some t⟩
 |_=>none
noncomputable def iE(f:FE):FI:=λL M=>(f L M).bind λw M1=>match srcOf M1 w with
 |some s=>.ok s M1
 |none=>.bad
variable{s:Src}
theorem xN{a:Addr}(S:List Addr->Hp->Prop)(s0:S μ H)(sx:∀μ1 H1 μ2 H2,Lsts μ1 H1->S μ1 H1->Ext μ1 H1 μ2 H2->S μ2 H2)
  (rd:∀μ1 H1 M1,HR K μ1 H1 M1->S μ1 H1->Chk s M1->∃vs,SqL K H1 a vs/\Rps K μ1 H1 s.ds vs):ItOk K μ H s (Itl K a):=by
 refine⟨S,s0,sx,λμ1 H1 M1 i hr hS hc=>?_⟩
 obtain⟨vs,h1,r1⟩:=rd μ1 H1 M1 hr hS hc
 refine⟨λd hd=>?_,λhl=>⟨vs,h1,by rw[<- r1.length];exact hl⟩⟩
 obtain⟨v,q1,q2⟩:=r1.get hd
 refine⟨⟨vs,v,h1,q1⟩,λx H2 y=>?_⟩
 obtain⟨rfl,y⟩:=y
 have:=y vs h1
 rw[q1]at this
 cases this
 exact⟨.refl,hr,q2⟩
theorem aLx{a:Addr}(S:List Addr->Hp->Prop)(s0:S μ H)(sx:∀μ1 H1 μ2 H2,Lsts μ1 H1->S μ1 H1->Ext μ1 H1 μ2 H2->S μ2 H2)
  (rd:∀μ1 H1 M1,HR K μ1 H1 M1->S μ1 H1->Chk s M1->∃vs,SqT K H1 a vs/\Rps K μ1 H1 s.ds vs):ItOk K μ H s (Itt K a):=by
 refine⟨S,s0,sx,λμ1 H1 M1 i hr hS hc=>?_⟩
 obtain⟨vs,h1,r1⟩:=rd μ1 H1 M1 hr hS hc
 refine⟨λd hd=>?_,λhl=>⟨vs,h1,by rw[<- r1.length];exact hl⟩⟩
 obtain⟨v,q1,q2⟩:=r1.get hd
 refine⟨⟨vs,v,h1,q1⟩,λx H2 y=>?_⟩
 obtain⟨rfl,y⟩:=y
 have:=y vs h1
 rw[q1]at this
 cases this
 exact⟨.refl,hr,q2⟩
theorem lF{d:D}:∀μ1 H1 μ2 H2,Lsts μ1 H1->Rp K μ1 H1 d v->Ext μ1 H1 μ2 H2->Rp K μ2 H2 d v:=λμ1 H1 μ2 H2 l h e=>Rp.ext l e d v h
theorem kP(h:Ev X K Z e f):Ei X K Z tg e (iE f):=by
 have h':=aQd (tg:=tg) h.h
 rw[h.k]at h'
 refine⟨h.k,cqI h' ?_⟩
 rintro σ H R ⟨μ,M,L,hr,lr,p⟩
 refine⟨μ,M,L,hr,lr,p.bind.imp λμ1 H1 M1 w e1 hr1 _ p1 v rw'=>?_⟩
 cases w with
 |ref t =>
  simp only[srcOf]at p1
  cases q:M1[t]? with
  |none=>simp only[q,Option.map_none]at p1;exact p1.elim
  |some xs =>
   simp only[q,aEO]at p1
   obtain⟨a,qa,rfl,il⟩:=rw'
   obtain⟨a',vs,qa',h1,r1⟩:=hr1.at q qa
   rw[qa]at qa';cases qa'
   refine⟨a,rfl,.inl ⟨⟨vs,SqL.of h1⟩,p1 μ1 H1 .refl hr1 _ ?_⟩⟩
   refine xN (λμ2 H2=>μ2[t]?=some a/\IsL H2 a) ⟨qa,il⟩ (λμ1 H1 μ2 H2 _ z e=>⟨e.pre _ _ z.1,z.2.ext e⟩) λμ2 H2 M2 hr2 z c=>?_
   obtain⟨a',vs,qa',h1,r1⟩:=hr2.at (c t rfl) z.1 z.2
   rw[z.1]at qa';cases qa'
   exact⟨vs,SqL.of h1,r1⟩
 |ob _ _=>exact p1.elim
 |nest _=>exact p1.elim
 |d x =>
  cases x with
  |tup xs =>
   have rw2:=rw'
   simp only[Rw,Rp]at rw'
   obtain⟨a,vs,rfl,h1,r1⟩:=rw'
   refine⟨a,rfl,.inr ⟨⟨vs,SqT.of h1⟩,p1 μ1 H1 .refl hr1 _ ?_⟩⟩
   refine aLx (λμ2 H2=>Rp K μ2 H2 (.tup xs) (.ref a)) rw2 lF λμ2 H2 M2 hr2 z c=>?_
   simp only[Rp]at z
   obtain⟨a',vs,e,h1,r1⟩:=z
   cases e
   exact⟨vs,SqT.of h1,r1⟩
  |lst xs =>
   have rw2:=rw'
   simp only[Rw,Rp]at rw'
   obtain⟨a,vs,rfl,h1,_,r1⟩:=rw'
   refine⟨a,rfl,.inl ⟨⟨vs,SqL.of h1⟩,p1 μ1 H1 .refl hr1 _ ?_⟩⟩
   refine xN (λμ2 H2=>Rp K μ2 H2 (.lst xs) (.ref a)) rw2 lF λμ2 H2 M2 hr2 z c=>?_
   simp only[Rp]at z
   obtain⟨a',vs,e,h1,_,r1⟩:=z
   cases e
   exact⟨vs,SqL.of h1,r1⟩
  |fz xs =>
   have rw2:=rw'
   simp only[Rw,Rp]at rw'
   obtain⟨a,vs,rfl,h1,r1⟩:=rw'
   refine⟨a,rfl,.inl ⟨⟨vs,h1.sq⟩,p1 μ1 H1 .refl hr1 _ ?_⟩⟩
   refine xN (λμ2 H2=>Rp K μ2 H2 (.fz xs) (.ref a)) rw2 lF λμ2 H2 M2 hr2 z c=>?_
   simp only[Rp]at z
   obtain⟨a',vs,e,h1,r1⟩:=z
   cases e
   exact⟨vs,h1.sq,r1⟩
  |_=>exact p1.elim
noncomputable def rngD(lo:Int)(n:Nat):List D:=(List.range n).map λk=>D.int (lo+(k:Nat))
variable{lo:Int}
theorem iD{d:D}(h:(rngD lo n)[i]?=some d):i < n/\d=.int (lo+i):=by
 unfold rngD at h
 rw[aBN]at h
 by_cases hi:i < n
 ·rw[List.getElem?_range hi]at h;simp at h;exact⟨hi,h.symm⟩
 ·rw[aDW (by simpa using hi)]at h;cases h
theorem aFd :ItOk K μ H ⟨rngD lo n,none⟩ (Itr lo n):=by
 refine⟨λ_ _=>True,trivial,λ_ _ _ _ _ _ _=>trivial,λμ1 H1 M1 i hr _ _=>⟨λd hd=>?_,λhl=>by simp only[rngD,aAK,aCH]at hl;exact hl⟩⟩
 obtain⟨hi,rfl⟩:=iD hd
 refine⟨hi,λx H2 y=>?_⟩
 obtain⟨rfl,rfl⟩:=y
 exact⟨.refl,hr,by simp[Rp]⟩
noncomputable section
def in62(i:Int):Bool:=decide (-4611686018427387904<=i/\i < 4611686018427387904)
def iR1(f:FE):FI:=λL M=>(f L M).bind λw M1=>match w with
 |.d (.int j)=>if in62 j=true then .ok ⟨rngD 0 j.toNat,none⟩ M1 else .bad
 |_=>.bad
def iR2(f g:FE):FI:=λL M=>(f L M).bind λw M1=>(g L M1).bind λu M2=>match w,u with
 |.d (.int i),.d (.int j)=>if in62 i=true/\in62 j=true then .ok ⟨rngD i (j - i).toNat,none⟩ M2 else .bad
 |_,_=>.bad
end
theorem iT(hm:X.mg "range"=none)(ha:Ev X K Z a f)(hg:Gl X "range":=by rfl)(hs:starEach [a] X.env=[(false,eval a X.env)]:=by rfl):Ei X K Z tg (.Call (.Name "range" p) [a] [] pos) (iR1 f):=by
 refine⟨ha.k,cqI (aCs hg hm (bJ ha.h dE hs) hs) ?_⟩
 rintro σ H R ⟨μ,M,L,hr,lr,p⟩
 refine⟨μ,M,L,hr,lr,p.bind.imp λμ1 H1 M1 w e1 hr1 _ p1 v rw'=>?_⟩
 cases w with
 |ref i=>exact p1.elim
 |ob _ _=>exact p1.elim
 |nest _=>exact p1.elim
 |d x=>cases x with
  |int j =>
   simp only at p1
   split at p1
   ·rename_i hz
    simp only[in62,aAU]at hz
    simp only[Rw,Rp]at rw'
    subst rw'
    exact⟨j,rfl,hz.1,hz.2,p1 μ1 H1 .refl hr1 _ aFd⟩
   ·exact p1.elim
  |_=>exact p1.elim
theorem aCf(hm:X.mg "range"=none)(ha:Ev X K Z a fa)(hb:Ev X K Z b fb)(hg:Gl X "range":=by rfl)(hs:starEach [a,b] X.env=[(false,eval a X.env),(false,eval b X.env)]:=by rfl)(hs2:starEach [b] X.env=[(false,eval b X.env)]:=by rfl) :
  Ei X K Z tg (.Call (.Name "range" p) [a,b] [] pos) (iR2 fa fb):=by
 refine⟨ha.k,cqI (aBi hg hm (bJ ha.h (bJ hb.h dE hs2) (by rw[hs,hs2])) hs hs2) ?_⟩
 rintro σ H R ⟨μ,M,L,hr,lr,p⟩
 refine⟨μ,M,L,hr,lr,p.bind.imp λμ1 H1 M1 w e1 hr1 _ p1 v rw'=>?_⟩
 refine⟨μ1,M1,L,hr1,lr.ext hr.lsts e1,p1.bind.imp λμ2 H2 M2 u e2 hr2 _ p2 v2 ru=>?_⟩
 have rw':=rw'.ext hr1.lsts e2
 cases w with
 |ref i=>exact p2.elim
 |ob _ _=>exact p2.elim
 |nest _=>exact p2.elim
 |d x=>cases x with
  |int i=>cases u with
   |ref j=>exact p2.elim
   |ob _ _=>exact p2.elim
   |nest _=>exact p2.elim
   |d y=>cases y with
    |int j =>
     simp only at p2
     split at p2
     ·rename_i hz
      simp only[in62,aAU]at hz
      simp only[Rw,Rp]at rw' ru
      subst rw' ru
      exact⟨i,j,rfl,⟨hz.1.1,hz.1.2,hz.2.1,hz.2.2⟩,p2 μ2 H2 .refl hr2 _ aFd⟩
     ·exact p2.elim
    |_=>exact p2.elim
  |_=>exact p2.elim
end
section
variable{K:Frag}{μ2:List Addr}{M2:Mm}
theorem Ext.back(e:Ext μ H μ2 H2):Ext μ H μ H2:=⟨e.keep,λa h=>.inl h,λ_ _ h=>h,e.kin⟩
theorem Ext.take(e:Ext μ H μ2 H2):μ2.take μ.length=μ:=by
 apply List.ext_getElem?
 intro i
 rw[aHL]
 split
 ·rename_i hi
  have:=e.pre i μ[i] (by simp[hi])
  rw[this];simp[hi]
 ·rename_i hi
  rw[aDW (by lia)]
mutual
theorem Rp.sub(hs:∀a,a∈μ1->a∈μ):∀(d:D) (v:V),Rp K μ H d v->Rp K μ1 H d v
 |.non,v,h=>by simpa[Rp]using h
 |.bl b,v,h=>by simpa[Rp]using h
 |.int b,v,h=>by simpa[Rp]using h
 |.str b,v,h=>by simpa[Rp]using h
 |.tup ds,v,h=>by simp only[Rp]at h ⊢;obtain⟨a,vs,e1,e2,e3⟩:=h;exact⟨a,vs,e1,e2,Rps.sub hs ds vs e3⟩
 |.lst ds,v,h=>by simp only[Rp]at h ⊢;obtain⟨a,vs,e1,e2,n,e3⟩:=h;exact⟨a,vs,e1,e2,λz=>n (hs a z),Rps.sub hs ds vs e3⟩
 |.fz ds,v,h=>by simp only[Rp]at h ⊢;obtain⟨a,vs,e1,e2,e3⟩:=h;exact⟨a,vs,e1,e2,Rps.sub hs ds vs e3⟩
 |.exn c f ds,v,h=>by simp only[Rp]at h ⊢;obtain⟨a,vs,C,LE,d,e1,e2,e3,e4,e5⟩:=h;exact⟨a,vs,C,LE,d,e1,e2,e3,e4,Rps.sub hs ds vs e5⟩
theorem Rps.sub(hs:∀a,a∈μ1->a∈μ):∀(ds:List D) (vs:List V),Rps K μ H ds vs->Rps K μ1 H ds vs
 |[],vs,h=>by simpa[Rps]using h
 |d::ds,vs,h=>by simp only[Rps]at h ⊢;obtain⟨v,r,e1,e2,e3⟩:=h;exact⟨v,r,e1,Rp.sub hs d v e2,Rps.sub hs ds r e3⟩
end
theorem Frs.sub(hs:∀a,a∈μ1->a∈μ):∀{ds:List D} {fs:List (Str×V)},Frs K μ H ds fs->Frs K μ1 H ds fs
 |[],_,h=>h
 |_::_,_,⟨f,x,v,r,e1,e2,e3,e4⟩=>⟨f,x,v,r,e1,e2,Rp.sub hs _ _ e3,Frs.sub hs e4⟩
theorem Krs.sub(hs:∀a,a∈μ1->a∈μ):∀{ds:List D} {fs:List (List Key×V)},Krs K μ H ds fs->Krs K μ1 H ds fs
 |[],_,h=>h
 |_::_,_,⟨f,x,v,r,e1,e2,e3,e4⟩=>⟨f,x,v,r,e1,e2,Rp.sub hs _ _ e3,Krs.sub hs e4⟩
theorem CelO.sub(hs:∀a,a∈μ1->a∈μ){o:HO}{ds:List D}(h:CelO K μ H o ds):CelO K μ1 H o ds:=by
 cases o <;> first|exact h.elim|skip
 ·exact Rps.sub hs _ _ h
 ·exact Krs.sub hs h
 ·exact Frs.sub hs h
theorem HR.back(h:HR K μ2 H2 M2)(e:Ext μ H μ2 H2):HR K μ H2 (M2.take μ.length):=by
 have ht:=e.take
 have hsub:∀a,a∈μ->a∈μ2:=λa ha=>by rw[<- ht]at ha;exact aBY ha
 have hlen:μ.length<=μ2.length:=by have:=congrArg List.length ht;simp at this;lia
 refine⟨by rw[aDP,<- h.len];lia,by rw[<- ht];exact h.nd.sublist (List.take_sublist _ _),λi a ds q1 q2=>?_⟩
 rw[aHL]at q2
 split at q2
 ·obtain⟨vs,q3,q4⟩:=h.ent i a ds (e.pre i a q1) q2
  exact⟨vs,q3,CelO.sub hsub q4⟩
 ·cases q2
noncomputable def nestD(n:Nat)(M:Mm):List Nat->Option (List D)
 |[]=>some []
 |j::js=>if j < n then none else match M[j]?,nestD n M js with
  |some xs,some r=>some (.lst xs::r)
  |_,_=>none
noncomputable def retc(n:Nat)(w:W)(M:Mm):Oc W:=match w with
 |.d x=>.ok (.d x) (M.take n)
 |.ref i=>if i < n then .ok (.ref i) (M.take n)else match M[i]? with
  |some ds=>.ok (.d (.lst ds)) (M.take n)
  |none=>.bad
 |.ob c i=>if i < n then .ok (.ob c i) (M.take n)else .bad
 |.nest js=>match nestD n M js with
  |some ds=>.ok (.d (.lst ds)) (M.take n)
  |none=>.bad
theorem HR.fresh(hr1:HR K μ2 H2 M2)(e1:Ext μ H μ2 H2)(qa:μ2[i]?=some a)(hi:¬i < μ.length):a∉μ:=λha=>by
 obtain⟨j,hj,ej⟩:=aEA.mp ha
 have h2:=e1.pre j a (by rw[<- ej];simp[hj])
 have l1:=(aAE.mp qa).1
 have l2:=(aAE.mp h2).1
 have g1:=(aAE.mp qa).2
 have g2:=(aAE.mp h2).2
 have pw:=aDE.mp hr1.nd
 exact pw j i l2 l1 (by lia) (g2.trans g1.symm)
theorem sG{n:Nat}(hn:n=μ.length)(e1:Ext μ H μ2 H2)(hr1:HR K μ2 H2 M2)(hsub:∀a,a∈μ->a∈μ2):∀{js:List Nat} {vs:List V} {ds:List D},Rjs μ2 H2 js vs->nestD n M2 js=some ds->Rps K μ H2 ds vs
 |[],vs,ds,h,q=>by cases h;simp only[nestD,aAQ]at q;subst q;exact .nil
 |j::js,vs,ds,⟨a,r,e1',e2,e3,e4⟩,q=>by
  subst e1'
  simp only[nestD]at q
  split at q
  ·cases q
  ·rename_i hj
   cases q1:M2[j]? with
   |none=>rw[q1]at q;cases q
   |some xs =>
    cases q2:nestD n M2 js with
    |none=>rw[q1,q2]at q;cases q
    |some r' =>
     rw[q1,q2]at q;cases q
     obtain⟨a',us,qa',h1,r1⟩:=hr1.at q1 e2 e3
     rw[e2]at qa';cases qa'
     refine .cons ?_ (sG hn e1 hr1 hsub e4 q2)
     simp only[Rp]
     exact⟨a,us,rfl,h1,hr1.fresh e1 e2 (by lia),Rps.sub hsub _ _ r1⟩
theorem kO{w:W}{Q:VK}(hr:HR K μ H M)(e1:Ext μ H μ2 H2)(hr1:HR K μ2 H2 M2)(hw:(∃c i,w=.ob c i)\/∃js,w=.nest js)(rv:Rw K μ2 H2 w v)(p:Pst K Z μ H (retc M.length w M2) (Wk K Q)):Q v H2:=by
 have hb:=hr1.back e1
 rw[hr.len]at hb
 have hsub:∀a,a∈μ->a∈μ2:=λa ha=>by rw[<- e1.take]at ha;exact aBY ha
 rcases hw with⟨c,i,rfl⟩|⟨js,rfl⟩
 ·simp only[retc]at p
  split at p
  ·rename_i hi
   obtain⟨a,qa,rfl,il⟩:=rv
   refine p μ H2 e1.back hb _ ⟨a,?_,rfl,il⟩
   rw[<- hr.len]at hi
   have:=e1.pre i μ[i] (by simp[hi])
   rw[qa]at this;cases this
   simp[hi]
  ·exact p.elim
 ·simp only[retc]at p
  cases q:nestD M.length M2 js with
  |none=>rw[q]at p;exact p.elim
  |some ds =>
   rw[q]at p
   obtain⟨a,vs,rfl,h1,hna,hj⟩:=rv
   refine p μ H2 e1.back hb _ ?_
   simp only[Rw,Rp]
   exact⟨a,vs,rfl,h1,λz=>hna (hsub a z),sG hr.len.symm e1 hr1 hsub hj q⟩
end
noncomputable def outL(js:List (Option Nat))(L:Lc):Lc:=js.map λo=>o.bind λj=>(L[j]?).join
open Classical in
noncomputable def compD(t:Nat)(s:Src)(g:FG)(c:FT)(f:FE):List D->Lc->Mm->Oc Unit
 |[]=>λ_ M=>if Chk s M then .ok () M else .bad
 |d::r=>λL M=>if Chk s M then(g (.d d) L M).bind λL1 M1=>(c L1 M1).bind λb M2=>if b=true then(f L1 M2).bind λw M3=>match w,M3[t]? with
   |.d x,some acc=>if acc.length < 16777216 then compD t s g c f r L1 (M3.set t (acc++[x]))else .bad
   |_,_=>.bad
   else compD t s g c f r L1 M2
  else .bad
noncomputable section
def compT(js:List (Option Nat))(fi:FI)(g:FG)(c:FT)(f:FE)(L:Lc)(M:Mm):Oc (List D):=(fi L M).bind λs M1=>match compD M1.length s g c f s.ds (outL js L) (M1++[[]])with
 |.ok _ M2=>match M2[M1.length]? with
  |some acc=>.ok acc (M2.take M1.length)
  |none=>.bad
 |_=>.bad
def eComp(js:List (Option Nat))(fi:FI)(g:FG)(c:FT)(f:FE):FE:=λL M=>(compT js fi g c f L M).bind λacc M1=>.ok (.d (.lst acc)) M1
def tYes:FT:=λ_ M=>.ok true M
end
structure Eif(X:Cx)(K:Frag)(Z:Zt)(ifs:List Expr)(t:FT):Prop where
 k:X.K=K
 h:PIf X ifs (liftT K Z t)
section
variable{K:Frag}{e a b o:Expr}{es:List Expr}{fs:FA}{rest:List Stmt}
theorem dF(hk:X.K=K:=by rfl):Eif X K Z [] tYes:=⟨hk,λpins s σ H Q I ⟨μ,M,L,hr,lr,p⟩=>aKl pins s σ H Q I (p μ H .refl hr)⟩
theorem sZ{c:Expr}{t:FT}(h:Et X K Z c t):Eif X K Z [c] t:=⟨h.k,aIv h.h⟩
variable{σ:St}
theorem LR.out(h:LR K μ H L σ):LR K μ H (outL js L) (outσ js σ)where
 len:=by simp[outL,outσ]
 ent:=λi w q=>by
  unfold outL at q
  unfold outσ
  rw[aBN]at q ⊢
  cases e:js[i]? with
  |none=>rw[e]at q;cases q
  |some oj =>
   rw[e]at q
   cases oj with
   |none=>simp at q
   |some j =>
    simp only[aEO,aGM,aAQ]at q ⊢
    cases e2:L[j]? with
    |none=>rw[e2]at q;cases q
    |some ow =>
     rw[e2]at q
     simp at q
     subst q
     obtain⟨v,q1,q2⟩:=h.ent j w e2
     exact⟨v,by rw[q1];rfl,q2⟩
variable{c:FT}
theorem aDb{Zi:Zt}{s:Src}{g:FG}{J:It}{Dt:Addr}{Q:Hp->Prop}(n:Nat)(μ0:List Addr)(H0:Hp)(e0:Ext μ0 H0 μ H)(hn:μ0.length=n)(hD:μ[n]?=some Dt)(hIL:IsL H Dt)
  (hr:HR K μ H M)(lr:LR K μ H L σ)(hJ:ItOk K μ H s J)
  (p:match compD n s g c f s.ds L M with
   |.ok _ M2=>∀μ2 H2,Ext μ H μ2 H2->HR K μ2 H2 M2->Q H2
   |.ex z M2=>Zi.z z M2 μ H
   |.bad=>False):tTurns J (liftG K Zi g) (liftT K Zi c) (lift K Zi f) Dt σ H Q:=by
 obtain⟨S,s0,sx,step⟩:=hJ
 let R:List Addr->Hp->Lc->Mm->List D->Prop:=λμ1 H1 L M rest=>match compD n s g c f rest L M with
   |.ok _ M2=>∀μ2 H2,Ext μ1 H1 μ2 H2->HR K μ2 H2 M2->Q H2
   |.ex z M2=>Zi.z z M2 μ1 H1
   |.bad=>False
 refine⟨λi m σ H1=>m=s.ds.length - i/\i<=s.ds.length/\∃μ1 M L,Ext μ0 H0 μ1 H1/\(μ1[n]?=some Dt/\IsL H1 Dt)/\HR K μ1 H1 M/\LR K μ1 H1 L σ/\S μ1 H1/\R μ1 H1 L M (s.ds.drop i),⟨s.ds.length,by simp,aGG _,μ,M,L,e0,⟨hD,hIL⟩,hr,lr,s0,by simpa[R]using p⟩,?_⟩
 rintro i m σ H1 ⟨rfl,hi,μ1,M,L,e1,⟨hD1,hI1⟩,hr,lr,sS,p⟩
 by_cases hlt:i < s.ds.length
 ·simp only[R]at p
  rw[aCA hlt]at p
  unfold compD at p
  by_cases hch:Chk s M
  ·rw[aAH hch]at p
   obtain⟨go,yl⟩:=(step μ1 H1 M i hr sS hch).1 s.ds[i] (by simp[hlt])
   refine .inr ⟨go,λσ' H'=>i+1<=s.ds.length/\∃μ1 M L,Ext μ0 H0 μ1 H'/\(μ1[n]?=some Dt/\IsL H' Dt)/\HR K μ1 H' M/\LR K μ1 H' L σ'/\S μ1 H'/\R μ1 H' L M (s.ds.drop (i+1)),λσ' H' q=>⟨s.ds.length - (i+1),by lia,rfl,q.1,q.2⟩,λx H2 y=>?_⟩
   obtain⟨e2,hr2,rx⟩:=yl x H2 y
   have lr2:=lr.ext hr.lsts e2
   have s2:=sx _ _ _ _ hr.lsts sS e2
   refine⟨μ1,M,L,.d s.ds[i],hr2,lr2,rx,?_⟩
   cases q3:g (.d s.ds[i]) L M with
   |bad=>rw[q3]at p;exact p.elim
   |ex z M2=>rw[q3]at p;exact Zi.mono e2 p
   |ok L3 M3 =>
    rw[q3]at p
    intro μ3 H3 e3 hr3 σ3 lr3
    refine⟨μ3,M3,L3,hr3,lr3,?_⟩
    simp only[eW]at p
    have s3:=sx _ _ _ _ hr2.lsts s2 e3
    cases q4:c L3 M3 with
    |bad=>rw[q4]at p;exact p.elim
    |ex z M2=>rw[q4]at p;exact Zi.mono (e2.trans e3) p
    |ok b M4 =>
     rw[q4]at p
     intro μ4 H4 e4 hr4
     simp only[eW]at p
     have s4:=sx _ _ _ _ hr3.lsts s3 e4
     have lr4:=lr3.ext hr3.lsts e4
     have E4:=((e1.trans e2).trans e3).trans e4
     have D4:=e4.pre _ _ (e3.pre _ _ (e2.pre _ _ hD1))
     cases b with
     |false =>
      refine⟨hlt,μ4,M4,L3,E4,⟨D4,hI1.ext ((e2.trans e3).trans e4)⟩,hr4,lr4,s4,?_⟩
      simp only[R]
      simp only[aBG,aDX]at p
      cases q5:compD n s g c f (s.ds.drop (i+1)) L3 M4 with
      |ok u M5=>rw[q5]at p;exact λμ5 H5 e5 hr5=>p μ5 H5 (((e2.trans e3).trans e4).trans e5) hr5
      |ex z M5=>rw[q5]at p;exact Zi.mono ((e2.trans e3).trans e4) p
      |bad=>rw[q5]at p;exact p
     |true =>
      simp only[aDI]at p
      refine⟨μ4,M4,L3,hr4,lr4,?_⟩
      cases q5:f L3 M4 with
      |bad=>rw[q5]at p;exact p.elim
      |ex z M2=>rw[q5]at p;exact Zi.mono ((e2.trans e3).trans e4) p
      |ok w M5 =>
       rw[q5]at p
       intro μ5 H5 e5 hr5 v rw'
       simp only[eW]at p
       cases w with
       |ref k=>exact p.elim
       |ob _ _=>exact p.elim
       |nest _=>exact p.elim
       |d x =>
        cases q6:M5[n]? with
        |none=>rw[q6]at p;exact p.elim
        |some acc =>
         rw[q6]at p
         simp only at p
         by_cases hz:acc.length < 16777216
         ·rw[aAH hz]at p
          have D5:=e5.pre _ _ D4
          have I5:=hI1.ext (((e2.trans e3).trans e4).trans e5)
          obtain⟨a',vs,qa',h1,r1⟩:=hr5.at q6 D5
          rw[D5]at qa';cases qa'
          refine⟨vs,h1,by rw[<- r1.length,aAT];exact hz,hlt,μ5,M5.set n (acc++[x]),L3,(E4.trans e5).trans (dN D5),⟨D5,_,bB⟩,hr5.set D5 (r1.append (.cons rw' .nil)),?_,?_,?_⟩
          ·exact(lr4.ext hr4.lsts e5).ext hr5.lsts (dN D5)
          ·exact sx _ _ _ _ hr5.lsts (sx _ _ _ _ hr4.lsts s4 e5) (dN D5)
          ·simp only[R]
           cases q7:compD n s g c f (s.ds.drop (i+1)) L3 (M5.set n (acc++[x]))with
           |ok u M6=>rw[q7]at p;exact λμ6 H6 e6 hr6=>p μ6 H6 (((((e2.trans e3).trans e4).trans e5).trans (dN D5)).trans e6) hr6
           |ex z M6=>rw[q7]at p;exact Zi.mono ((((e2.trans e3).trans e4).trans e5).trans (dN D5)) p
           |bad=>rw[q7]at p;exact p
         ·rw[aAL hz]at p;exact p.elim
  ·rw[aAL hch]at p;exact p.elim
 ·have e:i=s.ds.length:=by lia
  subst e
  simp only[R]at p
  rw[aCE (aAI _)]at p
  unfold compD at p
  by_cases hch:Chk s M
  ·rw[aAH hch]at p
   exact .inl ⟨(step μ1 H1 M _ hr sS hch).2 (aAI _),p μ1 H1 .refl hr⟩
  ·rw[aAL hch]at p;exact p.elim
variable{fi:FI}
theorem aFb{g:FG}{Q:VK}(h:∃μ M L,HR K μ H M/\LR K μ H L σ/\Pst K Z μ H (compT js fi g c f L M) λμ' H' M' acc=>∀q vs,H' q=some (.lst vs)->q∉μ'->Rps K μ' H' acc vs->Q (.ref q) H') :
  tComp js (liftI K Z fi) (liftG K Z0 g) (liftT K Z0 c) (lift K Z0 f) σ H Q:=by
 obtain⟨μ,M,L,hr,lr,p⟩:=h
 refine⟨μ,M,L,hr,lr,p.bind.imp λμ1 H1 M1 s e1 hr1 _ p1 J hJ Dt hDt=>?_⟩
 have x:=aAo (vs:=[]) hr1 hDt
 have hlen:=hr1.len
 obtain⟨S,s0,sx,step⟩:=hJ
 refine aDb (M:=M1++[[]]) M1.length μ1 H1 x hr1.len (by rw[<- hlen];simp) ⟨_,bB⟩ (hr1.new hDt .nil) (LR.out ((lr.ext hr.lsts e1).ext hr1.lsts x)) ⟨S,sx _ _ _ _ hr1.lsts s0 x,sx,step⟩ ?_
 cases q:compD M1.length s g c f s.ds (outL js L) (M1++[[]])with
 |bad=>simp only[q]at p1;exact p1.elim
 |ex z M2=>simp only[q]at p1;exact p1.elim
 |ok u M2 =>
  simp only[q]at p1
  intro μ2 H2 e2 hr2
  cases q2:M2[M1.length]? with
  |none=>simp only[q2]at p1;exact p1.elim
  |some acc =>
   simp only[q2]at p1
   have E:=x.trans e2
   have hb:=hr2.back E
   rw[hlen]at hb
   have hD2:μ2[M1.length]?=some Dt:=e2.pre _ _ (by rw[<- hlen];simp)
   obtain⟨a',vs,qa',h1,r1⟩:=hr2.at q2 hD2 (IsL.ext e2 ⟨_,bB⟩)
   rw[hD2]at qa';cases qa'
   exact p1 μ1 H2 E.back hb Dt vs h1 (hr1.out hDt) (Rps.sub (λa ha=>by rw[<- E.take]at ha;exact aBY ha) _ _ r1)
theorem wO{g:FG} :∀σ H Q,lift K Z (eComp js fi g c f) σ H Q->tComp js (liftI K Z fi) (liftG K Z0 g) (liftT K Z0 c) (lift K Z0 f) σ H Q:=by
 rintro σ H Q ⟨μ,M,L,hr,lr,p⟩
 refine aFb ⟨μ,M,L,hr,lr,p.bind.imp λμ1 H1 M1 acc e1 hr1 _ p1 q vs h1 h2 h3=>?_⟩
 exact p1 μ1 H1 .refl hr1 _ (by simp only[Rw,Rp];exact⟨q,vs,rfl,h1,h2,h3⟩)
variable{ifs:List Expr}{scope:Scope}
theorem dY{elt:Expr}{g:FG}(hc:X.calm=true)(T:CompOk X.N X.env.scope scope Nc js)(hit:Ei X K Z tg iter fi)
  (hg:∀cl C fp pins s₂ H₂,Eg (compCx X Nc scope cl C fp pins s₂ H₂) K Z0 tg g)(hi:∀cl C fp pins s₂ H₂,Eif (compCx X Nc scope cl C fp pins s₂ H₂) K Z0 ifs c)(he:∀cl C fp pins s₂ H₂,Ev (compCx X Nc scope cl C fp pins s₂ H₂) K Z0 elt f)
  (hs:∀x,foldedSetIterable iter X.env x=pure x:=by intro _;rfl):Ev X K Z (.ListComp elt [⟨tg,iter,ifs,0⟩] scope pos) (eComp js fi g c f) :=
 ⟨hit.k,cqE (aHl hc T hit.h (λ_ _ _ _ _ _=>(hg _ _ _ _ _ _).h) (λ_ _ _ _ _ _=>(hi _ _ _ _ _ _).h) (λ_ _ _ _ _ _=>(he _ _ _ _ _ _).h) hs) wO⟩
theorem mD{elt:Expr}{g:FG}{py spos:Pos}(hN:X.N.Nodup)(hc:X.calm=true)(T:CompOk X.N X.env.scope scope Nc js)(hit:Ei X K Z tg iter fi)
  (hg:∀cl C fp pins s₂ H₂,Eg (compCx X Nc scope cl C fp pins s₂ H₂) K Z0 tg g)(hi:∀cl C fp pins s₂ H₂,Eif (compCx X Nc scope cl C fp pins s₂ H₂) K Z0 ifs c)(he:∀cl C fp pins s₂ H₂,Ev (compCx X Nc scope cl C fp pins s₂ H₂) K Z0 elt f)
  (hyi:X.N[i]?=some y:=by rfl)(hy:X.env.scope.names.lookup y=some .local:=by rfl)
  (hsw:swapsWith (.ListComp elt [⟨tg,iter,ifs,0⟩] scope pos) (some (.Name y py)) spos.line X.env=pure true:=by rfl)
  (hs:∀x,foldedSetIterable iter X.env x=pure x:=by intro _;rfl):Es X K Z (.Assign [.Name y py] (.ListComp elt [⟨tg,iter,ifs,0⟩] scope pos) spos) (sAs (eComp js fi g c f) (gN i)):=by
 refine⟨hit.k,cqS (aHd hN hyi hy hc T hit.h (λ_ _ _ _ _ _=>(hg _ _ _ _ _ _).h) (λ_ _ _ _ _ _=>(hi _ _ _ _ _ _).h) (λ_ _ _ _ _ _=>(he _ _ _ _ _ _).h) hsw hs) ?_⟩
 rintro E σ H ⟨μ,M,L,hr,lr,p⟩
 refine wO _ _ _ ⟨μ,M,L,hr,lr,p.bind.imp λμ1 H1 M1 x e1 hr1 _ p1 v rx=>?_⟩
 exact p1 μ1 H1 .refl hr1 _ (LR.set (lr.ext hr.lsts e1) rx)
noncomputable section
def fnD(m n:Nat)(F:FS):Fn:=λws M=>if ws.length=m then(F (ws.map some++List.replicate (n - ws.length) none) M).bind λo M'=>match o with
  |.rt w=>retc M.length w M'
  |.nx _=>.ok (.d .non) (M'.take M.length)
  |_=>.bad
 else .bad
def fnR(m n:Nat)(F:FS):Fn:=λws M=>if ws.length=m then(F (ws.map some++List.replicate (n - ws.length) none) M).bind λo M'=>match o with
  |.rt (.ref i)=>if M.length<=i then(match M'[i]? with
   |some ds=>.ok (.ref M.length) (M'.take M.length++[ds])
   |none=>.bad)else .bad
  |_=>.bad
 else .bad
def spF(K:Frag)(Z:Zt)(m:Nat)(Fm:Fn):Sp:=λvs H Q E=>vs.length=m/\∃μ M ws,HR K μ H M/\Rws K μ H ws vs/\Pst K Z μ H (Fm ws M) (Wk K Q)
end
theorem pJ{ws:List W}(r:Rws K μ H ws vs):LR K μ H (ws.map some++List.replicate (N.length - ws.length) none) (L2.start N vs):=by
 have hl:=r.length
 refine⟨by simp[L2.start,hl],λi w q=>?_⟩
 by_cases hi:i < ws.length
 ·rw[aAX (by simpa using hi),aBN]at q
  cases e:ws[i]? with
  |none=>rw[e]at q;cases q
  |some w' =>
   rw[e]at q;cases q
   obtain⟨v,q1,q2⟩:=r.get e
   refine⟨v,?_,q2⟩
   unfold L2.start
   rw[aAX (by simp;lia),aBN,q1];rfl
 ·rw[aCN (by simpa using hi),List.getElem?_replicate]at q
  split at q <;> cases q
variable{k:Nat}
theorem cR{fa:Addr}(hf:Fun K x qual st fa fd)(S:FnScope N ps (defScope st))
  (hb:∀(cdv:Value) (A:Around) (outer:List Env) (s:Shared) (H:Hp) (E:XK),Room k (A.deeper (envOfC qual (defScope st) s.heap.objs.size fa cdv))->Ess (cxOf CX0 P w K mg base N qual (defScope st) fa cdv A outer s H E).nox K Z0 (defBody st) F) :
  FnOk P w K mg base CX0 (k+1) fa fd ps (spF K Z0 ps.length (fnD ps.length N.length F)):=by
 refine hf.ok S (λvs H Q E h=>h.1) λcdv A outer s H vs Q E hr hsp=>⟨_,(hb cdv A outer s H E hr).h,?_⟩
 obtain⟨hv,μ,M,ws,hr,rx,p⟩:=hsp
 refine⟨μ,M,_,hr,pJ rx,?_⟩
 unfold fnD at p
 rw[aAH (by rw[rx.length];exact hv)]at p
 cases q:F (ws.map some++List.replicate (N.length - ws.length) none) M with
 |bad=>rw[q]at p;exact p
 |ex z M'=>rw[q]at p;exact p
 |ok o M' =>
  rw[q]at p
  simp only[eW]at p
  intro μ1 H1 e1 hr1
  have hb:=hr1.back e1
  rw[hr.len]at hb
  cases o with
  |nx L'=>exact λσ' lr'=>p μ H1 e1.back hb _ (by simp[Rw,Rp])
  |bk L'=>exact p.elim
  |ct L'=>exact p.elim
  |rt w =>
   intro v rv
   have hsub:∀a,a∈μ->a∈μ1:=λa ha=>by rw[<- e1.take]at ha;exact aBY ha
   cases w with
   |ob c i=>exact kO hr e1 hr1 (.inl ⟨_,_,rfl⟩) rv p
   |nest c=>exact kO hr e1 hr1 (.inr ⟨_,rfl⟩) rv p
   |d x=>exact p μ H1 e1.back hb v (Rp.sub hsub x v rv)
   |ref i =>
    simp only[retc]at p
    split at p
    ·rename_i hi
     obtain⟨a,qa,rfl,il⟩:=rv
     refine p μ H1 e1.back hb _ ⟨a,?_,rfl,il⟩
     rw[<- hr.len]at hi
     have:=e1.pre i μ[i] (by simp[hi])
     rw[qa]at this;cases this
     simp[hi]
    ·rename_i hi
     cases q2:M'[i]? with
     |none=>simp only[q2]at p;exact p.elim
     |some ds =>
      simp only[q2]at p
      obtain⟨a,qa,rfl,il⟩:=rv
      obtain⟨a',vs',qa',h1,r1⟩:=hr1.at q2 qa
      rw[qa]at qa';cases qa'
      refine p μ H1 e1.back hb _ ?_
      simp only[Rw,Rp]
      refine⟨a,vs',rfl,h1,λha=>?_,Rps.sub hsub _ _ r1⟩
      obtain⟨j,hj,ej⟩:=aEA.mp ha
      have h2:=e1.pre j a (by rw[<- ej];simp[hj])
      have l1:=(aAE.mp qa).1
      have l2:=(aAE.mp h2).1
      have g1:=(aAE.mp qa).2
      have g2:=(aAE.mp h2).2
      have pw:=aDE.mp hr1.nd
      rw[hr.len]at hj
      exact pw j i l2 l1 (by lia) (g2.trans g1.symm)
theorem aNf{fa:Addr}(hf:Fun K x qual st fa fd)(S:FnScope N ps (defScope st))
  (hb:∀(cdv:Value) (A:Around) (outer:List Env) (s:Shared) (H:Hp) (E:XK),Room k (A.deeper (envOfC qual (defScope st) s.heap.objs.size fa cdv))->Ess (cxOf CX0 P w K mg base N qual (defScope st) fa cdv A outer s H E).nox K Z0 (defBody st) F) :
  FnOk P w K mg base CX0 (k+1) fa fd ps (spF K Z0 ps.length (fnR ps.length N.length F)):=by
 refine hf.ok S (λvs H Q E h=>h.1) λcdv A outer s H vs Q E hr hsp=>⟨_,(hb cdv A outer s H E hr).h,?_⟩
 obtain⟨hv,μ,M,ws,hr,rx,p⟩:=hsp
 refine⟨μ,M,_,hr,pJ rx,?_⟩
 unfold fnR at p
 rw[aAH (by rw[rx.length];exact hv)]at p
 cases q:F (ws.map some++List.replicate (N.length - ws.length) none) M with
 |bad=>rw[q]at p;exact p
 |ex z M'=>rw[q]at p;exact p
 |ok o M' =>
  rw[q]at p
  simp only[eW]at p
  intro μ1 H1 e1 hr1
  have hb:=hr1.back e1
  rw[hr.len]at hb
  cases o with
  |nx L'=>exact p.elim
  |bk L'=>exact p.elim
  |ct L'=>exact p.elim
  |rt w =>
   intro v rv
   have hsub:∀a,a∈μ->a∈μ1:=λa ha=>by rw[<- e1.take]at ha;exact aBY ha
   cases w with
   |d x=>exact p.elim
   |ob _ _=>exact p.elim
   |nest _=>exact p.elim
   |ref i =>
    simp only at p
    split at p
    ·rename_i hi
     cases q2:M'[i]? with
     |none=>simp only[q2]at p;exact p.elim
     |some ds =>
      simp only[q2]at p
      obtain⟨a,qa,rfl,il⟩:=rv
      obtain⟨a',vs',qa',h1,r1⟩:=hr1.at q2 qa
      rw[qa]at qa';cases qa'
      have hna:a∉μ:=λha=>by
       obtain⟨j,hj,ej⟩:=aEA.mp ha
       have h2:=e1.pre j a (by rw[<- ej];simp[hj])
       have l1:=(aAE.mp qa).1
       have l2:=(aAE.mp h2).1
       have g1:=(aAE.mp qa).2
       have g2:=(aAE.mp h2).2
       have pw:=aDE.mp hr1.nd
       rw[hr.len]at hj
       exact pw j i l2 l1 (by lia) (g2.trans g1.symm)
      have hsub2:∀b,b∈μ++[a]->b∈μ1:=λb hb=>by
       rcases aBH.mp hb with hb|hb
       ·exact hsub b hb
       ·rw[aBO]at hb;subst hb;exact aCD qa
      refine p (μ++[a]) H1 ⟨e1.keep,λb hb=>e1.new b (hsub2 b hb),λj b hj=>by rw[aAX (aAE.mp hj).1];exact hj,e1.kin⟩ ?_ _ ⟨a,by rw[<- hr.len];simp,rfl,_,h1⟩
      refine⟨by simp[hb.len],List.nodup_append.mpr ⟨hb.nd,by simp,λb hb' c hc=>by rw[aBO]at hc;subst hc;rintro rfl;exact hna hb'⟩,λj b es q1 q3=>?_⟩
      by_cases hj:j < μ.length
      ·rw[aAX hj]at q1
       rw[aAX (by rw[<- hb.len];exact hj),aHL]at q3
       split at q3
       ·obtain⟨us,q4,q5⟩:=hr1.ent j b es (e1.pre j b q1) q3
        exact⟨us,q4,CelO.sub hsub2 q5⟩
       ·cases q3
      ·have hj':j=μ.length:=by have:=(aAE.mp q1).1;simp at this;lia
       subst hj'
       rw[aCN (aAI _)]at q1
       rw[hb.len,aCN (aAI _)]at q3
       simp at q1 q3
       subst q1 q3
       exact⟨_,h1,Rps.sub hsub2 _ _ r1⟩
    ·exact p.elim
theorem aP{fa:Addr}(Gf:FnOk X.prog X.w X.K X.mg X.base CX0 k fa fd ps (spF K Z0 m Fm))(hr:Room k X.A)(hm:X.mg x=some (.ref fa))(hk:keepIn X.K (.ref fa)=true)(hb:Binds X.K fd ps [])
  (ha:Ea X K Z0 (e::es) fs)(hl:ps.length=m:=by rfl)(hg:Gl X x:=by rfl)(hdb:(x==("__debug__":Str))=false:=by decide)(he:starEach (e::es) X.env=(false,eval e X.env)::starEach es X.env:=by rfl)(hpl:(backTo pos (starEach es X.env)).any (·.1)=false:=by rfl)
  (hlen:∀ws M,ws.length≠m->Fm ws M=.bad:=by intro ws M h;first|exact aAL h|rfl):Ev X K Z0 (.Call (.Name x p) (e::es) [] pos) (eA Fm fs):=by
 refine⟨ha.k,cqE (oG Gf hr hg hm hk hb .nil pass0 ha.h hdb he hpl) ?_⟩
 rintro σ H Q ⟨μ,M,L,hr,lr,p⟩
 refine⟨μ,M,L,hr,lr,p.bind.imp λμ1 H1 M1 ws e1 hr1 _ p1 vs rx=>?_⟩
 show spF K Z0 m Fm (vs++[]) H1 Q E0
 rw[aDU]
 refine⟨?_,μ1,M1,ws,hr1,rx,p1⟩
 by_cases hw:ws.length=m
 ·rw[<- rx.length];exact hw
 ·rw[hlen ws M1 hw]at p1;exact p1.elim
theorem aOe{a:Addr}(hO:Only H)(hS:SqL K H a (ns.map V.int))(h:∃M',Fm [.d (.fz (ns.map D.int))] []=.ok (.d (.bl true)) M'):spF K Z0 1 Fm [.ref a] H (λv _=>v=.bl true) λ_ _ _=>False:=by
 obtain⟨M',h⟩:=h
 refine⟨rfl,[],[],[.d (.fz (ns.map D.int))],⟨rfl,List.nodup_nil,λi a ds q=>by simp at q⟩,⟨.ref a,[],rfl,?_,rfl⟩,?_⟩
 ·simp only[Rw,Rp]
  refine⟨a,ns.map V.int,rfl,?_,Rps.ints⟩
  rcases hS with(z|z)|z
  ·rcases hO a with q|⟨o,xs,q⟩ <;> rw[z]at q <;> cases q
  ·exact .inl z
  ·exact .inr z
 ·rw[h]
  intro μ' H' _ _ v rv
  simpa only[Rw,Rp]using rv
end
@[irreducible] noncomputable def NW:Nat:=18446744073709551616
theorem sM:NW=18446744073709551616:=by unfold NW;rfl
theorem aT{k:Nat}(hr:Room k A):A.units+101 < cLine:=by have:=hr.un;lia
section
variable{K:Frag}{e a b o:Expr}{es:List Expr}{fs:FA}{rest:List Stmt}
end
end EV
namespace ZP
variable{prog:Program}{E:Value->Shared->Prop}{x:Value}
theorem lH{l:Addr}(hit:s.heap.IsTupleIter it l i)
  (hl:s.heap.IsTuple l items)(hx:items[i]?=some x)
  (hQ:∀h',h'.IsTupleIter it l (i+1)->Heap.SameBut it s.heap h'->Q x {s with heap:=h'}) :
  wpAny (model prog w) A (Builtin.SmallTypes.nextOf (.ref it)) Q E s:=by
 obtain⟨o,ho,hc,hd⟩:=id hit
 obtain⟨ol,hol,_,nl,hdl⟩:=hl
 unfold Builtin.SmallTypes.nextOf
 refine aAB (aBQ (name:=Str.ofString "__next__") hit.typeIs aDY
  (aBX aDY hit.typeIs F.entry_tuple_iterator_next ?_ (F.args_tuple_iterator_next_1 _)))
 show wpAny _ _ (field (.ref it) 0 >>= _) _ _ s
 refine aAB (aAZ ho hd (x:=.ref l) rfl ?_)
 show wpAny _ _ (if(Value.ref l==Value.none)=true then _ else _) _ _ s
 rw[aAL (show ¬((Value.ref l==Value.none)=true)from aBA)]
 show wpAny _ _ (field (.ref it) 1 >>= _) _ _ s
 refine aAB (aAZ ho hd (x:=.int i 0) rfl ?_)
 show wpAny _ _ (seqItems? (.ref l) >>= _) _ _ s
 refine aAB (aDD hol hdl ?_)
 simp only[aBF,hx]
 refine aAB (aDO ho hd (by simp) (aAD ⟨x,rfl,aAD (hQ _ ?_ (Heap.SameBut.update ..))⟩))
 exact⟨_,aCK _ ho (Obj.isFreed_of_fields (Obj.data_mapFields hd _)),(Obj.cls_mapFields ..).trans hc,by
  rw[Obj.data_mapFields hd];simp[rawInt]⟩
theorem nF{l:Addr}(hh:A.handled=none)
  (hit:s.heap.IsTupleIter it l i)(hl:s.heap.IsTuple l items)(hx:items[i]?=none)
  (hE:∀h' e,Heap.ExtBut it s.heap h'->(∃o,h'.get? e=some o/\o.cls=.type "StopIteration")->E (.ref e) {s with heap:=h'}) :
  wpAny (model prog w) A (Builtin.SmallTypes.nextOf (.ref it)) Q E s:=by
 obtain⟨o,ho,hc,hd⟩:=id hit
 obtain⟨ol,hol,_,nl,hdl⟩:=hl
 unfold Builtin.SmallTypes.nextOf
 refine aAB (aBQ (name:=Str.ofString "__next__") hit.typeIs aDY
  (aBX aDY hit.typeIs F.entry_tuple_iterator_next ?_ (F.args_tuple_iterator_next_1 _)))
 show wpAny _ _ (field (.ref it) 0 >>= _) _ _ s
 refine aAB (aAZ ho hd (x:=.ref l) rfl ?_)
 show wpAny _ _ (if(Value.ref l==Value.none)=true then _ else _) _ _ s
 rw[aAL (show ¬((Value.ref l==Value.none)=true)from aBA)]
 show wpAny _ _ (field (.ref it) 1 >>= _) _ _ s
 refine aAB (aAZ ho hd (x:=.int i 0) rfl ?_)
 show wpAny _ _ (seqItems? (.ref l) >>= _) _ _ s
 refine aAB (aDD hol hdl ?_)
 simp only[aBF,hx]
 refine aAB (aEB (aAB (aDO ho hd (by simp) ?_)))
 show wpAny _ _ (newExc (.type "StopIteration") [] >>= _) _ _ _
 refine aAB ?_
 simp only[newExc,newTuple]
 refine aAB (aCR ?_ (by size_fits))
 refine aAB (m:=firstArgMember _ _) (wpAny_of_eq (a:=Value.none) (by first|rfl|(simp only[firstArgMember];rfl)) ?_)
 refine aCR ?_ (by size_fits)
 simp only[raiseNew]
 refine aAB (wpAny_handled ?_)
 first|rw[show A.in1.handled=none from hh]|rw[hh]
 refine aAB (aAD (wpAny_throw ?_))
 exact hE _ _ (((Heap.SameBut.update ..).extBut.push _).push _) ⟨_,aAG _ rfl,rfl⟩
noncomputable def It1(h:Heap)(it src:Addr)(i:Nat)(xs:Array Value):Prop:=(h.IsListIter it src i/\h.IsList src xs)\/(h.IsTupleIter it src i/\h.IsTuple src xs)
theorem It1.at{h h':Heap}{it src:Addr}{i:Nat}{xs:Array Value}(x:It1 h it src i xs)(k1:∀o,h.get? it=some o->h'.get? it=some o)(k2:∀o,h.get? src=some o->h'.get? src=some o):It1 h' it src i xs:=by
 rcases x with⟨a,b⟩|⟨a,b⟩
 ·exact .inl ⟨a.at k1,b.at k2⟩
 ·refine .inr ⟨a.at k1,?_⟩
  obtain⟨o,ho,r⟩:=b
  exact⟨o,k2 o ho,r⟩
theorem It1.lt(x:It1 h it src i xs):it < h.objs.size:=by
 rcases x with⟨⟨_,e,_⟩,_⟩|⟨⟨_,e,_⟩,_⟩ <;> exact aAF e
theorem It1.ne(x:It1 h it src i xs):src≠it:=by
 rintro rfl
 rcases x with⟨⟨o,e,c,_⟩,⟨o',e',c',_⟩⟩|⟨⟨o,e,c,_⟩,⟨o',e',c',_⟩⟩ <;> (rw[e]at e';cases e';rw[c]at c';simp at c')
theorem It1.next(h:It1 s.heap it src i xs)(hx:xs[i]?=some x)(hQ:∀h',It1 h' it src (i+1) xs->Heap.SameBut it s.heap h'->Q x {s with heap:=h'}) :
  wpAny (model prog w) A (Builtin.SmallTypes.nextOf (.ref it)) Q E s:=by
 have hn:=h.ne
 rcases h with⟨a,b⟩|⟨a,b⟩
 ·exact wpAny_nextOf_list_item a b hx λh' a' sb=>hQ h' (.inl ⟨a',b.extBut sb.extBut hn⟩) sb
 ·exact lH a b hx λh' a' sb=>hQ h' (.inr ⟨a',b.extBut sb.extBut hn⟩) sb
theorem It1.stop(hh:A.handled=none)(h:It1 s.heap it src i xs)(hx:xs[i]?=none)
  (hE:∀h' e,Heap.ExtBut it s.heap h'->(∃o,h'.get? e=some o/\o.cls=.type "StopIteration")->E (.ref e) {s with heap:=h'}):wpAny (model prog w) A (Builtin.SmallTypes.nextOf (.ref it)) Q E s:=by
 rcases h with⟨a,b⟩|⟨a,b⟩
 ·exact wpAny_nextOf_list_end hh a b hx hE
 ·exact nF hh a b hx hE
theorem loadAlive{Q:Option Obj->Shared->Prop}(h:Q (s.heap.get? a) s):wpAny (model prog w) A (loadIfAlive a) Q E s:=by
 intro Γ p hΓ
 show Sem.wp _ _ (Sem.loadIfAlive a _) _ _ _ _
 rw[Sem.wp_loadIfAlive]
 simpa using h
noncomputable abbrev zobj(TI TO:Addr)(f0 f1:Value):Obj:={cls:=.type "zip",dict:=none,data:=.fields #[f0,f1,.bool false,.ref TI,.ref TO],slots:=#[]}
structure Ap(z TI TO i1 i2 l1 l2:Addr):Prop where
 TIz:TI≠z
 TOz:TO≠z
 i1z:i1≠z
 i2z:i2≠z
 TITO:TI≠TO
 TIi1:TI≠i1
 TIi2:TI≠i2
 TOi1:TO≠i1
 TOi2:TO≠i2
 i12:i1≠i2
 l1z:l1≠z
 l1TO:l1≠TO
 l1i1:l1≠i1
 l1i2:l1≠i2
 l2z:l2≠z
 l2TO:l2≠TO
 l2i1:l2≠i1
 l2i2:l2≠i2
structure Zs(h:Heap)(z TI TO i1 i2 l1 l2:Addr)(i:Nat)(xs ys:Array Value):Prop where
 z:∃f0 f1,h.get? z=some (zobj TI TO f0 f1)/\(f0=.none\/∃T:Nat,f0=rawInt T)
 ti:IsPair h TI (.ref i1) (.ref i2)
 to:∃a b,IsPair h TO a b
 a:It1 h i1 l1 i xs
 b:It1 h i2 l2 i ys
variable{TI TO:Addr}
theorem zI{f0 f1:Value}{Q:Bool->Shared->Prop}(hz:s.heap.get? z=some (zobj TI TO f0 f1))(hf:f0=.none\/∃T:Nat,f0=rawInt T)(h1:Q true s)(h2:∀h' f1',h'.get? z=some (zobj TI TO f0 f1')->Heap.SameBut z s.heap h'->Q false {s with heap:=h'}) :
  wpAny (model prog w) A (Builtin.SmallTypes.ownedTupleIsFree (.ref z)) Q E s:=by
 unfold Builtin.SmallTypes.ownedTupleIsFree
 refine aAB (aAZ hz rfl (x:=f0) rfl ?_)
 rcases hf with rfl|⟨T,rfl⟩
 ·exact aAD h1
 ·show wpAny _ _ (loadIfAlive _ >>= _) _ _ _
  refine aAB (loadAlive ?_)
  cases q:s.heap.get? ((T:Int).toNat)with
  |none=>exact aAD h1
  |some o =>
   show wpAny _ _ (field (.ref z) 1 >>= _) _ _ _
   refine aAB (aAZ hz rfl (x:=f1) rfl ?_)
   by_cases hb:(f1 != .bool true)=true
   ·rw[aAH hb]
    refine aAB (aBU hz (by simp) λh1 hz1 hs1=>aAD (h2 h1 _ hz1 hs1))
   ·rw[aAL hb]
    exact aAD (h2 s.heap f1 hz ⟨rfl,λ_ _=>rfl⟩)
variable{k:Nat}
theorem kQ{i1 i2:Addr}{y:Value}(D:Ap z TI TO i1 i2 l1 l2)(Z:Zs s.heap z TI TO i1 i2 l1 l2 k xs ys)(hx:xs[k]?=some x)(hy:ys[k]?=some y)
  (hQ:∀h' T,Zs h' z TI TO i1 i2 l1 l2 (k+1) xs ys->IsPair h' T x y->s.heap.objs.size<=T->(∀c o,c≠z->c≠TO->c≠i1->c≠i2->s.heap.get? c=some o->h'.get? c=some o)->Q (.ref T) {s with heap:=h'}) :
  wpAny (model prog w) A (Builtin.«zip.__next__» ⟨[.ref z],[]⟩) (λfin s'=>∃v,fin=.done (.ret v)/\Q v s') E s:=by
 obtain⟨⟨f0,f1,hz,hf⟩,hTI,⟨a,b,hTO⟩,h1,h2⟩:=Z
 show wpAny _ _ (field (.ref z) 2 >>= _) _ _ _
 refine aAB (aAZ hz rfl (x:=.bool false) rfl ?_)
 show wpAny _ _ (field (.ref z) 3 >>= _) _ _ _
 refine aAB (aAZ hz rfl (x:=.ref TI) rfl ?_)
 refine aAB (aDD hTI rfl ?_)
 show wpAny _ _ (Builtin.SmallTypes.ownedTupleIsFree (.ref z) >>= _) _ _ _
 refine aAB (zI hz hf ?_ λh₁ f1' hz₁ hs₁=>?_)
 ·simp only[aDI]
  refine aAB (aEB ?_)
  refine aAB (aAZ hz rfl (x:=.ref TO) rfl ?_)
  refine aAB (aBU hz (by simp) λh₁ hz₁ hs₁=>?_)
  replace hz₁:h₁.get? z=some (zobj TI TO .ellipsis f1):=hz₁
  refine aAB ?_
  simp only[List.zipIdx_cons,List.zipIdx_nil,aEP,aHC]
  refine aAB (aAB (aHN ?_))
  show wpAny _ _ (Builtin.SmallTypes.nextOf (.ref i1) >>= _) _ _ _
  refine aAB (It1.next (h1.at (λo e=>hs₁.extBut _ _ D.i1z e) λo e=>hs₁.extBut _ _ D.l1z e) hx λh₂ h1₂ hs₂=>aAD ?_)
  have hTO₂:IsPair h₂ TO a b:=hs₂.extBut _ _ D.TOi1 (hs₁.extBut _ _ D.TOz hTO)
  refine aAB (aDD hTO₂ rfl ?_)
  refine aAB (aGU hTO₂ λh₃ hTO₃ hs₃=>?_)
  replace hTO₃:IsPair h₃ TO x b:=hTO₃
  refine aAB (aHD (aAD ?_))
  refine aAB (aAB (aHN ?_))
  show wpAny _ _ (Builtin.SmallTypes.nextOf (.ref i2) >>= _) _ _ _
  refine aAB (It1.next (h2.at (λo e=>hs₃.extBut _ _ D.TOi2.symm (hs₂.extBut _ _ D.i12.symm (hs₁.extBut _ _ D.i2z e))) λo e=>hs₃.extBut _ _ D.l2TO (hs₂.extBut _ _ D.l2i1 (hs₁.extBut _ _ D.l2z e))) hy λh₄ h2₄ hs₄=>aAD ?_)
  have hTO₄:IsPair h₄ TO x b:=hs₄.extBut _ _ D.TOi2 hTO₃
  refine aAB (aDD hTO₄ rfl ?_)
  refine aAB (aGU hTO₄ λh₅ hTO₅ hs₅=>?_)
  replace hTO₅:IsPair h₅ TO x y:=hTO₅
  refine aAB (aHD (aAD (aAD ?_)))
  refine aAB (aDD hTO₅ rfl ?_)
  refine aAB (wpAny_newTuple ?_)
  have hsz:h₅.objs.size=s.heap.objs.size:=by rw[hs₅.1,hs₄.1,hs₃.1,hs₂.1,hs₁.1]
  have hz₅:h₅.get? z=some (zobj TI TO .ellipsis f1):=hs₅.extBut _ _ D.TOz.symm (hs₄.extBut _ _ D.i2z.symm (hs₃.extBut _ _ D.TOz.symm (hs₂.extBut _ _ D.i1z.symm hz₁)))
  have hk₅:∀c o,c≠z->c≠TO->c≠i1->c≠i2->s.heap.get? c=some o->h₅.get? c=some o:=λc o c1 c2 c3 c4 e =>
   hs₅.extBut _ _ c2 (hs₄.extBut _ _ c4 (hs₃.extBut _ _ c2 (hs₂.extBut _ _ c3 (hs₁.extBut _ _ c1 e))))
  have h1₅:It1 h₅ i1 l1 (k+1) xs:=h1₂.at (λo e=>hs₅.extBut _ _ D.TOi1.symm (hs₄.extBut _ _ D.i12 (hs₃.extBut _ _ D.TOi1.symm e))) λo e=>hs₅.extBut _ _ D.l1TO (hs₄.extBut _ _ D.l1i2 (hs₃.extBut _ _ D.l1TO e))
  have h2₅:It1 h₅ i2 l2 (k+1) ys:=h2₄.at (λo e=>hs₅.extBut _ _ D.TOi2.symm e) λo e=>hs₅.extBut _ _ D.l2TO e
  have hzlt:z < h₅.objs.size:=aAF hz₅
  show wpAny _ _ (Builtin.SmallTypes.ownedTupleHandOut (.ref z) (.ref h₅.objs.size) >>= _) _ _ _
  refine aAB ?_
  unfold Builtin.SmallTypes.ownedTupleHandOut
  have hz₆:(h₅.push {cls:=.type "tuple",data:=.seq #[x,y]}).get? z=some (zobj TI TO .ellipsis f1):=aAA _ hz₅
  refine aAB (aBU hz₆ (by simp) λh₇ hz₇ hs₇=>?_)
  replace hz₇:h₇.get? z=some (zobj TI TO (rawInt h₅.objs.size) f1):=hz₇
  refine aBU hz₇ (by simp) λh₈ hz₈ hs₈=>?_
  replace hz₈:h₈.get? z=some (zobj TI TO (rawInt h₅.objs.size) (.bool false)):=hz₈
  have up:∀c o,c≠z->h₅.get? c=some o->h₈.get? c=some o:=λc o c1 e=>hs₈.extBut _ _ c1 (hs₇.extBut _ _ c1 (aAA _ e))
  have hT₈:IsPair h₈ h₅.objs.size x y:=hs₈.extBut _ _ (aBL hzlt) (hs₇.extBut _ _ (aBL hzlt) (aAG _ rfl))
  refine aAD ⟨_,rfl,hQ h₈ h₅.objs.size ⟨⟨_,_,hz₈,.inr ⟨_,rfl⟩⟩,up _ _ D.TIz (hk₅ _ _ D.TIz D.TITO D.TIi1 D.TIi2 hTI),⟨_,_,up _ _ D.TOz hTO₅⟩,h1₅.at (λo e=>up _ o D.i1z e) λo e=>up _ o D.l1z e,h2₅.at (λo e=>up _ o D.i2z e) λo e=>up _ o D.l2z e⟩ hT₈ (by rw[hsz];exact aAI _) λc o c1 c2 c3 c4 e=>up c o c1 (hk₅ c o c1 c2 c3 c4 e)⟩
 ·simp only[aBG,aDX]
  refine aAB ?_
  simp only[List.forIn_toArray,aEP,aHC]
  refine aAB (aAB (aAY ?_))
  show wpAny _ _ (Builtin.SmallTypes.nextOf (.ref i1) >>= _) _ _ _
  refine aAB (It1.next (h1.at (λo e=>hs₁.extBut _ _ D.i1z e) λo e=>hs₁.extBut _ _ D.l1z e) hx λh₂ h1₂ hs₂=>aAD (aAD ?_))
  refine aAB (aAB (aAY ?_))
  show wpAny _ _ (Builtin.SmallTypes.nextOf (.ref i2) >>= _) _ _ _
  refine aAB (It1.next (h2.at (λo e=>hs₂.extBut _ _ D.i12.symm (hs₁.extBut _ _ D.i2z e)) λo e=>hs₂.extBut _ _ D.l2i1 (hs₁.extBut _ _ D.l2z e)) hy λh₃ h2₃ hs₃=>aAD (aAD (aAD ?_)))
  show wpAny _ _ (newTuple [x,y] >>= _) _ _ _
  refine aAB (wpAny_newTuple ?_)
  have hsz:h₃.objs.size=s.heap.objs.size:=by rw[hs₃.1,hs₂.1,hs₁.1]
  have kp:∀c o,c≠z->c≠i1->c≠i2->s.heap.get? c=some o->(h₃.push {cls:=.type "tuple",data:=.seq #[x,y]}).get? c=some o:=λc o c1 c2 c3 e=>aAA _ (hs₃.extBut _ _ c3 (hs₂.extBut _ _ c2 (hs₁.extBut _ _ c1 e)))
  refine aAD ⟨_,rfl,hQ _ h₃.objs.size ⟨⟨f0,f1',aAA _ (hs₃.extBut _ _ D.i2z.symm (hs₂.extBut _ _ D.i1z.symm hz₁)),hf⟩,kp _ _ D.TIz D.TIi1 D.TIi2 hTI,⟨_,_,kp _ _ D.TOz D.TOi1 D.TOi2 hTO⟩,?_,?_⟩ (aAG _ rfl) (by rw[hsz];exact aAI _) λc o c1 c2 c3 c4 e=>kp c o c1 c3 c4 e⟩
  ·exact h1₂.at (λo e=>aAA _ (hs₃.extBut _ _ D.i12 e)) λo e=>aAA _ (hs₃.extBut _ _ D.l1i2 e)
  ·exact h2₃.at (λo e=>aAA _ e) λo e=>aAA _ e
theorem lQ{i1 i2:Addr}{Q:Fin->Shared->Prop}(hh:A.handled=none)(D:Ap z TI TO i1 i2 l1 l2)(Z:Zs s.heap z TI TO i1 i2 l1 l2 k xs ys)(hend:xs[k]?=none\/ys[k]?=none)
  (hE:∀h' e,(∀c o,c≠z->c≠TO->c≠i1->c≠i2->s.heap.get? c=some o->h'.get? c=some o)->(∃o,h'.get? e=some o/\o.cls=.type "StopIteration")->E (.ref e) {s with heap:=h'}) :
  wpAny (model prog w) A (Builtin.«zip.__next__» ⟨[.ref z],[]⟩) Q E s:=by
 obtain⟨⟨f0,f1,hz,hf⟩,hTI,⟨a,b,hTO⟩,h1,h2⟩:=Z
 show wpAny _ _ (field (.ref z) 2 >>= _) _ _ _
 refine aAB (aAZ hz rfl (x:=.bool false) rfl ?_)
 show wpAny _ _ (field (.ref z) 3 >>= _) _ _ _
 refine aAB (aAZ hz rfl (x:=.ref TI) rfl ?_)
 refine aAB (aDD hTI rfl ?_)
 show wpAny _ _ (Builtin.SmallTypes.ownedTupleIsFree (.ref z) >>= _) _ _ _
 refine aAB (zI hz hf ?_ λh₁ f1' hz₁ hs₁=>?_)
 ·simp only[aDI]
  refine aAB (aEB ?_)
  refine aAB (aAZ hz rfl (x:=.ref TO) rfl ?_)
  refine aAB (aBU hz (by simp) λh₁ hz₁ hs₁=>?_)
  replace hz₁:h₁.get? z=some (zobj TI TO .ellipsis f1):=hz₁
  refine aAB ?_
  simp only[List.zipIdx_cons,List.zipIdx_nil,aEP,aHC]
  refine aAB (aAB (aHN ?_))
  show wpAny _ _ (Builtin.SmallTypes.nextOf (.ref i1) >>= _) _ _ _
  have h1':=h1.at (h':=h₁) (λo e=>hs₁.extBut _ _ D.i1z e) λo e=>hs₁.extBut _ _ D.l1z e
  cases hx:xs[k]? with
  |none =>
   refine aAB (It1.stop hh h1' hx λh₂ e hs₂ he=>?_)
   obtain⟨oe,hoe,hce⟩:=he
   have hz₂:h₂.get? z=some (zobj TI TO .ellipsis f1):=hs₂ _ _ D.i1z.symm hz₁
   have hez:e≠z:=λx=>by subst x;rw[hz₂]at hoe;cases hoe;simp at hce
   exact aBU hz₂ (by simp) λh₃ _ hs₃=>hE h₃ e (λc o c1 _ c3 _ x=>hs₃.extBut _ _ c1 (hs₂ _ _ c3 (hs₁.extBut _ _ c1 x))) ⟨oe,hs₃.extBut _ _ hez hoe,hce⟩
  |some x =>
   have hy:ys[k]?=none:=by rcases hend with h|h;rw[hx]at h;cases h;exact h
   refine aAB (It1.next h1' hx λh₂ h1₂ hs₂=>aAD ?_)
   have hTO₂:IsPair h₂ TO a b:=hs₂.extBut _ _ D.TOi1 (hs₁.extBut _ _ D.TOz hTO)
   refine aAB (aDD hTO₂ rfl ?_)
   refine aAB (aGU hTO₂ λh₃ hTO₃ hs₃=>?_)
   refine aAB (aHD (aAD ?_))
   refine aAB (aAB (aHN ?_))
   show wpAny _ _ (Builtin.SmallTypes.nextOf (.ref i2) >>= _) _ _ _
   refine aAB (It1.stop hh (h2.at (λo e=>hs₃.extBut _ _ D.TOi2.symm (hs₂.extBut _ _ D.i12.symm (hs₁.extBut _ _ D.i2z e))) λo e=>hs₃.extBut _ _ D.l2TO (hs₂.extBut _ _ D.l2i1 (hs₁.extBut _ _ D.l2z e))) hy λh₄ e hs₄ he=>?_)
   obtain⟨oe,hoe,hce⟩:=he
   have hz₄:h₄.get? z=some (zobj TI TO .ellipsis f1):=hs₄ _ _ D.i2z.symm (hs₃.extBut _ _ D.TOz.symm (hs₂.extBut _ _ D.i1z.symm hz₁))
   have hez:e≠z:=λx=>by subst x;rw[hz₄]at hoe;cases hoe;simp at hce
   exact aBU hz₄ (by simp) λh₅ _ hs₅=>hE h₅ e (λc o c1 c2 c3 c4 x=>hs₅.extBut _ _ c1 (hs₄ _ _ c4 (hs₃.extBut _ _ c2 (hs₂.extBut _ _ c3 (hs₁.extBut _ _ c1 x))))) ⟨oe,hs₅.extBut _ _ hez hoe,hce⟩
 ·simp only[aBG,aDX]
  refine aAB ?_
  simp only[List.forIn_toArray,aEP,aHC]
  refine aAB (aAB (aAY ?_))
  show wpAny _ _ (Builtin.SmallTypes.nextOf (.ref i1) >>= _) _ _ _
  have h1':=h1.at (h':=h₁) (λo e=>hs₁.extBut _ _ D.i1z e) λo e=>hs₁.extBut _ _ D.l1z e
  cases hx:xs[k]? with
  |none=>exact aAB (It1.stop hh h1' hx λh₂ e hs₂ he=>hE h₂ e (λc o c1 _ c3 _ x=>hs₂ _ _ c3 (hs₁.extBut _ _ c1 x)) he)
  |some x =>
   have hy:ys[k]?=none:=by rcases hend with h|h;rw[hx]at h;cases h;exact h
   refine aAB (It1.next h1' hx λh₂ h1₂ hs₂=>aAD (aAD ?_))
   refine aAB (aAB (aAY ?_))
   show wpAny _ _ (Builtin.SmallTypes.nextOf (.ref i2) >>= _) _ _ _
   exact aAB (It1.stop hh (h2.at (λo e=>hs₂.extBut _ _ D.i12.symm (hs₁.extBut _ _ D.i2z e)) λo e=>hs₂.extBut _ _ D.l2i1 (hs₁.extBut _ _ D.l2z e)) hy λh₃ e hs₃ he=>hE h₃ e (λc o c1 _ c3 c4 x=>hs₃ _ _ c4 (hs₂.extBut _ _ c3 (hs₁.extBut _ _ c1 x))) he)
theorem walksZip(hh:A.handled=none)(z TI TO i1 i2 l1 l2:Addr)(D:Ap z TI TO i1 i2 l1 l2)(xs ys:Array Value) :
  WalksS prog w A z [z,TI,TO,i1,i2,l1,l2] [z,TO,i1,i2] (λa b=>b=a) (min xs.size ys.size) (λi v=>True)
   (λi s=>Zs s.heap z TI TO i1 i2 l1 l2 i xs ys)where
 sub:=λc hc=>by simp at hc ⊢;rcases hc with rfl|rfl|rfl|rfl <;> simp
 grefl:=λ_=>rfl
 gtrans:=λ_ _ _ h1 h2=>h2.trans h1
 frame:=λi s h' tk st _ hk=>by
  obtain⟨⟨f0,f1,hz,hf⟩,hTI,⟨a,b,hTO⟩,h1,h2⟩:=st
  exact⟨⟨f0,f1,hk z (by simp) _ hz,hf⟩,hk TI (by simp) _ hTI,⟨a,b,hk TO (by simp) _ hTO⟩,h1.at (λo e=>hk i1 (by simp) o e) λo e=>hk l1 (by simp) o e,h2.at (λo e=>hk i2 (by simp) o e) λo e=>hk l2 (by simp) o e⟩
 item:=λi s Q E hi st hQ=>by
  have hT:s.TypeIs (.ref z) "zip":=let⟨f0,f1,hz,_⟩:=st.z;⟨_,hz,rfl⟩
  have hix:i < xs.size:=aAP hi (Nat.min_le_left ..)
  have hiy:i < ys.size:=aAP hi (Nat.min_le_right ..)
  unfold pyNext
  refine aAB (aDM (aBQ (name:=Str.ofString "__next__") hT aDA
   (aBX aDA hT aGK
    (kQ D st (aCF hix) (aCF hiy) λh' T z' p' n' k'=>aAD (hQ _ _ trivial z' ⟨λb o hb e=>k' b o (λx=>hb (by simp[x])) (λx=>hb (by simp[x])) (λx=>hb (by simp[x])) (λx=>hb (by simp[x])) e,rfl,rfl,rfl,aAI _⟩)) (aGD _))))
 done:=λs Q E st hQ=>by
  have hT:s.TypeIs (.ref z) "zip":=let⟨f0,f1,hz,_⟩:=st.z;⟨_,hz,rfl⟩
  have hend:xs[min xs.size ys.size]?=none\/ys[min xs.size ys.size]?=none:=by
   rcases Nat.le_total xs.size ys.size with h|h
   ·exact .inl (by rw[Nat.min_eq_left h];simp)
   ·exact .inr (by rw[Nat.min_eq_right h];simp)
  unfold pyNext
  refine aAB (aDM (aBQ (name:=Str.ofString "__next__") hT aDA
   (aBX aDA hT aGK (lQ hh D st hend λh' e hk he=>?_) (aGD _))))
  obtain⟨o,ho,hc⟩:=he
  refine aAB (wpAny_isInstance (T:="StopIteration") (b:=true) ⟨o,ho,hc⟩ isSubtype_stop ?_)
  exact aAD (hQ _ ⟨λb o hb e=>hk b o (λx=>hb (by simp[x])) (λx=>hb (by simp[x])) (λx=>hb (by simp[x])) (λx=>hb (by simp[x])) e,rfl,rfl,rfl,aAI _⟩)
 self:=λi s Q E st hQ=>by
  obtain⟨f0,f1,hz,_⟩:=st.z
  have hT:s.TypeIs (.ref z) "zip":=⟨_,hz,rfl⟩
  refine wpAny_pyIter_slot hT F.slot_zip_iter (aBX F.slot_zip_iter hT F.entry_zip_iter ?_ (F.args_zip_iter_1 _))
  show wpAny _ _ (ret (.ref z)) _ _ s
  exact aAD ⟨_,rfl,"zip",_,hT,aDA.lookup,hQ⟩
noncomputable section
abbrev zH1LL(h:Heap)(l1:Addr):Heap:=h.push {cls:=.type "list_iterator",data:=.fields #[.ref l1,.int 0 0]}
abbrev zH2LL(h:Heap)(l1 l2:Addr):Heap:=(zH1LL h l1).push {cls:=.type "list_iterator",data:=.fields #[.ref l2,.int 0 0]}
abbrev zH3LL(h:Heap)(l1 l2:Addr):Heap:=(zH2LL h l1 l2).push {cls:=.type "tuple",data:=.seq #[.ref h.objs.size,.ref (zH1LL h l1).objs.size]}
abbrev zH4LL(h:Heap)(l1 l2:Addr):Heap:=(zH3LL h l1 l2).push {cls:=.type "tuple",data:=.seq #[.none,.none]}
abbrev zH5LL(h:Heap)(l1 l2:Addr):Heap:=(zH4LL h l1 l2).push {cls:=.type "zip",data:=.fields #[.none,.bool false,.bool false,.ref (zH2LL h l1 l2).objs.size,.ref (zH3LL h l1 l2).objs.size]}
theorem wI(l1 l2:Addr)(xs ys:Array Value) :
  Meets (Builtin.«zip.__new__» ⟨[.type "zip",.ref l1,.ref l2],[]⟩) (λ_ R s=>s.heap.IsList l1 xs/\s.heap.IsList l2 ys /\
   R (.ok (.ret (.ref (zH4LL s.heap l1 l2).objs.size))) {s with heap:=zH5LL s.heap l1 l2}) :=
 .of_wp λprog w A R s h=>by
  obtain⟨hp,g,d,tk,os⟩:=s;obtain⟨hl1,hl2,h⟩:=h
  have hsub:=sub_zip
  have hL1:Heap.IsList (Shared.heap ⟨hp,g,d,tk,os⟩) l1 xs:=hl1
  have hL2:Heap.IsList (Shared.heap ⟨hp.push {cls:=.type "list_iterator",data:=.fields #[.ref l1,.int 0 0]},g,d,tk,os⟩) l2 ys:=by
   obtain⟨o,ho,r⟩:=hl2
   exact⟨o,aAA _ ho,r⟩
  wp_walk using aCS hL1,aCS hL2
  exact⟨_,rfl,h⟩
theorem xD(hl1:s.heap.IsList l1 xs)(hl2:s.heap.IsList l2 ys)
  (h:∀h',Zs h' (s.heap.objs.size+4) (s.heap.objs.size+2) (s.heap.objs.size+3) s.heap.objs.size (s.heap.objs.size+1) l1 l2 0 xs ys->h'.objs.size=s.heap.objs.size+5 ->
   (∀c o,s.heap.get? c=some o->h'.get? c=some o)->Q (.ref (s.heap.objs.size+4)) {s with heap:=h'}) :
  wpAny (model prog w) A (call (.type "zip") [.ref l1,.ref l2]) Q E s:=by
 refine callType_new F.called_zip (by decide) (aGL _ _) (aGQ _ _) (λobj=>aFA obj _ _) aGX
  (wI l1 l2 xs ys) ⟨hl1,hl2,?_⟩
 have z1:(zH1LL s.heap l1).objs.size=s.heap.objs.size+1:=aAW ..
 have z2:(zH2LL s.heap l1 l2).objs.size=s.heap.objs.size+2:=by rw[aAW,z1]
 have z3:(zH3LL s.heap l1 l2).objs.size=s.heap.objs.size+3:=by rw[aAW,z2]
 have z4:(zH4LL s.heap l1 l2).objs.size=s.heap.objs.size+4:=by rw[aAW,z3]
 have z5:(zH5LL s.heap l1 l2).objs.size=s.heap.objs.size+5:=by rw[aAW,z4]
 have g5:(zH5LL s.heap l1 l2).get? (zH4LL s.heap l1 l2).objs.size=some _:=aAG _ rfl
 have g4:(zH5LL s.heap l1 l2).get? (zH3LL s.heap l1 l2).objs.size=some _:=aAA _ (aAG _ rfl)
 have g3:(zH5LL s.heap l1 l2).get? (zH2LL s.heap l1 l2).objs.size=some _:=aAA _ (aAA _ (aAG _ rfl))
 have g2:(zH5LL s.heap l1 l2).get? (zH1LL s.heap l1).objs.size=some _:=aAA _ (aAA _ (aAA _ (aAG _ rfl)))
 have g1:(zH5LL s.heap l1 l2).get? s.heap.objs.size=some _:=aAA _ (aAA _ (aAA _ (aAA _ (aAG _ rfl))))
 have kp:∀c o,s.heap.get? c=some o->(zH5LL s.heap l1 l2).get? c=some o:=λc o x =>
  aAA _ (aAA _ (aAA _ (aAA _ (aAA _ x))))
 show _/\_
 rw[z2,z3,z4]at g5
 rw[z1,z2]at g3
 rw[z3]at g4
 rw[z1]at g2
 rw[z4]
 refine⟨⟨_,g5,rfl⟩,h _ ⟨⟨_,_,g5,.inl rfl⟩,g3,⟨_,_,g4⟩,.inl ⟨⟨_,g1,rfl,rfl⟩,?_⟩,.inl ⟨⟨_,g2,rfl,rfl⟩,?_⟩⟩ z5 kp⟩
 ·obtain⟨o,ho,r⟩:=hl1;exact⟨o,kp _ _ ho,r⟩
 ·obtain⟨o,ho,r⟩:=hl2;exact⟨o,kp _ _ ho,r⟩
abbrev zH1LT(h:Heap)(l1:Addr):Heap:=h.push {cls:=.type "list_iterator",data:=.fields #[.ref l1,.int 0 0]}
abbrev zH2LT(h:Heap)(l1 l2:Addr):Heap:=(zH1LT h l1).push {cls:=.type "tuple_iterator",data:=.fields #[.ref l2,.int 0 0]}
abbrev zH3LT(h:Heap)(l1 l2:Addr):Heap:=(zH2LT h l1 l2).push {cls:=.type "tuple",data:=.seq #[.ref h.objs.size,.ref (zH1LT h l1).objs.size]}
abbrev zH4LT(h:Heap)(l1 l2:Addr):Heap:=(zH3LT h l1 l2).push {cls:=.type "tuple",data:=.seq #[.none,.none]}
abbrev zH5LT(h:Heap)(l1 l2:Addr):Heap:=(zH4LT h l1 l2).push {cls:=.type "zip",data:=.fields #[.none,.bool false,.bool false,.ref (zH2LT h l1 l2).objs.size,.ref (zH3LT h l1 l2).objs.size]}
theorem vG(l1 l2:Addr)(xs ys:Array Value) :
  Meets (Builtin.«zip.__new__» ⟨[.type "zip",.ref l1,.ref l2],[]⟩) (λ_ R s=>s.heap.IsList l1 xs/\s.heap.IsTuple l2 ys /\
   R (.ok (.ret (.ref (zH4LT s.heap l1 l2).objs.size))) {s with heap:=zH5LT s.heap l1 l2}) :=
 .of_wp λprog w A R s h=>by
  obtain⟨hp,g,d,tk,os⟩:=s;obtain⟨hl1,hl2,h⟩:=h
  have hsub:=sub_zip
  have hL1:Heap.IsList (Shared.heap ⟨hp,g,d,tk,os⟩) l1 xs:=hl1
  have hL2:Heap.IsTuple (Shared.heap ⟨hp.push {cls:=.type "list_iterator",data:=.fields #[.ref l1,.int 0 0]},g,d,tk,os⟩) l2 ys:=by
   obtain⟨o,ho,r⟩:=hl2
   exact⟨o,aAA _ ho,r⟩
  wp_walk using aCS hL1,aDR hL2
  exact⟨_,rfl,h⟩
theorem yQ(hl1:s.heap.IsList l1 xs)(hl2:s.heap.IsTuple l2 ys)
  (h:∀h',Zs h' (s.heap.objs.size+4) (s.heap.objs.size+2) (s.heap.objs.size+3) s.heap.objs.size (s.heap.objs.size+1) l1 l2 0 xs ys->h'.objs.size=s.heap.objs.size+5 ->
   (∀c o,s.heap.get? c=some o->h'.get? c=some o)->Q (.ref (s.heap.objs.size+4)) {s with heap:=h'}) :
  wpAny (model prog w) A (call (.type "zip") [.ref l1,.ref l2]) Q E s:=by
 refine callType_new F.called_zip (by decide) (aGL _ _) (aGQ _ _) (λobj=>aFA obj _ _) aGX
  (vG l1 l2 xs ys) ⟨hl1,hl2,?_⟩
 have z1:(zH1LT s.heap l1).objs.size=s.heap.objs.size+1:=aAW ..
 have z2:(zH2LT s.heap l1 l2).objs.size=s.heap.objs.size+2:=by rw[aAW,z1]
 have z3:(zH3LT s.heap l1 l2).objs.size=s.heap.objs.size+3:=by rw[aAW,z2]
 have z4:(zH4LT s.heap l1 l2).objs.size=s.heap.objs.size+4:=by rw[aAW,z3]
 have z5:(zH5LT s.heap l1 l2).objs.size=s.heap.objs.size+5:=by rw[aAW,z4]
 have g5:(zH5LT s.heap l1 l2).get? (zH4LT s.heap l1 l2).objs.size=some _:=aAG _ rfl
 have g4:(zH5LT s.heap l1 l2).get? (zH3LT s.heap l1 l2).objs.size=some _:=aAA _ (aAG _ rfl)
 have g3:(zH5LT s.heap l1 l2).get? (zH2LT s.heap l1 l2).objs.size=some _:=aAA _ (aAA _ (aAG _ rfl))
 have g2:(zH5LT s.heap l1 l2).get? (zH1LT s.heap l1).objs.size=some _:=aAA _ (aAA _ (aAA _ (aAG _ rfl)))
 have g1:(zH5LT s.heap l1 l2).get? s.heap.objs.size=some _:=aAA _ (aAA _ (aAA _ (aAA _ (aAG _ rfl))))
 have kp:∀c o,s.heap.get? c=some o->(zH5LT s.heap l1 l2).get? c=some o:=λc o x =>
  aAA _ (aAA _ (aAA _ (aAA _ (aAA _ x))))
 show _/\_
 rw[z2,z3,z4]at g5
 rw[z1,z2]at g3
 rw[z3]at g4
 rw[z1]at g2
 rw[z4]
 refine⟨⟨_,g5,rfl⟩,h _ ⟨⟨_,_,g5,.inl rfl⟩,g3,⟨_,_,g4⟩,.inl ⟨⟨_,g1,rfl,rfl⟩,?_⟩,.inr ⟨⟨_,g2,rfl,rfl⟩,?_⟩⟩ z5 kp⟩
 ·obtain⟨o,ho,r⟩:=hl1;exact⟨o,kp _ _ ho,r⟩
 ·obtain⟨o,ho,r⟩:=hl2;exact⟨o,kp _ _ ho,r⟩
abbrev zH1TL(h:Heap)(l1:Addr):Heap:=h.push {cls:=.type "tuple_iterator",data:=.fields #[.ref l1,.int 0 0]}
abbrev zH2TL(h:Heap)(l1 l2:Addr):Heap:=(zH1TL h l1).push {cls:=.type "list_iterator",data:=.fields #[.ref l2,.int 0 0]}
abbrev zH3TL(h:Heap)(l1 l2:Addr):Heap:=(zH2TL h l1 l2).push {cls:=.type "tuple",data:=.seq #[.ref h.objs.size,.ref (zH1TL h l1).objs.size]}
abbrev zH4TL(h:Heap)(l1 l2:Addr):Heap:=(zH3TL h l1 l2).push {cls:=.type "tuple",data:=.seq #[.none,.none]}
abbrev zH5TL(h:Heap)(l1 l2:Addr):Heap:=(zH4TL h l1 l2).push {cls:=.type "zip",data:=.fields #[.none,.bool false,.bool false,.ref (zH2TL h l1 l2).objs.size,.ref (zH3TL h l1 l2).objs.size]}
theorem vA(l1 l2:Addr)(xs ys:Array Value) :
  Meets (Builtin.«zip.__new__» ⟨[.type "zip",.ref l1,.ref l2],[]⟩) (λ_ R s=>s.heap.IsTuple l1 xs/\s.heap.IsList l2 ys /\
   R (.ok (.ret (.ref (zH4TL s.heap l1 l2).objs.size))) {s with heap:=zH5TL s.heap l1 l2}) :=
 .of_wp λprog w A R s h=>by
  obtain⟨hp,g,d,tk,os⟩:=s;obtain⟨hl1,hl2,h⟩:=h
  have hsub:=sub_zip
  have hL1:Heap.IsTuple (Shared.heap ⟨hp,g,d,tk,os⟩) l1 xs:=hl1
  have hL2:Heap.IsList (Shared.heap ⟨hp.push {cls:=.type "tuple_iterator",data:=.fields #[.ref l1,.int 0 0]},g,d,tk,os⟩) l2 ys:=by
   obtain⟨o,ho,r⟩:=hl2
   exact⟨o,aAA _ ho,r⟩
  wp_walk using aDR hL1,aCS hL2
  exact⟨_,rfl,h⟩
theorem wX(hl1:s.heap.IsTuple l1 xs)(hl2:s.heap.IsList l2 ys)
  (h:∀h',Zs h' (s.heap.objs.size+4) (s.heap.objs.size+2) (s.heap.objs.size+3) s.heap.objs.size (s.heap.objs.size+1) l1 l2 0 xs ys->h'.objs.size=s.heap.objs.size+5 ->
   (∀c o,s.heap.get? c=some o->h'.get? c=some o)->Q (.ref (s.heap.objs.size+4)) {s with heap:=h'}) :
  wpAny (model prog w) A (call (.type "zip") [.ref l1,.ref l2]) Q E s:=by
 refine callType_new F.called_zip (by decide) (aGL _ _) (aGQ _ _) (λobj=>aFA obj _ _) aGX
  (vA l1 l2 xs ys) ⟨hl1,hl2,?_⟩
 have z1:(zH1TL s.heap l1).objs.size=s.heap.objs.size+1:=aAW ..
 have z2:(zH2TL s.heap l1 l2).objs.size=s.heap.objs.size+2:=by rw[aAW,z1]
 have z3:(zH3TL s.heap l1 l2).objs.size=s.heap.objs.size+3:=by rw[aAW,z2]
 have z4:(zH4TL s.heap l1 l2).objs.size=s.heap.objs.size+4:=by rw[aAW,z3]
 have z5:(zH5TL s.heap l1 l2).objs.size=s.heap.objs.size+5:=by rw[aAW,z4]
 have g5:(zH5TL s.heap l1 l2).get? (zH4TL s.heap l1 l2).objs.size=some _:=aAG _ rfl
 have g4:(zH5TL s.heap l1 l2).get? (zH3TL s.heap l1 l2).objs.size=some _:=aAA _ (aAG _ rfl)
 have g3:(zH5TL s.heap l1 l2).get? (zH2TL s.heap l1 l2).objs.size=some _:=aAA _ (aAA _ (aAG _ rfl))
 have g2:(zH5TL s.heap l1 l2).get? (zH1TL s.heap l1).objs.size=some _:=aAA _ (aAA _ (aAA _ (aAG _ rfl)))
 have g1:(zH5TL s.heap l1 l2).get? s.heap.objs.size=some _:=aAA _ (aAA _ (aAA _ (aAA _ (aAG _ rfl))))
 have kp:∀c o,s.heap.get? c=some o->(zH5TL s.heap l1 l2).get? c=some o:=λc o x =>
  aAA _ (aAA _ (aAA _ (aAA _ (aAA _ x))))
 show _/\_
 rw[z2,z3,z4]at g5
 rw[z1,z2]at g3
 rw[z3]at g4
 rw[z1]at g2
 rw[z4]
 refine⟨⟨_,g5,rfl⟩,h _ ⟨⟨_,_,g5,.inl rfl⟩,g3,⟨_,_,g4⟩,.inr ⟨⟨_,g1,rfl,rfl⟩,?_⟩,.inl ⟨⟨_,g2,rfl,rfl⟩,?_⟩⟩ z5 kp⟩
 ·obtain⟨o,ho,r⟩:=hl1;exact⟨o,kp _ _ ho,r⟩
 ·obtain⟨o,ho,r⟩:=hl2;exact⟨o,kp _ _ ho,r⟩
abbrev zH1TT(h:Heap)(l1:Addr):Heap:=h.push {cls:=.type "tuple_iterator",data:=.fields #[.ref l1,.int 0 0]}
abbrev zH2TT(h:Heap)(l1 l2:Addr):Heap:=(zH1TT h l1).push {cls:=.type "tuple_iterator",data:=.fields #[.ref l2,.int 0 0]}
abbrev zH3TT(h:Heap)(l1 l2:Addr):Heap:=(zH2TT h l1 l2).push {cls:=.type "tuple",data:=.seq #[.ref h.objs.size,.ref (zH1TT h l1).objs.size]}
abbrev zH4TT(h:Heap)(l1 l2:Addr):Heap:=(zH3TT h l1 l2).push {cls:=.type "tuple",data:=.seq #[.none,.none]}
abbrev zH5TT(h:Heap)(l1 l2:Addr):Heap:=(zH4TT h l1 l2).push {cls:=.type "zip",data:=.fields #[.none,.bool false,.bool false,.ref (zH2TT h l1 l2).objs.size,.ref (zH3TT h l1 l2).objs.size]}
theorem wC(l1 l2:Addr)(xs ys:Array Value) :
  Meets (Builtin.«zip.__new__» ⟨[.type "zip",.ref l1,.ref l2],[]⟩) (λ_ R s=>s.heap.IsTuple l1 xs/\s.heap.IsTuple l2 ys /\
   R (.ok (.ret (.ref (zH4TT s.heap l1 l2).objs.size))) {s with heap:=zH5TT s.heap l1 l2}) :=
 .of_wp λprog w A R s h=>by
  obtain⟨hp,g,d,tk,os⟩:=s;obtain⟨hl1,hl2,h⟩:=h
  have hsub:=sub_zip
  have hL1:Heap.IsTuple (Shared.heap ⟨hp,g,d,tk,os⟩) l1 xs:=hl1
  have hL2:Heap.IsTuple (Shared.heap ⟨hp.push {cls:=.type "tuple_iterator",data:=.fields #[.ref l1,.int 0 0]},g,d,tk,os⟩) l2 ys:=by
   obtain⟨o,ho,r⟩:=hl2
   exact⟨o,aAA _ ho,r⟩
  wp_walk using aDR hL1,aDR hL2
  exact⟨_,rfl,h⟩
theorem xC(hl1:s.heap.IsTuple l1 xs)(hl2:s.heap.IsTuple l2 ys)
  (h:∀h',Zs h' (s.heap.objs.size+4) (s.heap.objs.size+2) (s.heap.objs.size+3) s.heap.objs.size (s.heap.objs.size+1) l1 l2 0 xs ys->h'.objs.size=s.heap.objs.size+5 ->
   (∀c o,s.heap.get? c=some o->h'.get? c=some o)->Q (.ref (s.heap.objs.size+4)) {s with heap:=h'}) :
  wpAny (model prog w) A (call (.type "zip") [.ref l1,.ref l2]) Q E s:=by
 refine callType_new F.called_zip (by decide) (aGL _ _) (aGQ _ _) (λobj=>aFA obj _ _) aGX
  (wC l1 l2 xs ys) ⟨hl1,hl2,?_⟩
 have z1:(zH1TT s.heap l1).objs.size=s.heap.objs.size+1:=aAW ..
 have z2:(zH2TT s.heap l1 l2).objs.size=s.heap.objs.size+2:=by rw[aAW,z1]
 have z3:(zH3TT s.heap l1 l2).objs.size=s.heap.objs.size+3:=by rw[aAW,z2]
 have z4:(zH4TT s.heap l1 l2).objs.size=s.heap.objs.size+4:=by rw[aAW,z3]
 have z5:(zH5TT s.heap l1 l2).objs.size=s.heap.objs.size+5:=by rw[aAW,z4]
 have g5:(zH5TT s.heap l1 l2).get? (zH4TT s.heap l1 l2).objs.size=some _:=aAG _ rfl
 have g4:(zH5TT s.heap l1 l2).get? (zH3TT s.heap l1 l2).objs.size=some _:=aAA _ (aAG _ rfl)
 have g3:(zH5TT s.heap l1 l2).get? (zH2TT s.heap l1 l2).objs.size=some _:=aAA _ (aAA _ (aAG _ rfl))
 have g2:(zH5TT s.heap l1 l2).get? (zH1TT s.heap l1).objs.size=some _:=aAA _ (aAA _ (aAA _ (aAG _ rfl)))
 have g1:(zH5TT s.heap l1 l2).get? s.heap.objs.size=some _:=aAA _ (aAA _ (aAA _ (aAA _ (aAG _ rfl))))
 have kp:∀c o,s.heap.get? c=some o->(zH5TT s.heap l1 l2).get? c=some o:=λc o x =>
  aAA _ (aAA _ (aAA _ (aAA _ (aAA _ x))))
 show _/\_
 rw[z2,z3,z4]at g5
 rw[z1,z2]at g3
 rw[z3]at g4
 rw[z1]at g2
 rw[z4]
 refine⟨⟨_,g5,rfl⟩,h _ ⟨⟨_,_,g5,.inl rfl⟩,g3,⟨_,_,g4⟩,.inr ⟨⟨_,g1,rfl,rfl⟩,?_⟩,.inr ⟨⟨_,g2,rfl,rfl⟩,?_⟩⟩ z5 kp⟩
 ·obtain⟨o,ho,r⟩:=hl1;exact⟨o,kp _ _ ho,r⟩
 ·obtain⟨o,ho,r⟩:=hl2;exact⟨o,kp _ _ ho,r⟩
theorem call_zipG(h1:s.heap.IsList l1 xs\/s.heap.IsTuple l1 xs)(h2:s.heap.IsList l2 ys\/s.heap.IsTuple l2 ys)
  (h:∀h',Zs h' (s.heap.objs.size+4) (s.heap.objs.size+2) (s.heap.objs.size+3) s.heap.objs.size (s.heap.objs.size+1) l1 l2 0 xs ys->h'.objs.size=s.heap.objs.size+5 ->
   (∀c o,s.heap.get? c=some o->h'.get? c=some o)->Q (.ref (s.heap.objs.size+4)) {s with heap:=h'}) :
  wpAny (model prog w) A (call (.type "zip") [.ref l1,.ref l2]) Q E s:=by
 rcases h1 with h1|h1 <;> rcases h2 with h2|h2
 ·exact xD h1 h2 h
 ·exact yQ h1 h2 h
 ·exact wX h1 h2 h
 ·exact xC h1 h2 h
theorem yI:typeLookup (.type "zip") "__len__"=pure none:=by rw[typeLookup_type,builtinLookup_eq_fast];kernel_rfl
theorem vB:typeLookup (.type "zip") "__length_hint__"=pure none:=by rw[typeLookup_type,builtinLookup_eq_fast];kernel_rfl
def Prs(h:Heap)(z TO i1 i2 S:Addr)(acc:Array Value)(i:Nat)(xs ys:Array Value):Prop :=
 acc.size=i/\∀j (hj:j < i),∃T x y,acc[j]?=some (.ref T)/\xs[j]?=some x/\ys[j]?=some y/\IsPair h T x y/\T≠z/\T≠TO/\T≠i1/\T≠i2/\T≠S
end
variable{R:Result->Shared->Prop}
theorem aFt(hh:A.handled=none){i1 i2:Addr}(D:Ap z TI TO i1 i2 l1 l2)(hn:n=min xs.size ys.size)(hsz:n<=sizeLine)(S:Addr)(hSf:S∉[z,TI,TO,i1,i2,l1,l2])(res:Value) :
  ∀(k i:Nat) (s:Shared) (acc:Array Value) (c N0:Nat),n - i=k->i<=n->N0<=s.heap.objs.size->Zs s.heap z TI TO i1 i2 l1 l2 i xs ys->s.heap.get? S=some {cls:=.type "list",dict:=none,data:=.seq acc c,slots:=#[]}->Prs s.heap z TO i1 i2 S acc i xs ys ->
  (∀(j:Nat) (v:Value),acc[j]?=some v->∃T:Addr,v=Value.ref T/\N0<=T) ->
  (∀h' acc' c',(∀b o,b≠S->b≠z->b≠TO->b≠i1->b≠i2->s.heap.get? b=some o->h'.get? b=some o)->h'.get? S=some {cls:=.type "list",dict:=none,data:=.seq acc' c',slots:=#[]}->Prs h' z TO i1 i2 S acc' n xs ys ->
   (∀(j:Nat) (v:Value),acc'[j]?=some v->∃T:Addr,v=Value.ref T/\N0<=T)->R (.ok (.ret res)) {s with heap:=h'}) ->
  codeAny (model prog w) A (.builtin "list.extend.loop" ⟨[.ref S,.ref z,res],[]⟩) R s:=by
 simp only[aAO,aBW,aED,not_or]at hSf
 obtain⟨sz,sTI,sTO,s1,s2,sl1,sl2⟩:=hSf
 intro k
 induction k with
 |zero =>
  intro i s acc c N0 hk hi _ hst hS hacc hN hR
  have hin:i=n:=by lia
  subst hin
  refine aFO F.entry_extend_loop ?_
  rw[Around.under_plainId aFL _]
  show wpAny _ A.in1 (pyNext (.ref z) >>= _) _ _ s
  have hT:s.TypeIs (.ref z) "zip":=let⟨f0,f1,hz,_⟩:=hst.z;⟨_,hz,rfl⟩
  have hend:xs[i]?=none\/ys[i]?=none:=by
   rcases Nat.le_total xs.size ys.size with h|h
   ·exact .inl (by rw[hn,Nat.min_eq_left h];simp)
   ·exact .inr (by rw[hn,Nat.min_eq_right h];simp)
  refine aAB ?_
  unfold pyNext
  refine aAB (aDM (aBQ (name:=Str.ofString "__next__") hT aDA
   (aBX aDA hT aGK (lQ (A:=A.in1.in1) hh D hst hend λh' e hk he=>?_) (aGD _))))
  obtain⟨o,ho,hc⟩:=he
  refine aAB (wpAny_isInstance (T:="StopIteration") (b:=true) ⟨o,ho,hc⟩ isSubtype_stop ?_)
  refine aAD (aAD (hR h' acc c (λb o b0 b1 b2 b3 b4 e=>hk b o b1 b2 b3 b4 e) (hk S _ sz sTO s1 s2 hS) ⟨hacc.1,λj hj=>?_⟩ hN))
  obtain⟨T,x,y,e1,e2,e3,e4,n1,n2,n3,n4,n5⟩:=hacc.2 j hj
  exact⟨T,x,y,e1,e2,e3,hk T _ n1 n2 n3 n4 e4,n1,n2,n3,n4,n5⟩
 |succ k ih =>
  intro i s acc c N0 hk hi hN0 hst hS hacc hN hR
  have hlt:i < n:=by lia
  have hix:i < xs.size:=by have:=Nat.min_le_left xs.size ys.size;lia
  have hiy:i < ys.size:=by have:=Nat.min_le_right xs.size ys.size;lia
  refine aFO F.entry_extend_loop ?_
  rw[Around.under_plainId aFL _]
  show wpAny _ A.in1 (pyNext (.ref z) >>= _) _ _ s
  have hT:s.TypeIs (.ref z) "zip":=let⟨f0,f1,hz,_⟩:=hst.z;⟨_,hz,rfl⟩
  refine aAB ?_
  unfold pyNext
  refine aAB (aDM (aBQ (name:=Str.ofString "__next__") hT aDA
   (aBX aDA hT aGK
    (kQ D hst (aCF hix) (aCF hiy) λh' T z' p' n' k'=>aAD ?_) (aGD _))))
  have hS':=k' S _ sz sTO s1 s2 hS
  show wpAny _ A.in1 (updateSeq S (·.push (.ref T)) >>= _) _ _ _
  refine aAB ?_
  have lt:∀{c o},s.heap.get? c=some o->T≠c:=λ{c o} e=>aBL (aAP (aAF e) n')
  have TS:T≠S:=lt hS
  obtain⟨f0,f1,hz,hf⟩:=id hst.z
  obtain⟨aa,bb,hTO⟩:=id hst.to
  have up:∀b o,b≠S->h'.get? b=some o->(h'.update S (Obj.mapSeq λx=>x.push (.ref T))).get? b=some o:=λb o hb e=>(aCP _ _ (Ne.symm hb)).trans e
  have Ti1:T≠i1:=aBL (aAP hst.a.lt n')
  have Ti2:T≠i2:=aBL (aAP hst.b.lt n')
  refine aFN hS' rfl (aAD ⟨plainId_quiet aFL _,ih (i+1) _ (acc.push (.ref T)) _ N0 (by lia) hlt ?_ ?_ (aCK _ hS' rfl) ?_ ?_ λh'' acc' c' hk'' hS'' hacc' hN'=>?_⟩)
   (by rw[hacc.1];lia) (by show(acc.push (.ref T)).size<=sizeLine+1;rw[Array.size_push,hacc.1];lia)
  ·show N0<=(h'.update S _).objs.size
   have:h'.objs.size=(h'.update S (Obj.mapSeq λx=>x.push (.ref T))).objs.size:=by simp[Heap.update]
   rw[<- this]
   exact aBD hN0 (aBD n' (Nat.le_of_lt (aAF p')))
  ·obtain⟨⟨g0,g1,gz,gf⟩,gTI,⟨ga,gb,gTO⟩,g1',g2'⟩:=z'
   exact⟨⟨g0,g1,up _ _ (Ne.symm sz) gz,gf⟩,up _ _ (Ne.symm sTI) gTI,⟨ga,gb,up _ _ (Ne.symm sTO) gTO⟩,g1'.at (λo e=>up _ o (Ne.symm s1) e) λo e=>up _ o (Ne.symm sl1) e,g2'.at (λo e=>up _ o (Ne.symm s2) e) λo e=>up _ o (Ne.symm sl2) e⟩
  ·refine⟨by rw[Array.size_push,hacc.1],λj hj=>?_⟩
   by_cases hj':j < i
   ·obtain⟨T',x,y,e1,e2,e3,e4,m1,m2,m3,m4,m5⟩:=hacc.2 j hj'
    refine⟨T',x,y,?_,e2,e3,up _ _ m5 (k' _ _ m1 m2 m3 m4 e4),m1,m2,m3,m4,m5⟩
    rw[aHB,aAL (by rw[hacc.1];lia)];exact e1
   ·have:j=i:=by lia
    subst this
    refine⟨T,xs[j],ys[j],?_,aCF hix,aCF hiy,up _ _ TS p',lt hz,lt hTO,Ti1,Ti2,TS⟩
    rw[aHB,aAH (by rw[hacc.1])]
  ·intro j v hv
   rw[aHB]at hv
   split at hv
   ·cases hv;exact⟨T,rfl,aBD hN0 n'⟩
   ·exact hN j v hv
  ·exact hR h'' acc' c' (λb o b0 b1 b2 b3 b4 e=>hk'' b o b0 b1 b2 b3 b4 (up b o b0 (k' b o b1 b2 b3 b4 e))) hS'' hacc' hN'
theorem ap_of{l1 l2:Nat}(h1:l1 < n)(h2:l2 < n):Ap (n+4) (n+2) (n+3) n (n+1) l1 l2:=by
 constructor <;> (show(_:Nat)≠(_:Nat);lia)
theorem call_listzip{i1 i2:Addr}(hh:A.handled=none)(D:Ap z TI TO i1 i2 l1 l2)(Z:Zs s.heap z TI TO i1 i2 l1 l2 0 xs ys)(hn:min xs.size ys.size<=sizeLine)
  (hQ:∀h' acc' c',(∀b o,b≠z->b≠TO->b≠i1->b≠i2->s.heap.get? b=some o->h'.get? b=some o)->h'.get? s.heap.objs.size=some {cls:=.type "list",dict:=none,data:=.seq acc' c',slots:=#[]} ->
   Prs h' z TO i1 i2 s.heap.objs.size acc' (min xs.size ys.size) xs ys->(∀(j:Nat) (v:Value),acc'[j]?=some v->∃T:Addr,v=Value.ref T/\s.heap.objs.size+1<=T)->Q (.ref s.heap.objs.size) {s with heap:=h'}) :
  wpAny (model prog w) A (call (.type "list") [.ref z]) Q E s:=by
 refine callType_codes (Q₁:=λobj s₁=>obj=.ref s.heap.objs.size/\s₁={s with heap:=s.heap.push {cls:=.type "list",data:=.seq #[]}}) F.called_list (F.typeCall_list_1 _) F.entry_list_init
  (code_list_new _ ⟨rfl,rfl⟩) λobj s₁ h₁=>?_
 obtain⟨rfl,rfl⟩:=h₁
 have hS:(s.heap.push {cls:=.type "list",data:=.seq #[]}).get? s.heap.objs.size=some {cls:=.type "list",data:=.seq #[]}:=aAG _ rfl
 obtain⟨f0,f1,hz,hf⟩:=id Z.z
 obtain⟨ta,tb,hTO⟩:=id Z.to
 have l1lt:l1 < s.heap.objs.size:=by rcases Z.a with⟨_,o,e,_⟩|⟨_,o,e,_⟩ <;> exact aAF e
 have l2lt:l2 < s.heap.objs.size:=by rcases Z.b with⟨_,o,e,_⟩|⟨_,o,e,_⟩ <;> exact aAF e
 have hSf:s.heap.objs.size∉[z,TI,TO,i1,i2,l1,l2]:=by
  simp only[aAO,aBW,aED,not_or]
  exact⟨aBL (aAF hz),aBL (aAF Z.ti),aBL (aAF hTO),aBL Z.a.lt,aBL Z.b.lt,aBL l1lt,aBL l2lt⟩
 have hSz:s.heap.objs.size≠z:=aBL (aAF hz)
 refine⟨⟨_,hS,rfl⟩,F.args_list_init_2 _ _,?_⟩
 show wpAny _ A.in1.in1 (do let old <- Builtin.List.listItems (.ref s.heap.objs.size);Builtin.List.listUpdate (.ref s.heap.objs.size) (λ_=>#[]);letGo old.toList.reverse;Builtin.List.listExtendWith (.ref s.heap.objs.size) (.ref z) .none) _ _ _
 refine aAB ?_
 unfold Builtin.List.listItems
 refine aAB (aDD hS rfl (aAD ?_))
 show wpAny _ _ (updateSeq s.heap.objs.size (λ_=>#[]) >>= λ_=>letGo (#[]:Array Value).toList.reverse >>= λ_=>Builtin.List.listExtendWith (.ref s.heap.objs.size) (.ref z) .none) _ _ _
 refine aAB (aFN hS rfl ?_)
 have hS₂:=aCK (Obj.mapSeq (λ_=>(#[]:Array Value))) hS rfl
 refine aAB (aHD ?_)
 have kp:∀b o,b≠s.heap.objs.size->s.heap.get? b=some o->((s.heap.push {cls:=.type "list",data:=.seq #[]}).update s.heap.objs.size (Obj.mapSeq (λ_=>(#[]:Array Value)))).get? b=some o :=
  λb o hb e=>(aCP _ _ (Ne.symm hb)).trans (aAA _ e)
 have mv:∀h',(∀b o,b≠s.heap.objs.size->s.heap.get? b=some o->h'.get? b=some o)->Zs h' z TI TO i1 i2 l1 l2 0 xs ys:=λh' k=>by
  refine⟨⟨f0,f1,k _ _ hSz.symm hz,hf⟩,k _ _ (aAN (aAF Z.ti)) Z.ti,⟨ta,tb,k _ _ (aAN (aAF hTO)) hTO⟩,Z.a.at (λo e=>k _ o (aAN Z.a.lt) e) λo e=>k _ o (aAN l1lt) e,Z.b.at (λo e=>k _ o (aAN Z.b.lt) e) λo e=>k _ o (aAN l2lt) e⟩
 unfold Builtin.List.listExtendWith
 refine aAB (aEV (T:="zip") ⟨_,kp z _ hSz.symm hz,rfl⟩ ?_)
 have e1:Builtin.List.listSameRef (.ref s.heap.objs.size) (.ref z)=false:=by simp[Builtin.List.listSameRef,hSz]
 have e2:(Value.type "zip"==Value.type "list")=false:=by decide
 have e3:(Value.type "zip"==Value.type "tuple")=false:=by decide
 simp only[e1,e2,e3,aGI,aBG,aDX]
 refine aAB ((walksZip (A:=A.in1.in1) hh z TI TO i1 i2 l1 l2 D xs ys).self 0 _ _ _ (mv _ kp) ?_)
 refine aAB (aAY ?_)
 unfold Builtin.List.listLengthHint
 refine aAB (wpAny_specialOf (T:="zip") ⟨_,kp z _ hSz.symm hz,rfl⟩ yI ?_)
 show wpAny _ _ (specialOf (Value.ref z) (Str.ofString "__length_hint__") >>= _) _ _ _
 refine aAB (wpAny_specialOf (T:="zip") ⟨_,kp z _ hSz.symm hz,rfl⟩ vB ?_)
 refine aAD ?_
 show wpAny _ _ (rule "list.extend.makes-room" >>= λ_=>Builtin.List.listTouch (.ref s.heap.objs.size) >>= λ_ =>
  again (.builtin "list.extend.loop" ⟨[.ref s.heap.objs.size,.ref z,.none],[]⟩)) _ _ _
 refine aAB (aEB ?_)
 refine aAB ?_
 show wpAny _ _ (updateSeq s.heap.objs.size (·.push .none) >>= λ_=>updateSeq s.heap.objs.size (·.pop)) _ _ _
 refine aAB (aFN hS₂ rfl ?_)
 have hS₃:=aCK (Obj.mapSeq (·.push Value.none)) hS₂ rfl
 refine aFN (hz:=by seq_fits) hS₃ rfl ?_
 have hS₄:=aCK (Obj.mapSeq (·.pop)) hS₃ rfl
 have kp2:∀b o,b≠s.heap.objs.size->s.heap.get? b=some o->((((s.heap.push {cls:=.type "list",data:=.seq #[]}).update s.heap.objs.size (Obj.mapSeq (λ_=>(#[]:Array Value)))).update s.heap.objs.size (Obj.mapSeq (·.push Value.none))).update s.heap.objs.size (Obj.mapSeq (·.pop))).get? b=some o :=
  λb o hb e=>(aCP _ _ (Ne.symm hb)).trans ((aCP _ _ (Ne.symm hb)).trans (kp b o hb e))
 refine aAD ⟨plainId_quiet aFL _,aFt (A:=A.in1) hh D rfl hn s.heap.objs.size hSf .none (min xs.size ys.size) 0 _ _ _ (s.heap.objs.size+1) (by lia) (aGG _) ?_ (mv _ kp2) hS₄ ⟨rfl,λj hj=>absurd hj (Nat.not_lt_zero _)⟩ (λj v h=>by simp at h) λh' acc' c' hk hS' hacc hN=>?_⟩
 ·exact aAF hS₄
 ·exact⟨rfl,hQ h' acc' c' (λb o b1 b2 b3 b4 e=>hk b o (aAN (aAF e)) b1 b2 b3 b4 (kp2 b o (aAN (aAF e)) e)) hS' hacc hN⟩
end ZP
namespace EV
open L2
variable{σ:L2.St}
theorem aFf(I:Inv X pins σ H s)(k:∀b u,s.heap.get? b=some u->h'.get? b=some u)(old:∀b o,H b=some o->H' b=some o)(new:∀b o,H' b=some o->H b=none->s.heap.objs.size<=b)
  (hok:HOk X.prog X.w H' h'):Inv X pins σ H' {s with heap:=h',toks:=t'}:=by
 refine I.un ⟨λb u q _ _ _=>k b u q,λb u q _ _ _=>⟨u.slots,k b u q⟩,λb u q n _=>?_,λb u q _=>⟨u,k b u q⟩,λb xs q=>old b _ q,λb o u q=>old b _ q,λb ps q=>⟨#[],by rw[old b _ q];simp⟩⟩ hok
 cases e:H' b with
 |none=>rfl
 |some o=>exact absurd (aAF q) (Nat.not_lt.mpr (new b o e n))
noncomputable def rZip(K:Frag):R2:=λx y H Q=>∃a b xs ys,x=.ref a/\y=.ref b/\(SqL K H a xs\/SqT K H a xs)/\(SqL K H b ys\/SqT K H b ys) /\
 ∀(H':Hp) (p:Addr) (Ts:List Addr),(∀b o,H b=some o->H' b=some o)->H p=none->H' p=some (.lst (Ts.map V.ref))->Ts.length=min xs.length ys.length ->
  (∀(j:Nat) (T:Addr) (x y:V),Ts[j]?=some T->xs[j]?=some x->ys[j]?=some y->H' T=some (.tup [x,y]))->Q (.ref p) H'
variable{K:Frag}{a b:Expr}
theorem aFl{a:Addr}{xs:List V}(I:Inv X pins σ H s)(h:SqL X.K H a xs\/SqT X.K H a xs):∃its:List Value,Vals xs its/\(s.heap.IsList a its.toArray\/s.heap.IsTuple a its.toArray)/\xs.length<=sizeLine:=by
 rcases h with h|h
 ·obtain⟨its,r,pl,hz⟩:=I.list h;exact⟨its,r,.inl pl.isList,hz⟩
 ·obtain⟨its,r,pl,hz⟩:=I.tuple h;exact⟨its,r,.inr pl,hz⟩
theorem xZ(hc:X.calm=true)(h1:X.mg "list"=none)(h2:X.mg "zip"=none)(ha:PE X a ta)(hb:PE X b tb)(g1:Gl X "list":=by rfl)(g2:Gl X "zip":=by rfl)
  (hs:starEach [.Call (.Name "zip" q) [a,b] [] pos2] X.env=(false,eval (.Call (.Name "zip" q) [a,b] [] pos2) X.env)::starEach [] X.env:=by rfl)(hpl:(backTo pos (starEach [] X.env)).any (·.1)=false:=by rfl)
  (hs2:starEach [a,b] X.env=(false,eval a X.env)::starEach [b] X.env:=by rfl)(hs3:starEach [b] X.env=(false,eval b X.env)::starEach [] X.env:=by rfl)(hpl2:(backTo pos2 (starEach [b] X.env)).any (·.1)=false:=by rfl) :
  PE X (.Call (.Name "list" p) [.Call (.Name "zip" q) [a,b] [] pos2] [] pos) (tOp (rZip X.K) ta tb):=by
 intro pins s σ H Q I h
 refine aCV (jW I g1 h1 aAe ?_)
 refine aDB ?_ hs hpl
 rw[hs]
 show wpAny _ _ (spliced ((false,eval (.Call (.Name "zip" q) [a,b] [] pos2) X.env)::backTo pos (starEach [] X.env))) _ _ s
 refine aFR ?_
 refine aCV (jW I g2 h2 aLr ?_)
 refine aDB (thn (bJ ha (bJ hb dE hs3) hs2 pos2 pins s σ H (λvs H2=>match vs with|[x,y]=>rZip X.K x y H2 Q|_=>False) I h) λus s1 ⟨vs,H1,I1,r1,hr⟩=>?_) hs2 hpl2
 match vs,r1,hr with
 |[],_,hr=>exact hr.elim
 |[_],_,hr=>exact hr.elim
 |_::_::_::_,_,hr=>exact hr.elim
 |[x,y],r1,hr =>
 obtain⟨u1,u2,rfl,rx,ry⟩:=r1.two
 obtain⟨aa,bb,xs,ys,rfl,rfl,sx,sy,hq⟩:=hr
 cases rx
 cases ry
 obtain⟨its,q1,p1,z1⟩:=aFl I1 sx
 obtain⟨its2,q2,p2,z2⟩:=aFl I1 sy
 have hl1:aa < s1.heap.objs.size:=by rcases p1 with⟨o,e,_⟩|⟨o,e,_⟩ <;> exact aAF e
 have hl2:bb < s1.heap.objs.size:=by rcases p2 with⟨o,e,_⟩|⟨o,e,_⟩ <;> exact aAF e
 have hsA:its.toArray.size=xs.length:=by simp[q1.length]
 have hsB:its2.toArray.size=ys.length:=by simp[q2.length]
 refine ZP.call_zipG p1 p2 λh1 Zs1 hsz kp=>?_
 refine aHP ?_
 refine ZP.call_listzip (I1.ok.hd hc) (ZP.ap_of hl1 hl2) Zs1 (by rw[hsA,hsB];lia) λh2 acc c kp2 hS hacc hN=>?_
 have kp3:∀b o,s1.heap.get? b=some o->h2.get? b=some o:=λb o e=>by
  have:(b:Nat) < s1.heap.objs.size:=aAF e
  exact kp2 b o (aAN (Nat.lt_add_right 4 this)) (aAN (Nat.lt_add_right 3 this)) (aAN this) (aAN (Nat.lt_add_right 1 this)) (kp b o e)
 have hT:∀j:Nat,j < acc.size->∃T:Addr,acc[j]?=some (.ref T):=λj hj=>by
  obtain⟨T,_,_,e,_⟩:=hacc.2 j (by rw[<- hacc.1];exact hj)
  exact⟨T,e⟩
 obtain⟨Ts,hTs⟩:∃Ts:List Addr,acc.toList=Ts.map Value.ref:=by
  have:∀l:List Value,(∀j:Nat,j < l.length->∃T:Addr,l[j]?=some (.ref T))->∃Ts:List Addr,l=Ts.map Value.ref:=by
   intro l
   induction l with
   |nil=>exact λ_=>⟨[],rfl⟩
   |cons v r ih =>
    intro hh
    obtain⟨T,e⟩:=hh 0 (by simp)
    obtain⟨Ts,e2⟩:=ih λj hj=>by have:=hh (j+1) (by simpa using hj);simpa using this
    exact⟨T::Ts,by simp at e;rw[e,e2];rfl⟩
  exact this acc.toList λj hj=>by obtain⟨T,e⟩:=hT j (by simpa using hj);exact⟨T,by simpa using e⟩
 have hlen:Ts.length=min xs.length ys.length:=by
  have:=congrArg List.length hTs
  rw[aAK]at this
  rw[<- this,aFJ,hacc.1,hsA,hsB]
 have hat:∀(j:Nat) (T:Addr),Ts[j]?=some T->acc[j]?=some (.ref T):=λj T e=>by
  rw[<- aGP,hTs,aBN,e];rfl
 have hfr:∀(j:Nat) (T:Addr),Ts[j]?=some T->h1.objs.size+1<=T:=λj T e=>by
  obtain⟨T',e',l⟩:=hN j _ (hat j T e)
  cases e';exact l
 have hpr:∀(j:Nat) (T:Addr) (x y:V),Ts[j]?=some T->xs[j]?=some x->ys[j]?=some y->∃u v,RelV x u/\RelV y v/\IsPair h2 T u v:=λj T x y e ex ey=>by
  obtain⟨u,qu,ru⟩:=q1.get ex
  obtain⟨v,qv,rv⟩:=q2.get ey
  have hj:j < min its.toArray.size its2.toArray.size:=by
   have h1:=(aAE.mp ex).1
   have h2:=(aAE.mp ey).1
   lia
  obtain⟨T',x',y',e1,e2,e3,e4,_⟩:=hacc.2 j hj
  rw[hat j T e]at e1;cases e1
  have f2:its[j]?=some x':=by simpa using e2
  have f3:its2[j]?=some y':=by simpa using e3
  rw[qu]at f2;rw[qv]at f3
  cases f2;cases f3
  exact⟨u,v,ru,rv,e4⟩
 let Pr:Addr->V×V->Prop:=λb xy=>∃j:Nat,Ts[j]?=some b/\xs[j]?=some xy.1/\ys[j]?=some xy.2
 have Pru:∀b xy xy',Pr b xy->Pr b xy'->xy=xy':=by
  rintro b ⟨x,y⟩ ⟨x',y'⟩ ⟨j,e1,e2,e3⟩ ⟨j',e1',e2',e3'⟩
  obtain⟨u,v,ru,rv,ip⟩:=hpr j b x y e1 e2 e3
  obtain⟨u',v',ru',rv',ip'⟩:=hpr j' b x' y' e1' e2' e3'
  have ip2:=(show h2.get? b=some _ from ip).symm.trans (show h2.get? b=some _ from ip')
  simp at ip2
  obtain⟨rfl,rfl⟩:=ip2
  rw[ru.inj ru',rv.inj rv']
 have sS:s1.heap.objs.size<=h1.objs.size:=by rw[hsz];lia
 have Sfr:H1 h1.objs.size=none:=I1.hok.fresh sS
 have Tfr:∀b xy,Pr b xy->s1.heap.objs.size<=b/\H1 b=none/\b≠h1.objs.size:=λb xy ⟨j,e,_⟩=>by
  have:=hfr j b e
  have l:s1.heap.objs.size<=b:=aBD sS (Nat.le_of_succ_le this)
  exact⟨l,I1.hok.fresh l,aBL this⟩
 classical
 let H':Hp:=λb=>if b=h1.objs.size then some (.lst (Ts.map V.ref))else if hh:∃xy,Pr b xy then some (.tup [hh.choose.1,hh.choose.2])else H1 b
 have HS:H' h1.objs.size=some (.lst (Ts.map V.ref)):=aAH rfl
 have HT:∀b xy,Pr b xy->H' b=some (.tup [xy.1,xy.2]):=λb xy hp=>by
  show(if b=h1.objs.size then _ else _)=_
  rw[aAL (Tfr b xy hp).2.2,dif_pos ⟨xy,hp⟩]
  have hx:∃xy,Pr b xy:=⟨xy,hp⟩
  rw[Pru b _ _ hx.choose_spec hp]
 have Hold:∀b o,H1 b=some o->H' b=some o:=λb o e=>by
  show(if b=h1.objs.size then _ else _)=_
  rw[aAL (λz=>by rw[z,Sfr]at e;cases e),dif_neg (λ⟨xy,hp⟩=>by rw[(Tfr b xy hp).2.1]at e;cases e)]
  exact e
 have Hcase:∀b o,H' b=some o->(b=h1.objs.size/\o=.lst (Ts.map V.ref))\/(∃xy,Pr b xy/\o=.tup [xy.1,xy.2])\/H1 b=some o:=λb o e=>by
  by_cases hb:b=h1.objs.size
  ·subst hb;rw[HS]at e;cases e;exact .inl ⟨rfl,rfl⟩
  ·by_cases hx:∃xy,Pr b xy
   ·obtain⟨xy,hp⟩:=hx
    rw[HT b xy hp]at e;cases e
    exact .inr (.inl ⟨xy,hp,rfl⟩)
   ·have:H' b=H1 b:=by
     show(if b=h1.objs.size then _ else _)=_
     rw[aAL hb,dif_neg hx]
    rw[this]at e;exact .inr (.inr e)
 refine⟨.ref h1.objs.size,H',?_,rfl,hq H' h1.objs.size Ts Hold Sfr HS hlen λj T x y e ex ey=>HT T (x,y) ⟨j,e,ex,ey⟩⟩
 have fin:Inv X pins σ H' {s1 with heap:=h2,toks:=s1.toks}:=by
  refine aFf (s:=s1) (h':=h2) (t':=s1.toks) I1 kp3 Hold (λb o e n=>?_) λb o e=>?_
  ·rcases Hcase b o e with⟨rfl,_⟩|⟨xy,hp,_⟩|e'
   ·exact sS
   ·exact(Tfr b xy hp).1
   ·rw[n]at e';cases e'
  ·rcases Hcase b o e with⟨rfl,rfl⟩|⟨xy,hp,rfl⟩|e'
   ·refine⟨by rw[aAK,hlen];lia,Ts.map Value.ref,c,?_,?_⟩
    ·clear hTs hlen hat hfr hpr Pru Tfr HS HT Hold Hcase e H' Pr
     induction Ts with
     |nil=>exact .nil
     |cons T r ih=>exact .cons rfl ih
    ·rw[hS,<- hTs]
   ·obtain⟨j,e1,e2,e3⟩:=hp
    obtain⟨u,v,ru,rv,ip⟩:=hpr j b xy.1 xy.2 e1 e2 e3
    exact⟨by rw[aAT];show 2<=16777216;decide,[u,v],.cons ru (.cons rv .nil),⟨_,ip,rfl,_,rfl⟩⟩
   ·exact(I1.hok b o e').stay (λc u _ q=>kp3 c u q) (λc q=>Hold c _ q) λc xs q=>Hold c _ q
 exact fin
noncomputable def zipT(xs ys:List D):List D:=(xs.zip ys).map λp=>.tup [p.1,p.2]
noncomputable def pZip(x y:W)(M:Mm):Oc W:=match sv M x,sv M y with
 |some xs,some ys=>okD (.lst (zipT xs ys)) M
 |_,_=>.bad
theorem aKr:Op2 K Z (rZip K) pZip:=by
 intro μ H M x y v u Q hr rx ry p
 unfold pZip at p
 cases q1:sv M x with
 |none=>rw[q1]at p;exact p.elim
 |some xs =>
  cases q2:sv M y with
  |none=>rw[q1,q2]at p;exact p.elim
  |some ys =>
   rw[q1,q2]at p
   obtain⟨a,vs,rfl,h1,r1⟩:=lU hr rx q1
   obtain⟨b,us,rfl,h2,r2⟩:=lU hr ry q2
   refine⟨a,b,vs,us,rfl,rfl,h1,h2,λH' q Ts old hq hS hl hT=>?_⟩
   have ex:Ext μ H μ H':=⟨λa o _ h=>old a o h,λa h=>.inl h,λ_ _ h=>h,λa o h=>⟨o,old a o h,.refl⟩⟩
   have hr':HR K μ H' M:=⟨hr.len,hr.nd,λi a ds e1 e2=>by
    obtain⟨vs,e3,e4⟩:=hr.ent i a ds e1 e2
    exact⟨vs,old _ _ e3,CelO.ext hr.lsts ex e4⟩⟩
   refine p μ H' ex hr' _ ?_
   simp only[Rw,Rp]
   refine⟨q,Ts.map V.ref,rfl,hS,hr.out hq,?_⟩
   have r1':=Rps.ext hr.lsts ex _ _ r1
   have r2':=Rps.ext hr.lsts ex _ _ r2
   clear p q1 q2 rx ry h1 h2 hS hq r1 r2
   unfold zipT
   induction Ts generalizing xs ys vs us with
   |nil =>
    have:(xs.zip ys).length=0:=by rw[List.length_zip,r1'.length,r2'.length,<- hl];rfl
    rw[List.length_eq_zero_iff.mp this]
    exact .nil
   |cons T r ih =>
    cases xs with
    |nil=>simp only[Rps]at r1';subst r1';simp at hl
    |cons x xs =>
     cases ys with
     |nil=>simp only[Rps]at r2';subst r2';simp at hl
     |cons y ys =>
      simp only[Rps]at r1' r2'
      obtain⟨v,vr,rfl,e1,t1⟩:=r1'
      obtain⟨u,ur,rfl,e2,t2⟩:=r2'
      refine .cons ?_ (ih xs ys vr ur (by simpa using hl) (λj T x y a b c=>hT (j+1) T x y (by simpa using a) (by simpa using b) (by simpa using c)) t1 t2)
      simp only[Rp]
      exact⟨T,[v,u],rfl,hT 0 T v u rfl rfl rfl,.cons e1 (.cons e2 .nil)⟩
theorem zG(hc:X.calm=true)(h1:X.mg "list"=none)(h2:X.mg "zip"=none)(ha:Ev X K Z a fa)(hb:Ev X K Z b fb)(g1:Gl X "list":=by rfl)(g2:Gl X "zip":=by rfl)
  (hs:starEach [.Call (.Name "zip" q) [a,b] [] pos2] X.env=(false,eval (.Call (.Name "zip" q) [a,b] [] pos2) X.env)::starEach [] X.env:=by rfl)(hpl:(backTo pos (starEach [] X.env)).any (·.1)=false:=by rfl)
  (hs2:starEach [a,b] X.env=(false,eval a X.env)::starEach [b] X.env:=by rfl)(hs3:starEach [b] X.env=(false,eval b X.env)::starEach [] X.env:=by rfl)(hpl2:(backTo pos2 (starEach [b] X.env)).any (·.1)=false:=by rfl) :
  Ev X K Z (.Call (.Name "list" p) [.Call (.Name "zip" q) [a,b] [] pos2] [] pos) (e2 pZip fa fb):=by
 have h:=xZ (p:=p) (q:=q) (pos:=pos) (pos2:=pos2) hc h1 h2 ha.h hb.h g1 g2 hs hpl hs2 hs3 hpl2
 rw[ha.k]at h
 exact⟨ha.k,cqE h (lift2 aKr)⟩
end EV
namespace RT
variable{prog:Program}{E:Value->Shared->Prop}
noncomputable def IsRvT(h:Heap)(a l:Addr)(i:Int):Prop:=∃o,h.get? a=some o/\o.cls=.type "reversed"/\o.data=.fields #[.ref l,rawInt i]
theorem IsRvT.at{l:Addr}{i:Int}(x:IsRvT h a l i)(e:∀o,h.get? a=some o->h'.get? a=some o):IsRvT h' a l i:=let⟨o,ho,r⟩:=x;⟨o,e _ ho,r⟩
end RT
namespace L2
end L2
namespace EV
open L2
variable{K:Frag}{a:Expr}{tg:Expr}{K:Frag}
end EV
end
variable{QI:EV.Src->EV.Mm->Prop}
namespace EV
open PySem L2
@[irreducible] noncomputable def Okx(EX:D->Mm->Prop)(o:Oc α)(Q:α->Mm->Prop):Prop:=match o with
 |.ok a M=>Q a M
 |.ex x M=>EX x M
 |.bad=>False
noncomputable abbrev NX:D->Mm->Prop:=λ_ _=>False
noncomputable abbrev Ok(o:Oc α)(Q:α->Mm->Prop):Prop:=Okx NX o Q
variable{α β:Type}{EX EX':D->Mm->Prop}{o o':Oc α}{Q Q':α->Mm->Prop}{a:α}
theorem gQ:Okx EX o Q ↔ (∃a M,o=.ok a M/\Q a M)\/∃x M,o=.ex x M/\EX x M:=by
 unfold Okx
 cases o with
 |ok a M=>exact⟨λh=>.inl ⟨a,M,rfl,h⟩,λh=>by rcases h with⟨_,_,e,q⟩|⟨_,_,e,q⟩ <;> cases e;exact q⟩
 |ex x M=>exact⟨λh=>.inr ⟨x,M,rfl,h⟩,λh=>by rcases h with⟨_,_,e,q⟩|⟨_,_,e,q⟩ <;> cases e;exact q⟩
 |bad=>exact⟨λh=>h.elim,λh=>by rcases h with⟨_,_,e,q⟩|⟨_,_,e,q⟩ <;> cases e⟩
theorem lB:Ok o Q ↔ ∃a M,o=.ok a M/\Q a M:=by
 refine Iff.trans (gQ (EX:=NX)) ⟨λh=>?_,.inl⟩
 rcases h with h|⟨_,_,_,q⟩
 ·exact h
 ·exact q.elim
theorem aH(q:Q a M):Okx EX (.ok a M) Q:=gQ.mpr (.inl ⟨a,M,rfl,q⟩)
theorem jX{x:D}(q:EX x M):Okx EX (.ex x M:Oc α) Q:=gQ.mpr (.inr ⟨x,M,rfl,q⟩)
theorem aG{k:α->Mm->Oc β}{Q:β->Mm->Prop}(h:Okx EX o λa M=>Okx EX (k a M) Q):Okx EX (o.bind k) Q:=by
 rcases gQ.mp h with⟨a,M,rfl,q⟩|⟨x,M,rfl,q⟩
 ·exact q
 ·exact jX q
theorem Okx.mono(h:Okx EX o Q)(f:∀a M,Q a M->Q' a M):Okx EX o Q':=by
 rcases gQ.mp h with⟨a,M,rfl,q⟩|⟨x,M,rfl,q⟩
 ·exact aH (f _ _ q)
 ·exact jX q
theorem Okx.monoX(h:Okx EX o Q)(f:∀a M,Q a M->Q' a M)(g:∀x M,EX x M->EX' x M):Okx EX' o Q':=by
 rcases gQ.mp h with⟨a,M,rfl,q⟩|⟨x,M,rfl,q⟩
 ·exact aH (f _ _ q)
 ·exact jX (g _ _ q)
theorem Ok.mono(h:Ok o Q)(f:∀a M,Q a M->Q' a M):Okx EX o Q':=Okx.monoX h f λ_ _ z=>z.elim
variable{EX:D->Mm->Prop}{c:Bool}
theorem kD{a b:Oc α}{Q:α->Mm->Prop}(h1:c=true->Okx EX a Q)(h2:c=false->Okx EX b Q):Okx EX (if c=true then a else b) Q:=by cases c <;> simp_all
variable{p:Prop}
theorem eX[Decidable p]{a b:Oc α}{Q:α->Mm->Prop}(h1:p->Okx EX a Q)(h2:¬p->Okx EX b Q):Okx EX (if decide p=true then a else b) Q:=by by_cases h:p <;> simp_all
theorem jR[Decidable p]{a b:Oc α}{Q:α->Mm->Prop}(h1:p->Okx EX b Q)(h2:¬p->Okx EX a Q):Okx EX (if(!decide p)=true then a else b) Q:=by by_cases h:p <;> simp_all
theorem jZ{a b:Oc α}{Q:α->Mm->Prop}(h:c=true)(h1:Okx EX a Q):Okx EX (if c=true then a else b) Q:=by rw[aAH h];exact h1
theorem hW{a b:Oc α}{Q:α->Mm->Prop}(h:c=false)(h1:Okx EX b Q):Okx EX (if c=true then a else b) Q:=by rw[aAL (by simp[h])];exact h1
section
variable{i j:Nat}{w x y:W}{Q:W->Mm->Prop}{QA:List W->Mm->Prop}{QT:Bool->Mm->Prop}{g h:FE}{t u:FT}{fs:FA}{gg:FG}
theorem aDd(h:L[i]?=some (some w))(q:Q w M):Okx EX (eV i L M) Q:=by unfold eV;rw[h];exact aH q
theorem aCb{d:D}(q:Q (.d d) M):Okx EX (eC d L M) Q:=aH q
theorem aJo(q:Q (.d (.lst (ns.map D.int))) M):Okx EX (eInts ns L M) Q:=aH q
theorem aQp{p:W->Mm->Oc W}(h:Okx EX (f L M) λx M1=>Okx EX (p x M1) Q):Okx EX (e1 p f L M) Q:=aG h
theorem aKu{p:W->W->Mm->Oc W}(h:Okx EX (f L M) λx M1=>Okx EX (g L M1) λy M2=>Okx EX (p x y M2) Q):Okx EX (e2 p f g L M) Q:=aG (h.mono λ_ _ z=>aG z)
theorem xO{p p':W->W->Mm->Oc W}(z:Okx EX (f L M) λx M1=>Okx EX (g L M1) λy M2=>Okx EX (p x y M2) λw M3=>∃b,w=.d (.bl b)/\(b=true->Okx EX (h L M3) λz M4=>Okx EX (p' y z M4) Q)/\(b=false->Q (.d (.bl false)) M3)):Okx EX (e3c p p' f g h L M) Q:=by
 refine aG (z.mono λx M1 z=>aG (z.mono λy M2 z=>aG (z.mono λw M3 ⟨b,e,h1,h2⟩=>?_)))
 subst e
 cases b with
 |true=>exact aG (h1 rfl)
 |false=>exact aH (h2 rfl)
theorem aQz{p:List W->Mm->Oc W}(h:Okx EX (fs L M) λws M1=>Okx EX (p ws M1) Q):Okx EX (eA p fs L M) Q:=aG h
theorem aQq(q:QA [] M):Okx EX (aNil L M) QA:=aH q
theorem aQt(h:Okx EX (f L M) λw M1=>Okx EX (fs L M1) λws M2=>QA (w::ws) M2):Okx EX (aCons f fs L M) QA:=aG (h.mono λ_ _ z=>aG (z.mono λ_ _ z=>aH z))
theorem aNw(h:Okx EX (f L M) λw M1=>∃b,w=.d (.bl b)/\(b=true->Okx EX (g L M1) Q)/\(b=false->Q (.d (.bl false)) M1)):Okx EX (eAnd f g L M) Q:=by
 refine aG (h.mono λw M1 ⟨b,e,h1,h2⟩=>?_)
 subst e
 cases b with
 |true=>exact h1 rfl
 |false=>exact aH (h2 rfl)
theorem aQs(h:Okx EX (f L M) λw M1=>∃b,w=.d (.bl b)/\(b=true->Q (.d (.bl true)) M1)/\(b=false->Okx EX (g L M1) Q)):Okx EX (eOr f g L M) Q:=by
 refine aG (h.mono λw M1 ⟨b,e,h1,h2⟩=>?_)
 subst e
 cases b with
 |true=>exact aH (h1 rfl)
 |false=>exact h2 rfl
theorem aGk(h:Okx EX (f L M) λw M1=>∃b,w=.d (.bl b)/\QT b M1):Okx EX (EV.tB f L M) QT:=aG (h.mono λw M1 ⟨b,e,q⟩=>by subst e;exact aH q)
theorem aPo(h:Okx EX (f L M) λw M1=>∃b,tru M1 w=some b/\QT b M1):Okx EX (tV f L M) QT:=aG (h.mono λw M1 ⟨b,e,q⟩=>by rw[e];exact aH q)
theorem lO(h:Okx EX (t L M) λb M1=>QT (!b) M1):Okx EX (EV.tNot t L M) QT:=aG (h.mono λ_ _ z=>aH z)
theorem aJa(h:Okx EX (t L M) λb M1=>(b=true->Okx EX (u L M1) QT)/\(b=false->QT false M1)):Okx EX (EV.tAnd t u L M) QT:=aG (h.mono λb M1 ⟨h1,h2⟩=>by cases b with|true=>exact h1 rfl|false=>exact aH (h2 rfl))
theorem nM(h:Okx EX (t L M) λb M1=>(b=true->QT true M1)/\(b=false->Okx EX (u L M1) QT)):Okx EX (EV.tOr t u L M) QT:=aG (h.mono λb M1 ⟨h1,h2⟩=>by cases b with|true=>exact aH (h1 rfl)|false=>exact h2 rfl)
theorem aIs(q:QT true M):Okx EX (EV.tYes L M) QT:=aH q
theorem oR(q:QS (.nx L) M):Okx EX (sNil L M) QS:=aH q
theorem fA(h:Okx EX (F L M) λo M1=>match o with
 |.nx L1=>Okx EX (G L1 M1) QS
 |.bk L1=>QS (.bk L1) M1
 |.ct L1=>QS (.ct L1) M1
 |.rt w=>QS (.rt w) M1):Okx EX (sSeq F G L M) QS:=aG (h.mono λo M1 z=>by cases o with|nx L1=>exact z|bk L1=>exact aH z|ct L1=>exact aH z|rt w=>exact aH z)
theorem aQl(h:Okx EX (f L M) λ_ M1=>QS (.nx L) M1):Okx EX (sEx f L M) QS:=aG (h.mono λ_ _ z=>aH z)
theorem aQh(h:Okx EX (f L M) λw M1=>QS (.rt w) M1):Okx EX (sRt f L M) QS:=aG (h.mono λ_ _ z=>aH z)
theorem eF(h:Okx EX (t L M) λb M1=>Okx EX (if b=true then F L M1 else G L M1) QS):Okx EX (sIf t F G L M) QS:=aG h
theorem aLf(h:Okx EX (f L M) λw M1=>Okx EX (gg w L M1) λL1 M2=>QS (.nx L1) M2):Okx EX (sAs f gg L M) QS:=aG (h.mono λ_ _ z=>aG (z.mono λ_ _ z=>aH z))
theorem aKt(h:Okx EX (fs L M) λws M1=>∃v w,ws=[v,w]/\QS (.nx ((L.set i (some v)).set j (some w))) M1):Okx EX (sPar i j fs L M) QS:=aG (h.mono λws M1 ⟨v,w,e,q⟩=>by subst e;exact aH q)
theorem aAa{p:W->W->Mm->Oc W}(h:L[i]?=some (some x))(z:Okx EX (f L M) λy M1=>Okx EX (p x y M1) λz M2=>QS (.nx (L.set i (some z))) M2):Okx EX (sAug p i f L M) QS:=by
 unfold sAug eV;rw[h];exact aG (aH (aG (z.mono λ_ _ z=>aG (z.mono λ_ _ z=>aH z))))
theorem qB(q:QG (L.set i (some w)) M):Okx EX (gN i w L M) QG:=aH q
theorem aPs{xs:List D}(hn:xs.length=n)(h:Okx EX (gs xs L M) QG):Okx EX (gT n gs (.d (.tup xs)) L M) QG:=by unfold gT;simp only;rw[aAH hn];exact h
theorem aLu(q:QG L M):Okx EX (gsNil [] L M) QG:=aH q
theorem aNz{d:D}{ds:List D}(h:Okx EX (gg (.d d) L M) λL1 M1=>Okx EX (gs ds L1 M1) QG):Okx EX (gsCons gg gs (d::ds) L M) QG:=aG h
theorem aPz{d:D}(h:Okx EX (f L M) λo M1=>Okx EX (g L M1) λi M2=>∃k j xs t,o=.ref k/\i=.d (.int j)/\M2[k]?=some xs/\ixN xs.length j=some t/\QG L (M2.set k (xs.set t d))):Okx EX (gS f g (.d d) L M) QG:=by
 refine aG (h.mono λo M1 z=>aG (z.mono λi M2 ⟨k,j,xs,t,e1,e2,e3,e4,q⟩=>?_))
 subst e1 e2
 simp only[e3,e4]
 exact aH q
theorem aFk{c:Int->Int->Bool}{gg:Int->Int->D}{i j:Int}(hc:c i j=true)(q:Q (.d (gg i j)) M):Okx EX (pI c gg (.d (.int i)) (.d (.int j)) M) Q:=by unfold pI;simp only;rw[aAH hc];exact aH q
theorem aMy{i j:Int}(q:Q (.d (.int (i+j))) M):Okx EX (pAdd (.d (.int i)) (.d (.int j)) M) Q:=aH q
theorem aHk{xs ys:List D}(hz:xs.length+ys.length<=16777216)(q:Q (.d (.tup (xs++ys))) M):Okx EX (pAdd (.d (.tup xs)) (.d (.tup ys)) M) Q:=by unfold pAdd;simp only;rw[aAH hz];exact aH q
variable{a b:Str}
theorem aAl(hz:a.length+b.length<=16777216)(q:Q (.d (.str (a++b))) M):Okx EX (pAdd (.d (.str a)) (.d (.str b)) M) Q:=by unfold pAdd;simp only;rw[aAH hz];exact aH q
theorem lM{xs ys:List D}(h1:lv M x=some xs)(h2:lv M y=some ys)(hz:xs.length+ys.length<=16777216)(q:Q (.d (.lst (xs++ys))) M):Okx EX (pAdd x y M) Q:=by
 have:pAdd x y M=.ok (.d (.lst (xs++ys))) M:=by
  cases x with
  |ref i=>simp only[pAdd,h1,h2];rw[aAH hz]
  |ob _ i=>simp only[pAdd,h1,h2];rw[aAH hz]
  |nest i=>simp only[pAdd,h1,h2];rw[aAH hz]
  |d a=>cases a <;> simp only[lv,reduceCtorEq]at h1
        cases y with
        |ref i=>cases h1;simp only[lv]at h2;simp only[pAdd,lv,h2];rw[aAH hz]
        |ob _ i=>simp[lv]at h2
        |nest i=>simp[lv]at h2
        |d b=>cases b <;> simp only[lv,reduceCtorEq]at h2
              simp only[pAdd,lv];cases h1;cases h2;rw[aAH hz]
 rw[this];exact aH q
theorem aOj{i j:Int}(hz:mulOk i j=true)(q:Q (.d (.int (i*j))) M):Okx EX (pMulA (.d (.int i)) (.d (.int j)) M) Q:=by unfold pMulA pMul;simp only;rw[aAH hz];exact aH q
theorem aKv{a b:D}(h1:wd M x=some a)(h2:wd M y=some b)(hd:dep a<=100/\dep b<=100)(q:Q (.d (.bl (eqD a b))) M):Okx EX (pEq x y M) Q:=by unfold pEq;rw[h1,h2];simp only;rw[aAH hd];exact aH q
theorem lW{a b:D}(h1:wd M x=some a)(h2:wd M y=some b)(hd:dep a<=100/\dep b<=100)(q:Q (.d (.bl (!eqD a b))) M):Okx EX (pNe x y M) Q:=by unfold pNe;rw[h1,h2];simp only;rw[aAH hd];exact aH q
theorem aNd{i j:Int}(q:Q (.d (.bl (decide (i=j)))) M):Okx EX (pEq (.d (.int i)) (.d (.int j)) M) Q:=aKv rfl rfl (by simp[dep]) (by simp only[eqD];exact q)
theorem aNj{i j:Int}(q:Q (.d (.bl (!decide (i=j)))) M):Okx EX (pNe (.d (.int i)) (.d (.int j)) M) Q:=lW rfl rfl (by simp[dep]) (by simp only[eqD];exact q)
theorem aNq(q:Q (.d (.bl (a==b))) M):Okx EX (pEq (.d (.str a)) (.d (.str b)) M) Q:=aKv rfl rfl (by simp[dep]) (by simpa only[eqD]using q)
theorem aNs(q:Q (.d (.bl (!(a==b)))) M):Okx EX (pNe (.d (.str a)) (.d (.str b)) M) Q:=lW rfl rfl (by simp[dep]) (by simpa only[eqD]using q)
theorem aPc{a b:Bool}(q:Q (.d (.bl (!(a==b)))) M):Okx EX (pNe (.d (.bl a)) (.d (.bl b)) M) Q:=lW rfl rfl (by simp[dep]) (by simpa only[eqD]using q)
theorem aQv(q:Q (.d (.bl (isN x))) M):Okx EX (pIs x (.d .non) M) Q:=aH q
theorem aGa(q:Q (.d (.bl (!isN x))) M):Okx EX (pIsNot x (.d .non) M) Q:=aH q
theorem aLc{neg:Bool}{d:D}{xs:List D}(h:sv M y=some xs)(hf:flatD d=true)(hx:xs.all flatD=true)(q:Q (.d (.bl (if neg then !(xs.any λy=>eqD y d)else xs.any λy=>eqD y d))) M):Okx EX (pInG neg (.d d) y M) Q:=by
 unfold pInG;rw[h];simp only;rw[aAH ⟨hf,hx⟩];exact aH q
variable{k:Int}
theorem aOd{xs:List D}{d:D}(h:atI xs k=some d)(q:Q (.d d) M):Okx EX (pIx (.d (.tup xs)) (.d (.int k)) M) Q:=by unfold pIx;simp only[sv,h];exact aH q
theorem aFy{xs:List D}{d:D}(hs:∀z,x≠.d (.str z))(h1:sv M x=some xs)(h:atI xs k=some d)(q:Q (.d d) M):Okx EX (pIx x (.d (.int k)) M) Q:=by
 have:pIx x (.d (.int k)) M=.ok (.d d) M:=by
  cases x with
  |ref i=>simp only[pIx,h1,h]
  |ob _ i=>simp only[pIx,h1,h]
  |nest i=>simp only[pIx,h1,h]
  |d a=>cases a <;> first|(exact(hs _ rfl).elim)|(simp only[pIx,h1,h])
 rw[this];exact aH q
theorem bS{xs:List D}{d:D}(h:atI xs k=some d)(q:Q (.d d) M):Okx EX (pIx (.d (.lst xs)) (.d (.int k)) M) Q:=aFy (by simp) rfl h q
theorem zC{xs:List D}{d:D}(h:atI xs k=some d)(q:Q (.d d) M):Okx EX (pIx (.d (.fz xs)) (.d (.int k)) M) Q:=aFy (by simp) rfl h q
variable{b:Nat}
theorem yU{xs:List D}{d:D}(h1:M[b]?=some xs)(h:atI xs k=some d)(q:Q (.d d) M):Okx EX (pIx (.ref b) (.d (.int k)) M) Q:=aFy (by simp) h1 h q
theorem aMr{ws:List W}{ds:List D}(h:allD ws=some ds)(hz:ds.length<=16777216)(q:Q (.d (.tup ds)) M):Okx EX (mkT ws M) Q:=by unfold mkT;rw[h];simp only;rw[aAH hz];exact aH q
theorem aNb{ws:List W}{ds:List D}(h:allD ws=some ds)(hz:ds.length<=16777216)(q:Q (.d (.lst ds)) M):Okx EX (mkL ws M) Q:=by unfold mkL;rw[h];simp only;rw[aAH hz];exact aH q
theorem aLi{ws:List W}{ds:List D}(h:allD ws=some ds)(hz:ds.length<=16777216)(q:Q (.ref M.length) (M++[ds])):Okx EX (mkR ws M) Q:=by unfold mkR;rw[h];simp only;rw[aAH hz];exact aH q
theorem aOy{xs:List D}(hs:∀z,x≠.d (.str z))(h:sv M x=some xs)(q:Q (.d (.int xs.length)) M):Okx EX (cLen [x] M) Q:=by
 have:cLen [x] M=.ok (.d (.int xs.length)) M:=by
  cases x with
  |ref i=>simp only[cLen,h]
  |ob _ i=>simp only[cLen,h]
  |nest i=>simp only[cLen,h]
  |d a=>cases a <;> first|(exact(hs _ rfl).elim)|(simp only[cLen,h])
 rw[this];exact aH q
theorem aIz{xs:List D}(q:Q (.d (.int xs.length)) M):Okx EX (cLen [.d (.tup xs)] M) Q:=aH q
theorem aJc{xs:List D}(q:Q (.d (.int xs.length)) M):Okx EX (cLen [.d (.lst xs)] M) Q:=aH q
theorem aHg{xs:List D}(q:Q (.d (.int xs.length)) M):Okx EX (cLen [.d (.fz xs)] M) Q:=aH q
theorem aJu{xs:List D}(h:M[b]?=some xs)(q:Q (.d (.int xs.length)) M):Okx EX (cLen [.ref b] M) Q:=aOy (by simp) h q
theorem jD{xs:List D}(h:sv M x=some xs)(q:Q (.d (.tup xs)) M):Okx EX (cTup [x] M) Q:=by unfold cTup;simp only[h];exact aH q
theorem aOi{xs:List D}(h:sv M x=some xs)(q:Q (.d (.lst xs)) M):Okx EX (cList [x] M) Q:=by unfold cList;simp only[h];exact aH q
theorem aMa{T:String}{b:Bool}(h:isT T M x=some b)(q:Q (.d (.bl b)) M):Okx EX (pIsI T x M) Q:=by unfold pIsI;rw[h];exact aH q
theorem aPe{p:W->W->Mm->Oc W}(h:Okx EX (f L M) λx M1=>∃k,x=.ref k/\Okx EX (g L M1) λy M2=>Okx EX (p (.ref k) y M2) Q):Okx EX (eM1 p f g L M) Q:=aG (h.mono λx M1 ⟨k,e,z⟩=>by subst e;exact aG z)
variable{k:Nat}
theorem gA{d:D}{xs:List D}(h:M[k]?=some xs)(hz:xs.length < 16777216)(q:Q (.d .non) (M.set k (xs++[d]))):Okx EX (pAppend (.ref k) (.d d) M) Q:=by unfold pAppend;simp only[h];rw[aAH hz];exact aH q
theorem aBp{xs ys:List D}(h:M[k]?=some xs)(h2:lv M y=some ys)(hz:xs.length+ys.length<=16777216)(q:Q (.d .non) (M.set k (xs++ys))):Okx EX (pExtend (.ref k) y M) Q:=by unfold pExtend;simp only[h,h2];rw[aAH hz];exact aH q
theorem aNy{xs:List D}{d:D}(h:M[k]?=some (xs++[d]))(q:Q (.d d) (M.set k xs)):Okx EX (pPop (.ref k) M) Q:=by
 unfold pPop;simp only[h,List.getLast?_concat,List.dropLast_concat];exact aH q
theorem aNo(q:QO none M):Okx EX (oNo L M) QO:=aH q
theorem aOl(h:Okx EX (f L M) λw M1=>∃k,w=.d (.int k)/\QO (some k) M1):Okx EX (oAt f L M) QO:=aG (h.mono λw M1 ⟨k,e,q⟩=>by subst e;exact aH q)
theorem aFq{xs:List D}(hs:∀z,x≠.d (.tup z))(h:lr M x=some xs)(q:Q (.d (.lst (cut xs lo hi))) M):Okx EX (pSl x lo hi M) Q:=by
 have:pSl x lo hi M=okD (.lst (cut xs lo hi)) M:=by
  cases x with
  |ref i=>simp only[pSl,h]
  |ob _ i=>simp only[pSl,h]
  |nest i=>simp only[pSl,h]
  |d a=>cases a <;> first|(exact(hs _ rfl).elim)|(simp only[pSl,h])
 rw[this];exact aH q
variable{fi:FI}{B:FS}
theorem aNk(h:Okx EX (fi L M) λs M1=>Okx EX (forD s gg B s.ds L M1) QS):Okx EX (sFor fi gg B L M) QS:=aG h
theorem aPw{s:Src}(h:Okx EX (f L M) λw M1=>∃s,srcOf M1 w=some s/\QI s M1):Okx EX (iE f L M) QI:=aG (h.mono λw M1 ⟨s,e,q⟩=>by rw[e];exact aH q)
theorem aNe(h:Okx EX (f L M) λw M1=>∃j,w=.d (.int j)/\in62 j=true/\QI ⟨rngD 0 j.toNat,none⟩ M1):Okx EX (iR1 f L M) QI:=aG (h.mono λw M1 ⟨j,e,hz,q⟩=>by subst e;simp only;rw[aAH hz];exact aH q)
theorem aNm(h:Okx EX (f L M) λw M1=>Okx EX (g L M1) λu M2=>∃i j,w=.d (.int i)/\u=.d (.int j)/\(in62 i=true/\in62 j=true)/\QI ⟨rngD i (j - i).toNat,none⟩ M2):Okx EX (iR2 f g L M) QI :=
 aG (h.mono λw M1 z=>aG (z.mono λu M2 ⟨i,j,e1,e2,hz,q⟩=>by subst e1 e2;simp only;rw[aAH hz];exact aH q))
theorem gP{s:Src}(I:Nat->Lc->Mm->Prop)(h0:I 0 L M)(hc:∀i L M,i<=s.ds.length->I i L M->Chk s M)
  (hs:∀i d L M,s.ds[i]?=some d->I i L M->Okx EX (gg (.d d) L M) λL1 M1=>Okx EX (B L1 M1) λo M2=>match o with
   |.nx L2=>I (i+1) L2 M2
   |.ct L2=>I (i+1) L2 M2
   |.bk L2=>QS (.nx L2) M2
   |.rt w=>QS (.rt w) M2)(hd:∀L M,I s.ds.length L M->QS (.nx L) M):Okx EX (forD s gg B s.ds L M) QS:=by
 have key:∀k i L M,s.ds.length - i=k->i<=s.ds.length->I i L M->Okx EX (forD s gg B (s.ds.drop i) L M) QS:=by
  intro k
  induction k with
  |zero =>
   intro i L M e hi hI
   have:i=s.ds.length:=by lia
   subst this
   rw[aCE (aAI _)]
   unfold forD
   rw[aAH (hc _ L M (aAI _) hI)]
   exact aH (hd L M hI)
  |succ k ih =>
   intro i L M e hi hI
   have hlt:i < s.ds.length:=by lia
   rw[aCA hlt]
   unfold forD
   rw[aAH (hc _ L M hi hI)]
   refine aG ((hs i s.ds[i] L M (by simp[hlt]) hI).mono λL1 M1 z=>aG (z.mono λo M2 z=>?_))
   cases o with
   |nx L2=>exact ih (i+1) L2 M2 (by lia) (by lia) z
   |ct L2=>exact ih (i+1) L2 M2 (by lia) (by lia) z
   |bk L2=>exact aH z
   |rt w=>exact aH z
 simpa using key s.ds.length 0 L M (by lia) (by lia) h0
theorem fY(I:Nat->Lc->Mm->Prop)(hs:∀m L M,I m L M->Okx EX (t L M) λb M1=>(b=true->Okx EX (B L M1) λo M2=>match o with
   |.nx L2=>∃m',m' < m/\I m' L2 M2
   |.ct L2=>∃m',m' < m/\I m' L2 M2
   |.bk L2=>QS (.nx L2) M2
   |.rt w=>QS (.rt w) M2)/\(b=false->QS (.nx L) M1)):∀(n m:Nat) (L:Lc) (M:Mm),I m L M->m < n->Okx EX (whileD t B n L M) QS:=by
 intro n
 induction n with
 |zero=>intro m L M _ h;lia
 |succ n ih =>
  intro m L M hI hm
  unfold whileD
  refine aG ((hs m L M hI).mono λb M1 ⟨h1,h2⟩=>?_)
  cases b with
  |false=>exact aH (h2 rfl)
  |true =>
   refine aG ((h1 rfl).mono λo M2 z=>?_)
   cases o with
   |nx L2=>obtain⟨m',l,z⟩:=z;exact ih m' L2 M2 z (by lia)
   |ct L2=>obtain⟨m',l,z⟩:=z;exact ih m' L2 M2 z (by lia)
   |bk L2=>exact aH z
   |rt w=>exact aH z
theorem gG{c:FT}(I:Nat->List D->Lc->Mm->Prop)
  (h:Okx EX (fi L M) λs M1=>(I 0 [] (outL js L) M1/\(∀i acc L M,i<=s.ds.length->I i acc L M->M.length=M1.length/\Chk s (M++[acc])/\acc.length<=i)/\s.ds.length<=16777216 /\
   (∀i d acc L M,s.ds[i]?=some d->I i acc L M->Ok (gg (.d d) L (M++[acc])) λL1 M2=>Ok (c L1 M2) λb M3=>(b=true->Ok (f L1 M3) λw M4=>∃x M5,w=.d x/\M4=M5++[acc]/\I (i+1) (acc++[x]) L1 M5)/\(b=false->∃M5,M3=M5++[acc]/\I (i+1) acc L1 M5)) /\
   (∀acc L M,I s.ds.length acc L M->Q (.d (.lst acc)) M))):Okx EX (eComp js fi gg c f L M) Q:=by
 unfold eComp compT
 refine aG (aG (h.mono λs M1 ⟨h0,hc,hz,hs,hd⟩=>?_))
 have key:∀k i acc L M,s.ds.length - i=k->i<=s.ds.length->I i acc L M->∃acc' L' M',compD M1.length s gg c f (s.ds.drop i) L (M++[acc])=.ok () (M'++[acc'])/\I s.ds.length acc' L' M':=by
  intro k
  induction k with
  |zero =>
   intro i acc L M e hi hI
   have:i=s.ds.length:=by lia
   subst this
   rw[aCE (aAI _)]
   unfold compD
   rw[aAH (hc _ acc L M (aAI _) hI).2.1]
   exact⟨acc,L,M,rfl,hI⟩
  |succ k ih =>
   intro i acc L M e hi hI
   have hlt:i < s.ds.length:=by lia
   rw[aCA hlt]
   unfold compD
   obtain⟨hl,hch,hal⟩:=hc _ acc L M hi hI
   rw[aAH hch]
   obtain⟨L1,M2,e1,hh⟩:=lB.mp (hs i s.ds[i] acc L M (by simp[hlt]) hI)
   obtain⟨L1',M3,e2,h1,h2⟩:=lB.mp hh
   rw[e1]
   simp only[eW]
   rw[e2]
   simp only[eW]
   cases L1' with
   |false =>
    obtain⟨M5,e3,hI'⟩:=h2 rfl
    subst e3
    simp only[aBG,aDX]
    exact ih (i+1) acc L1 M5 (by lia) (by lia) hI'
   |true =>
    obtain⟨w,M4,e3,x,M5,rfl,rfl,hI'⟩:=lB.mp (h1 rfl)
    simp only[aDI]
    rw[e3]
    simp only[eW]
    have hl5:=(hc _ _ _ _ (by lia) hI').1
    have g1:(M5++[acc])[M1.length]?=some acc:=by rw[<- hl5];simp
    rw[g1]
    simp only
    rw[aAH (by lia)]
    have g2:(M5++[acc]).set M1.length (acc++[x])=M5++[acc++[x]]:=by rw[<- hl5];simp
    rw[g2]
    exact ih (i+1) (acc++[x]) L1 M5 (by lia) (by lia) hI'
 obtain⟨acc,L',M',e,hI⟩:=key s.ds.length 0 [] (outL js L) M1 (by lia) (by lia) h0
 rw[aFU]at e
 rw[e]
 have hl:=(hc _ _ _ _ (aAI _) hI).1
 have g1:(M'++[acc])[M1.length]?=some acc:=by rw[<- hl];simp
 have g2:(M'++[acc]).take M1.length=M':=by rw[<- hl];simp
 simp only[g1,g2]
 exact aH (aH (hd acc L' M' hI))
theorem cU{ws:List W}(hm:ws.length=m)(h:Okx EX (F (ws.map some++List.replicate (n - ws.length) none) M) λo M'=>match o with
  |.rt w=>Okx EX (retc M.length w M') Q
  |.nx _=>Q (.d .non) (M'.take M.length)
  |_=>False):Okx EX (fnD m n F ws M) Q:=by
 unfold fnD
 rw[aAH hm]
 refine aG (h.mono λo M' z=>?_)
 cases o with
 |rt w=>exact z
 |nx L=>exact aH z
 |bk L=>exact z.elim
 |ct L=>exact z.elim
theorem aIu{d:D}(q:Q (.d d) (M.take n)):Okx EX (retc n (.d d) M) Q:=aH q
theorem aMc{ws:List W}(hm:ws.length=m)(h:Okx EX (F (ws.map some++List.replicate (n - ws.length) none) M) λo M'=>∃i ds,o=.rt (.ref i)/\M.length<=i/\M'[i]?=some ds/\Q (.ref M.length) (M'.take M.length++[ds])):Okx EX (fnR m n F ws M) Q:=by
 unfold fnR
 rw[aAH hm]
 refine aG (h.mono λo M' ⟨i,ds,e,hi,e2,q⟩=>?_)
 subst e
 simp only[e2]
 rw[aAH hi]
 exact aH q
end
noncomputable def Bx(M:Mm)(b:Nat):Prop:=∃x y z,M[b]?=some [.int x,.int y,.int z]
noncomputable def Nx(b:Nat)(M M':Mm):Prop:=∃x y z,M'=M.set b [.int x,.int y,.int z]
variable{b:Nat}
theorem Bx.lt(h:Bx M b):b < M.length:=by obtain⟨x,y,z,e⟩:=h;exact(aAE.mp e).1
theorem Nx.len(h:Nx b M M'):M'.length=M.length:=by obtain⟨x,y,z,rfl⟩:=h;simp
theorem Nx.bx(h:Nx b M M')(l:Bx M b):Bx M' b:=by
 obtain⟨x,y,z,rfl⟩:=h
 exact⟨x,y,z,aBT l.lt⟩
theorem Nx.trans{M1 M2:Mm}(h:Nx b M M1)(h':Nx b M1 M2):Nx b M M2:=by
 obtain⟨x,y,z,rfl⟩:=h
 obtain⟨x',y',z',rfl⟩:=h'
 exact⟨x',y',z',by rw[List.set_set]⟩
theorem Nx.refl(h:Bx M b):Nx b M M:=by
 obtain⟨x,y,z,e⟩:=h
 refine⟨x,y,z,?_⟩
 apply List.ext_getElem?
 intro i
 by_cases hi:b=i
 ·subst hi;rw[aBT (aAE.mp e).1,e]
 ·rw[aBS hi]
theorem Nx.get{M M':Mm}{b i:Nat}(h:Nx b M M')(n:b≠i):M'[i]?=M[i]?:=by
 obtain⟨x,y,z,rfl⟩:=h
 rw[aBS n]
theorem Nx.unapp{J:Mm}(h:Nx b (M++J) M')(l:b < M.length):∃M1,M'=M1++J/\Nx b M M1:=by
 obtain⟨x,y,z,rfl⟩:=h
 exact⟨_,List.set_append_left _ _ l,x,y,z,rfl⟩
theorem Bx.app{J:Mm}(h:Bx M b):Bx (M++J) b:=by
 obtain⟨x,y,z,e⟩:=h
 exact⟨x,y,z,by rw[aAX (aAE.mp e).1];exact e⟩
theorem Nx.take{M M':Mm}{b:Nat}(h:Nx b M M'):M'.take M.length=M':=by rw[<- h.len,aAC]
mutual
noncomputable def sz:D->Nat
 |.tup xs=>szs xs+1
 |.lst xs=>szs xs+1
 |.fz xs=>szs xs+1
 |.exn _ _ xs=>szs xs+1
 |_=>1
noncomputable def szs:List D->Nat
 |[]=>0
 |x::xs=>sz x+szs xs
end
mutual
noncomputable def noL:D->Bool
 |.tup xs=>noLs xs
 |.lst _=>false
 |.fz _=>false
 |.exn _ _ _=>false
 |_=>true
noncomputable def noLs:List D->Bool
 |[]=>true
 |x::xs=>noL x&&noLs xs
end
theorem aGs(d:D):0 < sz d:=by cases d <;> simp[sz]
theorem lG:∀xs ys:List D,szs (xs++ys)=szs xs+szs ys
 |[],ys=>by simp[szs]
 |x::xs,ys=>by simp[szs,lG xs ys];lia
theorem tD:∀xs:List D,xs.length<=szs xs
 |[]=>by simp[szs]
 |x::xs=>by have:=tD xs;have:=aGs x;simp[szs];lia
theorem wM:∀{xs:List D},noLs xs=true->∀{x},x∈xs->noL x=true
 |[],_,_,h=>by cases h
 |y::ys,h,x,hx=>by
  simp only[noLs,aBM]at h
  rcases aAO.mp hx with rfl|hx
  ·exact h.1
  ·exact wM h.2 hx
theorem aJk{xs:List D}(h:noL (.tup xs)=true){x:D}(hx:x∈xs):noL x=true:=wM (by simpa[noL]using h) hx
theorem aOr{x y:W}{xs ys:List D}{Q:W->Mm->Prop}(h1:sv M x=some xs)(h2:sv M y=some ys)(q:Q (.d (.lst (zipT xs ys))) M):Okx EX (pZip x y M) Q:=by unfold pZip;rw[h1,h2];exact aH q
theorem atBox(c:Int):atI [D.int 0,D.int c] (if decide ((10:Int) ^ (Int.toNat 18)<=c)=true then 1 else 0)=some (.int (if(1000000000000000000:Int)<=c then c else 0)):=by
 by_cases hc:(1000000000000000000:Int)<=c <;> simp[hc,atI,ixN]
end EV
section
open PySem PySem.Spec PyProof.Rows
namespace EV
open L2
variable{EX:D->Mm->Prop}{K:Frag}{Q:W->Mm->Prop}
end EV
namespace EV
open L2
variable{EX:D->Mm->Prop}{K:Frag}{a b c:Expr}{fs:FA}
noncomputable section
def srt(ns:List Int):List Int:=ns.mergeSort λa b=>decide (a<=b)
theorem mJ(ns:List Int):(srt ns).Perm ns:=List.mergeSort_perm _ _
theorem kU(ns:List Int):(srt ns).Pairwise (·<=·):=by
 have:=List.pairwise_mergeSort (le:=λa b:Int=>decide (a<=b)) (λa b c h1 h2=>by simp at *;lia) (λa b=>by simp;lia) ns
 exact this.imp λh=>by simpa using h
theorem oQ{ns':List Int}(p:ns'.Perm ns)(o:ns'.Pairwise (·<=·)):ns'=srt ns :=
 List.Perm.eq_of_pairwise (le:=(·<=·)) (λa b _ _ h1 h2=>Int.le_antisymm h1 h2) o (kU ns) (p.trans (mJ ns).symm)
theorem rE(o:ns.Pairwise (·<=·)):srt ns=ns:=(oQ (.refl _) o).symm
theorem pZ(ns:List Int):(srt ns).length=ns.length:=(mJ ns).length_eq
theorem aHt{x:Int}:x∈srt ns ↔ x∈ns:=(mJ ns).mem_iff
theorem pV:∀{ns:List Int},Vals (ns.map V.int) us->IntsAre us ns:=by
 induction us with
 |nil=>intro ns h;cases ns with
  |nil=>exact .nil
  |cons n r=>cases h
 |cons u us ih=>intro ns h;cases ns with
  |nil=>cases h
  |cons n r =>
   cases h with
   |cons p q =>
    obtain⟨t,rfl⟩:=p
    exact .cons n t (ih q)
theorem nT(h:IntsAre us ns):Vals (ns.map V.int) us:=by
 induction h with
 |nil=>exact .nil
 |cons n t _ ih=>exact .cons ⟨t,rfl⟩ ih
theorem wJ:CallR X (.builtin "sorted") (λxs H Q=>∃p ns,xs=[.ref p]/\SqL X.K H p (ns.map V.int)/\ns.length < 64/\∀l,H l=none->Q (.ref l) (upd H l (.lst ((srt ns).map V.int)))):=by
 intro pins s σ H xs us Q I r h
 obtain⟨p,ns,rfl,hq,h64,q⟩:=h
 obtain⟨u,rfl,rx⟩:=vals1 r
 cases rx
 obtain⟨its,r',pl,hz⟩:=I.list hq
 have hI:=pV r'
 have hlen:its.length=ns.length:=by have:=r'.length;simpa using this.symm
 refine sorted_ints pl.isList hI (by lia) λout ns' a1 a2 a3=>?_
 have e:=oQ a2 a3
 subst e
 obtain⟨c,hc⟩:=sortedAll_at s.heap its out
 refine⟨.ref (s.heap.objs.size+1),_,I.laid (t':=s.toks) (λb o e=>sortedAll_old e) (aFG _) (show ObjOk X.prog X.w _ _ _ (.lst ((srt ns).map V.int))from⟨by rw[aAT];simp[pZ];lia,out.toList,c,nT a1,by simpa using hc⟩),rfl,q _ (I.hok.fresh (aFG _))⟩
def intsOf:List D->Option (List Int)
 |[]=>some []
 |.int i::r=>(intsOf r).map (i::·)
 |_::_=>none
theorem pF(ns:List Int):intsOf (ns.map D.int)=some ns:=by
 induction ns with
 |nil=>rfl
 |cons n r ih=>simp only[aAV,intsOf,ih,aEO]
theorem mU:∀{ds:List D} {ns:List Int},intsOf ds=some ns->ds=ns.map D.int
 |[],ns,h=>by cases h;rfl
 |.int i::r,ns,h=>by
  simp only[intsOf,aAR]at h
  obtain⟨ms,h1,rfl⟩:=h
  rw[mU h1];rfl
 |.non::_,_,h=>by cases h
 |.bl _::_,_,h=>by cases h
 |.str _::_,_,h=>by cases h
 |.tup _::_,_,h=>by cases h
 |.lst _::_,_,h=>by cases h
 |.fz _::_,_,h=>by cases h
 |.exn _ _ _::_,_,h=>by cases h
theorem pU:∀{ns:List Int} {vs:List V},Rps K μ H (ns.map D.int) vs->vs=ns.map V.int
 |[],vs,h=>by simpa[Rps]using h
 |n::r,vs,h=>by
  simp only[aAV,Rps,Rp]at h
  obtain⟨v,t,rfl,rfl,h3⟩:=h
  rw[pU h3];rfl
def cSorted(ws:List W)(M:Mm):Oc W:=match ws with
 |[w]=>match lr M w with
  |some xs=>match intsOf xs with
   |some ns=>if ns.length < 64 then okD (.lst ((srt ns).map .int)) M else .bad
   |none=>.bad
  |none=>.bad
 |_=>.bad
theorem callSorted(hc:X.calm=true):ClG X K Z (.builtin "sorted") cSorted:=λhk=>by
 refine⟨_,hk▸wJ,?_⟩
 intro μ H M ws vs Q hr rx p
 match ws,rx,p with
 |[],_,p=>exact p.elim
 |[w],⟨v,r,e1,e2,e3⟩,p =>
  cases e3;subst e1
  simp only[cSorted]at p
  cases q:lr M w with
  |none=>rw[q]at p;exact p.elim
  |some xs =>
   rw[q]at p
   simp only at p
   cases q2:intsOf xs with
   |none=>rw[q2]at p;exact p.elim
   |some ns =>
    rw[q2]at p
    simp only at p
    split at p
    ·rename_i hz
     obtain⟨a,us,rfl,h1,r1⟩:=pK hr e2 q
     have e:=mU q2
     subst e
     have e:=pU r1
     subst e
     exact⟨a,ns,rfl,h1,hz,fE hr Rps.ints p⟩
    ·exact p.elim
 |_::_::_,_,p=>exact p.elim
theorem aDs{σ:St}{p:Addr}{ys:List V}(hc:X.calm=true)(I:Inv X pins σ H s)(hq:SqL X.K H p ys\/SqT X.K H p ys)
  (h:∀(s2:Shared) (J:Addr) (fp:List Addr) (its:Array Value) (St:Nat->Heap->Prop),Vals ys its.toList->Walks X.prog X.w X.A.in1 J fp [J] its.size (λi v=>its[i]?=some v) St->St 0 s2.heap->(∀b∈fp,b < s2.heap.objs.size) ->
   (∀h' tk,(∀b o,b∉[J]->s2.heap.get? b=some o->h'.get? b=some o)->Inv X pins σ H {s2 with heap:=h',toks:=tk})->Q (.ref J) s2):wpAny (model X.prog X.w) X.A.in1 (pyIter (.ref p)) Q X.xe s:=by
 rcases hq with hq|hq
 ·obtain⟨its,rv,pl,hz⟩:=I.list hq
  have hp:p < s.heap.objs.size:=by
   obtain⟨o,e,_⟩:=pl.isList
   exact aAF e
  have I1:Inv X pins σ H {s with heap:=s.heap.push {cls:=.type "list_iterator",data:=.fields #[.ref p,rawInt 0]}}:=I.kept (t':=s.toks) λb o e=>aAA _ e
  refine aCS pl.isList (h _ s.heap.objs.size [s.heap.objs.size,p] its.toArray _ (by simpa using rv) (Walks.list (by show X.A.in1.handled=none;exact I.ok.hd hc) s.heap.objs.size p (aAN hp) its.toArray) ⟨⟨_,aAG _ rfl,rfl,rfl⟩,pl.isList.at λo e=>aAA _ e⟩ (λb hb=>?_) λh' tk hk=>?_)
  ·show b < (s.heap.push _).objs.size
   rw[aAW]
   simp only[aAO,aBW,aED]at hb
   rcases hb with rfl|rfl
   ·exact aFC _
   ·exact aGA hp
  ·obtain⟨f0,f1,f2,f3,f4,f5⟩:=I.fpOk (H':=H) (aAI _) (I.hok.fresh (aAI _))
   exact I1.turned (t':=tk) (it:=s.heap.objs.size) (λb o hb e=>hk b o (by simpa using hb) e) f0 f1 f3 f4 f5
 ·obtain⟨its,rv,pl,hz⟩:=I.tuple hq
  have pl:s.heap.IsTuple p its.toArray:=pl
  have hp:p < s.heap.objs.size:=by
   obtain⟨o,e,_⟩:=pl
   exact aAF e
  have I1:Inv X pins σ H {s with heap:=s.heap.push {cls:=.type "tuple_iterator",data:=.fields #[.ref p,rawInt 0]}}:=I.kept (t':=s.toks) λb o e=>aAA _ e
  refine aDR pl (h _ s.heap.objs.size [s.heap.objs.size,p] its.toArray _ (by simpa using rv) (Walks.tuple (by show X.A.in1.handled=none;exact I.ok.hd hc) s.heap.objs.size p (aAN hp) its.toArray) ⟨⟨_,aAG _ rfl,rfl,rfl⟩,pl.at λo e=>aAA _ e⟩ (λb hb=>?_) λh' tk hk=>?_)
  ·show b < (s.heap.push _).objs.size
   rw[aAW]
   simp only[aAO,aBW,aED]at hb
   rcases hb with rfl|rfl
   ·exact aFC _
   ·exact aGA hp
  ·obtain⟨f0,f1,f2,f3,f4,f5⟩:=I.fpOk (H':=H) (aAI _) (I.hok.fresh (aAI _))
   exact I1.turned (t':=tk) (it:=s.heap.objs.size) (λb o hb e=>hk b o (by simpa using hb) e) f0 f1 f3 f4 f5
def blsOf:List D->Option (List Bool)
 |[]=>some []
 |.bl i::r=>(blsOf r).map (i::·)
 |_::_=>none
end
theorem aCu(ns:List Bool):blsOf (ns.map D.bl)=some ns:=by
 induction ns with
 |nil=>rfl
 |cons n r ih=>simp only[aAV,blsOf,ih,aEO]
theorem wP:∀{ds:List D} {ns:List Bool},blsOf ds=some ns->ds=ns.map D.bl
 |[],ns,h=>by cases h;rfl
 |.bl i::r,ns,h=>by
  simp only[blsOf,aAR]at h
  obtain⟨ms,h1,rfl⟩:=h
  rw[wP h1];rfl
 |.non::_,_,h=>by cases h
 |.int _::_,_,h=>by cases h
 |.str _::_,_,h=>by cases h
 |.tup _::_,_,h=>by cases h
 |.lst _::_,_,h=>by cases h
 |.fz _::_,_,h=>by cases h
 |.exn _ _ _::_,_,h=>by cases h
theorem aAw:∀{ns:List Bool} {vs:List V},Rps K μ H (ns.map D.bl) vs->vs=ns.map V.bl
 |[],vs,h=>by simpa[Rps]using h
 |n::r,vs,h=>by
  simp only[aAV,Rps,Rp]at h
  obtain⟨v,t,rfl,rfl,h3⟩:=h
  rw[aAw h3];rfl
variable{bs:List Bool}
theorem aPu{its:Array Value}(rv:Vals (bs.map V.bl) its.toList){v:Value}(hv:its[i]?=some v):v=.bool (bs.getD i false):=by
 have hv:its.toList[i]?=some v:=by simpa using hv
 have hlt:i < bs.length:=by have:=(aAE.mp hv).1;have h2:=rv.length;simp at h2 this;lia
 obtain⟨w',hw,rw'⟩:=rv.get (show(bs.map V.bl)[i]?=some (.bl (bs.getD i false)) by simp[hlt])
 rw[hv]at hw
 cases hw
 exact rw'
theorem aBk(bs:List Bool):(List.range bs.length).all (λi=>bs.getD i false)=bs.all id:=by
 rw[aGS,aBC,aBC]
 constructor
 ·intro h x hx
  obtain⟨i,hi,rfl⟩:=aEA.mp hx
  have:=h i (List.mem_range.mpr hi)
  simpa[hi]using this
 ·intro h i hi
  have hi:=List.mem_range.mp hi
  have:=h bs[i] (aEE hi)
  simpa[hi]using this
theorem aBu(hc:X.calm=true):CallR X (.builtin "all") (λxs H Q=>∃(p:Addr) (bs:List Bool),xs=[.ref p]/\(SqL X.K H p (bs.map V.bl)\/SqT X.K H p (bs.map V.bl))/\Q (.bl (bs.all id)) H):=by
 intro pins s σ H xs us Q I r h
 obtain⟨p,bs,rfl,hq,q⟩:=h
 obtain⟨u,rfl,rx⟩:=vals1 r
 cases rx
 refine call_all_walk (aDs hc I hq λs2 J fp its St rv W st0 hfp hI=>?_)
 have hl:bs.length=its.size:=by have:=rv.length;simpa using this
 refine⟨J,fp,[J],_,_,St,λi=>bs.getD i false,rfl,W,st0,λi v s3 Q3 E3 hv q3=>?_,λh' tk hk=>?_⟩
 ·rw[aPu rv hv];exact aDH q3
 ·rw[<- hl,aBk]
  exact⟨.bl _,H,hI h' tk hk,rfl,q⟩
noncomputable def cBls(g:List Bool->Bool)(ws:List W)(M:Mm):Oc W:=match ws with
 |[w]=>match sv M w with
  |some xs=>match blsOf xs with
   |some bs=>okD (.bl (g bs)) M
   |none=>.bad
  |none=>.bad
 |_=>.bad
noncomputable abbrev cAllB:=cBls λbs=>bs.all id
theorem clBls{g:List Bool->Bool}:Cl K Z (λxs H Q=>∃(p:Addr) (bs:List Bool),xs=[.ref p]/\(SqL K H p (bs.map V.bl)\/SqT K H p (bs.map V.bl))/\Q (.bl (g bs)) H) (cBls g):=by
 intro μ H M ws vs Q hr rx p
 match ws,rx,p with
 |[],_,p=>exact p.elim
 |[w],⟨v,r,e1,e2,e3⟩,p =>
  cases e3;subst e1
  simp only[cBls]at p
  cases q:sv M w with
  |none=>rw[q]at p;exact p.elim
  |some xs =>
   rw[q]at p
   simp only at p
   cases q2:blsOf xs with
   |none=>rw[q2]at p;exact p.elim
   |some ns =>
    rw[q2]at p
    obtain⟨a,us,rfl,h1,r1⟩:=lU hr e2 q
    have e:=wP q2
    subst e
    have e:=aAw r1
    subst e
    exact⟨a,ns,rfl,h1,p μ H .refl hr _ (by simp[Rw,Rp])⟩
 |_::_::_,_,p=>exact p.elim
theorem callAllB(hc:X.calm=true):ClG X K Z (.builtin "all") cAllB:=λhk=>⟨_,hk▸aBu hc,clBls⟩
variable{w x:W}{Q:W->Mm->Prop}
theorem rT{ds:List D}(h:lr M x=some ds)(e:ds=ns.map D.int)(hz:ns.length < 64)(q:Q (.d (.lst ((srt ns).map D.int))) M):Okx EX (cSorted [x] M) Q:=by
 subst e
 unfold cSorted;simp only[h,pF];rw[aAH hz];exact aH q
theorem aMf{g:List Bool->Bool}{ds:List D}(h:sv M x=some ds)(e:ds=bs.map D.bl)(q:Q (.d (.bl (g bs))) M):Okx EX (cBls g [x] M) Q:=by
 subst e
 unfold cBls;simp only[h,aCu];exact aH q
end EV
namespace EV
open L2
variable{EX:D->Mm->Prop}{K:Frag}{a b c o i e:Expr}{fs:FA}{fe:FE}
end EV
namespace L2
variable{σ:St}
theorem Inv.turnLay{T:Addr}{o:HO}(I:Inv X pins σ H s)(hf:∀b∈fp,FpOk X pins H b)(k:∀b u,b∉fp->s.heap.get? b=some u->h'.get? b=some u)(hT:s.heap.objs.size<=T)(new:ObjOk X.prog X.w (upd H T o) h' T o) :
  Inv X pins σ (upd H T o) {s with heap:=h',toks:=t'}:=by
 have hn:H T=none:=I.hok.fresh hT
 have nfp:∀b u,H b=some u->b∉fp:=λb u e z=>by rw[(hf b z).1]at e;cases e
 have lt:∀b u,s.heap.get? b=some u->b≠T:=λb u e z=>by subst z;exact absurd (aAF e) (Nat.not_lt.mpr hT)
 have neT:∀b u,H b=some u->b≠T:=λb u e z=>by rw[z,hn]at e;cases e
 refine I.step (g':=s.gens) (d':=s.drawn) (ch:=fp) (λb hb=>?_) (λb u _ _ hc e _=>k b u hc e) (λb u _ _ hc e _=>⟨u.slots,k b u hc e⟩) (λb u _ e n=>by rw[aU (lt b u e)];exact n)
  (λb u hc e=>⟨u,k b u hc e⟩) (λb xs e=>by rw[aU (neT b _ e)];exact e) (λb u v e=>by rw[aU (neT b _ e)];exact e) (λb ps e=>⟨#[],by rw[aU (neT b _ e),e];simp⟩) (λm hm=>?_) (λb u e=>?_) I.bare
 ·obtain⟨_,f1,_,f3,f4,f5⟩:=hf b hb
  exact⟨f3,f1,f4,f5⟩
 ·obtain⟨u,es,ep,ho,r⟩:=hm
  exact⟨u,es,ep,k _ u (λz=>(hf _ z).2.1 rfl) ho,r⟩
 ·by_cases hb:b=T
  ·subst hb;rw[bB]at e;cases e;exact new
  ·rw[aU hb]at e
   refine(I.hok b u e).stay (λc v hc q=>k c v ?_ q) (λc q=>by rw[aU (neT c _ q)];exact q) λc xs q=>by rw[aU (neT c _ q)];exact q
   rcases hc with z|z
   ·rw[z];exact nfp b u e
   ·exact nfp c _ z
theorem Inv.turnedL(I:Inv X pins σ H s)(hf:∀b∈fp,FpOk X pins H b)(k:∀b u,b∉fp->s.heap.get? b=some u->h'.get? b=some u):Inv X pins σ H {s with heap:=h',toks:=t'}:=by
 have nfp:∀b u,H b=some u->b∉fp:=λb u e z=>by rw[(hf b z).1]at e;cases e
 refine I.step (g':=s.gens) (d':=s.drawn) (ch:=fp) (λb hb=>?_) (λb u _ _ hc e _=>k b u hc e) (λb u _ _ hc e _=>⟨u.slots,k b u hc e⟩) (λ_ _ _ _ n=>n)
  (λb u hc e=>⟨u,k b u hc e⟩) (λ_ _ e=>e) (λ_ _ _ e=>e) (λb ps e=>⟨#[],by rw[e];simp⟩) (λm hm=>?_) (λb u e=>?_) I.bare
 ·obtain⟨_,f1,_,f3,f4,f5⟩:=hf b hb
  exact⟨f3,f1,f4,f5⟩
 ·obtain⟨u,es,ep,ho,r⟩:=hm
  exact⟨u,es,ep,k _ u (λz=>(hf _ z).2.1 rfl) ho,r⟩
 ·refine(I.hok b u e).stay (λc v hc q=>k c v ?_ q) (λ_ q=>q) λ_ _ q=>q
  rcases hc with z|z
  ·rw[z];exact nfp b u e
  ·exact nfp c _ z
noncomputable section
def SqB(b:Bool)(K:Frag)(H:Hp)(a:Addr)(xs:List V):Prop:=if b=true then SqL K H a xs else SqT K H a xs
def It0(b:Bool)(h:Heap)(it src:Addr)(i:Nat):Prop:=if b=true then h.IsListIter it src i else h.IsTupleIter it src i
def IsB(b:Bool)(h:Heap)(a:Addr)(xs:Array Value):Prop:=if b=true then h.IsList a xs else h.IsTuple a xs
end
theorem It0.at{b:Bool}{h h':Heap}{it src:Addr}{i:Nat}(x:It0 b h it src i)(k:∀o,h.get? it=some o->h'.get? it=some o):It0 b h' it src i:=by
 cases b
 ·exact Heap.IsTupleIter.at x k
 ·exact Heap.IsListIter.at x k
variable{b:Bool}
theorem It0.obj(x:It0 b h it src i):∃o,h.get? it=some o/\∀v,o.data≠.cell v:=by
 cases b
 ·obtain⟨o,e,c,d⟩:=(show h.IsTupleIter it src i from x)
  exact⟨o,e,λv z=>by rw[d]at z;cases z⟩
 ·obtain⟨o,e,c,d⟩:=(show h.IsListIter it src i from x)
  exact⟨o,e,λv z=>by rw[d]at z;cases z⟩
theorem aGd(x:It0 b h it src i)(y:IsB b h src xs):ZP.It1 h it src i xs:=by
 cases b
 ·exact .inr ⟨x,y⟩
 ·exact .inl ⟨x,y⟩
theorem aMm(y:IsB b h src ys)(x:ZP.It1 h it src i xs):It0 b h it src i:=by
 cases b
 ·rcases x with⟨_,o,e,c,_⟩|⟨x,_⟩
  ·obtain⟨o',e',c',_⟩:=(show h.IsTuple src ys from y)
   rw[e]at e';cases e';rw[c]at c';simp at c'
  ·exact x
 ·rcases x with⟨x,_⟩|⟨_,o,e,c,_⟩
  ·exact x
  ·obtain⟨o',e',c',_⟩:=(show h.IsList src ys from y)
   rw[e]at e';cases e';rw[c]at c';simp at c'
theorem IsB.at(x:IsB b h a xs)(k:∀o,h.get? a=some o->h'.get? a=some o):IsB b h' a xs:=by
 cases b
 ·obtain⟨o,e,r⟩:=(show h.IsTuple a xs from x);exact⟨o,k o e,r⟩
 ·obtain⟨o,e,r⟩:=(show h.IsList a xs from x);exact⟨o,k o e,r⟩
theorem IsB.lt(x:IsB b h a xs):a < h.objs.size:=by
 cases b
 ·obtain⟨o,e,r⟩:=(show h.IsTuple a xs from x);exact aAF e
 ·obtain⟨o,e,r⟩:=(show h.IsList a xs from x);exact aAF e
theorem SqB.inv{xs:List V}(I:Inv X pins σ H s)(h:SqB b X.K H a xs):∃its:List Value,Vals xs its/\IsB b s.heap a its.toArray/\xs.length<=sizeLine:=by
 cases b
 ·obtain⟨its,r,pl,hz⟩:=I.tuple (show SqT X.K H a xs from h);exact⟨its,r,pl,hz⟩
 ·obtain⟨its,r,pl,hz⟩:=I.list (show SqL X.K H a xs from h);exact⟨its,r,pl.isList,hz⟩
variable{prog:Program}{E:Value->Shared->Prop}
end L2
namespace EV
open L2
variable{EX:D->Mm->Prop}
section
variable{K:Frag}{a b:Expr}{g:FE}{tg:Expr}
theorem aGn{T:Addr}{x y:D}{u:V}(hr:HR K μ H M)(hT:H T=none)(r1:Rp K μ H x u)(r2:Rp K μ H y v):Ext μ H μ (upd H T (.tup [u,v]))/\HR K μ (upd H T (.tup [u,v])) M/\Rp K μ (upd H T (.tup [u,v])) (.tup [x,y]) (.ref T):=by
 have e:=fS (o:=.tup [u,v]) hr hT
 refine⟨e,hr.lay hT,?_⟩
 simp only[Rp]
 exact⟨T,[u,v],rfl,bB,.cons (Rp.ext hr.lsts e _ _ r1) (.cons (Rp.ext hr.lsts e _ _ r2) .nil)⟩
end
section
variable{g:FE}
end
end EV
namespace L2
variable{prog:Program}{E:Value->Shared->Prop}{e:Addr}{c:Int}{old:Value}
theorem aCd{x:Value}(he:IsEnum s.heap e it c old)(h1:ZP.It1 s.heap it src i xs)(hx:xs[i]?=some x)(hne:e≠it)(hes:src≠e)
  (hQ:∀h',IsEnumOut h' e it (c+1) x s.heap.objs.size->ZP.It1 h' it src (i+1) xs->h'.get? s.heap.objs.size=some {cls:=.type "tuple",data:=.seq #[.int c s.toks,x]} ->
   (∀b o,b≠e->b≠it->s.heap.get? b=some o->h'.get? b=some o)->Q (.ref s.heap.objs.size) {s with heap:=h',toks:=s.toks+1}) :
  wpAny (model prog w) A (Builtin.«enumerate.__next__» ⟨[.ref e],[]⟩) (λfin s'=>∃v,fin=.done (.ret v)/\Q v s') E s:=by
 obtain⟨hp,g,d,tk,os⟩:=s
 show wpAny _ _ (field (.ref e) 2 >>= _) _ _ _
 refine aAB (aAZ he rfl (x:=.ref it) rfl (aAB (h1.next hx λk1 hit1 hs1=>?_)))
 have hs1:Heap.SameBut it hp k1:=hs1
 have he1:IsEnum k1 e it c old:=(hs1.2 e hne).trans he
 show wpAny _ _ (field (.ref e) 3 >>= _) _ _ ⟨k1,g,d,tk,os⟩
 refine aAB (aAZ he1 rfl (x:=rawInt c) rfl ?_)
 show wpAny _ _ (field (.ref e) 4 >>= _) _ _ ⟨k1,g,d,tk,os⟩
 refine aAB (aAZ he1 rfl (x:=.none) rfl ?_)
 show wpAny _ _ (mkInt c >>= _) _ _ ⟨k1,g,d,tk,os⟩
 refine aAB (wpAny_mkInt ?_)
 show wpAny _ _ (setField (.ref e) 3 (rawInt (c+1)) >>= _) _ _ ⟨k1,g,d,tk+1,os⟩
 refine aAB (aBU he1 (by simp) λk2 he2 hs2=>?_)
 have hs2:Heap.SameBut e k1 k2:=hs2
 have he2:IsEnum k2 e it (c+1) old:=he2
 show wpAny _ _ (setField (.ref e) 4 .none >>= _) _ _ ⟨k2,g,d,tk+1,os⟩
 refine aAB (aBU he2 (by simp) λk3 he3 hs3=>?_)
 have hs3:Heap.SameBut e k2 k3:=hs3
 have he3:IsEnum k3 e it (c+1) old:=he3
 show wpAny _ _ (newTuple [.int c tk,x] >>= _) _ _ ⟨k3,g,d,tk+1,os⟩
 refine aAB (wpAny_newTuple ?_)
 have hsz:k3.objs.size=hp.objs.size:=by rw[hs3.1,hs2.1,hs1.1]
 have hel:e < hp.objs.size:=aAF he
 obtain⟨k4,hk4⟩:∃k4,k4=k3.push {cls:=.type "tuple",data:=.seq #[.int c tk,x]}:=⟨_,rfl⟩
 rw[<- hk4]
 have he4:IsEnum k4 e it (c+1) old:=by rw[hk4];exact aAA _ he3
 have ht4:k4.get? hp.objs.size=some {cls:=.type "tuple",data:=.seq #[.int c tk,x]}:=by rw[hk4,<- hsz];exact aAG _ rfl
 have kp4:∀b o,b≠e->b≠it->hp.get? b=some o->k4.get? b=some o:=λb o q1 q2 q=>by
  rw[hk4];exact aAA _ (hs3.extBut b o q1 (hs2.extBut b o q1 (hs1.extBut b o q2 q)))
 have it4:ZP.It1 k4 it src (i+1) xs:=by
  rw[hk4]
  exact hit1.at (λo q=>aAA _ (hs3.extBut it o hne.symm (hs2.extBut it o hne.symm q))) λo q=>aAA _ (hs3.extBut src o hes (hs2.extBut src o hes q))
 show wpAny _ _ (Builtin.SmallTypes.ownedTupleIsFree (.ref e) >>= _) _ _ ⟨k4,g,d,tk+1,os⟩
 rw[hsz]
 clear hk4 he3 hs3 he2 hs2 he1 hs1 hit1 hsz
 refine aAB ?_
 unfold Builtin.SmallTypes.ownedTupleIsFree
 refine aAB (aAZ he4 rfl (x:=.none) rfl (aAD ?_))
 simp only[aDI]
 refine aAB (aEB (aAB (aAZ he4 rfl (x:=old) rfl (aAB (aBU he4 (by simp) λk5 he5 hs5=>?_)))))
 have hs5:Heap.SameBut e k4 k5:=hs5
 have he5:IsEnum k5 e it (c+1) x:=he5
 show wpAny _ _ (Builtin.SmallTypes.ownedTupleHandOut (.ref e) (.ref hp.objs.size) >>= _) _ _ ⟨k5,g,d,tk+1,os⟩
 refine aAB ?_
 unfold Builtin.SmallTypes.ownedTupleHandOut
 refine aAB (aBU he5 (by simp) λk6 he6 hs6=>?_)
 have hs6:Heap.SameBut e k5 k6:=hs6
 have he6:IsEnumOut k6 e it (c+1) x hp.objs.size:=he6
 refine aBU he6 (by simp) λk7 he7 hs7=>?_
 have hs7:Heap.SameBut e k6 k7:=hs7
 have he7:IsEnumOut k7 e it (c+1) x hp.objs.size:=he7
 have up:∀b o,b≠e->k4.get? b=some o->k7.get? b=some o:=λb o q1 q=>hs7.extBut b o q1 (hs6.extBut b o q1 (hs5.extBut b o q1 q))
 refine aAB (aHD (aAD ⟨_,rfl,hQ k7 he7 (it4.at (λo q=>up it o hne.symm q) λo q=>up src o hes q) (up _ _ (aBL hel) ht4) λb o q1 q2 q=>up b o q1 (kp4 b o q1 q2 q)⟩))
theorem aBe{Q:Option Value->Shared->Prop}(hh:A.handled=none)(he:IsEnum s.heap e it c old)(h1:ZP.It1 s.heap it src i xs)(hx:xs[i]?=none)
  (hQ:∀h',Heap.ExtBut it s.heap h'->Q none {s with heap:=h'}):wpAny (model prog w) A (pyNext (.ref e)) Q E s:=by
 have hT:s.TypeIs (.ref e) "enumerate":=⟨_,he,rfl⟩
 unfold pyNext
 refine aAB (aDM (aBQ (name:=Str.ofString "__next__") hT aDT (aBX aDT hT F.entry_enumerate_next ?_ (F.args_enumerate_next_1 _))))
 show wpAny _ _ (field (.ref e) 2 >>= _) _ _ _
 refine aAB (aAZ he rfl (x:=.ref it) rfl (aAB (h1.stop hh hx λh' x he' hx'=>?_)))
 obtain⟨o,ho,hc⟩:=hx'
 refine aAB (wpAny_isInstance (T:="StopIteration") (b:=true) ⟨o,ho,hc⟩ isSubtype_stop (aAD (hQ _ he')))
noncomputable def tne(b:Bool)(e it src:Addr)(c:Int)(i:Nat)(h:Heap):Prop:=(∃old,IsEnum h e it (c+i) old)/\It0 b h it src i
noncomputable def Ite(b:Bool)(K:Frag)(src:Addr)(c:Int)(xs:List V):It :=
 ⟨λi H=>SqB b K H src xs/\i < xs.length,λi H x H'=>∃T u,H T=none/\x=.ref T/\xs[i]?=some u/\H'=upd H T (.tup [.int (c+i),u]),λi H=>SqB b K H src xs/\xs.length<=i⟩
theorem sQ{elts:List Expr}{x1}{b:Bool}(c:Int)(hne:e≠it)(hes:src≠e)(his:src≠it)(xs:List V):Turn P w K (.Tuple elts x1 pos) (Ite b K src c xs) [e,it] e (tne b e it src c)where
 mem:=by simp
 obj:=λi h st q hb=>by
  simp only[aAO,aBW,aED]at hb
  rcases hb with rfl|rfl
  ·obtain⟨old,he⟩:=st.1;exact⟨_,he,λv z=>by cases z⟩
  ·exact st.2.obj
 keep:=λi h h' st k=>by
  obtain⟨⟨old,he⟩,h1⟩:=st
  exact⟨⟨old,k e (by simp) _ he⟩,h1.at λo q=>k it (by simp) o q⟩
 item:=by
  intro X hP hw hK hc i pins s σ H E I hf st hg
  subst hP hw hK
  obtain⟨sx,hx⟩:=hg
  obtain⟨its,r1,y1,z1⟩:=sx.inv I
  obtain⟨⟨old,he⟩,h1⟩:=st
  have hT:s.TypeIs (.ref e) "enumerate":=⟨_,he,rfl⟩
  obtain⟨u,hu,ru⟩:=r1.get (aEF hx)
  have elt:e < s.heap.objs.size:=aAF he
  unfold pyNext
  refine aAB (aDM (aBQ (name:=Str.ofString "__next__") hT aDT (aBX aDT hT F.entry_enumerate_next
   (aCd he (aGd h1 y1) (x:=u) (by simpa using hu) hne hes λh' he' a1 ht k'=>aAD ?_) (F.args_enumerate_next_1 _))))
  refine⟨_,rfl,?_⟩
  have y1':IsB b h' src its.toArray:=y1.at λo q=>k' src o hes his q
  refine wpAny_letOwnedTupleGo_enum (s:={s with heap:=h',toks:=s.toks+1}) he' λh2 he2 sb=>?_
  have sb:Heap.SameBut e h' h2:=sb
  have kk:∀q o,q∉[e,it]->s.heap.get? q=some o->h2.get? q=some o:=λq o hb z=>by
   simp only[aAO,aBW,aED,not_or]at hb
   exact sb.extBut q o hb.1 (k' q o hb.1 hb.2 z)
  have hp2:=sb.extBut _ _ (aBL elt) ht
  refine⟨.ref s.heap.objs.size,upd H s.heap.objs.size (.tup [.int (c+i),xs[i]]),I.turnLay (t':=s.toks+1) hf kk (aAI _) (show ObjOk X.prog X.w _ h2 _ (.tup [.int (c+i),xs[i]])from⟨by show 2<=sizeLine;decide,[.int (c+i) s.toks,u],.cons ⟨_,rfl⟩ (.cons ru .nil),_,hp2,rfl,_,rfl⟩),rfl,⟨_,xs[i],I.hok.fresh (aAI _),rfl,aEF hx,rfl⟩,?_,λq hb=>?_⟩
  ·refine⟨⟨_,by rw[show c+((i+1:Nat):Int)=c+i+1 by lia];exact he2⟩,(aMm y1' a1).at λo q=>sb.extBut it o hne.symm q⟩
  ·rw[aU]
   ·exact(hf q hb).1
   ·rintro rfl
    simp only[aAO,aBW,aED]at hb
    rcases hb with q|q
    ·rw[q]at elt;exact absurd elt (aDZ _)
    ·obtain⟨o,z,_⟩:=h1.obj
     rw[<- q]at z
     exact absurd (aAF z) (aDZ _)
 done:=by
  intro X hP hw hK hc i pins s σ H E I hf st hg
  subst hP hw hK
  obtain⟨sx,hend⟩:=hg
  obtain⟨its,r1,y1,z1⟩:=sx.inv I
  obtain⟨⟨old,he⟩,h1⟩:=st
  have l1:=r1.length
  refine aBe (I.ok.hd hc) he (aGd h1 y1) (by simp;lia) λh' hk=>⟨rfl,I.turnedL (t':=s.toks) hf λq o hb z=>?_⟩
  simp only[aAO,aBW,aED,not_or]at hb
  exact hk q o hb.2 z
 self:=λA i s Q E st hQ=>by
  obtain⟨⟨old,he⟩,_⟩:=st
  have hT:s.TypeIs (.ref e) "enumerate":=⟨_,he,rfl⟩
  refine wpAny_pyIter_slot hT F.slot_enumerate_iter (aBX F.slot_enumerate_iter hT F.entry_enumerate_iter ?_ (F.args_enumerate_iter_1 _))
  show wpAny _ _ (ret (.ref e)) _ _ s
  exact aAD ⟨_,rfl,"enumerate",_,hT,aDT.lookup,hQ⟩
end L2
namespace L2
open AutoSeq1 (wpAny_loadPart')
noncomputable abbrev eH1(b:Bool)(h:Heap)(l:Addr):Heap:=h.push {cls:=.type (if b=true then "list_iterator"else "tuple_iterator"),data:=.fields #[.ref l,.int 0 0]}
noncomputable abbrev eH2(b:Bool)(h:Heap)(l:Addr)(c:Int):Heap:=(eH1 b h l).push {cls:=.type "enumerate",data:=.fields #[.none,.bool false,.ref h.objs.size,rawInt c,.none,.none]}
variable{prog:Program}{E:Value->Shared->Prop}
theorem aEi(b:Bool)(h:Heap)(l:Addr)(c:Int):(eH1 b h l).objs.size=h.objs.size+1/\IsEnum (eH2 b h l c) (h.objs.size+1) h.objs.size c .none/\It0 b (eH2 b h l c) h.objs.size l 0/\∀q o,h.get? q=some o->(eH2 b h l c).get? q=some o:=by
 have z1:(eH1 b h l).objs.size=h.objs.size+1:=aAW ..
 refine⟨z1,?_,?_,λq o x=>aAA _ (aAA _ x)⟩
 ·have:=aAG (eH1 b h l) (o:={cls:=.type "enumerate",data:=.fields #[.none,.bool false,.ref h.objs.size,rawInt c,.none,.none]}) rfl
  rw[z1]at this;exact this
 ·cases b
  ·exact⟨_,aAA _ (aAG _ rfl),rfl,rfl⟩
  ·exact⟨_,aAA _ (aAG _ rfl),rfl,rfl⟩
end L2
namespace EV
open L2
variable{EX:D->Mm->Prop}
section
variable{K:Frag}{a b:Expr}{g:FE}{tg:Expr}
noncomputable def enumT(c:Int)(xs:List D):List D:=xs.mapIdx λi d=>.tup [.int (c+i),d]
variable{c:Int}
theorem rN{xs:List D}{d:D}(h:(enumT c xs)[i]?=some d):∃x,xs[i]?=some x/\d=.tup [.int (c+i),x]:=by
 unfold enumT at h
 rw[List.getElem?_mapIdx,aAR]at h
 obtain⟨x,h1,rfl⟩:=h
 exact⟨x,h1,rfl⟩
theorem lZ{xs:List D}:(enumT c xs).length=xs.length:=by simp[enumT]
end
section
variable{g:FE}
end
end EV
namespace L2
open AutoSeq1 (wpAny_loadPart')
theorem xK(l b:Addr)(xs ys:Array Value)(n n2:Nat)(dd:Option Addr)(sl:Array (Option Value))(h0:¬(!xs.isEmpty&&Builtin.List.listTooLong (xs.size+ys.size))=true)(h1:xs.size<=sizeLine)(h2:xs.size+ys.size<=sizeLine+1) :
  Meets (Builtin.«list.extend» ⟨[.ref l,.ref b],[]⟩) (λ_ R s=>s.heap.get? l=some {cls:=.type "list",dict:=none,data:=.seq xs n,slots:=#[]}/\s.heap.get? b=some {cls:=.type "tuple",dict:=dd,data:=.seq ys n2,slots:=sl}/\R (.ok (.ret Value.none)) {s with heap:=s.heap.update l (Obj.mapSeq λx=>x++ys),toks:=s.toks}) :=
 .of_wp λprog w A R s h=>by
  obtain⟨hp,g,d,tk,os⟩:=s;obtain⟨hl,hb,h⟩:=h
  have f1:=aGO;have f2:=AutoSeq1.sub_tuple_tuple;have f3:=AutoSeq1.sub_list_list;have f4:=AutoSeq1.sub_tuple_list;have f5:=AutoSeq1.sub_list_tuple
  have hz':(xs++ys).size<=sizeLine+1:=by rw[aHR];exact h2
  wp_walk using(aFN hl rfl (hz:=h1) (_hz':=hz')),aBK hl,aBK hb
  exact⟨_,rfl,h⟩
noncomputable def rExtendT(K:Frag):V->List V->Hp->VK->Prop:=λx vs H Q=>∃l b xs zs,x=.ref l/\vs=[.ref b]/\H l=some (.lst xs)/\SqT K H b zs/\xs.length+zs.length<=sizeLine/\Q .non (upd H l (.lst (xs++zs)))
theorem yH:MtM X "list.extend" (λx vs H Q=>rExtend x vs H Q\/rExtendT X.K x vs H Q):=by
 intro pins s σ H x vs v us Q I rx rv h
 rcases h with h|h
 ·exact aBv pins s σ H x vs v us Q I rx rv h
 obtain⟨l,b,xs,zs,rfl,rfl,hH,hB,hz,q⟩:=h
 cases rx
 obtain⟨u,rfl,ru⟩:=rv.one
 cases ru
 obtain⟨z,its,n,r,hl,e⟩:=I.lstM hH
 obtain⟨its2,r2,⟨o,e2,c2,n2,d2⟩,z2⟩:=I.tuple hB
 obtain⟨oc,od,odt,osl⟩:=o
 have c2:oc=.type "tuple":=c2
 have d2:odt=.seq its2.toArray n2:=d2
 subst c2 d2
 have l1:=r.length
 have l2:=r2.length
 have hsz:its.toArray.size+its2.toArray.size<=sizeLine:=by rw[aAJ,aAJ];lia
 have hlong:¬(!its.toArray.isEmpty&&Builtin.List.listTooLong (its.toArray.size+its2.toArray.size))=true:=by
  rw[notLongL hsz,aEC]
  exact aBA
 refine aCZ F.slot_list_extend ⟨_,e,rfl⟩ F.entry_list_extend (F.args_list_extend_2 _ _) (xK l b its.toArray its2.toArray n n2 od osl hlong (by rw[aAJ];lia) (by lia)) ⟨e,e2,?_⟩
 refine⟨.non,_,I.lset (its':=its++its2) hH e (by simp) (r.append r2) ?_,rfl,q⟩
 rw[aBB]
 lia
end L2
namespace EV
open L2
variable{EX:D->Mm->Prop}{K:Frag}{a b c o e i:Expr}{es:List Expr}{fs:FA}{fe:FE}{tg:Expr}
noncomputable def pExtendA(x y:W)(M:Mm):Oc W:=match x,y with
 |.ref k,.d (.tup ys)=>match M[k]? with
  |some xs=>if xs.length+ys.length<=16777216 then .ok (.d .non) (M.set k (xs++ys))else .bad
  |_=>.bad
 |x,y=>pExtend x y M
theorem xJ(ho:Ev X K Z o fo)(he:Ev X K Z e fa)(hbase:attributeBase o "extend" X.env (eval o X.env)=eval o X.env:=by rfl)
  (hfew:((backTo cpos (starEach [e] X.env)).all (λx=>!x.1)&&(backToKw cpos (keywordEach [] X.env)).all (λx=>x.1.isSome)&&decide ([e].length+([]:List Keyword).length+(if([]:List Keyword).isEmpty then 0 else 1) < 30))=true:=by rfl)
  (hline:(apos.endLine==cpos.line)=true:=by rfl)(hs:starEach [e] X.env=(false,eval e X.env)::starEach [] X.env:=by rfl)(hplain:(backTo cpos (starEach [] X.env)).any (·.1)=false:=by rfl) :
  Ev X K Z (.Call (.Attribute o "extend" apos) [e] [] cpos) (eM1 pExtendA fo fa):=by
 have h:=sI aEK PySem.F.slot_list_extend PySem.F.type_list_extend yH ho.h (bJ he.h dE hs) hbase hfew hline hs hplain
 rw[ho.k]at h
 refine⟨ho.k,cqE h ?_⟩
 rintro σ H Q ⟨μ,M,L,hr,lr,p⟩
 refine⟨μ,M,L,hr,lr,p.bind.imp λμ1 H1 M1 x e1 hr1 _ p1 v rx=>?_⟩
 cases x with
 |d x=>exact p1.elim
 |ob _ _=>exact p1.elim
 |nest _=>exact p1.elim
 |ref k =>
  refine⟨yX hr1 rx,μ1,M1,L,hr1,lr.ext hr.lsts e1,p1.bind.imp λμ2 H2 M2 y e2 hr2 _ p2 u ry=>?_⟩
  have lst:Pst K Z μ2 H2 (pExtend (.ref k) y M2) (λμ' H' _ w=>∀v,Rw K μ' H' w v->Q v H')->rExtend v [u] H2 Q:=λp2=>by
   simp only[pExtend]at p2
   cases q1:M2[k]? with
   |none=>simp only[q1]at p2;exact p2.elim
   |some xs =>
    cases q2:lv M2 y with
    |none=>simp only[q1,q2]at p2;exact p2.elim
    |some ys =>
     simp only[q1,q2]at p2
     split at p2
     ·rename_i hz
      obtain⟨a,qa,rfl,il⟩:=rx.ext hr1.lsts e2
      obtain⟨a',vs,qa',h1,r1⟩:=hr2.at q1 qa
      rw[qa]at qa';cases qa'
      obtain⟨b,us,rfl,h2,r2⟩:=rU hr2 ry q2
      refine⟨a,b,vs,us,rfl,rfl,h1,h2,by rw[<- r1.length,<- r2.length,aAT];exact hz,?_⟩
      exact p2 μ2 _ (dN qa) (hr2.set qa (r1.append r2)) _ (by simp[Rw,Rp])
     ·exact p2.elim
  cases y with
  |ref j=>exact .inl (lst p2)
  |ob _ _=>exact .inl (lst p2)
  |nest _=>exact .inl (lst p2)
  |d y=>cases y with
   |tup ys =>
    simp only[pExtendA]at p2
    cases q1:M2[k]? with
    |none=>simp only[q1]at p2;exact p2.elim
    |some xs =>
     simp only[q1]at p2
     split at p2
     ·rename_i hz
      obtain⟨a,qa,rfl,il⟩:=rx.ext hr1.lsts e2
      obtain⟨a',vs,qa',h1,r1⟩:=hr2.at q1 qa
      rw[qa]at qa';cases qa'
      simp only[Rw,Rp]at ry
      obtain⟨b,us,rfl,h2,r2⟩:=ry
      refine .inr ⟨a,b,vs,us,rfl,rfl,h1,SqT.of h2,by rw[<- r1.length,<- r2.length,aAT];exact hz,?_⟩
      exact p2 μ2 _ (dN qa) (hr2.set qa (r1.append r2)) _ (by simp[Rw,Rp])
     ·exact p2.elim
   |_=>exact .inl (lst p2)
variable{x y:W}{Q:W->Mm->Prop}
end EV
namespace L2
variable{prog:Program}{E:Value->Shared->Prop}
theorem sA{it t:Addr}{items:Array Value}(hne:t≠it):∀(n i:Nat) (s:Shared) (Q:List Value->Shared->Prop),s.heap.IsListIter it t i->s.heap.IsList t items->i+n<=items.size ->
  (∀h',h'.IsListIter it t (i+n)->Heap.SameBut it s.heap h'->Q ((items.toList.drop i).take n) {s with heap:=h'})->wpAny (model prog w) A (draw (.ref it) n) Q E s
 |0,i,s,Q,hit,_,_,hQ=>by
  show wpAny _ _ (pure []) Q E s
  exact aAD (by simpa using hQ s.heap hit (Heap.SameBut.refl ..))
 |n+1,i,s,Q,hit,ht,hle,hQ=>by
  have hlt:i < items.size:=by lia
  show wpAny _ _ (pyNext (.ref it) >>= _) Q E s
  refine aAB (wpAny_pyNext_list_item hit ht (x:=items[i]) (by simp[hlt]) λh₁ hit₁ hs₁=>?_)
  have ht₁:h₁.IsList t items:=by obtain⟨o,ho,r⟩:=ht;exact⟨o,hs₁.extBut t o hne ho,r⟩
  refine aAB (aAY (sA hne n (i+1) _ _ hit₁ ht₁ (by lia) λh₂ hit₂ hs₂=>aAD ?_))
  have hd:items.toList.drop i=items[i]::items.toList.drop (i+1):=by simp[aCA,hlt]
  have:=hQ h₂ (by rw[show i+(n+1)=i+1+n by lia];exact hit₂) (hs₁.trans hs₂)
  rw[hd,List.take_succ_cons]at this
  exact this
theorem nK{t:Addr}{Q:List Value->Shared->Prop}(hh:A.handled=none)(ht:s.heap.IsList t items)
  (hQ:∀h',Heap.ExtBut s.heap.objs.size s.heap h'->Q items.toList {s with heap:=h'}):wpAny (model prog w) A (unpackItems (.ref t) items.size none) Q E s:=by
 have hlt:t≠s.heap.objs.size:=by obtain⟨o,ho,_⟩:=ht;exact aAN (aAF ho)
 unfold unpackItems
 refine aAB ?_
 ·unfold notIterableAtAll
  refine aAB (wpAny_specialOf ht.typeIs slot_list_iter.lookup ?_)
  refine aAD ?_
  simp only[aBG,aDX]
  refine aAB (aAY (aCS ht ?_))
  have hp:(s.heap.push {cls:=.type "list_iterator",data:=.fields #[.ref t,.int 0 0]}).IsList t items:=by obtain⟨o,ho,r⟩:=ht;exact⟨o,aAA _ ho,r⟩
  refine aAB (aAY (sA hlt items.size 0 _ _ ⟨_,aAG _ rfl,rfl,rfl⟩ hp (by lia) λh₁ hit₁ hs₁=>?_))
  have hall:List.take items.size (List.drop 0 items.toList)=items.toList:=by
   rw[aFU];exact aCO (by simp)
  rw[hall]
  rw[aAL (by simp)]
  have ht₁:h₁.IsList t items:=by obtain⟨o,ho,r⟩:=hp;exact⟨o,hs₁.extBut t o hlt ho,r⟩
  refine aAB (aAY (wpAny_pyNext_list_end hh hit₁ ht₁ (by simp) λh₂ he₂=>?_))
  simp only[Option.isSome_none,aBG,aDX]
  refine aAD (hQ h₂ λb o hb e=>he₂ b o hb (hs₁.extBut b o hb (aAA _ e)))
theorem lY{elts:List Expr}{x1}{t:Addr}{Q:Unit->Shared->Prop}(hh:A.handled=none)(ht:s.heap.IsList t items)
  (hn:(assignEach elts env).length=items.size)(hstar:(assignEach elts env).findIdx? (·.1)=none)
  (h:∀h',Heap.ExtBut s.heap.objs.size s.heap h'->wpAny (model prog w) A (assignInOrder ((assignEach elts env).map (·.2)) items.toList) Q E {s with heap:=h'}) :
  wpAny (model prog w) A (assign (.Tuple elts x1 pos) env (.ref t)) Q E s:=by
 rw[assign_Tuple]
 refine aAB (aDL ?_)
 unfold unpack
 rw[hn,hstar]
 exact aAB (aAY (nK hh ht h))
noncomputable def gTupL(K:Frag)(n:Nat)(t:TGs):TG:=λv σ H Q=>∃a xs,v=.ref a/\SqL K H a xs/\xs.length=n/\t xs σ H Q
theorem aJb{es:List Expr}{k:Nat}{t:TGs}(hc:X.calm=true)(h:PGs X es t)
  (hn:(assignEach es X.env).length=n:=by rfl)(hst:(assignEach es X.env).findIdx? (·.1)=none:=by rfl):PG X (.Tuple es k pos) (gTupL X.K n t):=by
 intro pins s σ H v u Q I r hw
 obtain⟨a,xs,e1,hq,hl,hw⟩:=hw
 subst e1
 cases r
 obtain⟨its,rv,pl,hz⟩:=I.list hq
 have ht:s.heap.IsList a its.toArray:=pl.isList
 refine lY (I.ok.hd hc) ht (by simp[hn,<- hl,rv.length]) hst λh' hx=>?_
 have I1:Inv X pins σ H {s with heap:=h'}:=I.kept (t':=s.toks) λb o e=>hx b o (aAN (aAF e)) e
 exact h pins _ σ H xs _ Q I1 (by simpa using rv) hw
end L2
namespace EV
open L2
variable{EX:D->Mm->Prop}{K:Frag}{es:List Expr}
noncomputable def gTL(n:Nat)(gs:FGs):FG:=λw L M=>match w with
 |.d (.lst xs)=>if xs.length=n then gs xs L M else .bad
 |_=>.bad
theorem aAx{k:Nat}(hc:X.calm=true)(h:Egs X K Z es gs)(hn:(assignEach es X.env).length=n:=by rfl)(hst:(assignEach es X.env).findIdx? (·.1)=none:=by rfl):Eg X K Z (.Tuple es k pos) (gTL n gs):=by
 have h':=aJb (k:=k) (pos:=pos) hc h.h hn hst
 rw[h.k]at h'
 refine⟨h.k,cqG h' λv σ H Q ⟨μ,M,L,w,hr,lr,rx,p⟩=>?_⟩
 cases w with
 |ref i=>exact p.elim
 |ob _ _=>exact p.elim
 |nest _=>exact p.elim
 |d x=>cases x with
  |lst xs =>
   simp only[gTL]at p
   split at p
   ·simp only[Rw,Rp]at rx
    obtain⟨a,vs,e1,q1,_,r1⟩:=rx
    exact⟨a,vs,e1,SqL.of q1,by rw[<- r1.length];assumption,μ,M,L,xs,hr,lr,r1,p⟩
   ·exact p.elim
  |_=>exact p.elim
theorem aMo{xs:List D}(hn:xs.length=n)(h:Okx EX (gs xs L M) QG):Okx EX (gTL n gs (.d (.lst xs)) L M) QG:=by unfold gTL;simp only;rw[aAH hn];exact h
end EV
namespace L2
end L2
namespace EV
open L2
variable{EX:D->Mm->Prop}{K:Frag}{x:W}{Q:W->Mm->Prop}
theorem vK{xs:List D}{k:Int}(hz:xs.length*k.toNat<=16777216/\k < 9223372036854775808 /\ -9223372036854775808<=k)(q:Q (.d (.lst (List.replicate k.toNat xs).flatten)) M):Okx EX (pMulA (.d (.lst xs)) (.d (.int k)) M) Q:=by
 unfold pMulA pMul;simp only[lv];rw[aAH hz];exact aH q
end EV
namespace EV
open L2
variable{EX:D->Mm->Prop}{K:Frag}{a tg:Expr}
end EV
namespace EV
open L2
variable{EX:D->Mm->Prop}{K:Frag}{Q:W->Mm->Prop}
end EV
namespace EV
open L2
noncomputable section
def ZR(K:Frag)(R:Addr->Hp->Prop):Zt:=⟨λx M μ H=>∀μ' H',Ext μ H μ' H'->HR K μ' H' M->∀a,Rp K μ' H' x (.ref a)->R a H',λe h μ' H' e' hr a ra=>h μ' H' (e.trans e') hr a ra⟩
abbrev wishR(E:XK):Addr->Hp->Prop:=λa H'=>E (.ref a) none H'
def spX(K:Frag)(m:Nat)(Fm:Fn):Sp:=λvs H Q E=>vs.length=m/\∃μ M ws,HR K μ H M/\Rws K μ H ws vs/\Pst K (ZR K (wishR E)) μ H (Fm ws M) (Wk K Q)
end
section
variable{K:Frag}{e a b:Expr}{es:List Expr}{fs:FA}{rest:List Stmt}
theorem Pst.never{o:Oc α}{Q:List Addr->Hp->Mm->α->Prop}(h:Pst K Z0 μ H o Q):Pst K Z μ H o Q:=by
 cases o with
 |ok a M=>exact h
 |ex x M=>exact h.elim
 |bad=>exact h
noncomputable def fnX(m n:Nat)(F:FS):Fn:=λws M=>match fnD m n F ws M with
 |.ok w M'=>.ok w M'
 |.ex x M'=>.ex x (M'.take M.length)
 |.bad=>.bad
structure FunG(K:Frag)(x qual:Str)(st:Stmt)(f:Addr)(fd:FuncData):Prop where
 ex:∃(oc:Value) (od:Option Addr) (dV kV doc pm:Value) (an:Option Addr) (cdv ct:Value) (osl:Array (Option Value)),
  fd=fnOf x qual (defArgs st) (defBody st) (defScope st) dV kV doc pm an cdv ct/\K.lookup f=some ⟨oc,od,.func fd,osl⟩/\codeIn K cdv qual=true
theorem _root_.L2.Fun.g{f:Addr}(F:Fun K x qual st f fd):FunG K x qual st f fd:=by
 obtain⟨oc,od,kV,doc,pm,an,cdv,ct,osl,h⟩:=F.ex
 exact⟨oc,od,_,kV,doc,pm,an,cdv,ct,osl,h⟩
structure FunD(K:Frag)(x qual:Str)(st:Stmt)(f:Addr)(fd:FuncData)(d:Value):Prop where
 ex:∃(T:Addr) (oc:Value) (od:Option Addr) (kV doc pm:Value) (an:Option Addr) (cdv ct:Value) (osl:Array (Option Value)),
  fd=fnOf x qual (defArgs st) (defBody st) (defScope st) (.ref T) kV doc pm an cdv ct/\K.lookup f=some ⟨oc,od,.func fd,osl⟩/\codeIn K cdv qual=true/\∃c dd n sl,K.lookup T=some ⟨c,dd,.seq #[d] n,sl⟩
theorem FunD.g{f:Addr}{d:Value}(F:FunD K x qual st f fd d):FunG K x qual st f fd:=by
 obtain⟨T,oc,od,kV,doc,pm,an,cdv,ct,osl,h1,h2,h3,_⟩:=F.ex
 exact⟨oc,od,_,kV,doc,pm,an,cdv,ct,osl,h1,h2,h3⟩
theorem tK{ws:List W}(h:ws.length≠m):fnX m n F ws M=.bad:=by unfold fnX fnD;rw[aAL h]
variable{k:Nat}
theorem tJ{fa:Addr}(hf:FunG K x qual st fa fd)(S:FnScope N ps (defScope st))
  (hb:∀(cdv:Value) (A:Around) (outer:List Env) (s:Shared) (H:Hp) (E:XK),Room k (A.deeper (envOfC qual (defScope st) s.heap.objs.size fa cdv))->Xz (cxOf (CX1 P w) P w K mg base N qual (defScope st) fa cdv A outer s H E) (wishR E) ->
   Ess (cxOf (CX1 P w) P w K mg base N qual (defScope st) fa cdv A outer s H E) K (ZR K (wishR E)) (defBody st) F) :
  FnOk P w K mg base (CX1 P w) (k+1) fa fd ps (spX K ps.length (fnX ps.length N.length F)):=by
 obtain⟨oc,od,dV,kV,doc,pm,an,cdv,ct,osl,rfl,lk,hcd⟩:=hf.ex
 refine aDl lk hcd S (λvs H Q E h=>h.1) λA outer s H vs Q E hr hsp=>⟨_,(hb cdv A outer s H E hr aPy).h,?_⟩
 obtain⟨hv,μ,M,ws,hr,rx,p⟩:=hsp
 refine⟨μ,M,_,hr,pJ rx,?_⟩
 unfold fnX fnD at p
 rw[aAH (by rw[rx.length];exact hv)]at p
 cases q:F (ws.map some++List.replicate (N.length - ws.length) none) M with
 |bad=>rw[q]at p;exact p
 |ex z M' =>
  rw[q]at p
  intro μ1 H1 e1 hr1 a ra
  have hb:=hr1.back e1
  rw[hr.len]at hb
  have hsub:∀a,a∈μ->a∈μ1:=λa ha=>by rw[<- e1.take]at ha;exact aBY ha
  exact p μ H1 e1.back hb a (Rp.sub hsub z _ ra)
 |ok o M' =>
  rw[q]at p
  simp only[eW]at p
  intro μ1 H1 e1 hr1
  have hb:=hr1.back e1
  rw[hr.len]at hb
  cases o with
  |nx L'=>exact λσ' lr'=>p μ H1 e1.back hb _ (by simp[Rw,Rp])
  |bk L'=>exact p.elim
  |ct L'=>exact p.elim
  |rt w =>
   intro v rv
   have hsub:∀a,a∈μ->a∈μ1:=λa ha=>by rw[<- e1.take]at ha;exact aBY ha
   cases w with
   |ob c i=>exact kO (Z:=ZR K (wishR E)) hr e1 hr1 (.inl ⟨_,_,rfl⟩) rv (by revert p;simp only[retc];by_cases hi:i < M.length <;> simp only[hi,aDI,aDX] <;> exact λp=>p)
   |nest c=>exact kO (Z:=ZR K (wishR E)) hr e1 hr1 (.inr ⟨_,rfl⟩) rv (by revert p;simp only[retc];cases nestD M.length M' c <;> exact λp=>p)
   |d x=>exact p μ H1 e1.back hb v (Rp.sub hsub x v rv)
   |ref i =>
    simp only[retc]at p
    by_cases hi:i < M.length
    ·rw[aAH hi]at p
     obtain⟨a,qa,rfl,il⟩:=rv
     refine p μ H1 e1.back hb _ ⟨a,?_,rfl,il⟩
     rw[<- hr.len]at hi
     rw[<- e1.take,List.getElem?_take_of_lt hi];exact qa
    ·rw[aAL hi]at p
     cases q2:M'[i]? with
     |none=>rw[q2]at p;exact p.elim
     |some ds =>
      rw[q2]at p
      obtain⟨a,qa,rfl,il⟩:=rv
      obtain⟨a',vs',qa',h1,r1⟩:=hr1.at q2 qa
      rw[qa]at qa';cases qa'
      have hna:a∉μ:=λz=>by
       obtain⟨j,h2⟩:=List.mem_iff_getElem?.mp z
       have hj:=(aAE.mp h2).1
       have h2:=e1.pre j a h2
       have l1:=(aAE.mp qa).1
       have l2:=(aAE.mp h2).1
       have g1:=(aAE.mp qa).2
       have g2:=(aAE.mp h2).2
       have pw:=aDE.mp hr1.nd
       rw[hr.len]at hj
       exact pw j i l2 l1 (by lia) (g2.trans g1.symm)
      refine p μ H1 e1.back hb _ ?_
      simp only[Rw,Rp]
      exact⟨a,vs',rfl,h1,hna,Rps.sub hsub _ _ r1⟩
theorem yF{ws:List W}{M1:Mm}{Q:VK}{E:XK}(hlen:∀ws M,ws.length≠m->Fm ws M=.bad)(hr1:HR K μ1 H1 M1)(rx:Rws K μ1 H1 ws vs)(p1:Pst K (ZR K (wishR E)) μ1 H1 (Fm ws M1) (Wk K Q)):spX K m Fm vs H1 Q E:=by
 refine⟨?_,μ1,M1,ws,hr1,rx,p1⟩
 by_cases hw:ws.length=m
 ·rw[<- rx.length];exact hw
 ·rw[hlen ws M1 hw]at p1;exact p1.elim
noncomputable section
abbrev EofR(R:Addr->Hp->Prop):XK:=λv _ H'=>∃a,v=.ref a/\R a H'
theorem ZR.to(h:∀a H,R a H->wishR (EofR R) a H:=λa H h=>⟨a,rfl,h⟩){o:Oc α}{Q:List Addr->Hp->Mm->α->Prop}(p:Pst K (ZR K R) μ H o Q):Pst K (ZR K (wishR (EofR R))) μ H o Q:=by
 cases o with
 |ok a M=>exact p
 |ex x M=>exact λμ' H' e hr a ra=>h a H' (p μ' H' e hr a ra)
 |bad=>exact p
theorem aEa{fa:Addr}(hz:Xz X R)(Gf:FnOk X.prog X.w X.K X.mg X.base (CX1 X.prog X.w) k fa fd ps (spX K m Fm))(hr:Room k X.A)(hm:X.mg x=some (.ref fa))(hk:keepIn X.K (.ref fa)=true)(hb:Binds X.K fd ps [])
  (ha:Ea X K (ZR K R) (e::es) fs)(hg:Gl X x:=by rfl)(hdb:(x==("__debug__":Str))=false:=by decide)(he:starEach (e::es) X.env=(false,eval e X.env)::starEach es X.env:=by rfl)(hpl:(backTo pos (starEach es X.env)).any (·.1)=false:=by rfl)
  (hlen:∀ws M,ws.length≠m->Fm ws M=.bad:=by intro ws M h;first|exact aAL h|rfl):Ev X K (ZR K R) (.Call (.Name x p) (e::es) [] pos) (eA Fm fs):=by
 refine⟨ha.k,cqE (oG (E:=EofR R) Gf hr hg hm hk hb .nil (nP rfl rfl ⟨λpins σ ev s' h=>hz.go pins σ ev s' (h.imp λa H ⟨a',q1,q2⟩=>by cases q1;exact q2)⟩) ha.h hdb he hpl) ?_⟩
 rintro σ H Q ⟨μ,M,L,hr,lr,p⟩
 refine⟨μ,M,L,hr,lr,p.bind.imp λμ1 H1 M1 ws e1 hr1 _ p1 vs rx=>?_⟩
 show spX K m Fm (vs++[]) H1 Q (EofR R)
 rw[aDU]
 exact yF hlen hr1 rx (ZR.to (p:=p1))
theorem aCx{fa:Addr}(Gf:FnOk X.prog X.w X.K X.mg X.base (CX1 X.prog X.w) k fa fd ps (spX K m Fm))(hr:Room k X.A)(hm:X.mg x=some (.ref fa))(hk:keepIn X.K (.ref fa)=true)(hb:Binds X.K fd ps [])
  (ha:Ea X K Z0 (e::es) fs)(hg:Gl X x:=by rfl)(hdb:(x==("__debug__":Str))=false:=by decide)(he:starEach (e::es) X.env=(false,eval e X.env)::starEach es X.env:=by rfl)(hpl:(backTo pos (starEach es X.env)).any (·.1)=false:=by rfl)
  (hlen:∀ws M,ws.length≠m->Fm ws M=.bad:=by intro ws M h;first|exact aAL h|rfl):Ev X K Z0 (.Call (.Name x p) (e::es) [] pos) (eA Fm fs):=by
 refine⟨ha.k,cqE (oG (E:=E0) Gf hr hg hm hk hb .nil (nP rfl rfl (wU λ_ _ z=>z)) ha.h hdb he hpl) ?_⟩
 rintro σ H Q ⟨μ,M,L,hr,lr,p⟩
 refine⟨μ,M,L,hr,lr,p.bind.imp λμ1 H1 M1 ws e1 hr1 _ p1 vs rx=>?_⟩
 show spX K m Fm (vs++[]) H1 Q E0
 rw[aDU]
 exact yF hlen hr1 rx (Pst.never p1)
def aDef(fs:FA)(ds:List D):FA:=λL M=>(fs L M).bind λws M1=>.ok (ws++ds.map W.d) M1
theorem Rws.append:∀{ws us:List W} {vs zs:List V},Rws K μ H ws vs->Rws K μ H us zs->Rws K μ H (ws++us) (vs++zs)
 |[],_,_,_,h,t=>by cases h;exact t
 |_::_,_,_,_,⟨v,r,e1,e2,e3⟩,t=>by subst e1;exact⟨v,_,rfl,e2,Rws.append e3 t⟩
def nx(Fm:Fn):Fn:=λws M=>match Fm ws M with
 |.ok w M'=>.ok w M'
 |_=>.bad
theorem cQ{fa:Addr}(Gf:FnOk X.prog X.w X.K X.mg X.base CX0 k fa fd ps (spF K Z0 m Fm))(hr:Room k X.A)(hm:X.mg x=some (.ref fa))(hk:keepIn X.K (.ref fa)=true)(hb:Binds X.K fd ps [])
  (ha:Ea X K Z (e::es) fs)(hg:Gl X x:=by rfl)(hdb:(x==("__debug__":Str))=false:=by decide)(he:starEach (e::es) X.env=(false,eval e X.env)::starEach es X.env:=by rfl)(hpl:(backTo pos (starEach es X.env)).any (·.1)=false:=by rfl)
  (hlen:∀ws M,ws.length≠m->Fm ws M=.bad:=by intro ws M h;first|exact aAL h|rfl):Ev X K Z (.Call (.Name x p) (e::es) [] pos) (eA (nx Fm) fs):=by
 refine⟨ha.k,cqE (oG Gf hr hg hm hk hb .nil pass0 ha.h hdb he hpl) ?_⟩
 rintro σ H Q ⟨μ,M,L,hr,lr,p⟩
 refine⟨μ,M,L,hr,lr,p.bind.imp λμ1 H1 M1 ws e1 hr1 _ p1 vs rx=>?_⟩
 show spF K Z0 m Fm (vs++[]) H1 Q E0
 rw[aDU]
 have p2:Pst K Z0 μ1 H1 (Fm ws M1) (Wk K Q):=by
  unfold nx at p1
  cases q:Fm ws M1 with
  |ok w M'=>rw[q]at p1;exact p1
  |ex z M'=>rw[q]at p1;exact p1.elim
  |bad=>rw[q]at p1;exact p1.elim
 refine⟨?_,μ1,M1,ws,hr1,rx,p2⟩
 by_cases hw:ws.length=m
 ·rw[<- rx.length];exact hw
 ·rw[hlen ws M1 hw]at p2;exact p2.elim
theorem aAr(hr:HR K μ H M){p:Addr}{o:HO}(hp:H p=none):Ext μ H μ (upd H p o)/\HR K μ (upd H p o) M:=⟨fS hr hp,hr.lay hp⟩
def sRaise(c f:Str)(fe:FE):FS:=λL M=>(fe L M).bind λw M1=>match w with
 |.d d=>.ex (.exn c f [d]) M1
 |_=>.bad
end
theorem vE{c:Str}(hz:Xz X R)(F:Xc K c C LE)(hO:xcB X.K C (.ref LE::vb) (some (.ref fI))=true)(hF:LeF X.K LE)(hf:PySem.W.typeIn X.K (.ref fI)=some (.type "function"))
  (G:FnOk X.prog X.w X.K X.mg X.base (CX1 X.prog X.w) k fI fd ps (spXI C ff))(hn:PySem.W.findIn K (.ref C) ff=some none)(hr:Room (k+1) X.A)(hb:Binds X.K fd ps [])(hm:X.mg c=some (.ref C))(hk:keepIn X.K (.ref C)=true)(hc:X.calm=true)(ha:Ev X K (ZR K R) a fa)
  (hg:Gl X c:=by rfl)(hdb:(c==("__debug__":Str))=false:=by decide)(he:starEach [a] X.env=[(false,eval a X.env)]:=by rfl):Es X K (ZR K R) (.Raise (some (.Call (.Name c p) [a] [] cpos)) none pos) (sRaise c ff fa):=by
 refine⟨ha.k,cqS (aFg (pos:=pos) (R:=R) (ini:=some (.ref fI)) hO hc hz (aDo (E:=E0) hO hF hf G hr hb (nP rfl rfl (wU λ_ _ z=>z)) hm hk (bJ ha.h dE he) hg hdb he)) ?_⟩
 rintro E σ H ⟨μ,M,L,hr,lr,p⟩
 refine⟨μ,M,L,hr,lr,p.bind.imp λμ1 H1 M1 w e1 hr1 _ p1 y ry=>?_⟩
 cases w with
 |ref i=>exact p1.elim
 |ob _ _=>exact p1.elim
 |nest _=>exact p1.elim
 |d d =>
  refine⟨y,rfl,λe dx he hd ne=>⟨e,some dx,upd H1 dx (.xd [(ff,y)]),rfl,rfl,?_⟩⟩
  obtain⟨x1,h1⟩:=aAr (o:=.xd [(ff,y)]) hr1 hd
  have he':upd H1 dx (.xd [(ff,y)]) e=none:=by rw[aU (Ne.symm ne)];exact he
  obtain⟨x2,h2⟩:=aAr (o:=XO e C (some dx)) h1 he'
  have x3:=x1.trans x2
  refine p1 μ1 _ x3 h2 e ?_
  simp only[Rp]
  exact⟨e,[y],C,LE,some dx,rfl,bB,F,.inr ⟨dx,y,rfl,rfl,by rw[aU ne];exact bB,hn⟩,.cons (Rp.ext hr1.lsts x3 _ _ ry) .nil⟩
end
noncomputable section
def noX(f:Lc->Mm->Oc α):Lc->Mm->Oc α:=λL M=>match f L M with
 |.ok a M1=>.ok a M1
 |_=>.bad
theorem Pst.noX{α:Type}{K:Frag}{Z:Zt}{μ:List Addr}{H:Hp}{f:Lc->Mm->Oc α}{L:Lc}{M:Mm}{Q:List Addr->Hp->Mm->α->Prop}(p:Pst K Z μ H (noX f L M) Q):Pst K Z0 μ H (f L M) Q:=by
 unfold EV.noX at p
 cases q:f L M with
 |ok a M'=>rw[q]at p;exact p
 |ex x M'=>rw[q]at p;exact p.elim
 |bad=>rw[q]at p;exact p
def liftX(K:Frag)(f:FE)(σ:L2.St)(H:Hp)(Q:VK)(R:Addr->Hp->Prop):Prop:=∃μ M L,HR K μ H M/\LR K μ H L σ/\Pst K (ZR K R) μ H (f L M) (Wk K Q)
def liftB(K:Frag)(F:FS)(D:Ends)(R:Addr->Hp->Prop)(σ:L2.St)(H:Hp):Prop:=∃μ M L,HR K μ H M/\LR K μ H L σ/\Pst K (ZR K R) μ H (F L M) (Sk K D)
end
structure Exx(X:Cx)(K:Frag)(e:Expr)(f:FE):Prop where
 k:X.K=K
 h:PEx X e (liftX K f)
structure Tb(X:Cx)(K:Frag)(b:List Stmt)(F:FS):Prop where
 k:X.K=K
 h:PBx X b (liftB K F)
section
variable{K:Frag}{e a b:Expr}{es:List Expr}{fs:FA}{rest:List Stmt}{k:Nat}
theorem aDn{fa:Addr}{dvs:List V}{ds:List Value}{dd:List D}(Gf:FnOk X.prog X.w X.K X.mg X.base (CX1 X.prog X.w) k fa fd ps (spX K m Fm))(hr:Room k X.A)(hm:X.mg x=some (.ref fa))(hk:keepIn X.K (.ref fa)=true)(hb:Binds X.K fd ps ds)(hd:Vals dvs ds)(hdd:∀μ H,Rws K μ H (dd.map W.d) dvs)
  (ha:Ea X.nox K Z0 (e::es) fs)(hg:Gl X x:=by rfl)(hdb:(x==("__debug__":Str))=false:=by decide)(he:starEach (e::es) X.env=(false,eval e X.env)::starEach es X.env:=by rfl)(hpl:(backTo pos (starEach es X.env)).any (·.1)=false:=by rfl)
  (hlen:∀ws M,ws.length≠m->Fm ws M=.bad:=by intro ws M h;first|exact aAL h|rfl):Exx X K (.Call (.Name x p) (e::es) [] pos) (eA Fm (aDef (noX fs) dd)):=by
 refine⟨ha.k,?_⟩
 rintro pins s σ H Q R I ⟨μ,M,L,hr0,lr,p⟩
 refine aCV (kL I hg hm ?_ hdb)
 have p:Pst K (ZR K R) μ H ((noX fs L M).bind λws M1=>Fm (ws++dd.map W.d) M1) (Wk K Q):=by
  unfold eA aDef at p
  cases q:noX fs L M with
  |ok ws M1=>rw[q]at p;exact p
  |ex x M1=>rw[q]at p;exact p
  |bad=>rw[q]at p;exact p
 have hA:=ha.h pos pins s σ H (λvs H1=>spX K m Fm (vs++dvs) H1 Q (EofR R)) (I.wish _) ⟨μ,M,L,hr0,lr,(p.bind.noX).imp λμ1 H1 M1 ws e1 hr1 _ p1 vs rx=>yF hlen hr1 (rx.append (hdd μ1 H1)) (ZR.to (p:=p1))⟩
 refine aHE (h₀:=X.base) I.ok.mod.kin hk (aCJ hA (λus s1 ⟨vs,H1,I1,r,q⟩=>?_) λ_ _ z=>z.elim) he hpl
 have I1:=I1.unwish
 refine⟨I1.kIn,?_⟩
 have r2:Vals (vs++dvs) (us++ds):=r.append hd
 have hl:(us++ds).length=ps.length:=by rw[<- r2.length];exact Gf.len _ _ _ _ q
 refine aEQ (aEW (Gf.run X.A X.stack s1 H1 ⟨us,[]⟩ (us++ds) (vs++dvs) Q (EofR R) hr I1.env0 (hb s1 us I1.kIn hl) r2 q) λrr s' hq=>?_)
 cases rr with
 |error ev=>exact(XE.call I1 hq).imp λa H ⟨a',q1,q2⟩=>by cases q1;exact q2
 |ok fl =>
  cases fl with
  |ret u=>exact I1.after hq
  |next=>exact False.elim hq
  |brk=>exact False.elim hq
  |cont=>exact False.elim hq
theorem aIk{fa:Addr}(Gf:FnOk X.prog X.w X.K X.mg X.base (CX1 X.prog X.w) k fa fd ps (spX K m Fm))(hr:Room k X.A)(hm:X.mg x=some (.ref fa))(hk:keepIn X.K (.ref fa)=true)(hb:Binds X.K fd ps [])
  (ha:Ea X.nox K Z0 (e::es) fs)(hg:Gl X x:=by rfl)(hdb:(x==("__debug__":Str))=false:=by decide)(he:starEach (e::es) X.env=(false,eval e X.env)::starEach es X.env:=by rfl)(hpl:(backTo pos (starEach es X.env)).any (·.1)=false:=by rfl)
  (hlen:∀ws M,ws.length≠m->Fm ws M=.bad:=by intro ws M h;first|exact aAL h|rfl):Exx X K (.Call (.Name x p) (e::es) [] pos) (eA Fm (aDef (noX fs) [])) :=
 aDn Gf hr hm hk hb .nil (λ_ _=>rfl) ha hg hdb he hpl hlen
theorem aKj{x1}(ha:Ev X.nox K Z0 a fa)(hb:Exx X K b fb)(hs:starEach [a,b] X.env=[(false,eval a X.env),(false,eval b X.env)]:=by rfl):Exx X K (.Tuple [a,b] x1 pos) (eA mkT (aCons (noX fa) (aCons fb aNil))):=by
 refine⟨hb.k,?_⟩
 rintro pins s σ H Q R I ⟨μ,M,L,hr0,lr,p⟩
 refine wpAny_Tuple_spliced ?_
 rw[hs]
 refine aFR (aCJ (ha.h pins s σ H (λv1 H1=>∃μ1 M1 w1,HR K μ1 H1 M1/\LR K μ1 H1 L σ/\Rw K μ1 H1 w1 v1/\Pst K (ZR K R) μ1 H1 ((fb L M1).bind λw2 M2=>mkT [w1,w2] M2) (Wk K Q)) (I.wish _) ⟨μ,M,L,hr0,lr,?_⟩) (λu1 s1 ⟨v1,H1,I1,r1,μ1,M1,w1,hr1,lr1,rw1,p1⟩=>?_) λ_ _ z=>z.elim)
 ·have p:Pst K (ZR K R) μ H ((noX fa L M).bind λw1 M1=>(fb L M1).bind λw2 M2=>mkT [w1,w2] M2) (Wk K Q):=by
   unfold eA aCons aNil at p
   cases q:noX fa L M with
   |ok w1 M1 =>
    rw[q]at p
    simp only[eW]at p ⊢
    cases q2:fb L M1 with
    |ok w2 M2=>rw[q2]at p;exact p
    |ex x M2=>rw[q2]at p;exact p
    |bad=>rw[q2]at p;exact p
   |ex x M1=>rw[q]at p;exact p
   |bad=>rw[q]at p;exact p
  exact(p.bind.noX).imp λμ1 H1 M1 w1 e1 hr1 _ p1 v rv=>⟨μ1,M1,w1,hr1,lr.ext hr0.lsts e1,rv,p1⟩
 ·have I1:=I1.unwish
  refine aFR (aCJ (hb.h pins s1 σ H1 (λv2 H2=>∃μ2 M2 w2,HR K μ2 H2 M2/\Rw K μ2 H2 w1 v1/\Rw K μ2 H2 w2 v2/\Pst K (ZR K R) μ2 H2 (mkT [w1,w2] M2) (Wk K Q)) R I1 ⟨μ1,M1,L,hr1,lr1,p1.bind.imp λμ2 H2 M2 w2 e2 hr2 _ p2 v rv=>⟨μ2,M2,w2,hr2,rw1.ext hr1.lsts e2,rv,p2⟩⟩) (λu2 s2 ⟨v2,H2,I2,r2,μ2,M2,w2,hr2,rw1,rw2,p2⟩=>aHP ⟨by show 2<=sizeLine;decide,?_⟩) λ_ _ z=>z)
  cases w1 with
  |ref i=>exact p2.elim
  |ob _ _=>exact p2.elim
  |nest _=>exact p2.elim
  |d d1 =>
   cases w2 with
   |ref i=>exact p2.elim
   |ob _ _=>exact p2.elim
   |nest _=>exact p2.elim
   |d d2 =>
    have hf:H2 s2.heap.objs.size=none:=I2.hok.fresh (aAI _)
    refine⟨.ref s2.heap.objs.size,upd H2 s2.heap.objs.size (.tup [v1,v2]),I2.laid (t':=s2.toks) (λb u e=>aAA _ e) (aAI _) ⟨by show 2<=sizeLine;decide,[u1,u2],.cons r1 (.cons r2 .nil),⟨_,aAG _ rfl,rfl,_,rfl⟩⟩,rfl,?_⟩
    have q2:Pst K (ZR K R) μ2 H2 (okD (.tup [d1,d2]) M2) (Wk K Q):=p2
    have x:=fS (o:=.tup [v1,v2]) hr2 hf
    refine q2 μ2 _ x (hr2.lay hf) _ ?_
    simp only[Rw,Rp]
    exact⟨_,[v1,v2],rfl,bB,.cons (Rp.ext hr2.lsts x _ _ rw1) (.cons (Rp.ext hr2.lsts x _ _ rw2) .nil)⟩
theorem aLd(hN:X.N.Nodup)(he:Exx X K e f)(hi:X.N[i]?=some x:=by rfl)(hx:Loc X.env.scope x:=by first|exact Or.inl rfl|exact Or.inr rfl)(hs:swapsWith e (some (.Name x pos')) pos.line X.env=pure false:=by rfl)
  (hf:X.fn x=true\/X.env.scope.names.lookup x=some .local:=by first|exact .inl rfl|exact .inr rfl|assumption):Tb X K [.Assign [.Name x pos'] e pos] (sAs f (gN i)):=by
 refine⟨he.k,?_⟩
 rintro pins s σ H D R I ⟨μ,M,L,hr0,lr,p⟩
 refine wpAny_execs_cons (wpAny_Assign_Name (thn (he.h pins s σ H (λv H1=>D.nx (σ.set i (some v)) H1) R I ⟨μ,M,L,hr0,lr,p.bind.imp λμ1 H1 M1 w e1 hr1 _ p1 v rv=>p1 μ1 H1 .refl hr1 _ (LR.set (lr.ext hr0.lsts e1) rv)⟩) λv s1 ⟨y,H1,I1,r1,q1⟩=>?_) hs)
 exact gC I1 hN hi hx r1 (λs2 I2=>aEN ⟨_,H1,I2,q1⟩) hf
end
noncomputable def mt(cn c:Str):Bool:=c==cn || cn=="LentError" || cn=="ValueError"
noncomputable def mtD(cn:Str):D->Bool
 |.exn c _ _=>mt cn c
 |_=>false
variable{K:Frag}
noncomputable def CtD(K:Frag)(cn:Str)(Dc:Addr):Prop:=∀c C LE,Xc K c C LE->mt cn c=true->XM K C Dc
noncomputable def Ct(K:Frag)(cn:Str)(cv:Value):Prop:=∀c C LE,Xc K c C LE->PySem.W.kitOne K (.ref C) cv=some (mt cn c)
variable{c:Str}
theorem aJq{C' LE':Addr}(F:Xc K c C LE)(G:Xc K c C' LE'):C=C':=by
 have:=F.nm.symm.trans G.nm
 cases this;rfl
theorem aPg{c':Str}{C' LE':Addr}(F:Xc K c C LE)(G:Xc K c' C' LE')(n:c≠c'):C≠C':=by
 rintro rfl
 obtain⟨d1,a1,a2,_⟩:=F.cd
 obtain⟨d2,b1,b2,_⟩:=G.cd
 rw[a1]at b1;cases b1
 exact n (a2.symm.trans b2)
theorem aGf{c':Str}{C' LE':Addr}(F:Xc K c C LE)(G:Xc K c' C' LE'):LE≠C':=by
 rintro rfl
 obtain⟨d1,a1,a2⟩:=F.le
 obtain⟨d2,b1,b2,_⟩:=G.cd
 rw[a1]at b1;cases b1
 exact G.ne (b2.symm.trans a2)
theorem aQj(q:xcB K C bm ini=true):PySem.W.typeIn K (.ref C)=some (.type "type")/\(PySem.W.clsIn K C).isSome=true:=by
 unfold xcB at q
 split at q
 ·rename_i dd cd sl ho
  exact⟨by simp[PySem.W.typeIn,ho],by simp[PySem.W.clsIn,ho]⟩
 ·cases q
theorem aNr(h:nsIn K mainGlobals "LentError"=some (some (.ref Dc))):CtD K "LentError" Dc:=λc C LE F _=>by
 have:=h.symm.trans F.leN
 cases this
 obtain⟨ini,ob⟩:=F.ob
 exact⟨⟨_,ini,ob,by simp⟩,⟨_,none,F.leO,rfl⟩⟩
theorem jG(G:Xc K cn Dc LE)(hv:cn≠"ValueError":=by decide):Ct K cn (.ref Dc):=λc C LE' F=>by
 have e1:(cn==("LentError":Str))=false:=by simpa using G.ne
 have e2:(cn==("ValueError":Str))=false:=by simpa using hv
 unfold PySem.W.kitOne mt
 rw[e1,e2,aGI,aGI]
 by_cases hc:c=cn
 ·subst hc
  cases aJq F G
  rw[aAH (by simp)];simp
 ·have n:=aPg F G hc
  have n2:=aGf F G
  obtain⟨ini,ob⟩:=G.ob
  obtain⟨t1,t2⟩:=aQj ob
  rw[aAL (by simpa using n)]
  unfold PySem.W.kitCls
  dsimp only
  rw[aAH (by rw[t1,t2];decide)]
  show PySem.W.mroIn K C (.ref Dc)=_
  rw[F.mro]
  have hcc:(c==cn)=false:=by simpa using hc
  rw[hcc]
  simp[n,n2]
  exact⟨λz=>n z.symm,λz=>n2 z.symm⟩
theorem aJy:PySem.W.kitMeta "ValueError"=true:=by decide +kernel
theorem aPm:Ct K "ValueError" (.type "ValueError"):=λc C LE F=>by
 unfold PySem.W.kitOne
 have e:mt "ValueError" c=true:=by simp[mt]
 rw[e,aAL (by simp)]
 unfold PySem.W.kitCls
 dsimp only
 rw[aAH aJy]
 show PySem.W.mroIn K C (.type "ValueError")=_
 rw[F.mro]
 rfl
structure Ecs(X:Cx)(K:Frag)(es:List Expr)(cns:List Str):Prop where
 k:X.K=K
 h:∃ys cvs,PA X es (λ_ H Q=>Q ys H)/\ys.map clV=cvs.map some/\ys.length<=es.length/\∀c C LE,Xc K c C LE->PySem.W.kitAny K (.ref C) cvs=some (cns.any λn=>mt n c)
section
variable{K:Frag}{e a b:Expr}{es:List Expr}{fs:FA}{rest:List Stmt}
theorem aKg(hk:X.K=K:=by rfl):Ecs X K [] []:=⟨hk,[],[],dE,rfl,aAI _,λ_ _ _ _=>rfl⟩
theorem fH(ct:Ct K cn (.ref Dc))(hm:X.mg cn=some (.ref Dc))(h:Ecs X K es cns)(hg:Gl X cn:=by rfl)(hd:(cn==("__debug__":Str))=false:=by decide)
  (hs:starEach (.Name cn q::es) X.env=(false,eval (.Name cn q) X.env)::starEach es X.env:=by rfl):Ecs X K (.Name cn q::es) (cn::cns):=by
 obtain⟨ys,cvs,h1,h2,h3,h4⟩:=h.h
 refine⟨h.k,.ref Dc::ys,.ref Dc::cvs,?_,by simp[clV,h2],by simpa using h3,λc C LE F=>?_⟩
 ·exact cqA (bJ (oM (v:=.ref Dc) hg hm rfl hd) h1 hs) λσ H Q q=>q
 ·unfold PySem.W.kitAny
  rw[ct c C LE F]
  rw[aDK]
  cases mt cn c with
  |true=>rfl
  |false=>exact h4 c C LE F
noncomputable section
def pIsX(cns:List Str)(w:W)(M:Mm):Oc W:=match w with
 |.d (.exn c _ _)=>.ok (.d (.bl (cns.any λn=>mt n c))) M
 |_=>.bad
theorem aLb{f:Str}(h:XFl K H C f d vs):d=none\/∃dx fs,d=some dx/\H dx=some (.xd fs):=by
 rcases h with h|⟨dx,u,h1,_,h3,_⟩
 ·exact .inl h.1
 ·exact .inr ⟨dx,_,h1,h3⟩
theorem zW{cv:Value}{y:V}(hy:clV y=some cv)(ct:Ct K cn cv)(hp:PE X (.Name cn q) (tC y))(hm:X.mg "isinstance"=none)(he:Ev X K Z e f)(hg:Gl X "isinstance":=by rfl)
  (hs:starEach [e,.Name cn q] X.env=(false,eval e X.env)::starEach [.Name cn q] X.env:=by rfl)(hs2:starEach [.Name cn q] X.env=(false,eval (.Name cn q) X.env)::starEach [] X.env:=by rfl)(hpl:(backTo pos (starEach [.Name cn q] X.env)).any (·.1)=false:=by rfl) :
  Ev X K Z (.Call (.Name "isinstance" p) [e,.Name cn q] [] pos) (e1 (pIsX [cn]) f):=by
 have h:=mR (pos:=pos) (p:=p) aDa hg hm hV (bJ he.h (bJ hp dE hs2) hs) (by decide) (by decide) hs hpl
 rw[he.k]at h
 refine⟨he.k,cqE h ?_⟩
 rintro σ H Q ⟨μ,M,L,hr,lr,p⟩
 refine⟨μ,M,L,hr,lr,p.bind.imp λμ1 H1 M1 x e1 hr1 _ p1 v rx=>?_⟩
 cases x with
 |ref i=>exact p1.elim
 |ob _ _=>exact p1.elim
 |nest _=>exact p1.elim
 |d x=>cases x with
  |exn c ff xs =>
   simp only[Rw,Rp]at rx
   obtain⟨a,vs,C,LE,d,rfl,hx,F,xf,rs⟩:=rx
   exact⟨a,C,LE,c,d,y,cv,_,rfl,hx,aLb xf,F,hy,ct c C LE F,p1 μ1 H1 .refl hr1 _ (by simp[Rw,Rp])⟩
  |_=>exact p1.elim
theorem aLp(ct:Ct K cn (.ref Dc))(hmc:X.mg cn=some (.ref Dc))(hm:X.mg "isinstance"=none)(he:Ev X K Z e f)(hg:Gl X "isinstance":=by rfl)(hgc:Gl X cn:=by rfl)(hd:(cn==("__debug__":Str))=false:=by decide)
  (hs:starEach [e,.Name cn q] X.env=(false,eval e X.env)::starEach [.Name cn q] X.env:=by rfl)(hs2:starEach [.Name cn q] X.env=(false,eval (.Name cn q) X.env)::starEach [] X.env:=by rfl)(hpl:(backTo pos (starEach [.Name cn q] X.env)).any (·.1)=false:=by rfl) :
  Ev X K Z (.Call (.Name "isinstance" p) [e,.Name cn q] [] pos) (e1 (pIsX [cn]) f):=zW (y:=.ref Dc) rfl ct (oM (v:=.ref Dc) hgc hmc rfl hd) hm he hg hs hs2 hpl
theorem aQx:bootBuiltins "ValueError"=some (.type "ValueError"):=PyProof.Rows.Boot.«ValueError»
theorem aIc(hmc:X.mg "ValueError"=none)(hm:X.mg "isinstance"=none)(he:Ev X K Z e f)(hg:Gl X "isinstance":=by rfl)(hgc:Gl X "ValueError":=by rfl)
  (hs:starEach [e,.Name "ValueError" q] X.env=(false,eval e X.env)::starEach [.Name "ValueError" q] X.env:=by rfl)(hs2:starEach [.Name "ValueError" q] X.env=(false,eval (.Name "ValueError" q) X.env)::starEach [] X.env:=by rfl)(hpl:(backTo pos (starEach [.Name "ValueError" q] X.env)).any (·.1)=false:=by rfl) :
  Ev X K Z (.Call (.Name "isinstance" p) [e,.Name "ValueError" q] [] pos) (e1 (pIsX ["ValueError"]) f):=zW (y:=.ty "ValueError") rfl aPm (zM (v:=.ty "ValueError") hgc hmc aQx rfl) hm he hg hs hs2 hpl
theorem aJn{x1}(hc:Ecs X K es cns)(hm:X.mg "isinstance"=none)(he:Ev X K Z e f)(hl:es.length<=100:=by decide)(hg:Gl X "isinstance":=by rfl)
  (hs:starEach [e,.Tuple es x1 q] X.env=(false,eval e X.env)::starEach [.Tuple es x1 q] X.env:=by rfl)(hs2:starEach [.Tuple es x1 q] X.env=(false,eval (.Tuple es x1 q) X.env)::starEach [] X.env:=by rfl)(hpl:(backTo pos (starEach [.Tuple es x1 q] X.env)).any (·.1)=false:=by rfl) :
  Ev X K Z (.Call (.Name "isinstance" p) [e,.Tuple es x1 q] [] pos) (e1 (pIsX cns) f):=by
 obtain⟨ys,cvs,h1,h2,h3,h4⟩:=hc.h
 have h:=mR (pos:=pos) (p:=p) aCw hg hm hV (bJ he.h (bJ (aGp h1) dE hs2) hs) (by decide) (by decide) hs hpl
 rw[he.k]at h
 refine⟨he.k,cqE h ?_⟩
 rintro σ H Q ⟨μ,M,L,hr,lr,p⟩
 refine⟨μ,M,L,hr,lr,p.bind.imp λμ1 H1 M1 x e1 hr1 _ p1 v rx=>⟨?_,λt ht=>?_⟩⟩
 ·have:(100:Nat)<=sizeLine:=by decide
  lia
 cases x with
 |ref i=>exact p1.elim
 |ob _ _=>exact p1.elim
 |nest _=>exact p1.elim
 |d x=>cases x with
  |exn c ff xs =>
   have x:=fS (o:=.tup ys) hr1 ht
   have rx:=Rp.ext hr1.lsts x _ _ rx
   simp only[Rp]at rx
   obtain⟨a,vs,C,LE,d,rfl,hx,F,xf,rs⟩:=rx
   exact⟨a,C,LE,c,d,t,ys,cvs,_,rfl,hx,aLb xf,F,bB,h2,h4 c C LE F,p1 μ1 _ x (hr1.lay ht) _ (by simp[Rw,Rp])⟩
  |_=>exact p1.elim
def pFld(ff:Str)(w:W)(M:Mm):Oc W:=match w with
 |.d (.exn _ g [d])=>if g=ff then .ok (.d d) M else .bad
 |_=>.bad
theorem aJz{d:D}(h:Rp K μ H d v):∀i,v≠.ty i:=by
 cases d <;> simp only[Rp]at h <;> first|(subst h;intro i z;cases z)|(obtain⟨a,vs,rfl,_⟩:=h;intro i z;cases z)|(obtain⟨a,vs,_,_,_,rfl,_⟩:=h;intro i z;cases z)
theorem aMg(he:Ev X K Z e f)(hb:attributeBase e ff X.env (eval e X.env)=eval e X.env:=by rfl):Ev X K Z (.Attribute e ff p) (e1 (pFld ff) f):=by
 have h:=aHv (pos:=p) he.h hb
 rw[he.k]at h
 refine⟨he.k,cqE h ?_⟩
 rintro σ H Q ⟨μ,M,L,hr,lr,p⟩
 refine⟨μ,M,L,hr,lr,p.bind.imp λμ1 H1 M1 x e1 hr1 _ p1 v rx=>?_⟩
 cases x with
 |ref i=>exact p1.elim
 |ob _ _=>exact p1.elim
 |nest _=>exact p1.elim
 |d x=>cases x with
  |exn c g xs =>
   rcases xs with _|⟨d,_|⟨d2,xs⟩⟩
   ·exact p1.elim
   ·simp only[pFld]at p1
    split at p1
    ·rename_i hg
     subst hg
     simp only[Rw,Rp]at rx
     obtain⟨a,vs,C,LE,dd,rfl,hx,F,xf,rs⟩:=rx
     rcases xf with⟨_,rfl⟩|⟨dx,u,rfl,rfl,h3,h4⟩
     ·simp[Rps]at rs
     ·simp only[Rps]at rs
      obtain⟨v',r',e1',e2',e3'⟩:=rs
      cases e1'
      exact⟨a,C,LE,c,dx,u,rfl,hx,h3,F,h4,aJz e2',p1 μ1 H1 .refl hr1 u e2'⟩
    ·exact p1.elim
   ·exact p1.elim
  |_=>exact p1.elim
def unset(i:Nat):Out->Out
 |.nx L=>.nx (L.set i none)
 |.bk L=>.bk (L.set i none)
 |.ct L=>.ct (L.set i none)
 |.rt w=>.rt w
theorem LR.unset{σ:L2.St}(h:LR K μ H L σ):LR K μ H (L.set i none) (σ.set i none)where
 len:=by simp[h.len]
 ent:=λj w q=>by
  by_cases hj:i=j
  ·subst hj
   rw[List.getElem?_set_self']at q
   cases z:L[i]? <;> rw[z]at q <;> cases q
  ·rw[aBS hj]at q
   obtain⟨v,a,b⟩:=h.ent j w q
   exact⟨v,by rw[aBS hj];exact a,b⟩
def sTryAs(i:Nat)(cn:Str)(FB FH:FS):FS:=λL M=>match FB L M with
 |.ok o M'=>.ok o M'
 |.ex x M'=>if mtD cn x=true then(noX FH (L.set i (some (.d x))) M').bind λo M2=>.ok (unset i o) M2 else .bad
 |.bad=>.bad
end
theorem aPr{x:D}{a:Addr}(ct:CtD K cn Dc)(hm:mtD cn x=true)(r:Rp K μ H x (.ref a)):∃C d,H a=some (XO a C d)/\XM K C Dc:=by
 cases x with
 |exn c f xs =>
  simp only[Rp]at r
  obtain⟨a',vs,C,LE,d,e,hx,F,_⟩:=r
  cases e
  exact⟨C,d,hx,ct c C LE F hm⟩
 |_=>cases hm
theorem aEm{suite:List Stmt}{b₀:Stmt}{n:Str}{np hpos:Pos}{FB FH:FS}(ct:CtD K cn Dc)(hm:X.mg cn=some (.ref Dc))(hN:X.N.Nodup)(hb:Tb X K body FB)(hs:∀a,Ess (X.hnd a) K Z0 (b₀::suite) FH)
  (hi:X.N[i]?=some n:=by rfl)(hl:X.env.scope.names.lookup n=some .local:=by rfl)(hg:Gl X cn:=by rfl)(hst:X.stack=X.env::X.outer:=by rfl)(hfm:X.env.frame=some X.env.locals:=by rfl)(hdb:(cn==("__debug__":Str))=false:=by decide) :
  Es X K Z (.Try body [.ExceptHandler (some (.Name cn np)) (some n) (b₀::suite) hpos] [] [] pos) (sTryAs i cn FB FH):=by
 have h:=aDf (np:=np) (pos:=pos) (hpos:=hpos) hN hb.h (λa=>(hs a).h) hm hi hl hg hst hfm hdb
 rw[hb.k]at h
 refine⟨hb.k,cqS h ?_⟩
 rintro E σ H ⟨μ,M,L,hr,lr,p⟩
 refine⟨μ,M,L,hr,lr,?_⟩
 unfold sTryAs at p
 cases q:FB L M with
 |bad=>rw[q]at p;exact p
 |ok o M'=>rw[q]at p;exact p
 |ex x M' =>
  rw[q]at p
  simp only at p
  split at p
  ·rename_i hmt
   intro μ1 H1 e1 hr1 a ra
   refine⟨aPr ct hmt ra,μ1,M',_,hr1,LR.set (lr.ext hr.lsts e1) (w:=.d x) ra,((Pst.mono e1 p).bind.noX).imp λμ2 H2 M2 o e2 hr2 _ p2=>?_⟩
   have p2:=p2 μ2 H2 .refl hr2
   cases o with
   |nx L'=>exact λσ' l'=>p2 _ l'.unset
   |bk L'=>exact λσ' l'=>p2 _ l'.unset
   |ct L'=>exact λσ' l'=>p2 _ l'.unset
   |rt w=>exact p2
  ·exact p.elim
theorem aJe{a:Addr}(hO:Only H)(hS:SqL K H a (ns.map V.int))(h:∃M',Fm [.d (.fz (ns.map D.int))] []=.ok (.d (.bl true)) M'):spX K 1 Fm [.ref a] H (λv _=>v=.bl true) λ_ _ _=>False:=by
 obtain⟨h1,μ,M,ws,h2,h3,h4⟩:=aOe (K:=K) hO hS h
 exact⟨h1,μ,M,ws,h2,h3,Pst.never h4⟩
end
end EV
end
namespace EV
open PySem L2
section
variable{EX:D->Mm->Prop}{i j:Nat}{w x y:W}{Q:W->Mm->Prop}{QA:List W->Mm->Prop}{g h:FE}{FB FH:FS}{fs:FA}{ws:List W}
theorem aPp(h:Ok (Fm ws M) Q):Okx EX (nx Fm ws M) Q:=by
 obtain⟨a,M',e,q⟩:=lB.mp h
 unfold nx;rw[e];exact aH q
theorem aDt{f:Lc->Mm->Oc α}{Q:α->Mm->Prop}(h:Ok (f L M) Q):Okx EX (noX f L M) Q:=by
 obtain⟨a,M',e,q⟩:=lB.mp h
 unfold noX;rw[e];exact aH q
theorem aIl{ds:List D}(h:Okx EX (fs L M) λws M1=>QA (ws++ds.map W.d) M1):Okx EX (aDef fs ds L M) QA:=aG (h.mono λ_ _ z=>aH z)
theorem uM(hm:ws.length=m)(h:Okx (λx M'=>EX x (M'.take M.length)) (F (ws.map some++List.replicate (n - ws.length) none) M) λo M'=>match o with
  |.rt w=>Ok (retc M.length w M') Q
  |.nx _=>Q (.d .non) (M'.take M.length)
  |_=>False):Okx EX (fnX m n F ws M) Q:=by
 unfold fnX fnD
 rw[aAH hm]
 rcases gQ.mp h with⟨o,M',e,q⟩|⟨x,M',e,q⟩
 ·rw[e]
  simp only[eW]
  cases o with
  |rt w =>
   obtain⟨a,M2,e2,q2⟩:=lB.mp q
   simp only[e2]
   exact aH q2
  |nx L=>exact aH q
  |bk L=>exact q.elim
  |ct L=>exact q.elim
 ·rw[e]
  simp only[aKc]
  exact jX q
variable{c:Str}
theorem aCh(h:Okx EX (f L M) λw M1=>∃d,w=.d d/\EX (.exn c ff [d]) M1):Okx EX (sRaise c ff f L M) QS:=aG (h.mono λw M1 ⟨d,e,q⟩=>by subst e;exact jX q)
theorem aBw(h:Okx (λx M'=>mtD cn x=true/\Ok (FH (L.set i (some (.d x))) M') λo M2=>QS (unset i o) M2) (FB L M) QS):Okx EX (sTryAs i cn FB FH L M) QS:=by
 unfold sTryAs
 rcases gQ.mp h with⟨o,M',e,q⟩|⟨x,M',e,hm,q⟩
 ·rw[e];exact aH q
 ·rw[e]
  simp only
  rw[aAH hm]
  exact aG (aDt (q.mono λ_ _ z=>aH z))
theorem aMs{xs:List D}(q:Q (.d (.bl (cns.any λn=>mt n c))) M):Okx EX (pIsX cns (.d (.exn c ff xs)) M) Q:=aH q
theorem aOx{d:D}(q:Q (.d d) M):Okx EX (pFld ff (.d (.exn c ff [d])) M) Q:=by
 have:pFld ff (.d (.exn c ff [d])) M=.ok (.d d) M:=aAH rfl
 rw[this];exact aH q
end
end EV
section
open PySem PySem.Spec PyProof.Rows
namespace EV
open PySem.W L2
noncomputable def xkB(K:Frag)(c:Str)(C LE:Addr):Bool:=(match clsIn K C with
  |some cd=>cd.name==c&&cd.mro==.ref C::.ref LE::vb&&cd.hasDict
  |none=>false)&&(match clsIn K LE with
  |some cl=>cl.name==("LentError":Str)
  |none=>false)&&findIn K (.ref C) "__getattribute__"==some (some (.builtin "BaseException.__getattribute__"))&&findIn K (.ref C) "__getattr__"==some none&&findIn K (.ref C) "__class__"==some (some (.builtin "object.__class__"))
variable{c:Str}
theorem mC(nm:nsIn K mainGlobals c=some (some (.ref C)))(leN:nsIn K mainGlobals "LentError"=some (some (.ref LE)))(q:xkB K c C LE=true)(ob:xcB K C (.ref LE::vb) ini=true)(leO:xcB K LE vb none=true)(ne:c≠"LentError"):Xc K c C LE:=by
 unfold xkB at q
 simp only[aBM,aEM]at q
 obtain⟨⟨⟨⟨q1,q2⟩,q3⟩,q4⟩,q5⟩:=q
 cases h1:clsIn K C with
 |none=>rw[h1]at q1;cases q1
 |some cd =>
  rw[h1]at q1
  simp only[aBM,aEM]at q1
  cases h2:clsIn K LE with
  |none=>rw[h2]at q2;cases q2
  |some cl =>
   rw[h2]at q2
   simp only[aEM]at q2
   exact⟨nm,⟨cd,h1,q1.1.1,q1.1.2⟩,⟨cl,h2,q2⟩,leN,ne,by unfold hasDictIn;rw[h1];exact q1.2,q3,q4,q5,⟨ini,ob⟩,leO⟩
variable{K:Frag}{tk:Tok}
theorem qJ{i:Int}(hm:X.mg x=some (.int i tk))(hk:X.K=K:=by rfl)(hg:Gl X x:=by rfl)(hd:(x==("__debug__":Str))=false:=by decide):Ev X K Z (.Name x pos) (eC (.int i)):=aCc (λ_ _ _=>by simp[Rp]) hk (oM (v:=.int i) hg hm ⟨tk,rfl⟩ hd)
theorem aPk(hm:X.mg x=some (.str y tk))(hk:X.K=K:=by rfl)(hg:Gl X x:=by rfl)(hd:(x==("__debug__":Str))=false:=by decide):Ev X K Z (.Name x pos) (eC (.str y)):=aCc (λ_ _ _=>by simp[Rp]) hk (oM (v:=.str y) hg hm ⟨tk,rfl⟩ hd)
theorem aPh(xc:Xc K c C LE)(hc:clsIn K C=some cd):cd.hasDict=true:=by have:=xc.hd;unfold hasDictIn at this;rw[hc]at this;exact this
end EV
end
namespace LS
open PySem L2 EV
noncomputable def Cg(n a b:Int):Prop:=∃k,a=b+n*k
variable{n a:Int}
theorem Cg.rfl:Cg n a a:=⟨0,by simp⟩
variable{b:Int}
theorem Cg.symm(h:Cg n a b):Cg n b a:=by obtain⟨k,rfl⟩:=h;exact⟨-k,by grind⟩
variable{c:Int}
theorem Cg.trans(h:Cg n a b)(g:Cg n b c):Cg n a c:=by obtain⟨k,rfl⟩:=h;obtain⟨l,rfl⟩:=g;exact⟨k+l,by grind⟩
variable{d:Int}
theorem Cg.add(h:Cg n a b)(g:Cg n c d):Cg n (a+c) (b+d):=by obtain⟨k,rfl⟩:=h;obtain⟨l,rfl⟩:=g;exact⟨k+l,by grind⟩
theorem Cg.sub(h:Cg n a b)(g:Cg n c d):Cg n (a - c) (b - d):=by obtain⟨k,rfl⟩:=h;obtain⟨l,rfl⟩:=g;exact⟨k - l,by grind⟩
theorem Cg.mul(h:Cg n a b)(g:Cg n c d):Cg n (a*c) (b*d):=by obtain⟨k,rfl⟩:=h;obtain⟨l,rfl⟩:=g;exact⟨b*l+d*k+n*k*l,by grind⟩
theorem Cg.mod:Cg n (a % n) a:=⟨-(a / n),by have:=Int.emod_def a n;grind⟩
theorem Cg.emod(h:Cg n a b):a % n=b % n:=by obtain⟨k,rfl⟩:=h;simp[Int.add_mul_emod_self_left]
theorem Cg.of(h:a % n=b % n):Cg n a b:=Cg.mod.symm.trans (h▸Cg.mod)
theorem Cg.of_eq(h:a=b):Cg n a b:=h▸Cg.rfl
inductive Dd
 |add (s:Nat) (c:Int) (gs ts:List Nat)
 |scale (s:Nat) (u:Int)
noncomputable section
def natsD(xs:List Nat):D:=.tup (xs.map λk=>.int (k:Nat))
def encD:Dd->D
 |.add s c gs ts=>.tup [.str "add",.int s,.int c,natsD gs,natsD ts]
 |.scale s u=>.tup [.str "scale",.int s,.int u]
def Rs(n:Int)(cs:List Int):Prop:=∀c∈cs,0<=c/\c < n
theorem Rs.getD{n:Int}{cs:List Int}(h:Rs n cs){i:Nat}(hi:i < cs.length):0<=cs.getD i 0/\cs.getD i 0 < n:=h _ (by simp[hi])
def IsIv(n u v:Int):Prop:=0<=v/\v < n/\(u*v) % n=1 % n
end
variable{u:Int}
theorem IsIv.uniq{v w:Int}(h:IsIv n u v)(g:IsIv n u w):v=w:=by
 obtain⟨l,k,e⟩:=h
 obtain⟨l',k',e'⟩:=g
 have e1:Cg n (u*v) 1:=Cg.of e
 have e2:Cg n (u*w) 1:=Cg.of e'
 have:Cg n v w:=by
  have h1:Cg n v (v*(u*w)):=by simpa using Cg.mul (Cg.rfl (a:=v)) e2.symm
  have h2:Cg n ((u*v)*w) (1*w):=Cg.mul e1 Cg.rfl
  exact h1.trans ((Cg.of_eq (by grind)).trans (h2.trans (Cg.of_eq (by grind))))
 have:=this.emod
 rwa[aGB l k,aGB l' k']at this
open Classical in
noncomputable def iv(n u:Int):Int:=if h:∃v,IsIv n u v then Classical.choose h else 0
theorem aQk{v:Int}(h:IsIv n u v):iv n u=v:=by
 have hx:∃v,IsIv n u v:=⟨v,h⟩
 unfold iv
 rw[dif_pos hx]
 exact(Classical.choose_spec hx).uniq h
theorem aHb(h:∃v,IsIv n u v):IsIv n u (iv n u):=by obtain⟨v,h⟩:=h;rw[aQk h];exact h
noncomputable def Un(n u:Int):Prop:=0<=u/\u < n/\∃v,IsIv n u v
theorem Un.iv{n u:Int}(h:Un n u):Un n (iv n u):=by
 have h':=aHb h.2.2
 exact⟨h'.1,h'.2.1,u,h.1,h.2.1,by rw[Int.mul_comm];exact h'.2.2⟩
noncomputable def OkD(n:Int)(G S:Nat):Dd->Prop
 |.add s c g t=>s < S/\0<=c/\c < n/\(∀i∈g,i < G)/\(∀i∈t,i < S)/\s∉t/\g.length<=4/\t.length<=4
 |.scale s u=>s < S/\Un n u
inductive Wd|sum|less|times
noncomputable def Wd.str:Wd->Str
 |.sum=>"sum"
 |.less=>"less"
 |.times=>"times"
noncomputable def Wd.ev(n:Int):Wd->Int->Int->Int
 |.sum,x,y=>(x+y) % n
 |.less,x,y=>(x - y) % n
 |.times,x,y=>x*y % n
inductive E
 |num (c:Int)
 |giv (i:Nat)
 |op (w:Wd) (a b:E)
noncomputable section
def val(n:Int)(gs:List Int):E->Int
 |.num c=>c % n
 |.giv i=>gs.getD i 0
 |.op w a b=>w.ev n (val n gs a) (val n gs b)
def dp:E->Nat
 |.num _=>0
 |.giv _=>0
 |.op _ a b=>max (dp a) (dp b)+1
def many:E->Nat
 |.num _=>1
 |.giv _=>1
 |.op .times a b=>2*(many a+many b)
 |.op _ a b=>many a+many b
end
variable{EX:D->Mm->Prop}
theorem at3(l:0<=d)(u:d < 3)(x y z:D):∃w,atI [x,y,z] d=some w/\(w=x\/w=y\/w=z):=by
 have:d=0\/d=1\/d=2:=by lia
 rcases this with rfl|rfl|rfl
 ·exact⟨x,rfl,by simp⟩
 ·exact⟨y,rfl,by simp⟩
 ·exact⟨z,rfl,by simp⟩
theorem at4(l:0<=d)(u:d < 4)(x y z t:D):∃w,atI [x,y,z,t] d=some w/\(w=x\/w=y\/w=z\/w=t):=by
 have:d=0\/d=1\/d=2\/d=3:=by lia
 rcases this with rfl|rfl|rfl|rfl
 ·exact⟨x,rfl,by simp⟩
 ·exact⟨y,rfl,by simp⟩
 ·exact⟨z,rfl,by simp⟩
 ·exact⟨t,rfl,by simp⟩
theorem aHp{xs:List D}{d:D}(h:d∈cut xs lo hi):d∈xs:=aFD (aBY h)
theorem aAb{xs:List D}:(cut xs lo hi).length<=xs.length:=by unfold cut;simp only[aDP,aGJ];lia
theorem atInts{i:Int}(l:0<=i)(u:i < ns.length):∃n,atI (ns.map D.int) i=some (.int n)/\n∈ns:=by
 have hi:i.toNat < ns.length:=by lia
 refine⟨ns[i.toNat],?_,by simp⟩
 simp only[atI,ixN,aAK]
 rw[aAH l,aAH u]
 simp[hi]
noncomputable def encP(n G S:Int)(ds:List Dd):D:=.tup [.int n,.int G,.int S,.tup (ds.map encD)]
mutual
theorem aEw:∀d:D,eqD d d=true
 |.non=>by simp[eqD]
 |.bl b=>by simp[eqD]
 |.int i=>by simp[eqD]
 |.str x=>by simp[eqD]
 |.tup xs=>by simp only[eqD];exact iM xs
 |.lst xs=>by simp only[eqD];exact iM xs
 |.fz xs=>by simp only[eqD];exact iM xs
 |.exn c f xs=>by simp only[eqD];rw[iM xs];simp
theorem iM:∀ds:List D,eqDs ds ds=true
 |[]=>by simp[eqDs]
 |d::ds=>by simp only[eqDs,aEw d,iM ds,Bool.and_true]
end
variable{x y:W}{Q:W->Mm->Prop}
end LS
variable{ds:List LS.Dd}
namespace LS
open PySem L2 EV
variable{EX:D->Mm->Prop}
theorem mW(ns:List Nat):deps (ns.map λx=>D.int (x:Nat))<=1:=by
 induction ns with
 |nil=>simp[deps]
 |cons x r ih=>simp[deps,dep];lia
theorem natsOf{xs:List Int}(h:∀x∈xs,0<=x):∃ks:List Nat,xs=ks.map (λk:Nat=>(k:Int)):=by
 refine⟨xs.map Int.toNat,?_⟩
 rw[aCL]
 conv=>lhs;rw[<- List.map_id xs]
 exact aFM λx hx=>by simp;have:=h x hx;lia
noncomputable def SrtD:Dd->Prop
 |.add _ _ g t=>g.Pairwise (·<=·)/\t.Pairwise (·<=·)
 |.scale _ _=>True
theorem vS(ns:List Nat):∃ks:List Nat,srt (ns.map λk:Nat=>(k:Int))=ks.map (λk:Nat=>(k:Int))/\ks.Perm ns/\ks.Pairwise (·<=·):=by
 obtain⟨ks,e⟩:=natsOf (xs:=srt (ns.map λk:Nat=>(k:Int))) (λx hx=>by
  rw[aHt]at hx;obtain⟨k,_,rfl⟩:=aBE.mp hx;lia)
 refine⟨ks,e,?_,?_⟩
 ·have p:=mJ (ns.map λk:Nat=>(k:Int))
  rw[e]at p
  have:=p.map Int.toNat
  simpa[aCL,aGC]using this
 ·have o:=kU (ns.map λk:Nat=>(k:Int))
  rw[e,List.pairwise_map]at o
  exact o.imp λh=>by lia
theorem gR(ns:List Nat):(ns.map λx=>D.int (x:Nat))=(ns.map λk:Nat=>(k:Int)).map D.int:=by rw[aCL];rfl
noncomputable def othersL(S ks:Nat):List Nat:=(List.range S).filter (·≠ks)
theorem xI{ks x:Nat}:x∈othersL S ks ↔ x < S/\x≠ks:=by simp[othersL]
theorem vU{ds:List D}:(!eqD (.lst ds) (.lst []))=decide (ds≠[]):=by
 cases ds with
 |nil=>rfl
 |cons d r=>simp[eqD,eqDs]
theorem aIq{ns:List Nat}{i:Int}(l:0<=i)(u:i < ns.length):∃k∈ns,atI (ns.map λx=>D.int (x:Nat)) i=some (.int (k:Nat)):=by
 have hi:i.toNat < ns.length:=by lia
 refine⟨ns[i.toNat],aEE hi,?_⟩
 simp only[atI,ixN,aAK]
 rw[aAH l,aAH u]
 simp[hi]
end LS
namespace LS
open PySem L2 EV
variable{EX:D->Mm->Prop}
theorem aEe(gs:List Nat):noLs (gs.map λk=>D.int (k:Nat))=true:=by
 induction gs with
 |nil=>rfl
 |cons x r ih=>simp[noLs,noL,ih]
theorem aKe(gs:List Nat):szs (gs.map λk=>D.int (k:Nat))=gs.length:=by
 induction gs with
 |nil=>rfl
 |cons x r ih=>simp[szs,sz,ih];lia
theorem aEx(d:Dd):noL (encD d)=true:=by
 cases d with
 |add s c g t=>simp[encD,natsD,noL,noLs,aEe]
 |scale s u=>simp[encD,noL,noLs]
variable{n:Int}
theorem aHm{G:Nat}{d:Dd}(h:OkD n G S d):sz (encD d)<=14:=by
 cases d with
 |add s c g t =>
  obtain⟨_,_,_,_,_,_,h1,h2⟩:=h
  simp[encD,natsD,sz,szs,aKe];lia
 |scale s u=>simp[encD,sz,szs]
theorem sR:∀ds:List Dd,noLs (ds.map encD)=true
 |[]=>rfl
 |d::r=>by simp[noLs,aEx d,sR r]
theorem uX{n:Int}{G S:Nat}:∀{ds:List Dd},(∀d∈ds,OkD n G S d)->szs (ds.map encD)<=14*ds.length
 |[],_=>by simp[szs]
 |d::r,h=>by
  have h1:=aHm (h d (by simp))
  have h2:=uX (ds:=r) λx hx=>h x (by simp[hx])
  simp[szs];lia
theorem aFr{G S:Int}:noL (encP n G S ds)=true:=by simp[encP,noL,noLs,sR]
theorem aHz{G S:Int}{G' S':Nat}{ds:List Dd}(h:∀d∈ds,OkD n G' S' d):sz (encP n G S ds)<=14*ds.length+5:=by
 have:=uX h
 simp[encP,sz,szs];lia
end LS
namespace LS
open PySem L2 EV
variable{EX:D->Mm->Prop}
noncomputable def pl(ps:List Nat)(i:Nat):Nat:=ps.getD i 0
end LS
namespace LS
open PySem L2 EV
variable{EX:D->Mm->Prop}
noncomputable def ho:Dd->Dd->Bool
 |.scale _ _,_=>false
 |.add s _ _ t,.scale s' _=>decide (s'=s) || decide (s'∈t)
 |.add _ _ _ t,.add s' _ _ _=>decide (s'∈t)
theorem uT(t:List Nat)(s:Nat):((t.map λk=>D.int (k:Nat)).any λy=>eqD y (.int (s:Nat)))=decide (s∈t):=by
 rw[aGS]
 simp only[List.any_map,List.any_eq_true,aAU,Function.comp]
 constructor
 ·rintro⟨x,hx,e⟩
  have:x=s:=by simp[eqD]at e;lia
  rw[<- this];exact hx
 ·intro h;exact⟨s,h,by simp[eqD]⟩
end LS
namespace LS
open PySem L2 EV
variable{EX:D->Mm->Prop}
end LS
namespace LS
open PySem L2 EV
end LS
section
open PySem PySem.Spec PyProof.Rows
namespace L2
open AutoSeq1 (wpAny_loadPart')
variable{prog:Program}{E:Value->Shared->Prop}
end L2
namespace EV
open L2
section
variable{K:Frag}{a b:Expr}{g:FE}
end
variable{EX:D->Mm->Prop}
end EV
end
namespace EV
open PySem
variable{P:List Value->Prop}
theorem exS{k:Nat}(h:∀a us,us.length=k->P (a::us)):∀us:List Value,us.length=k+1->P us
 |a::us,e=>h a us (Nat.succ.inj e)
theorem ex0(h:P [])(us:List Value)(e:us.length=0):P us:=by rw[aDN e];exact h
theorem ex1(h:∀a,P [a]):∀us:List Value,us.length=1->P us:=exS λa=>ex0 (P:=λus=>P (a::us)) (h a)
theorem ex2(h:∀a b,P [a,b]):∀us:List Value,us.length=2->P us:=exS λa=>ex1 (P:=λus=>P (a::us)) (h a)
theorem ex3(h:∀a b c,P [a,b,c]):∀us:List Value,us.length=3->P us:=exS λa=>ex2 (P:=λus=>P (a::us)) (h a)
theorem ex4(h:∀a b c d,P [a,b,c,d]):∀us:List Value,us.length=4->P us:=exS λa=>ex3 (P:=λus=>P (a::us)) (h a)
theorem ex5(h:∀a b c d e,P [a,b,c,d,e]):∀us:List Value,us.length=5->P us:=exS λa=>ex4 (P:=λus=>P (a::us)) (h a)
end EV
set_option maxHeartbeats 4000000
section
open PySem PySem.Spec PyProof.Rows
namespace ZP
variable{prog:Program}{E:Value->Shared->Prop}
noncomputable abbrev IsTrip(h:Heap)(T:Addr)(a b c:Value):Prop:=h.get? T=some {cls:=.type "tuple",data:=.seq #[a,b,c]}
set_option genSizeOf false in
set_option genInjectivity false in
structure Ap3(z TI TO i1 i2 i3 l1 l2 l3:Addr):Prop where
 z_TI:z≠TI
 z_TO:z≠TO
 z_i1:z≠i1
 z_i2:z≠i2
 z_i3:z≠i3
 TI_z:TI≠z
 TI_TO:TI≠TO
 TI_i1:TI≠i1
 TI_i2:TI≠i2
 TI_i3:TI≠i3
 TO_z:TO≠z
 TO_TI:TO≠TI
 TO_i1:TO≠i1
 TO_i2:TO≠i2
 TO_i3:TO≠i3
 i1_z:i1≠z
 i1_TI:i1≠TI
 i1_TO:i1≠TO
 i1_i2:i1≠i2
 i1_i3:i1≠i3
 i2_z:i2≠z
 i2_TI:i2≠TI
 i2_TO:i2≠TO
 i2_i1:i2≠i1
 i2_i3:i2≠i3
 i3_z:i3≠z
 i3_TI:i3≠TI
 i3_TO:i3≠TO
 i3_i1:i3≠i1
 i3_i2:i3≠i2
 l1_z:l1≠z
 l1_TI:l1≠TI
 l1_TO:l1≠TO
 l1_i1:l1≠i1
 l1_i2:l1≠i2
 l1_i3:l1≠i3
 l2_z:l2≠z
 l2_TI:l2≠TI
 l2_TO:l2≠TO
 l2_i1:l2≠i1
 l2_i2:l2≠i2
 l2_i3:l2≠i3
 l3_z:l3≠z
 l3_TI:l3≠TI
 l3_TO:l3≠TO
 l3_i1:l3≠i1
 l3_i2:l3≠i2
 l3_i3:l3≠i3
structure Zs3(h:Heap)(z TI TO i1 i2 i3 l1 l2 l3:Addr)(i:Nat)(xs ys us:Array Value):Prop where
 z:∃f0 f1,h.get? z=some (zobj TI TO f0 f1)/\(f0=.none\/∃T:Nat,f0=rawInt T)
 ti:IsTrip h TI (.ref i1) (.ref i2) (.ref i3)
 to:∃a b c,IsTrip h TO a b c
 a:It1 h i1 l1 i xs
 b:It1 h i2 l2 i ys
 c:It1 h i3 l3 i us
end ZP
namespace L2
end L2
namespace EV
open L2
variable{EX:D->Mm->Prop}
section
variable{K:Frag}{a b c:Expr}{g k:FE}{tg:Expr}
end
section
variable{g k:FE}
end
end EV
namespace RT
variable{prog:Program}{E:Value->Shared->Prop}
end RT
namespace L2
end L2
namespace EV
open L2
variable{K:Frag}{a:Expr}{EX:D->Mm->Prop}
end EV
end
namespace EV
open PySem
end EV
section
open PySem PySem.Spec PyProof.Rows
namespace L2
structure CompOkC(p:Str)(N0:List Str)(sc0:Scope)(scope:Scope)(Nc:List Str)(js:List (Option Nat)):Prop where
 kind:scope.kind=.function
 one:scope.names.filter (λy=>y.2==.cell)=[(p,.cell)]
 pc:scope.names.lookup p=some .cell
 names:∀y∈scope.names,y.2=.local->scope.names.lookup y.1=some .local
 free:∀y∈scope.names,y.2=.free->sc0.names.lookup y.1=some .cell
 len:js.length=Nc.length
 slots:∀p∈Nc.zip js,∀j∈p.2,N0[j]?=some p.1/\scope.names.lookup p.1=some .free/\sc0.names.lookup p.1=some .cell
noncomputable def compOkCB(p:Str)(N0:List Str)(sc0 scope:Scope)(Nc:List Str)(js:List (Option Nat)):Bool :=
 decide (scope.kind=.function)&&(scope.names.filter (λy=>y.2==.cell)==[(p,.cell)])&&(scope.names.lookup p==some .cell)&&scope.names.all (λy=>y.2 != .local || scope.names.lookup y.1==some .local)&&scope.names.all (λy=>y.2 != .free || sc0.names.lookup y.1==some .cell) &&
  (js.length==Nc.length)&&(Nc.zip js).all (λp=>match p.2 with|none=>true|some j=>N0[j]?==some p.1&&scope.names.lookup p.1==some .free&&sc0.names.lookup p.1==some .cell)
variable{p:Str}{scope:Scope}
theorem CompOkC.of{N0:List Str}{sc0:Scope}(h:compOkCB p N0 sc0 scope Nc js=true):CompOkC p N0 sc0 scope Nc js:=by
 unfold compOkCB at h
 simp only[aBM,aBC,aEM,aAU]at h
 obtain⟨⟨⟨⟨⟨⟨h1,h2⟩,h7⟩,h3⟩,h4⟩,h5⟩,h6⟩:=h
 refine⟨h1,h2,h7,λy hy e=>?_,λy hy e=>?_,h5,λp hp j hj=>?_⟩
 ·have:=h3 y hy
  simpa[e]using this
 ·have:=h4 y hy
  simpa[e]using this
 ·have:=h6 p hp
  have hj:p.2=some j:=hj
  rw[hj]at this
  simpa[and_assoc]using this
variable{σ:St}{H₂:Hp}{js:List (Option Nat)}{Cc:Addr}{tg iter elt:Expr}{ifs:List Expr}{js:List (Option Nat)}{g:TG}{ti:TT}{wi:TI}{pn:Str}
end L2
namespace EV
open L2
variable{K:Frag}{pn:Str}
end EV
namespace L2
end L2
namespace EV
open L2
variable{K:Frag}{EX:D->Mm->Prop}
end EV
namespace L2
open PySem.W PySem.Calls Builtin Builtin.ObjectAttr
variable{e:Expr}
end L2
namespace L2
noncomputable def strRep(x:Str)(k:Int):Str:=if(k==1 || x.length==0)=true then x else⟨(List.replicate k.toNat x.cps).foldl (·++·) #[]⟩
theorem yN(l:List (Array Nat)):∀(acc:Array Nat) (m:Nat),(∀a∈l,a.size=m)->(l.foldl (·++·) acc).size=acc.size+l.length*m:=by
 induction l with
 |nil=>intro acc m _;simp
 |cons a r ih =>
  intro acc m h
  rw[List.foldl_cons,ih _ m λb hb=>h b (by simp[hb])]
  simp only[aHR,h a (by simp),aBJ,Nat.succ_mul]
  lia
end L2
namespace EV
open L2
variable{K:Frag}{a:Expr}{EX:D->Mm->Prop}
end EV
end
namespace EV
open PySem
variable{EX:D->Mm->Prop}{gg:FG}{Q:W->Mm->Prop}
end EV
section
open PySem PySem.Spec PyProof.Rows
namespace L2
variable{M:Model}{E:Value->Shared->Prop}{env':Env}{L e:Addr}{P:Addr->Prop}{Q:Unit->Shared->Prop}{σ:List (Option V)}{scope:Scope}{H₂:Hp}{tg iter elt:Expr}{ifs:List Expr}{js:List (Option Nat)}{g:TG}{ti:TT}{wi:TI}
end L2
namespace EV
open L2
variable{K:Frag}
end EV
namespace L2
structure RoomH(k:Nat)(A:Around):Prop where
 dp:A.depth+3*k+5 < recursionLimit
 un:A.units+16*k+200 < cLine
structure FnOkH(P:Program)(w:World)(K:Frag)(mg:Str->Option Value)(base:Heap)(k:Nat)(f:Addr)(fd:FuncData)(ps:List Str)(sp:Sp):Prop where
 len:∀vs H Q E,sp vs H Q E->vs.length=ps.length
 run:∀(A:Around) (outer:List Env) (s:Shared) (H:Hp) (args:Args) (us:List Value) (vs:List V) (Q:VK) (E:XK),RoomH k A->Env0 P w K mg base A outer s H->BindsTo s fd args (ps.zip us)->Vals vs us->sp vs H Q E ->
  codeAny (model P w) A (.call (.ref f) args) (CR CX0 outer P w H s Q E) s
section
variable{k:Nat}{f:Addr}{e:Expr}{es:List Expr}{t:TA}
end
end L2
namespace EV
open L2
variable{K:Frag}{e:Expr}{es:List Expr}{fs:FA}{EX:D->Mm->Prop}{Q:W->Mm->Prop}{gg:FG}
end EV
namespace L2
variable{prog:Program}{E:Value->Shared->Prop}
theorem xW{t:Addr}{Q:List Value->Shared->Prop}(it:IsTup s.heap t us.toArray)(few:us.length<=sizeLine)
  (q:Q us {s with heap:=(s.heap.push (seqObj "list" #[] 0)).update s.heap.objs.size (Obj.mapSeq (·++us.toArray))}) :
  wpAny (model prog w) A (collect (.ref t)) Q E s:=by
 obtain⟨ob,g,gc,k,gd⟩:=id it
 have g1:=aAA (seqObj "list" #[] 0) g
 have g0:(s.heap.push (seqObj "list" #[] 0)).get? s.heap.objs.size=some (seqObj "list" #[] 0):=aAG _ rfl
 unfold collect
 refine aAB (wpAny_runValue (aFO (id:="proto.collect") entry_proto_collect' ?_))
 show wpAny _ _ (do again (.builtin "list.__iadd__" ⟨[<- newList [],.ref t],[]⟩)) _ _ s
 refine aAB (wpAny_newList (aAD ⟨aFT _ (by decide +kernel),?_⟩))
 refine aFO (id:="list.__iadd__") entry_list_iadd' ?_
 show wpAny _ _ (Builtin.List.listExtendWith (.ref s.heap.objs.size) (.ref t) (.ref s.heap.objs.size)) _ _ {s with heap:=s.heap.push (seqObj "list" #[] 0)}
 delta Builtin.List.listExtendWith
 refine aAB (aEV (T:="tuple") ⟨ob,g1,gc⟩ ?_)
 rw[aAH (by rw[show(Value.type "tuple"==Value.type "tuple")=true from rfl];simp)]
 refine aAB (listItems_at g1 gd (aAB (listItems_at g0 rfl ?_)))
 rw[aAL (by simp)]
 refine aAB (listUpdate_at g0 rfl (aAD ?_) (aGG _) ?_)
 ·refine aAB (wpAny_load (get?_update_seq g0 _) ?_)
  dsimp only
  have e:((#[]:Array Value)++us.toArray).toList=us:=by simp
  rw[e]
  exact aAD q
 ·simp only[aHR,aAJ,aGT]
  lia
theorem aEc{t:Addr}(it:IsTup s.heap t us.toArray)(hI:IntsAre us ns)(few:us.length < 64)
  (q:∀(out:Array Value) (ms:List Int),IntsAre out.toList ms->ms.Perm ns->ms.Pairwise (·<=·)->Q (.ref (s.heap.objs.size+1)) {s with heap:=sortedAll s.heap us out}) :
  wpAny (model prog w) A (call (.builtin "sorted") [.ref t]) Q E s:=by
 refine Calls.call_function_entry (id:="sorted") kind_sorted plain_sorted entry_sorted (args_sorted1 (.ref t)) ?_
 unfold Builtin.«sorted»
 refine aAB (m:=checkCount "sorted" 1 1 _) (aAD (aAB (xW it (by rw[aAT];lia) (aAB (wpAny_newList ?_)))))
 generalize eg:(s.heap.push (seqObj "list" #[] 0)).update s.heap.objs.size (Obj.mapSeq (·++us.toArray))=G
 have gz:G.objs.size=s.heap.objs.size+1:=by rw[<- eg,Heap.size_update,size_push']
 have go:(G.push (seqObj "list" us.toArray 0)).get? G.objs.size=some (seqObj "list" us.toArray 0):=aAG _ rfl
 show wpAny _ _ _ _ _ {s with heap:=G.push (seqObj "list" us.toArray 0)}
 refine aAB (aAY (aBX slot_list_sort ⟨_,go,rfl⟩ entry_list_sort (list_sort_tree go hI few λout ms a1 a2 a3=>⟨_,rfl,?_⟩) (args_list_sort _)))
 refine aAD ⟨.ref _,rfl,?_⟩
 have z:=q out ms a1 a2 a3
 unfold sortedAll at z
 rw[eg]at z
 rw[gz]
 exact z
end L2
namespace EV
open L2
variable{K:Frag}
theorem yJ:CallR X (.builtin "sorted") (λxs H Q=>∃p ns,xs=[.ref p]/\SqT X.K H p (ns.map V.int)/\ns.length < 64/\∀l,H l=none->Q (.ref l) (upd H l (.lst ((srt ns).map V.int)))):=by
 intro pins s σ H xs us Q I r h
 obtain⟨p,ns,rfl,hq,h64,q⟩:=h
 obtain⟨u,rfl,rx⟩:=vals1 r
 cases rx
 obtain⟨its,r',pl,hz⟩:=I.tuple hq
 have hI:=pV r'
 have hlen:its.length=ns.length:=by have:=r'.length;simpa using this.symm
 refine aEc (us:=its) pl hI (by lia) λout ns' a1 a2 a3=>?_
 have e:=oQ a2 a3
 subst e
 obtain⟨c,hc⟩:=sortedAll_at s.heap its out
 refine⟨.ref (s.heap.objs.size+1),_,I.laid (t':=s.toks) (λb o e=>sortedAll_old e) (aFG _) (show ObjOk X.prog X.w _ _ _ (.lst ((srt ns).map V.int))from⟨by rw[aAT];simp[pZ];lia,out.toList,c,nT a1,by simpa using hc⟩),rfl,q _ (I.hok.fresh (aFG _))⟩
noncomputable def cSortT(ws:List W)(M:Mm):Oc W:=match ws with
 |[w]=>match w with
  |.d (.tup xs)=>match intsOf xs with
   |some ns=>if ns.length < 64 then okD (.lst ((srt ns).map .int)) M else .bad
   |none=>.bad
  |_=>.bad
 |_=>.bad
theorem callSortT(hc:X.calm=true):ClG X K Z (.builtin "sorted") cSortT:=λhk=>by
 refine⟨_,hk▸yJ,?_⟩
 intro μ H M ws vs Q hr rx p
 match ws,rx,p with
 |[],_,p=>exact p.elim
 |[.ref _],_,p=>exact p.elim
 |[.d x],⟨v,r,e1,e2,e3⟩,p =>
  cases e3;subst e1
  cases x with
  |tup xs =>
   simp only[cSortT]at p
   cases q2:intsOf xs with
   |none=>rw[q2]at p;exact p.elim
   |some ns =>
    rw[q2]at p
    simp only at p
    split at p
    ·rename_i hz
     simp only[Rw,Rp]at e2
     obtain⟨a,us,rfl,h1,r1⟩:=e2
     have e:=mU q2
     subst e
     have e:=pU r1
     subst e
     exact⟨a,ns,rfl,SqT.of h1,hz,fE hr Rps.ints p⟩
    ·exact p.elim
  |_=>exact p.elim
 |_::_::_,_,p=>exact p.elim
variable{EX:D->Mm->Prop}{Q:W->Mm->Prop}
theorem aGq{ds:List D}(e:ds=ns.map D.int)(hz:ns.length < 64)(q:Q (.d (.lst ((srt ns).map D.int))) M):Okx EX (cSortT [.d (.tup ds)] M) Q:=by
 subst e
 unfold cSortT
 simp only[pF]
 rw[aAH hz]
 exact aH q
end EV
set_option maxHeartbeats 4000000
namespace L2
variable{prog:Program}{E:Value->Shared->Prop}{tg:Expr}
end L2
namespace EV
open L2
variable{EX:D->Mm->Prop}
section
variable{K:Frag}{a b tg:Expr}{g:FE}
end
section
variable{g:FE}
end
end EV
end
namespace EV
open PySem
variable{EX:D->Mm->Prop}{gg:FG}{Q:W->Mm->Prop}
theorem Okx.self{o:Oc α}{Q:α->Mm->Prop}(h:Okx EX o Q):Okx EX o λa M=>o=.ok a M/\Q a M:=by
 unfold Okx at h ⊢
 cases o with
 |ok a M=>exact⟨rfl,h⟩
 |ex x M=>exact h
 |bad=>exact h
theorem Chk.app{s:Src}{J:Mm}(h:Chk s M):Chk s (M++J):=λt e=>by
 have:=h t e
 cases t with
 |one t =>
  show(M++J)[t]?=_
  rw[aAX (aAE.mp this).1]
  exact this
 |two t ys =>
  show(M++J)[t]?=_
  rw[aAX (aAE.mp this).1]
  exact this
theorem dJ{fi:FI}(h:Okx EX (fi L M) λs M1=>∃g:D->D,s.ds.length<=16777216/\Chk s M1/\(∀d∈s.ds,∀acc,Ok (f (some (.d d)::outL js L) (M1++[acc])) λw M'=>w=.d (g d)/\M'=M1++[acc])/\Q (.d (.lst (s.ds.map g))) M1):Okx EX (eComp (none::js) fi (gN 0) tYes f L M) Q:=by
 refine gG (λi acc L' M'=>∃s M1 g,fi L M=.ok s M1/\(s.ds.length<=16777216/\Chk s M1/\(∀d∈s.ds,∀acc,Ok (f (some (.d d)::outL js L) (M1++[acc])) λw M'=>w=.d (g d)/\M'=M1++[acc])/\Q (.d (.lst (s.ds.map g))) M1)/\acc=(s.ds.take i).map g/\M'=M1/\∃a,L'=a::outL js L) (h.self.mono ?_)
 rintro s M1 ⟨e,g,hz,hc,hf,q⟩
 refine⟨⟨s,M1,g,e,⟨hz,hc,hf,q⟩,rfl,rfl,none,rfl⟩,?_,hz,?_,?_⟩
 ·rintro i acc L' M' hi ⟨s',M1',g',e',_,rfl,rfl,_⟩
  rw[e]at e'
  cases e'
  exact⟨rfl,hc.app,by simp;lia⟩
 ·rintro i d acc L' M' hd ⟨s',M1',g',e',⟨_,_,hf',q'⟩,rfl,rfl,a,rfl⟩
  rw[e]at e'
  cases e'
  refine qB (aH ⟨λ_=>(hf' d (aCD hd) _).mono ?_,λh=>by cases h⟩)
  rintro _ _ ⟨rfl,rfl⟩
  refine⟨_,_,rfl,rfl,s,_,g',e,⟨hz,hc,hf',q'⟩,?_,rfl,_,rfl⟩
  rw[aCQ,hd];simp
 ·rintro acc L' M' ⟨s',M1',g',e',⟨_,_,_,q'⟩,rfl,rfl,_⟩
  rw[e]at e'
  cases e'
  rw[aAC]
  exact q'
end EV
section
open PySem PySem.Spec PyProof.Rows
namespace EV
open L2
variable{K:Frag}
noncomputable section
def noV(u:Value):Bool:=match u with
 |.none=>true
 |_=>false
def noD(d:D):Bool:=match d with
 |.non=>true
 |_=>false
theorem aIm{d:D}:eqD d .non=noD d:=by cases d <;> simp[eqD,noD]
theorem aMz{d:D}(r:Rp K μ H d v)(q:RelV v u)(m:dep d<=100):noV u=noD d:=by
 cases n:fv d with
 |some w =>
  cases d with
  |non=>simp only[Rp]at r;subst r;cases q;rfl
  |bl y=>simp only[Rp]at r;subst r;cases q;rfl
  |int y=>simp only[Rp]at r;subst r;obtain⟨t,rfl⟩:=q;rfl
  |str y=>simp only[Rp]at r;subst r;obtain⟨t,rfl⟩:=q;rfl
  |_=>simp[fv]at n
 |none =>
  obtain⟨a,ds,k,rfl,at1⟩:=kF n m r
  cases q
  cases at1 <;> rfl
theorem tP{pins:List (Addr×Obj)}{σ:St}{μ:List Addr}{H:Hp}{s:Shared}(hu:X.A.units+101 < cLine)(I:L2.Inv X pins σ H s):∀{xs:List D} {vs:List V} {us:List Value},Rps X.K μ H xs vs->Vals vs us->deps xs<=100->(∀u∈us,SeqAt.EqAt X.A.in1 s u .none (noV u))/\us.any noV=xs.any noD
 |[],_,_,h,q,_=>by simp only[Rps]at h;subst h;cases q;exact⟨λu hu=>(aBW hu).elim,rfl⟩
 |x::xs,_,_,h,q,m=>by
  simp only[Rps]at h
  obtain⟨v,r,rfl,e2,e3⟩:=h
  cases q with
  |cons q1 q2 =>
   simp only[deps]at m
   obtain⟨i1,i2⟩:=tP hu I e3 q2 (by lia)
   have e:=aMz e2 q1 (by lia)
   refine⟨λu hu'=>?_,by rw[aDK,aDK,e,i2]⟩
   rcases aAO.mp hu' with rfl|h
   ·rw[e,<- aIm]
    exact aCz I rfl x X.A.in1 .non v .non _ .none (by show X.A.units+1+dep x < cLine;lia) (by lia) (by simp[dep]) e2 (by simp[Rp]) q1 rfl
   ·exact i1 u h
def rInN(K:Frag):R2:=λx y H Q=>∃p xs μ ds,x=.non/\y=.ref p/\(SqL K H p xs\/SqT K H p xs)/\Rps K μ H ds xs/\deps ds<=100/\Q (.bl (ds.any noD)) H
theorem aOa(hu:X.A.units+101 < cLine):OpR X (compareOp .In) (rInN X.K):=by
 intro pins s σ H x y v u Q I rx ry h
 obtain⟨p,xs,μ,ds,rfl,rfl,hq,rs,m,q⟩:=h
 cases rx
 cases ry
 rcases hq with hq|hq
 ·obtain⟨its,r,pl,hz⟩:=I.list hq
  obtain⟨i1,i2⟩:=tP hu I rs r m
  refine SeqAt.in_listAt noV pl.isList (λw hw=>i1 w (by simpa using hw)) ⟨.bl _,H,I,rfl,?_⟩
  rw[show its.toArray.any noV=its.any noV by simp,i2]
  exact q
 ·obtain⟨its,r,pl,hz⟩:=I.tuple hq
  obtain⟨i1,i2⟩:=tP hu I rs r m
  refine SeqAt.in_tupleAt noV pl (λw hw=>i1 w (by simpa using hw)) ⟨.bl _,H,I,rfl,?_⟩
  rw[show its.toArray.any noV=its.any noV by simp,i2]
  exact q
def pInN(x y:W)(M:Mm):Oc W:=match x,sv M y with
 |.d .non,some xs=>if deps xs<=100 then .ok (.d (.bl (xs.any noD))) M else .bad
 |_,_=>.bad
end
theorem opInN(hu:X.A.units+101 < cLine):OpG X K Z (compareOp .In) pInN:=λhk=>⟨_,hk▸aOa hu,by
 intro μ H M x y v u Q hr rx ry p
 cases x with
 |ref i=>exact p.elim
 |ob _ _=>exact p.elim
 |nest _=>exact p.elim
 |d d =>
  cases d with
  |non =>
   simp only[pInN]at p
   cases q:sv M y with
   |none=>rw[q]at p;exact p.elim
   |some xs =>
    rw[q]at p
    simp only at p
    split at p
    ·obtain⟨a,vs,rfl,h1,r1⟩:=lU hr ry q
     simp only[Rw,Rp]at rx
     exact⟨a,vs,μ,xs,rx,rfl,h1,r1,by assumption,p μ H .refl hr _ (by simp[Rw,Rp])⟩
    ·exact p.elim
  |_=>exact p.elim⟩
variable{EX:D->Mm->Prop}{Q:W->Mm->Prop}
theorem pQ{y:W}{xs:List D}(h:sv M y=some xs)(hz:deps xs<=100)(q:Q (.d (.bl (xs.any noD))) M):Okx EX (pInN (.d .non) y M) Q:=by
 unfold pInN
 rw[h]
 simp only
 rw[aAH hz]
 exact aH q
end EV
namespace L2
variable{e st:Expr}{ts:TO}
end L2
namespace EV
open L2
variable{K:Frag}{e st:Expr}{fs:FO}{EX:D->Mm->Prop}{Q:W->Mm->Prop}
end EV
end
namespace EV
open PySem
end EV
section
open PySem PySem.Spec PyProof.Rows
namespace L2
variable{o i:Expr}{to ti:TE}
end L2
namespace EV
open L2
variable{K:Frag}{o i:Expr}{EX:D->Mm->Prop}{Q:Out->Mm->Prop}
end EV
namespace L2
variable{prog:Program}{E:Value->Shared->Prop}{o:Expr}{lo hi:Option Expr}{to:TE}{tl th:TO}
end L2
namespace EV
open L2
variable{K:Frag}{o:Expr}{lo hi:Option Expr}{fl fh:FO}{EX:D->Mm->Prop}
end EV
namespace L2
variable{tg:Expr}
end L2
namespace EV
open L2
variable{EX:D->Mm->Prop}{K:Frag}{a b c tg:Expr}
end EV
end
namespace HT
open PySem PyProof.Rows
noncomputable def RcLt(A:Around)(s:Shared)(v w:Value)(r:Bool):Prop:=∀(prog:Program) (wo:World) (E:Value->Shared->Prop) (Q:Value->Shared->Prop),Q (.bool r) s->wpAny (model prog wo) A (richCompare .Lt v w) Q E s
inductive LtOk(A:Around)(s:Shared):List Value->List Value->Bool->Prop where
 |nn:LtOk A s [] [] false
 |nc {w ws:_}:LtOk A s [] (w::ws) true
 |cn {v vs:_}:LtOk A s (v::vs) [] false
 |eq {v w vs ws r:_}:SeqAt.EqAt A s v w true->LtOk A s vs ws r->LtOk A s (v::vs) (w::ws) r
 |ne {v w vs ws r:_}:SeqAt.EqAt A s v w false->RcLt A s v w r->LtOk A s (v::vs) (w::ws) r
section
open PySem.SeqAt
open PySem.AutoSeq1 (wpAny_loadPart')
open PySem.MeetsSeq PySem.MeetsSeq2 PySem.MeetsSeq3
end
variable{prog:Program}{E:Value->Shared->Prop}
end HT
section
open PySem PySem.Spec PyProof.Rows
namespace EV
open L2
variable{K:Frag}
noncomputable def ltE(x y:D):Option Bool:=match x,y with
 |.int a,.int b=>some (decide (a < b))
 |.bl a,.bl b=>some (decide (b2i a < b2i b))
 |.tup xs,.tup ys=>match intsOf xs,intsOf ys with
  |some ns,some ms=>some (HT.lexLt ns ms)
  |_,_=>none
 |_,_=>none
noncomputable def ltT:List D->List D->Option Bool
 |[],[]=>some false
 |[],_::_=>some true
 |_::_,[]=>some false
 |x::xs,y::ys=>if eqD x y=true then ltT xs ys else ltE x y
variable{EX:D->Mm->Prop}{Q:W->Mm->Prop}
end EV
set_option maxHeartbeats 4000000
end
namespace L2
open PySem PySem.W PyProof.Rows
structure Lin(lt:Nat->Nat->Bool)(n:Nat):Prop where
 tot:∀i j,i < n->j < n->i≠j->lt i j=!lt j i
 tr:∀i j k,i < n->j < n->k < n->lt i j=true->lt j k=true->lt i k=true
structure PPm(n:Nat)(p:Array Nat):Prop where
 sz:p.size=n
 pm:p.toList.Perm (List.range n)
section
variable{lt:Nat->Nat->Bool}{n:Nat}{p:Array Nat}
theorem PPm.of(h:PPm n p){q:Array Nat}(hq:q.Perm p)(hz:q.size=p.size):PPm n q:=⟨hz.trans h.sz,(Array.perm_iff_toList_perm.mp hq).trans h.pm⟩
end
end L2
section
open PySem PySem.Spec PyProof.Rows
namespace L2
open PySem.W
section
variable{prog:Program}{E:Value->Shared->Prop}{lt:Nat->Nat->Bool}
end
end L2
namespace EV
open L2 PySem.W
variable{prog:Program}
noncomputable def tl:D->List D
 |.tup xs=>xs
 |_=>[]
noncomputable def tLt(xs:List D)(i j:Nat):Bool:=ltT (tl (xs.getD i .non)) (tl (xs.getD j .non))==some true
structure TS(xs:List D):Prop where
 l2:2<=xs.length
 l64:xs.length < 64
 it:∀x∈xs,∃ys zs,x=.tup (.tup ys::zs)/\deps (.tup ys::zs)<=50
 so:∀i j,i < xs.length->j < xs.length->ltT (tl (xs.getD i .non)) (tl (xs.getD j .non))≠none
 lin:Lin (tLt xs) xs.length
variable{K:Frag}{EX:D->Mm->Prop}{Q:W->Mm->Prop}{x:W}
end EV
namespace EV
open L2
variable{K:Frag}{o:Expr}{EX:D->Mm->Prop}{Q:W->Mm->Prop}
end EV
set_option maxHeartbeats 1000000
namespace L2
open AutoSeq1 (wpAny_loadPart')
theorem aEt(a b:Value):checkTypeCall "enumerate" ⟨[a],[(Str.ofString "start",b)]⟩=pure ():=by kernel_rfl
theorem aCy(a b:Value):checkBuiltinCall "enumerate.__new__" ⟨[.type "enumerate",a],[(Str.ofString "start",b)]⟩=pure ():=by kernel_rfl
theorem aFa(o a b:Value):argsOk "object.__init__" ⟨[o,a],[(Str.ofString "start",b)]⟩:=by
 unfold argsOk;rw[signature?_of (id:="object.__init__") (n:=['_','_','t','i','n','i','_','_']) (o:=['t','c','e','j','b','o']) (by kernel_rfl) F.owner_object];kernel_rfl
variable{prog:Program}{E:Value->Shared->Prop}
theorem initK{self a b:Value}:Meets (Builtin.«object.__init__» ⟨[self,a],[(Str.ofString "start",b)]⟩) (λ_ R s=>s.TypeIs self "enumerate"/\R (.ok (.ret .none)) s):=by
 have hl:=aHG.init.lookup
 have hm:=aHG.made
 refine Meets.of_wp λprog w A R s ⟨hT,hq⟩=>?_
 repeat(any_goals (first|assumption|wp_step))
 exact⟨_,rfl,hq⟩
end L2
namespace L2
variable{prog:Program}{E:Value->Shared->Prop}
end L2
set_option maxHeartbeats 4000000
namespace L2
theorem aHq{M:Model}{E:Value->Shared->Prop}{T:String}{args:List (Bool×Sem Value)}{kws:List (Option Str×Sem Value)}(h1:args.any (·.1)=false)(h2:kws.any (·.1.isNone)=false)
  (h:wpAny M A (evalArgs (.type T) true args kws) (λa s₁=>wpAny M A (call (.type T) a.pos a.kw) Q E s₁) E s):wpAny M A (callWith pos (.type T) [] args kws) Q E s:=by
 unfold callWith
 refine aAB (aAY (aCJ h (λa s₁ z=>aAB (aDL ?_)) λ_ _ x=>x));simp only[h1,h2,aGI]
 exact aAB (aAD (aAB (aCJ z (λr s₂ hr=>aAB (aAY (wpAny_point (aAD hr)))) λ_ _ x=>x)))
end L2
namespace EV
open L2
section
variable{K:Frag}{a b:Expr}{g:FE}{EX:D->Mm->Prop}
end
variable{K:Frag}
end EV
namespace L2
variable{prog:Program}{E:Value->Shared->Prop}
theorem aHs:fillsInplaceSlot (.type "list") "add" (Operator.Add==.Add)=pure false:=by
 unfold fillsInplaceSlot
 show(typeLookup (.type "list") (dunderI "add") >>= _)=_
 rw[F.slot_list_iadd.lookup]
 rfl
theorem aIy:seqSlot? (.type "list") (dunderI "add")=pure (some (.builtin "list.__iadd__")):=by
 unfold seqSlot?
 rw[F.slot_list_iadd.lookup]
 rfl
theorem aKi:fillsNumberSlot (.type "list") "add"=pure false:=by
 first|exact noFill_list_add|(unfold fillsNumberSlot;kernel_rfl)
theorem aBb{a b:Value}(ha:s.TypeIs a "list")(hb:s.TypeIs b "list")(hc:wpAny (model prog w) A (call (.builtin "list.__iadd__") [a,b]) Q E s):wpAny (model prog w) A (inplaceOp .Add a b) Q E s:=by
 unfold inplaceOp
 refine aAY (aAB (aEV ha (aAB (wpAny_of_eq aHs ?_))))
 show wpAny (model prog w) A (if false=true then _ else _) Q E s
 rw[aAL (by decide)]
 exact aAB (wpAny_binaryOp1_none (nm:="add") ha hb aKi (aAB (wpAny_of_eq aIy (aAB (aEB hc)))))
noncomputable def ipL:TIp:=λx y H Q=>∃l b xs zs,x=.ref l/\y=.ref b/\H l=some (.lst xs)/\H b=some (.lst zs)/\xs.length+zs.length<=sizeLine/\Q (.ref l) (upd H l (.lst (xs++zs)))
theorem aJr:PIp X .Add ipL:=by
 intro pins s σ H x y v u Q I r1 r2 h
 obtain⟨l,b,xs,zs,rfl,rfl,hH,hB,hz,q⟩:=h
 cases r1
 cases r2
 obtain⟨z,its,n,r,hl,e⟩:=I.lstM hH
 obtain⟨z2,its2,n2,r2,hl2,e2⟩:=I.lstM hB
 have hsz:its.toArray.size+its2.toArray.size<=sizeLine:=by rw[aAJ,aAJ];lia
 have hno:¬(!its.toArray.isEmpty&&Builtin.List.listTooLong (its.toArray.size+its2.toArray.size))=true:=by rw[notLongL hsz,aEC];decide
 refine aBb ⟨_,e,rfl⟩ ⟨_,e2,rfl⟩ (aCZ F.slot_list_iadd ⟨_,e,rfl⟩ F.entry_list_iadd (F.args_list_iadd_2 _ _) (AutoSeq1.list___iadd___list_list_0 l its.toArray n b its2.toArray n2 hno (by rw[aAJ];lia) (by lia)) ⟨e,e2,?_⟩)
 refine⟨.ref l,_,I.lset (its':=its++its2) hH e (by simp) (r.append r2) ?_,rfl,q⟩;rw[aBB];lia
end L2
namespace EV
open L2
variable{K:Frag}{e:Expr}
noncomputable def sAugL(i:Nat)(f:FE):FS:=λL M=>(eV i L M).bind λx _=>(f L M).bind λy M1=>match x with
 |.ref k=>match M1[k]?,lv M1 y with
  |some xs,some ys=>if xs.length+ys.length<=16777216 then .ok (.nx (L.set i (some (.ref k)))) (M1.set k (xs++ys))else .bad
  |_,_=>.bad
 |_=>.bad
theorem tF(hN:X.N.Nodup)(he:Ev X K Z e f)(hi:X.N[i]?=some x:=by rfl)(hx:Loc X.env.scope x:=by first|exact Or.inl rfl|exact Or.inr rfl)
  (hf:X.fn x=true\/X.env.scope.names.lookup x=some .local:=by first|exact .inl rfl|exact .inr rfl|assumption):Es X K Z (.AugAssign (.Name x pos') .Add e pos) (sAugL i f):=by
 refine⟨he.k,cqS (aFh hN hi hx he.h aJr hf) ?_⟩
 rintro E σ H ⟨μ,M,L,hr,lr,p⟩
 unfold sAugL eV at p
 cases q:L[i]? with
 |none=>rw[q]at p;exact p.elim
 |some o =>
  cases o with
  |none=>rw[q]at p;exact p.elim
  |some w =>
   rw[q]at p
   obtain⟨v,q1,q2⟩:=lr.ent i w q
   refine⟨v,q1,μ,M,L,hr,lr,(show Pst K Z μ H ((f L M).bind _) _ from p).bind.imp λμ1 H1 M1 y e1 hr1 _ p1 u ru=>?_⟩
   cases w with
   |d w=>exact p1.elim
   |ob _ _=>exact p1.elim
   |nest _=>exact p1.elim
   |ref k =>
    cases k1:M1[k]? with
    |none=>simp only[k1]at p1;exact p1.elim
    |some xs =>
     cases k2:lv M1 y with
     |none=>simp only[k1,k2]at p1;exact p1.elim
     |some ys =>
      simp only[k1,k2]at p1
      split at p1
      ·rename_i hz
       obtain⟨a,qa,rfl,il⟩:=Rw.ext hr.lsts e1 q2
       obtain⟨a',vs,qa',h1,r1⟩:=hr1.at k1 qa
       rw[qa]at qa';cases qa'
       obtain⟨b,us,rfl,h2,r2⟩:=rU hr1 ru k2
       refine⟨a,b,vs,us,rfl,rfl,h1,h2,by rw[<- r1.length,<- r2.length,aAT];exact hz,?_⟩
       have x:=dN (H:=H1) (vs:=vs++us) qa
       exact p1 μ1 _ x (hr1.set qa (r1.append r2)) _ (LR.set ((lr.ext hr.lsts e1).ext hr1.lsts x) ⟨a,qa,rfl,_,bB⟩)
      ·exact p1.elim
variable{EX:D->Mm->Prop}
theorem uE{k:Nat}(h:L[i]?=some (some (.ref k)))(z:Okx EX (f L M) λy M1=>∃xs ys,M1[k]?=some xs/\lv M1 y=some ys/\xs.length+ys.length<=16777216/\QS (.nx (L.set i (some (.ref k)))) (M1.set k (xs++ys))):Okx EX (sAugL i f L M) QS:=by
 unfold sAugL eV
 rw[h]
 exact aG (aH (aG (z.mono λy M1 ⟨xs,ys,e1,e2,hz,q⟩=>by simp only[e1,e2];rw[aAH hz];exact aH q)))
end EV
set_option maxHeartbeats 4000000
namespace L2
noncomputable def nR3(a b c:Int):Nat:=(if a < b then(b - a - 1) / c+1 else 0).toNat
noncomputable def r3(a b c:Int):List Int:=(List.range (nR3 a b c)).map λi=>a+(i:Nat)*c
variable{a b c:Expr}{ta:TA}
end L2
namespace EV
open L2
variable{EX:D->Mm->Prop}{K:Frag}{a b c:Expr}{Q:W->Mm->Prop}
end EV
namespace EV
open L2
variable{K:Frag}{e:Expr}{es:List Expr}{fs:FA}
end EV
set_option maxHeartbeats 4000000
namespace EV
open L2
variable{K:Frag}{e a b o:Expr}{es:List Expr}{fs:FA}
section
variable{Q:W->Mm->Prop}{g:FE}{x y:W}
end
variable{K:Frag}{tg:Expr}
noncomputable def gOr(g1 g2:FG):FG:=λw L M=>match w with
 |.d (.lst xs)=>g2 (.d (.lst xs)) L M
 |w=>g1 w L M
theorem aPl{g1 g2:FG}(h1:Eg X K Z tg g1)(h2:Eg X K Z tg g2):Eg X K Z tg (gOr g1 g2):=by
 refine⟨h1.k,λpins s σ H v u Q I r q=>?_⟩
 obtain⟨μ,M,L,w,hr,lr,rx,p⟩:=q
 by_cases hw:∃xs,w=.d (.lst xs)
 ·obtain⟨xs,rfl⟩:=hw
  exact h2.h pins s σ H v u Q I r ⟨μ,M,L,_,hr,lr,rx,p⟩
 ·refine h1.h pins s σ H v u Q I r ⟨μ,M,L,w,hr,lr,rx,?_⟩
  have:gOr g1 g2 w L M=g1 w L M:=by
   unfold gOr
   split
   ·exact(hw ⟨_,rfl⟩).elim
   ·rfl
  rw[this]at p;exact p
theorem aKd{g1 g2:FG}{xs:List D}{Q:Lc->Mm->Prop}(h:Okx EX (g2 (.d (.lst xs)) L M) Q):Okx EX (gOr g1 g2 (.d (.lst xs)) L M) Q:=h
variable{K:Frag}{f:Str}
structure OCl(K:Frag)(c:Str)(C:Addr):Prop where
 nm:nsIn K mainGlobals c=some (some (.ref C))
 cl:Cls K C
 nd:c≠"dict"
variable{K:Frag}{f:FE}
section
variable{Q:W->Mm->Prop}{g fv:FE}{F:Fn}{c m:Str}{i:Nat}{ds:List D}{x:D}
end
end EV
set_option maxHeartbeats 4000000
namespace L2
section
variable(P:Program)(w:World)
end
variable{o:HO}{x e:Addr}{o':HO}
section
variable{fs fs' ex ex':List Addr}{h1 h2:Heap}
end
variable{σ:List (Option V)}
section
variable{a b:Expr}{tA tB':TT}{rest:List Expr}
end
variable{σ:St}{xs ys:List V}{E:Value->Shared->Prop}
section
variable{rest:List Stmt}{t u:TS}{e:Expr}
end
variable{tg:Expr}{a b c:Expr}{tc:TE}{prog:Program}{K:Frag}{f:Addr}{v:Value}
section
variable{a:Addr}{fs fs':List (Str×V)}
end
section
variable{a:Addr}{fs:List (Str×V)}{f:Str}{v:V}
end
variable{o e value:Expr}{f:Str}{tv:TE}{c:Value}{b:Bool}
section
variable{es:List Expr}{t:TA}
end
section
variable{k:Nat}{f:Addr}{dvs:List V}{ds:List Value}{E:XK}{x m:Str}{es:List Expr}{t:TA}
end
section
variable{k:Nat}{f:Addr}{ks:List Str}{E:XK}{x m:Str}{kpos:Pos}{es:List Expr}{kws:List Keyword}{t tk:TA}{nm:Option Str}{g:List Value->List Value->List Value}{gV:List V->List V->List V}
end
section
variable{x:Str}{es:List Expr}{t:TA}{id T:String}
end
section
variable{κ:Type}[DecidableEq κ]
noncomputable section
def valV(kvs:List (κ×V))(k:κ):Option V:=(kvs.find? λkv=>decide (kv.1=k)).map (·.2)
def putK(kvs:List (κ×V))(k:κ)(v:V):List (κ×V) :=
 if(kvs.any λkv=>decide (kv.1=k))=true then kvs.map (λkv=>if kv.1=k then(kv.1,v)else kv)else kvs++[(k,v)]
def dropK(kvs:List (κ×V))(k:κ):List (κ×V):=kvs.filter λkv=>decide (kv.1≠k)
end
theorem uY{p:κ×V}{r:List (κ×V)}{k:κ}(e:p.1=k):valV (p::r) k=some p.2:=by simp[valV,aEL,e]
theorem wR{p:κ×V}{r:List (κ×V)}{k:κ}(e:¬p.1=k):valV (p::r) k=valV r k:=by simp[valV,aEL,e]
theorem RelO.getD{o:Option V}{u:Option Value}{d:V}{d':Value}(r:RelO o u)(rd:RelV d d'):RelV (o.getD d) (u.getD d'):=by
 cases o with
 |none=>cases u with
  |none=>exact rd
  |some _=>exact(show False from r).elim
 |some _=>cases u with
  |none=>exact(show False from r).elim
  |some _=>exact r
theorem KV.val{kvs:List (κ×V)}{vs:List (κ×Value)}(r:KV kvs vs)(k:κ):RelO (valV kvs k) (valueAt vs k):=by
 unfold KV at r
 induction r with
 |nil=>exact True.intro
 |@cons p q ps qs h t ih =>
  obtain⟨h1,h2⟩:=h
  by_cases e:p.1=k
  ·have e':q.1=k:=h1.symm.trans e
   have b:valueAt (q::qs) k=some q.2:=by simp[valueAt,aEL,e']
   rw[uY e,b];exact h2
  ·have e':¬q.1=k:=λz=>e (h1.trans z)
   have b:valueAt (q::qs) k=valueAt qs k:=by simp[valueAt,aEL,e']
   rw[wR e,b];exact ih
theorem KV.any{kvs:List (κ×V)}{vs:List (κ×Value)}(r:KV kvs vs)(k:κ):(kvs.any λkv=>decide (kv.1=k))=vs.any λkv=>decide (kv.1=k):=by
 unfold KV at r
 induction r with
 |nil=>rfl
 |cons h t ih=>rw[aDK,aDK,ih,h.1]
theorem KV.drop{kvs:List (κ×V)}{vs:List (κ×Value)}(r:KV kvs vs)(k:κ):KV (dropK kvs k) (without vs k):=by
 unfold KV at r ⊢
 unfold dropK without
 induction r with
 |nil=>exact .nil
 |@cons p q ps qs h t ih =>
  obtain⟨h1,h2⟩:=h
  rw[List.filter_cons,List.filter_cons]
  by_cases e:p.1=k
  ·have a:¬decide (p.1≠k)=true:=by simp[e]
   have b:¬decide (q.1≠k)=true:=by simp[h1.symm.trans e]
   rw[aAL a,aAL b];exact ih
  ·have e':¬q.1=k:=λz=>e (h1.trans z)
   have a:decide (p.1≠k)=true:=by simp[e]
   have b:decide (q.1≠k)=true:=by simp[e']
   rw[aAH a,aAH b];exact .cons ⟨h1,h2⟩ ih
theorem KV.length{kvs:List (κ×V)}{vs:List (κ×Value)}(r:KV kvs vs):kvs.length=vs.length:=Paired.length r
end
noncomputable abbrev KT(H:Hp):List (List Key×V)->List (List Key×Addr×Value)->Prop:=Paired λp q=>p.1=q.1/\H q.2.1=some (.tup (p.1.map kV))/\RelV p.2 q.2.2
variable{kvs:List (List Key×V)}
theorem KT.val{xs:List (List Key×Addr×Value)}(r:KT H kvs xs)(k:List Key):RelO (valV kvs k) ((atKey xs k).map (·.2)):=by
 induction r with
 |nil=>exact True.intro
 |@cons p q ps qs h t ih =>
  obtain⟨h1,_,h2⟩:=h
  by_cases e:p.1=k
  ·have e':q.1=k:=h1.symm.trans e
   have b:atKey (q::qs) k=some q.2:=by simp[atKey,aEL,e']
   rw[uY e,b];exact h2
  ·have e':¬q.1=k:=λz=>e (h1.trans z)
   have b:atKey (q::qs) k=atKey qs k:=by simp[atKey,aEL,e']
   rw[wR e,b];exact ih
variable{a:Addr}
noncomputable def DGet(H:Hp)(a:Addr)(y:V)(r:Option V):Prop :=
 (∃kvs k,Rd H a (.dK kvs)/\y=kV k/\r=valV kvs k)\/∃kvs k b,Rd H a (.dT kvs)/\y=.ref b/\H b=some (.tup (k.map kV))/\r=valV kvs k
noncomputable def DPut(H:Hp)(a:Addr)(y v:V)(H':Hp):Prop :=
 (∃kvs k,H a=some (.dK kvs)/\y=kV k/\kvs.length < sizeLine/\H'=upd H a (.dK (putK kvs k v))) \/
 ∃kvs k b,H a=some (.dT kvs)/\y=.ref b/\H b=some (.tup (k.map kV))/\kvs.length < sizeLine/\H'=upd H a (.dT (putK kvs k v))
theorem DGet.k{H:Hp}{a:Addr}{kvs:List (Key×V)}{k:Key}(e:H a=some (.dK kvs)):DGet H a (kV k) (valV kvs k):=.inl ⟨kvs,k,.inl e,rfl,rfl⟩
theorem DGet.t{b:Addr}{k:List Key}(e:H a=some (.dT kvs))(eb:H b=some (.tup (k.map kV))):DGet H a (.ref b) (valV kvs k):=.inr ⟨kvs,k,b,.inl e,rfl,eb,rfl⟩
theorem DPut.k{H:Hp}{a:Addr}{kvs:List (Key×V)}{k:Key}{v:V}(e:H a=some (.dK kvs))(hl:kvs.length < sizeLine):DPut H a (kV k) v (upd H a (.dK (putK kvs k v))):=.inl ⟨kvs,k,e,rfl,hl,rfl⟩
variable{v:V}
theorem DPut.t{b:Addr}{k:List Key}(e:H a=some (.dT kvs))(eb:H b=some (.tup (k.map kV)))(hl:kvs.length < sizeLine) :
  DPut H a (.ref b) v (upd H a (.dT (putK kvs k v))):=.inr ⟨kvs,k,b,e,rfl,eb,hl,rfl⟩
variable{y:V}{r:Value}{o:Option V}
section
variable{kvs:List (Key×V)}{k:Key}
end
variable{o i:Expr}{td ty:TE}
structure M1(X:Cx)(o:Expr)(m:Str)(apos:Pos)(e:Expr)(cpos:Pos):Prop where
 base:attributeBase o m X.env (eval o X.env)=eval o X.env
 few:((backTo cpos (starEach [e] X.env)).all (λx=>!x.1)&&(backToKw cpos (keywordEach [] X.env)).all (λx=>x.1.isSome)
  && decide (([e]:List Expr).length+([]:List Keyword).length+(if([]:List Keyword).isEmpty then 0 else 1) < 30))=true
 line:(apos.endLine==cpos.line)=true
 trees:backTo cpos (starEach [e] X.env)=[(false,eval e X.env)]
structure M2(X:Cx)(o:Expr)(m:Str)(apos:Pos)(e f:Expr)(cpos:Pos):Prop where
 base:attributeBase o m X.env (eval o X.env)=eval o X.env
 few:((backTo cpos (starEach [e,f] X.env)).all (λx=>!x.1)&&(backToKw cpos (keywordEach [] X.env)).all (λx=>x.1.isSome)
  && decide (([e,f]:List Expr).length+([]:List Keyword).length+(if([]:List Keyword).isEmpty then 0 else 1) < 30))=true
 line:(apos.endLine==cpos.line)=true
 trees:backTo cpos (starEach [e,f] X.env)=[(false,eval e X.env),(false,eval f X.env)]
variable{d:V}{o:Option V}{o f:Expr}{tx:TE}{kvs:List (Key×V)}
end L2
end
namespace Att
open PySem PySem.W PySem.Calls PyProof.Rows
variable{prog:Program}{E:Value->Shared->Prop}{K:Frag}
end Att
section
open PySem PySem.Spec PyProof.Rows
namespace L2
variable{K:Frag}
section
variable{κ:Type}[DecidableEq κ]
end
end L2
set_option maxHeartbeats 4000000
namespace EV
open L2
variable{K:Frag}{k:List Key}
theorem SameK.dT{xs ys:List (List Key×V)}:SameK (.dT xs) (.dT ys):=⟨λ_ h=>(nomatch h),λ_ _ _ h=>(nomatch h),λ_ _=>⟨ys,rfl⟩⟩
section
variable{K:Frag}{e a b o i:Expr}{fv:FE}
end
variable{K:Frag}{K:Frag}{o i:Expr}
section
variable{Q:W->Mm->Prop}{fv:FE}
end
end EV
namespace L2
theorem aCo(z:Str)(lo hi:Option Int):PySem.Txt.slice z lo hi=⟨((z.cps.toList.drop (HT.sIx z.length 0 lo)).take (HT.sIx z.length z.length hi - HT.sIx z.length 0 lo)).toArray⟩:=by
 obtain⟨h1,h2,h3⟩:=lR lo hi z.length
 have e:Builtin.Str.strSliceIndices lo hi 1 z.length=(List.range (HT.sIx z.length z.length hi - HT.sIx z.length 0 lo)).map (HT.sIx z.length 0 lo+·):=by
  rw[<- sliceRange_one,<- h1,<- h2]
  rfl
 have hl:=HT.sIx_le z.length z.length (aAI _) hi
 unfold PySem.Txt.slice
 rw[e,pick_run]
 split
 ·rename_i h
  simp only[aAK,aCH,aGN,Bool.true_and,aEM]at h
  obtain⟨⟨zs⟩⟩:=z
  have hz:Str.length ⟨⟨zs⟩⟩=zs.length:=rfl
  rw[hz]at h hl ⊢
  by_cases h0:zs.length=0
  ·have:zs=[]:=aDN h0
   subst this;simp
  ·rw[show HT.sIx zs.length 0 lo=0 by lia,show HT.sIx zs.length zs.length hi - 0=zs.length by lia]
   simp
 ·rfl
theorem aMk:SlR X (λx lo hi H Q=>∃z,x=.str z/\z.length<=sizeLine/\Q (.str (PySem.Txt.slice z lo hi)) H):=by
 intro pins s σ H x v vl vu lo hi sl Q I rx hs pl pu h
 obtain⟨z,rfl,hz,q⟩:=h
 obtain⟨t,rfl⟩:=rx
 refine⟨"str",_,PySem.F.slot_str_getitem.lookup,aFW _ _ _,?_⟩
 have part:∀{v:Value} {o:Option Int},IsPart v o->∃l:Option (Int×Tok),v=partValue l/\l.map (·.1)=o:=by
  intro v o h
  cases h with
  |none=>exact⟨none,rfl,rfl⟩
  |int i t=>exact⟨some (i,t),rfl,rfl⟩
 obtain⟨l,rfl,e1⟩:=part pl
 obtain⟨u,rfl,e2⟩:=part pu
 subst e1 e2
 exact wpAny_getItem_str_slice (l:=l) (u:=u) (st:=none) hs rfl (post_val_or_str ⟨aBD (PySem.Txt.slice_le z _ _) hz,λt' k=>⟨.str _,H,I.tok k,⟨t',rfl⟩,q⟩⟩)
theorem qS:CallR X (.type "int") (λxs H Q=>∃z i,xs=[.str z]/\z.length<=640/\PySem.intText? z=some i/\Q (.int i) H):=by
 intro pins s σ H xs us Q I r h
 obtain⟨z,i,rfl,hz,hi,q⟩:=h
 obtain⟨u,rfl,t,rfl⟩:=vals1 r
 exact PySem.W.KIN.call_text hi hz ⟨.int _,H,I.tok _,⟨_,rfl⟩,q⟩
theorem lE{ns:List Str}:∀{us:List Value},Vals (ns.map V.str) us->StrsAre us ns:=by
 induction ns with
 |nil=>intro us r;rw[List.map_nil]at r;cases r;exact .nil
 |cons n ns ih =>
  intro us r
  rw[aAV]at r
  cases r with
  |cons r1 r2 =>
   obtain⟨t,e⟩:=r1
   subst e
   exact .cons n t (ih r2)
theorem aIw:MtR X "str.join" (λx xs H Q=>∃sep p ys,x=.str sep/\xs=[.ref p]/\(SqL X.K H p (ys.map V.str)\/SqT X.K H p (ys.map V.str))/\(ys.map (·.length)).sum+ys.length*sep.length<=16777216/\Q (.str (Str.join sep ys)) H):=by
 intro pins s σ H x xs v us Q I rx rs h
 obtain⟨sep,p,ys,rfl,rfl,hp,hz,q⟩:=h
 obtain⟨t,rfl⟩:=rx
 obtain⟨u,rfl,e⟩:=vals1 rs
 cases e
 have fin:∀t' k,EP X pins σ Q (.str (PySem.Txt.join sep ys) t') {s with toks:=k}:=λt' k=>⟨.str _,H,I.tok k,⟨t',rfl⟩,by
  rw[show PySem.Txt.join sep ys=Str.join sep ys from StrLaws.glued_eq_join sep ys];exact q⟩
 rcases hp with hp|hp
 ·obtain⟨its,r,ht,_⟩:=I.list hp
  exact join_list ht.isList (lE r) hz fin
 ·obtain⟨its,r,ht,_⟩:=I.tuple hp
  exact join_tuple ht (lE r) hz fin
noncomputable section
abbrev TJ:=Str->St->Hp->(Str->Hp->Prop)->Prop
def PJ(X:Cx)(es:List Expr)(t:TJ):Prop :=
 ∀(pins:List (Addr×Obj)) (s:Shared) (σ:St) (H:Hp) (acc:Str) (Q:Str->Hp->Prop),Inv X pins σ H s->t acc σ H Q ->
  wpAny (model X.prog X.w) X.A (joinParts acc (evalEach es X.env)) (EP X pins σ λv H'=>∃out,v=.str out/\Q out H') X.xe s
def fmtV:V->Option Str
 |.str x=>some x
 |.int i=>if i.natAbs.log2 < 1920 then some (toString i)else none
 |_=>none
end
section
variable{e:Expr}{es:List Expr}{t:TJ}
theorem aOz:PJ X [] (λacc _ H Q=>acc.length<=sizeLine/\Q acc H):=λpins s σ H acc Q I h=>joinParts_nil ⟨.str acc,H,I.tok _,⟨_,rfl⟩,acc,rfl,h.2⟩ h.1
theorem aMx(hr:PJ X es t):PJ X (.Constant (.str y) j pos::es) (λacc σ H Q=>(acc++y).length<=sizeLine/\t (acc++y) σ H Q):=by
 intro pins s σ H acc Q I h
 show wpAny _ _ (joinParts acc (eval (.Constant (.str y) j pos) X.env::evalEach es X.env)) _ _ s
 refine joinParts_cons (thn (yW (X:=X) (x:=y) (j:=j) (pos:=pos) pins s σ H (λv H'=>v=.str y/\H'=H) I ⟨rfl,rfl⟩) λv s1 ⟨x,H1,I1,r1,e1,e2⟩=>?_)
 subst e1 e2
 obtain⟨t',rfl⟩:=r1
 exact⟨h.1,hr pins s1 σ _ _ Q I1 h.2⟩
theorem aNh(he:PE X e te)(hr:PJ X es t):PJ X (.FormattedValue e (-1) none pos::es) (λacc σ H Q=>te σ H λv H1=>∃y,fmtV v=some y/\y.length<=sizeLine/\(acc++y).length<=sizeLine/\t (acc++y) σ H1 Q):=by
 intro pins s σ H acc Q I h
 show wpAny _ _ (joinParts acc (eval (.FormattedValue e (-1) none pos) X.env::evalEach es X.env)) _ _ s
 refine joinParts_cons (PyProof.Rows.FormattedValue_plain (thn (he pins s σ H _ I h) λv s1 ⟨x,H1,I1,r1,y,e1,hy,hz,q⟩=>?_))
 cases x with
 |str z =>
  simp only[fmtV,aAQ]at e1
  subst e1
  obtain⟨t',rfl⟩:=r1
  exact PyProof.Rows.formatField_str (λt'' tk=>⟨hz,hr pins _ σ _ _ Q (I1.tok _) q⟩) hy
 |int i =>
  simp only[fmtV]at e1
  split at e1
  ·rename_i hi
   cases e1
   obtain⟨t',rfl⟩:=r1
   exact PyProof.Rows.formatField_int_small hi ⟨hz,hr pins _ σ _ _ Q (I1.tok _) q⟩
  ·cases e1
 |_=>simp only[fmtV,reduceCtorEq]at e1
theorem aAy{v1 v2:Expr}(h:PJ X (v1::v2::es) t):PE X (.JoinedStr (v1::v2::es) pos) (λσ H Q=>t Str.empty σ H λout H'=>Q (.str out) H'):=by
 intro pins s σ H Q I q
 refine JoinedStr_many (thn (h pins s σ H _ _ I q) λv s1 ⟨x,H1,I1,r1,out,e1,q1⟩=>?_)
 subst e1
 exact⟨_,H1,I1,r1,q1⟩
end
end L2
namespace EV
open L2
section
variable{K:Frag}{e o:Expr}{es:List Expr}
noncomputable section
def pSlS(x:W)(lo hi:Option Int)(M:Mm):Oc W:=match x with
 |.d (.str z)=>if z.length<=16777216 then .ok (.d (.str ⟨(cut z.cps.toList lo hi).toArray⟩)) M else .bad
 |x=>pSl x lo hi M
def eSlS(f:FE)(fl fh:FO):FE:=λL M=>(f L M).bind λx M1=>(fl L M1).bind λlo M2=>(fh L M2).bind λhi M3=>pSlS x lo hi M3
theorem bO{lo hi:Option Expr}{fl fh:FO}(he:Ev X K Z e f)(hl:Eo X K Z lo fl)(hh:Eo X K Z hi fh):Ev X K Z (.Subscript e (.Slice lo hi none p2) pos) (eSlS f fl fh):=by
 have h:=aEd (p2:=p2) (pos:=pos) (SlR.or (aMk (X:=X)) (SlR.or (aGz (X:=X)) aHf)) he.h hl.h hh.h
 rw[he.k]at h
 refine⟨he.k,cqE h ?_⟩
 rintro σ H Q ⟨μ,M,L,hr,lr,p⟩
 refine⟨μ,M,L,hr,lr,p.bind.imp λμ1 H1 M1 x e1 hr1 _ p1 v rx=>?_⟩
 refine⟨μ1,M1,L,hr1,lr.ext hr.lsts e1,p1.bind.imp λμ2 H2 M2 l e2 hr2 _ p2=>?_⟩
 refine⟨μ2,M2,L,hr2,lr.ext hr.lsts (e1.trans e2),p2.bind.imp λμ3 H3 M3 u e3 hr3 _ p3=>?_⟩
 have rx:=rx.ext hr1.lsts (e2.trans e3)
 cases x with
 |ref i=>exact .inr (.inr (mI hr3 rx p3))
 |ob _ _=>exact .inr (.inr (mI hr3 rx p3))
 |nest _=>exact .inr (.inr (mI hr3 rx p3))
 |d x=>cases x with
  |tup xs =>
   have rx':=rx
   simp only[Rw,Rp]at rx
   obtain⟨a,vs,rfl,q1,r1⟩:=rx
   refine .inr (.inl ⟨a,vs,rfl,SqT.of q1,λhw=>?_,lV hr3 (aAq r1) p3⟩)
   refine p3 μ3 H3 .refl hr3 _ ?_
   rw[aCq (by rw[r1.length];exact hw)]
   exact rx'
  |str z =>
   simp only[Rw,Rp]at rx
   subst rx
   simp only[pSlS]at p3
   split at p3
   ·rename_i hz
    refine .inl ⟨z,rfl,by rw[aAT];exact hz,?_⟩
    rw[aCo]
    have hc:z.cps.toList.length=z.length:=by simp[Str.length]
    refine p3 μ3 H3 .refl hr3 _ ?_
    simp only[Rw,Rp,cut,hc]
   ·exact p3.elim
  |_=>exact .inr (.inr (mI hr3 rx p3))
def cIntS(ws:List W)(M:Mm):Oc W:=match ws with
 |[.d (.str z)]=>match PySem.intText? z with
  |some i=>if z.length<=640 then .ok (.d (.int i)) M else .bad
  |none=>.bad
 |ws=>cInt ws M
theorem callIntS:ClG X K Z (.type "int") cIntS:=λhk=>by
 obtain⟨r,h1,h2⟩:=callInt (X:=X) (K:=K) (Z:=Z) hk
 refine⟨_,CallR.or qS h1,?_⟩
 intro μ H M ws vs Q hr rx p
 by_cases hs:∃z,ws=[.d (.str z)]
 ·obtain⟨z,rfl⟩:=hs
  obtain⟨v,r,e1,e2,e3⟩:=rx
  cases e3;subst e1
  simp only[Rw,Rp]at e2
  subst e2
  simp only[cIntS]at p
  cases q:PySem.intText? z with
  |none=>rw[q]at p;exact p.elim
  |some i =>
   rw[q]at p
   simp only at p
   split at p
   ·rename_i hz
    exact .inl ⟨z,i,rfl,hz,q,p μ H .refl hr _ (by simp[Rw,Rp])⟩
   ·exact p.elim
 ·refine .inr (h2 μ H M ws vs Q hr rx ?_)
  have:cIntS ws M=cInt ws M:=by
   unfold cIntS
   split
   ·rename_i z;exact(hs ⟨z,rfl⟩).elim
   ·rfl
  rw[<- this];exact p
def pInS(x y:W)(M:Mm):Oc W:=match x,y with
 |.d (.str i),.d (.str j)=>.ok (.d (.bl (!(Builtin.Str.occurrences j i 0 j.length 1).isEmpty))) M
 |_,_=>.bad
theorem opInS:OpG X K Z (compareOp .In) pInS:=λhk=>by
 refine⟨_,aBr,?_⟩
 intro μ H M x y v u Q hr rx ry p
 cases x with
 |d x=>cases y with
  |d y=>cases x <;> cases y <;> first
   |exact p.elim
   |(simp only[Rw,Rp]at rx ry;exact⟨_,_,rx,ry,p μ H .refl hr _ (by simp[Rw,Rp])⟩)
  |_=>cases x <;> exact p.elim
 |_=>exact p.elim
def eS1(g:Str->W->Mm->Oc W)(fo fa:FE):FE:=λL M=>(fo L M).bind λx M1=>match x with
 |.d (.str z)=>(fa L M1).bind λy M2=>g z y M2
 |_=>.bad
def strsOf:List D->Option (List Str)
 |[]=>some []
 |.str x::r=>(strsOf r).map (x::·)
 |_::_=>none
theorem qH{μ:List Addr}{H:Hp}:∀{xs:List D} {vs:List V} {ys:List Str},Rps K μ H xs vs->strsOf xs=some ys->vs=ys.map V.str
 |[],vs,ys,r,h=>by simp only[Rps]at r;simp only[strsOf,aAQ]at h;subst r;subst h;rfl
 |d::xs,vs,ys,r,h=>by
  simp only[Rps]at r
  obtain⟨v,r',rfl,e2,e3⟩:=r
  cases d <;> simp only[strsOf,reduceCtorEq,aAR]at h
  obtain⟨zs,h1,rfl⟩:=h
  simp only[Rp]at e2
  subst e2
  rw[qH e3 h1];rfl
def pJoin(sep:Str)(y:W)(M:Mm):Oc W:=match sv M y with
 |some ds=>match strsOf ds with
  |some ys=>if(ys.map (·.length)).sum+ys.length*sep.length<=16777216 then .ok (.d (.str (Str.join sep ys))) M else .bad
  |none=>.bad
 |none=>.bad
theorem oN(ho:Ev X K Z o fo)(he:Ev X K Z e fa)(hbase:attributeBase o "join" X.env (eval o X.env)=eval o X.env:=by rfl)
  (hfew:((backTo cpos (starEach [e] X.env)).all (λx=>!x.1)&&(backToKw cpos (keywordEach [] X.env)).all (λx=>x.1.isSome)&&decide ([e].length+([]:List Keyword).length+(if([]:List Keyword).isEmpty then 0 else 1) < 30))=true:=by rfl)
  (hline:(apos.endLine==cpos.line)=true:=by rfl)(hs:starEach [e] X.env=(false,eval e X.env)::starEach [] X.env:=by rfl)(hplain:(backTo cpos (starEach [] X.env)).any (·.1)=false:=by rfl) :
  Ev X K Z (.Call (.Attribute o "join" apos) [e] [] cpos) (eS1 pJoin fo fa):=by
 have h:=sI aGH PySem.F.slot_str_join PySem.F.type_str_join aIw ho.h (bJ he.h dE hs) hbase hfew hline hs hplain
 rw[ho.k]at h
 refine⟨ho.k,cqE h ?_⟩
 rintro σ H Q ⟨μ,M,L,hr,lr,p⟩
 refine⟨μ,M,L,hr,lr,p.bind.imp λμ1 H1 M1 x e1 hr1 _ p1 v rx=>?_⟩
 cases x with
 |d x=>cases x with
  |str z =>
   simp only[Rw,Rp]at rx
   subst rx
   refine⟨rfl,μ1,M1,L,hr1,lr.ext hr.lsts e1,p1.bind.imp λμ2 H2 M2 y e2 hr2 _ p2 u ry=>?_⟩
   unfold pJoin at p2
   cases q1:sv M2 y with
   |none=>rw[q1]at p2;exact p2.elim
   |some ds =>
    rw[q1]at p2
    simp only at p2
    cases q2:strsOf ds with
    |none=>rw[q2]at p2;exact p2.elim
    |some ys =>
     rw[q2]at p2
     simp only at p2
     split at p2
     ·rename_i hz
      obtain⟨a,vs,rfl,h1,r1⟩:=lU hr2 ry q1
      have ev:=qH r1 q2
      subst ev
      exact⟨z,a,ys,rfl,rfl,h1,hz,p2 μ2 H2 .refl hr2 _ (by simp[Rw,Rp])⟩
     ·exact p2.elim
  |_=>exact p1.elim
 |_=>exact p1.elim
abbrev FJ:=Str->Lc->Mm->Oc Str
def liftJ(K:Frag)(Z:Zt)(f:FJ):TJ:=λacc σ H Q=>∃μ M L,HR K μ H M/\LR K μ H L σ/\Pst K Z μ H (f acc L M) λμ' H' _ out=>Q out H'
end
structure Ej(X:Cx)(K:Frag)(Z:Zt)(es:List Expr)(f:FJ):Prop where
 k:X.K=K
 h:PJ X es (liftJ K Z f)
noncomputable section
def fmtD:W->Option Str
 |.d (.str x)=>some x
 |.d (.int i)=>if i.natAbs.log2 < 1920 then some (toString i)else none
 |_=>none
def jNil:FJ:=λacc _ M=>if acc.length<=16777216 then .ok acc M else .bad
def jLit(y:Str)(g:FJ):FJ:=λacc L M=>if(acc++y).length<=16777216 then g (acc++y) L M else .bad
def jVal(f:FE)(g:FJ):FJ:=λacc L M=>(f L M).bind λw M1=>match fmtD w with
 |some y=>if y.length<=16777216/\(acc++y).length<=16777216 then g (acc++y) L M1 else .bad
 |none=>.bad
def eJ(g:FJ):FE:=λL M=>(g Str.empty L M).bind λout M1=>.ok (.d (.str out)) M1
end
variable{g:FJ}
theorem cqJ{t t':TJ}(h:PJ X es t)(i:∀acc σ H Q,t' acc σ H Q->t acc σ H Q):PJ X es t':=λpins s σ H acc Q I q=>h pins s σ H acc Q I (i _ _ _ _ q)
theorem pD(hk:X.K=K:=by rfl):Ej X K Z [] jNil:=⟨hk,cqJ aOz λacc σ H Q ⟨μ,M,L,hr,lr,p⟩=>by
 unfold jNil at p
 split at p
 ·rename_i hz;exact⟨by rw[aAT];exact hz,p μ H .refl hr⟩
 ·exact p.elim⟩
theorem jE(hr:Ej X K Z es g):Ej X K Z (.Constant (.str y) j pos::es) (jLit y g):=⟨hr.k,cqJ (aMx hr.h) λacc σ H Q ⟨μ,M,L,hr,lr,p⟩=>by
 unfold jLit at p
 split at p
 ·rename_i hz;exact⟨by rw[aAT];exact hz,μ,M,L,hr,lr,p⟩
 ·exact p.elim⟩
theorem iV(he:Ev X K Z e f)(hr:Ej X K Z es g):Ej X K Z (.FormattedValue e (-1) none pos::es) (jVal f g):=by
 refine⟨he.k,cqJ (aNh he.h hr.h) ?_⟩
 rintro acc σ H Q ⟨μ,M,L,hr,lr,p⟩
 refine⟨μ,M,L,hr,lr,p.bind.imp λμ1 H1 M1 x e1 hr1 _ p1 v rx=>?_⟩
 cases q:fmtD x with
 |none=>rw[q]at p1;exact p1.elim
 |some y =>
  rw[q]at p1
  simp only at p1
  split at p1
  ·rename_i hz
   have hv:fmtV v=some y:=by
    cases x with
    |d x=>cases x with
     |str z=>simp only[Rw,Rp]at rx;subst rx;exact q
     |int z=>simp only[Rw,Rp]at rx;subst rx;exact q
     |_=>cases q
    |_=>cases q
   exact⟨y,hv,by rw[aAT];exact hz.1,by rw[aAT];exact hz.2,μ1,M1,L,hr1,lr.ext hr.lsts e1,p1⟩
  ·exact p1.elim
theorem iF{v1 v2:Expr}(h:Ej X K Z (v1::v2::es) g):Ev X K Z (.JoinedStr (v1::v2::es) pos) (eJ g):=by
 refine⟨h.k,cqE (aAy h.h) ?_⟩
 rintro σ H Q ⟨μ,M,L,hr,lr,p⟩
 exact⟨μ,M,L,hr,lr,p.bind.imp λμ1 H1 M1 x e1 hr1 _ p1=>p1 μ1 H1 .refl hr1 _ (by simp[Rw,Rp])⟩
end
end EV
namespace L2
noncomputable abbrev Tbl:=List (Str×Str)
variable{σ:St}{d:Addr}{tb:Tbl}{i:Expr}{ti:TE}
end L2
namespace EV
open L2
variable{K:Frag}{i:Expr}{d:Addr}{tb:Tbl}
end EV
namespace L2
variable{prog:Program}{E:Value->Shared->Prop}{e st:Expr}{ts:TO}
end L2
namespace EV
open L2
variable{K:Frag}{e st:Expr}{fs:FO}
noncomputable abbrev T(l:List Nat):Str:=⟨l.toArray⟩
theorem mE(a b:List Nat):T a++T b=T (a++b):=by
 show(⟨a.toArray++b.toArray⟩:Str)=_
 simp[T]
theorem bQ(a:List Nat):Str.length (T a)=a.length:=rfl
theorem aGi{a b:List Nat}:T a=T b ↔ a=b:=⟨λh=>by simpa using congrArg (λs:Str=>s.cps.toList) h,λh=>by rw[h]⟩
theorem aKz(s:Str):s=T s.cps.toList:=by simp[T]
theorem gY(a b:List Nat):(T a==T b)=decide (a=b):=by
 by_cases h:a=b
 ·subst h;simp
 ·have:T a≠T b:=λe=>h (aGi.mp e)
  simp[this,h]
theorem dG(s:String):(Str.ofString s)=T (s.toList.map Char.toNat):=by rw[Str.ofString_eq_toList]
theorem aPq(n:Nat):(Str.ofString (toString (n:Int)))=T ((Nat.toDigits 10 n).map Char.toNat):=by rw[aKz (Str.ofString (toString (n:Int))),PySem.W.KIN.signs_num]
variable{K:Frag}
noncomputable def cStr(ws:List W)(M:Mm):Oc W:=match ws with
 |[.d (.int i)]=>if i.natAbs.log2 < 1920 then .ok (.d (.str (toString i))) M else .bad
 |_=>.bad
theorem callStr:ClG X K Z (.type "str") cStr:=λhk=>by
 refine⟨_,tM,?_⟩
 intro μ H M ws vs Q hr rx p
 unfold cStr at p
 split at p
 ·obtain⟨v,r,e1,e2,e3⟩:=rx
  cases e3;subst e1
  simp only[Rw,Rp]at e2
  subst e2
  split at p
  ·rename_i hz;exact⟨_,rfl,hz,p μ H .refl hr _ (by simp[Rw,Rp])⟩
  ·exact p.elim
 ·exact p.elim
section
variable{Q:W->Mm->Prop}{QJ:Str->Mm->Prop}{g:FE}{fl fh:FO}{j:FJ}
theorem aMt(z:Okx EX (f L M) λx M1=>Okx EX (fl L M1) λlo M2=>Okx EX (fh L M2) λhi M3=>Okx EX (pSlS x lo hi M3) Q):Okx EX (eSlS f fl fh L M) Q:=aG (z.mono λ_ _ z=>aG (z.mono λ_ _ z=>aG z))
theorem oP(hz:l.length<=16777216)(q:Q (.d (.str (T (cut l lo hi)))) M):Okx EX (pSlS (.d (.str (T l))) lo hi M) Q:=by
 simp only[pSlS];rw[aAH (show(T l).length<=16777216 from hz)];exact aH q
theorem fX{xs:List D}(q:Q (.d (.lst (cut xs lo hi))) M):Okx EX (pSlS (.d (.lst xs)) lo hi M) Q:=aFq (x:=.d (.lst xs)) (by simp) rfl q
theorem aIb{b:Nat}{xs:List D}(h:M[b]?=some xs)(q:Q (.d (.lst (cut xs lo hi))) M):Okx EX (pSlS (.ref b) lo hi M) Q:=aFq (x:=.ref b) (by simp) (by simpa only[lr,lv]using h) q
variable{z:Str}{i:Int}
theorem aAp(h:PySem.intText? z=some i)(hz:z.length<=640)(q:Q (.d (.int i)) M):Okx EX (cIntS [.d (.str z)] M) Q:=by
 simp only[cIntS,h];rw[aAH hz];exact aH q
theorem aFw{b:Bool}(q:Q (.d (.int (if b=true then 1 else 0))) M):Okx EX (cIntS [.d (.bl b)] M) Q:=aH q
theorem aIo(hz:i.natAbs.log2 < 1920)(q:Q (.d (.str (toString i))) M):Okx EX (cStr [.d (.int i)] M) Q:=by
 simp only[cStr];rw[aAH hz];exact aH q
theorem aLj{i j:Str}(q:Q (.d (.bl (!(Builtin.Str.occurrences j i 0 j.length 1).isEmpty))) M):Okx EX (pInS (.d (.str i)) (.d (.str j)) M) Q:=aH q
theorem pE{k:Int}(h:atI l k=some c)(hz:l.length<=16777216)(q:Q (.d (.str (T [c]))) M):Okx EX (pIx (.d (.str (T l))) (.d (.int k)) M) Q:=by
 have e:pIx (.d (.str (T l))) (.d (.int k)) M=.ok (.d (.str (T [c]))) M:=by
  simp only[pIx,T,h];rw[aAH (show(T l).length<=16777216 from hz)]
 rw[e];exact aH q
theorem iX(hz:z.length<=16777216)(q:Q (.d (.int z.length)) M):Okx EX (cLen [.d (.str z)] M) Q:=by
 simp only[cLen];rw[aAH hz];exact aH q
theorem aPx{p:Str->W->Mm->Oc W}(h:Okx EX (fo L M) λx M1=>∃z,x=.d (.str z)/\Okx EX (fa L M1) λy M2=>Okx EX (p z y M2) Q):Okx EX (eS1 p fo fa L M) Q :=
 aG (h.mono λx M1 ⟨z,e,h⟩=>by subst e;exact aG h)
theorem pT:∀ys:List Str,strsOf (ys.map D.str)=some ys
 |[]=>rfl
 |y::ys=>by simp only[aAV,strsOf,pT ys,aEO]
theorem aIg{sep:Str}{y:W}{ys:List Str}(h:sv M y=some (ys.map D.str))(hz:(ys.map (·.length)).sum+ys.length*sep.length<=16777216)(q:Q (.d (.str (Str.join sep ys))) M):Okx EX (pJoin sep y M) Q:=by
 simp only[pJoin,h,pT];rw[aAH hz];exact aH q
theorem aPf(h:Okx EX (j Str.empty L M) λout M1=>Q (.d (.str out)) M1):Okx EX (eJ j L M) Q:=aG (h.mono λout M1 q=>aH q)
variable{acc:Str}
theorem aJs(hz:acc.length<=16777216)(q:QJ acc M):Okx EX (jNil acc L M) QJ:=by unfold jNil;rw[aAH hz];exact aH q
theorem aAn(hz:(acc++y).length<=16777216)(h:Okx EX (j (acc++y) L M) QJ):Okx EX (jLit y j acc L M) QJ:=by unfold jLit;rw[aAH hz];exact h
theorem zH(h:Okx EX (f L M) λw M1=>∃y,fmtD w=some y/\(y.length<=16777216/\(acc++y).length<=16777216)/\Okx EX (j (acc++y) L M1) QJ):Okx EX (jVal f j acc L M) QJ :=
 aG (h.mono λw M1 ⟨y,e,hz,h⟩=>by rw[e];simp only;rw[aAH hz];exact h)
end
end EV
namespace LS
open L2 EV
open PySem.NumText
noncomputable section
def isF(c:Nat):Bool:=decide (48<=c/\c<=57)
def dig(n:Nat):List Nat:=(Nat.toDigits 10 n).map Char.toNat
theorem aKx(n:Nat):∀c∈dig n,isF c=true:=λc hc=>by
 obtain⟨ch,hch,rfl⟩:=aBE.mp hc
 have:=PyProof.Rows.digit_range (Nat.isDigit_of_mem_toDigits (by decide) (by decide) hch)
 simp[isF,this]
theorem zX{k:Nat}(hk:1<=k)(h:n < 10 ^ k):(dig n).length<=k:=by simpa[dig]using PyProof.Rows.digits10_le hk h
theorem aKm(n:Nat):1<=(dig n).length:=by simpa[dig]using PyProof.Rows.tDigits_len_ge 10 n
theorem aMn(n:Nat):dig n≠[]:=λh=>by have:=aKm n;rw[h]at this;simp at this
theorem aHo(n:Nat):digitsVal (dig n)=n:=PySem.W.KIN.val_back n
theorem nG(h:n < 10):dig n=[48+n]:=by
 have:n=0\/n=1\/n=2\/n=3\/n=4\/n=5\/n=6\/n=7\/n=8\/n=9:=by lia
 rcases this with rfl|rfl|rfl|rfl|rfl|rfl|rfl|rfl|rfl|rfl <;> rfl
theorem vO(h:10<=n):dig n=dig (n / 10)++dig (n % 10):=by
 have t:Nat.toDigits 10 (n / 10)++Nat.toDigits 10 (n % 10)=Nat.toDigits 10 (10*(n / 10)+n % 10):=Nat.toDigits_append_toDigits (by decide) (by lia) (Nat.mod_lt n (by decide))
 rw[Nat.div_add_mod]at t
 simp only[dig,<- t,List.map_append]
theorem aDu:∀(n:Nat),n≠0->∃c r,dig n=c::r/\c≠48:=by
 intro n
 induction n using Nat.strongRecOn with
 |_ n ih =>
  intro h0
  by_cases h:n < 10
  ·exact⟨48+n,[],nG h,by lia⟩
  ·obtain⟨c,r,e,hc⟩:=ih (n / 10) (by lia) (by lia)
   exact⟨c,r++dig (n % 10),by rw[vO (by lia),e];rfl,hc⟩
theorem aFz(n:Nat):(dig n).head?=some 48->(dig n).length=1:=by
 intro h
 by_cases h0:n=0
 ·subst h0;rfl
 ·obtain⟨c,r,e,hc⟩:=aDu n h0
  rw[e]at h;simp at h;exact(hc h).elim
def num?(most:Nat)(ds:List Nat):Option Nat:=if ds=[]\/most < ds.length\/¬ds.all isF\/(ds.head?=some 48/\1 < ds.length)then none else some (digitsVal ds)
theorem aGw(h:(dig n).length<=most):num? most (dig n)=some n:=by
 unfold num?
 rw[aAL,aHo]
 rintro(h1|h1|h1|⟨h1,h2⟩)
 ·exact aMn n h1
 ·lia
 ·exact h1 (aBC.mpr (aKx n))
 ·have:=aFz n h1;lia
theorem kA{ds:List Nat}(h:num? most ds=some n)(hm:most<=640):PySem.intText? (T ds)=some (n:Int)/\ds.length<=640:=by
 unfold num? at h
 split at h
 ·cases h
 ·rename_i hn
  simp only[aAQ]at h
  simp only[not_or,Classical.not_not]at hn
  have e:=intText_digits (x:=T ds) (λc hc=>by simpa[isF]using aBC.mp hn.2.2.1 c (by simpa using hc)) (by simpa using hn.1) (by rw[bQ];lia)
  simp only[T]at e
  rw[e,<- h]
  exact⟨rfl,by lia⟩
def sg:Wd->List Nat
 |.sum=>[32,43,32]
 |.less=>[32,45,32]
 |.times=>[32,42,32]
def txt:E->List Nat
 |.num c=>dig c.toNat
 |.giv i=>120::dig i
 |.op w a b=>40::(txt a++(sg w++(txt b++[41])))
def wd?(s:List Nat):Option Wd:=if s=[32,43,32]then some .sum else if s=[32,45,32]then some .less else if s=[32,42,32]then some .times else none
def rdG(s:List Nat):Option (E×List Nat):=match num? 1 (s.takeWhile isF)with
 |some n=>if n<=7 then some (.giv n,s.dropWhile isF)else none
 |none=>none
def rdN(s:List Nat):Option (E×List Nat):=match num? 6 (s.takeWhile isF)with
 |some n=>some (.num n,s.dropWhile isF)
 |none=>none
def rdP(r:List Nat->Option (E×List Nat))(s:List Nat):Option (E×List Nat):=match r s with
 |some (a,s1)=>match wd? (s1.take 3)with
  |some w=>match r (s1.drop 3)with
   |some (b,s2)=>if s2.take 1=[41]then some (.op w a b,s2.drop 1)else none
   |none=>none
  |none=>none
 |none=>none
def rd:Nat->List Nat->Option (E×List Nat)
 |k,s=>if s.take 1=[40]then(match k with
   |0=>none
   |k+1=>rdP (rd k) (s.drop 1))
  else if s.take 1=[120]then rdG (s.drop 1)else rdN s
def calm(s:List Nat):Prop:=∀c,s.head?=some c->isF c=false
end
theorem aDe{a s:List Nat}(h:∀c∈a,isF c=true)(hs:calm s):(a++s).takeWhile isF=a/\(a++s).dropWhile isF=s:=by
 induction a with
 |nil =>
  cases s with
  |nil=>exact⟨rfl,rfl⟩
  |cons c r =>
   have:=hs c rfl
   simp[aEG,aFI,this]
 |cons c r ih =>
  have h1:=h c (by simp)
  obtain⟨i1,i2⟩:=ih λx hx=>h x (by simp[hx])
  simp only[aEZ,aEG,aFI,h1,aDI]
  exact⟨by rw[i1],i2⟩
end LS
end
namespace LS
open PySem L2 EV
theorem aHu(l:List α)(a b:Nat):cut l (some (a:Int)) (some (b:Int))=(l.drop a).take (b - a):=by
 have h:∀d k:Nat,HT.sIx l.length d (some (k:Int))=min k l.length:=by
  intro d k
  simp only[HT.sIx]
  split <;> lia
 unfold cut
 rw[h,h]
 by_cases ha:a<=l.length
 ·rw[show min a l.length=a by lia]
  by_cases hb:b<=l.length
  ·rw[show min b l.length=b by lia]
  ·rw[show min b l.length=l.length by lia,aCO (by simp),aCO (by simp;lia)]
 ·rw[show min a l.length=l.length by lia,aCE (aAI _),aCE (by lia)]
  simp
end LS
section
open PySem PySem.Spec PyProof.Rows
namespace L2
noncomputable def Its(x:Str):It:=⟨λi _=>i < x.length,λi H v H'=>H'=H/\∃c,x.cps[i]?=some c/\v=.str ⟨#[c]⟩,λi _=>x.length<=i⟩
variable{tg:Expr}
theorem aGr(x:Str)(t:Tok)(it:Addr):Turn P w K tg (Its x) [it] it (λi h=>h.IsStrIter it "str_ascii_iterator" x t i)where
 mem:=by simp
 obj:=λi h st b hb=>by
  have e:b=it:=by simpa using hb
  subst e
  obtain⟨o,e,c,d⟩:=st
  exact⟨o,e,λv z=>by rw[d]at z;cases z⟩
 keep:=λi h h' st k=>by
  obtain⟨o,e,r⟩:=st
  exact⟨o,k it (by simp) o e,r⟩
 item:=by
  intro X hP hw hK hc i pins s σ H E I hf st hg
  subst hP hw hK
  have hg:i < x.cps.size:=hg
  obtain⟨f0,f1,f2,f3,f4,f5⟩:=hf it (by simp)
  refine wpAny_pyNext_ascii_item st (c:=x.cps[i]) (by simp[hg]) λh' st' sb=>?_
  have I1:Inv X pins σ H {s with heap:=h',toks:=s.toks+1}:=I.turned (t':=s.toks+1) (λb o hb e=>(sb.2 b hb).trans e) f0 f1 f3 f4 f5
  obtain⟨o,e,c,d⟩:=id st'
  exact⟨_,rfl,aAg (s:={s with heap:=h',toks:=s.toks+1}) e c d (by decide) ⟨.str ⟨#[x.cps[i]]⟩,H,I1,⟨_,rfl⟩,⟨rfl,x.cps[i],by simp[hg],rfl⟩,st',λb hb=>(hf b hb).1⟩⟩
 done:=by
  intro X hP hw hK hc i pins s σ H E I hf st hg
  subst hP hw hK
  have hg:x.cps.size<=i:=hg
  obtain⟨f0,f1,f2,f3,f4,f5⟩:=hf it (by simp)
  exact wpAny_pyNext_ascii_end (I.ok.hd hc) st (by simp[hg]) λh' eb=>⟨rfl,I.turned (t':=s.toks) (λb o hb e=>eb b o hb e) f0 f1 f3 f4 f5⟩
 self:=λ_ _ _ _ _ st h=>wpAny_pyIter_striter_ascii st h
variable{l:Expr}{tl:TE}
theorem aNn(hl:PE X l tl):PI X tg l (λσ H R=>tl σ H λx H1=>∃z,x=.str z/\z.cps.all (· < 128)=true/\R (Its z) H1):=by
 intro pins s σ H R I h
 refine thn (hl pins s σ H _ I h) λv s1 ⟨x,H1,I1,r1,z,e,ha,q⟩=>?_
 subst e
 obtain⟨t,rfl⟩:=r1
 refine wpAny_pyIter_ascii ha ?_
 refine⟨s1.heap.objs.size,[s1.heap.objs.size],_,_,H1,rfl,I1.kept (t':=s1.toks) λb o e=>aAA _ e,aGr z t _,⟨_,aAG _ rfl,rfl,rfl⟩,λb hb=>?_,q⟩
 have e:b=s1.heap.objs.size:=by simpa using hb
 subst e
 exact I1.fpOk (aAI _) (I1.hok.fresh (aAI _))
end L2
namespace EV
open L2
variable{K:Frag}{e tg:Expr}
noncomputable def sgD(z:Str):List D:=z.cps.toList.map λc=>.str (T [c])
noncomputable def iStr(f:FE):FI:=λL M=>(f L M).bind λw M1=>match w with
 |.d (.str z)=>if z.cps.all (· < 128)=true then .ok ⟨sgD z,none⟩ M1 else .bad
 |_=>.bad
theorem aOc{z:Str}:ItOk K μ H ⟨sgD z,none⟩ (Its z):=by
 refine⟨λ_ _=>True,trivial,λ_ _ _ _ _ _ _=>trivial,λμ1 H1 M1 i hr _ _=>⟨λd hd=>?_,λhl=>by simpa[sgD,Its,Str.length]using hl⟩⟩
 simp only[sgD,aBN,aAR]at hd
 obtain⟨c,hc,rfl⟩:=hd
 have hi:i < z.length:=by have:=(aAE.mp hc).1;simpa[Str.length]using this
 refine⟨hi,λx H2 y=>?_⟩
 obtain⟨rfl,c',hc',rfl⟩:=y
 have e:c'=c:=by
  rw[aGP]at hc
  rw[hc]at hc';cases hc';rfl
 subst e
 exact⟨.refl,hr,by simp[Rp,T]⟩
theorem aMl(h:Ev X K Z e f):Ei X K Z tg e (iStr f):=by
 refine⟨h.k,cqI (aNn (tg:=tg) h.h) ?_⟩
 rintro σ H R ⟨μ,M,L,hr,lr,p⟩
 refine⟨μ,M,L,hr,lr,p.bind.imp λμ1 H1 M1 w e1 hr1 _ p1 v rw'=>?_⟩
 cases w with
 |d x=>cases x with
  |str z =>
   simp only at p1
   split at p1
   ·rename_i hz
    simp only[Rw,Rp]at rw'
    exact⟨z,rw',hz,p1 μ1 H1 .refl hr1 _ aOc⟩
   ·exact p1.elim
  |_=>exact p1.elim
 |_=>exact p1.elim
theorem aJv(h:Okx EX (f L M) λw M1=>∃l:List Nat,w=.d (.str (T l))/\l.all (· < 128)=true/\QI ⟨l.map λc=>.str (T [c]),none⟩ M1):Okx EX (iStr f L M) QI :=
 aG (h.mono λw M1 ⟨l,e,ha,q⟩=>by subst e;simp only;rw[aAH (by simpa[T]using ha)];exact aH (by simpa[sgD]using q))
variable{K:Frag}
end EV
namespace LS
open L2 EV
open PySem.NumText
theorem aFj:∀(k:Nat) (ds:List Nat),ds.length=k->ds≠[]->ds.all isF=true->ds.head?≠some 48->dig (digitsVal ds)=ds/\1<=digitsVal ds:=by
 intro k
 induction k with
 |zero=>intro ds hl hn;exact(hn (aDN hl)).elim
 |succ k ih =>
  intro ds hl hn ha hh
  obtain⟨ds',c,rfl⟩:∃ds' c,ds=ds'++[c]:=⟨ds.dropLast,ds.getLast hn,(List.dropLast_concat_getLast hn).symm⟩
  have hc:isF c=true:=aBC.mp ha c (by simp)
  have hc:48<=c/\c<=57:=by simpa[isF]using hc
  rw[digitsVal_snoc]
  by_cases h0:ds'=[]
  ·subst h0
   have hne:c≠48:=λe=>hh (by simp[e])
   have hv:digitsVal []*10+(c - 48)=c - 48:=by simp[digitsVal]
   rw[hv,nG (by lia)]
   exact⟨by simp;lia,by lia⟩
  ·have hl':ds'.length=k:=by simp at hl;lia
   have hh':ds'.head?≠some 48:=λe=>hh (by rw[List.head?_append,e];rfl)
   have ha':ds'.all isF=true:=by rw[List.all_append]at ha;simp at ha;exact aBC.mpr λx hx=>by simpa using ha.1 x hx
   obtain⟨i1,i2⟩:=ih ds' hl' h0 ha' hh'
   refine⟨?_,by lia⟩
   rw[vO (by lia),show(digitsVal ds'*10+(c - 48)) / 10=digitsVal ds' by lia,show(digitsVal ds'*10+(c - 48)) % 10=c - 48 by lia,i1,nG (by lia)]
   congr 2;lia
theorem aEn{ds:List Nat}(h:num? most ds=some n):ds=dig n/\ds.length<=most:=by
 unfold num? at h
 split at h
 ·cases h
 ·rename_i hn
  simp only[aAQ]at h
  simp only[not_or,Classical.not_not,not_and]at hn
  obtain⟨h1,h2,h3,h4⟩:=hn
  refine⟨?_,by lia⟩
  subst h
  by_cases hh:ds.head?=some 48
  ·have:=h4 hh
   cases ds with
   |nil=>exact(h1 rfl).elim
   |cons c r =>
    simp at hh this
    subst hh this
    rfl
  ·exact(aFj _ ds rfl h1 h3 hh).1.symm
end LS
namespace L2
theorem aBx:OpR X (binaryOp .Mult) (λx y H Q=>∃i k,x=.str i/\y=.int k/\(1<=k/\k<=10000/\i.length<=1000)/\Q (.str (strRep i k)) H):=by
 intro pins s σ H x y v u Q I rx ry h
 obtain⟨i,k,rfl,rfl,⟨k1,k2,k3⟩,q⟩:=h
 obtain⟨t,rfl⟩:=rx
 obtain⟨t',rfl⟩:=ry
 have hm:i.length*k.toNat<=1000*10000:=Nat.mul_le_mul k3 (by lia)
 refine P.mul_str (by
   have h1:¬k < -(2 ^ 63:Int):=by lia
   have h2:¬k>=2 ^ 63:=by lia
   rw[aBI h1,aBI h2];rfl) (λ_ _=>?_) (λ_ _=>?_) ?_
 ·intro hh
  have h3:(1000:Int)<=(2 ^ 63 - 1) / k:=(Int.le_ediv_iff_mul_le (by lia)).mpr (by have:(1000:Int)*k<=1000*10000:=Int.mul_le_mul_of_nonneg_left k2 (by lia);lia)
  lia
 ·unfold Builtin.Str.tooLong;rw[aAT];simp only[aFZ];lia
 ·rw[aAL (by lia)]
  unfold strRep at q
  split
  ·rename_i hc
   rw[aAH hc]at q
   exact⟨.str i,H,I,⟨t,rfl⟩,q⟩
  ·rename_i hc
   rw[aAL hc]at q
   refine⟨?_,⟨.str _,H,I.tok _,⟨_,rfl⟩,q⟩⟩
   show(List.foldl (·++·) #[] (List.replicate k.toNat i.cps)).size<=sizeLine
   rw[yN _ _ i.length (λa ha=>by rw[(aHF.mp ha).2];rfl),aAT]
   simp only[aEU]
   have:=Nat.mul_comm i.length k.toNat
   simp
   lia
theorem aBs(l:List (Array Nat)):∀acc:Array Nat,l.foldl (·++·) acc=(acc.toList++(l.map Array.toList).flatten).toArray:=by
 induction l with
 |nil=>intro acc;simp
 |cons a r ih=>intro acc;rw[List.foldl_cons,ih];simp
theorem aEh{k:Int}(h:1<=k):strRep (EV.T l) k=EV.T (List.replicate k.toNat l).flatten:=by
 unfold strRep
 split
 ·rename_i hc
  simp only[Bool.or_eq_true,aEM]at hc
  rcases hc with rfl|hc
  ·simp[aCT]
  ·have:l=[]:=aDN hc
   subst this
   simp
 ·rw[aBs]
  simp
end L2
namespace EV
open L2
variable{K:Frag}
noncomputable def pRepT(x y:W)(M:Mm):Oc W:=match x,y with
 |.d (.str i),.d (.int k)=>if 1<=k/\k<=10000/\i.length<=1000 then okD (.str (strRep i k)) M else .bad
 |_,_=>.bad
theorem opRepT:OpG X K Z (binaryOp .Mult) pRepT:=λhk=>by
 refine⟨_,aBx,?_⟩
 intro μ H M x y v u Q hr rx ry p
 cases x with
 |d x=>cases x with
  |str a=>cases y with
   |d y=>cases y with
    |int b =>
     simp only[pRepT]at p
     split at p
     ·rename_i hz
      simp only[Rw,Rp]at rx ry
      exact⟨_,_,rx,ry,hz,p μ H .refl hr _ (by simp only[Rw,Rp])⟩
     ·exact p.elim
    |_=>exact p.elim
   |_=>exact p.elim
  |_=>exact p.elim
 |_=>exact p.elim
theorem aJw{k:Int}{Q:W->Mm->Prop}(hz:1<=k/\k<=10000/\l.length<=1000)(q:Q (.d (.str (T (List.replicate k.toNat l).flatten))) M):Okx EX (pRepT (.d (.str (T l))) (.d (.int k)) M) Q:=by
 simp only[pRepT];rw[aAH (show 1<=k/\k<=10000/\(T l).length<=1000 from hz),aEh hz.1];exact aH q
end EV
namespace LS
open L2 EV
noncomputable def bal(s:List Nat):Int:=(s.count 40:Int) - (s.count 41:Int)
noncomputable def Bd(k:Int)(s:List Nat):Prop:=∀n,bal (s.take n)<=k
theorem Bd.none{s:List Nat}(h:Bd 0 s):¬s.take 1=[40]:=λe=>by have:=h 1;rw[e]at this;exact absurd this (by decide)
end LS
namespace L2
theorem sJ:∀l:List (Str×Tok),Vals ((l.map (·.1)).map V.str) (strValues l)
 |[]=>.nil
 |(x,t)::l=>.cons ⟨t,rfl⟩ (sJ l)
theorem aFi:MtR X "str.split" (λx xs H Q=>∃z y,x=.str z/\xs=[.str y]/\1<=y.length/\z.length < sizeLine/\∀p,H p=none->Q (.ref p) (upd H p (.lst ((PySem.Txt.split z y).map V.str)))):=by
 intro pins s σ H x xs v us Q I rx rs h
 obtain⟨z,y,rfl,rfl,hy,hz,q⟩:=h
 obtain⟨t,rfl⟩:=rx
 obtain⟨u0,rfl,u,rfl⟩:=vals1 rs
 have hw:=PyProof.Rows.split_weight z y hy
 have hyb:(y.length==0)=false:=by simp;lia
 have fin:∀(l:List (Str×Tok)) (k:Nat),l.map (·.1)=PySem.Txt.split z y->EP X pins σ Q (.ref s.heap.objs.size) {s with heap:=s.heap.push {cls:=.type "list",data:=.seq (strValues l).toArray},toks:=k}:=by
  intro l k e
  refine⟨.ref s.heap.objs.size,_,I.laid (t':=k) (o:=.lst ((PySem.Txt.split z y).map V.str)) (λb ob q=>aAA _ q) (aAI _) ?_,rfl,q _ (I.hok.fresh (aAI _))⟩
  exact⟨by rw[aAK];lia,_,0,by rw[<- e];exact sJ l,aAG _ rfl⟩
 cases h1:(decide (z.length < y.length) || decide (Builtin.Str.strKind z < Builtin.Str.strKind y))
 ·cases hf:(Builtin.Str.occurrences z y 0 z.length (z.length+1)).isEmpty
  ·have e:PySem.Txt.split z y=Builtin.Str.partsBetween z (Builtin.Str.occurrences z y 0 z.length (z.length+1)) y.length:=by
    unfold PySem.Txt.split
    rw[aAL (by rw[h1];exact aBA),aAL (by rw[hf];exact aBA)]
   refine aCZ aER (aFW _ _ _) aFY (aFQ _ _) (meets_str_split_sep z y t u h1 hyb hf (by lia) (by rw[<- e];lia)) ?_
   rw[strsFrom_eq]
   exact fin _ _ (by rw[numbered_texts,e])
  ·have e:PySem.Txt.split z y=[z]:=by
    unfold PySem.Txt.split
    rw[aAL (by rw[h1];exact aBA),aAH hf]
   exact aCZ aER (aFW _ _ _) aFY (aFQ _ _) (meets_str_split_not_found z y t u h1 hyb hf) (fin [(z,t)] s.toks e.symm)
 ·have e:PySem.Txt.split z y=[z]:=by
   unfold PySem.Txt.split
   rw[aAH h1]
  exact aCZ aER (aFW _ _ _) aFY (aFQ _ _) (meets_str_split_cannot_occur z y t u h1) (fin [(z,t)] s.toks e.symm)
theorem aBg:MtR X "str.startswith" (λx xs H Q=>∃z y,x=.str z/\xs=[.str y]/\Q (.bl (PySem.Txt.startswith z y)) H):=by
 intro pins s σ H x xs v us Q I rx rs h
 obtain⟨z,y,rfl,rfl,q⟩:=h
 obtain⟨t,rfl⟩:=rx
 obtain⟨u0,rfl,u,rfl⟩:=vals1 rs
 exact call_gives PySem.F.slot_str_startswith (aFW _ _ _) PySem.F.entry_str_startswith (PySem.F.args_str_startswith_2 _ _) (gives_str_startswith z y t u) ⟨.bl _,H,I,rfl,q⟩
noncomputable def two(a:Nat)(xs:List α):List α:=(List.range ((xs.length+1 - a) / 2)).filterMap λk=>xs[a+2*k]?
theorem qV(its:List Value)(a:Nat)(ha:a<=its.length):slicePick its.toArray (some (a:Int)) none (some 2)=(two a its).toArray:=by
 unfold slicePick sliceBounds sliceRange two
 simp only[Option.getD_some,aAJ,show(2:Int) > 0 by decide,aDI]
 have e:max 0 (min (if(a:Int) < 0 then(a:Int)+(its.length:Int)else(a:Int)) (its.length:Int))=(a:Int):=by
  rw[aAL (by lia)];lia
 rw[e]
 congr 1
 have c:(if(a:Int) < (its.length:Int)then((its.length:Int) - (a:Int)+2 - 1) / 2 else 0).toNat=(its.length+1 - a) / 2:=by
  split <;> lia
 rw[c,aFS]
 congr 1
 funext k
 simp only[Function.comp_apply]
 rw[show((a:Int)+2*(k:Int)).toNat=a+2*k by lia]
 simp
theorem aGo{xs:List V}(r:Vals xs us)(a:Nat):Vals (two a xs) (two a us):=by
 unfold two
 rw[r.length]
 generalize(us.length+1 - a) / 2=n
 induction n with
 |zero=>exact .nil
 |succ n ih =>
  rw[aGZ,aEX,aEX]
  refine ih.append ?_
  simp only[aCG,List.filterMap_nil]
  cases hx:xs[a+2*n]? with
  |none =>
   have:us[a+2*n]?=none:=by rw[List.getElem?_eq_none_iff]at hx ⊢;rw[<- r.length];exact hx
   rw[this];exact .nil
  |some x =>
   obtain⟨u,hu,ru⟩:=r.get hx
   rw[hu];exact .cons ru .nil
theorem zR(a:Nat)(xs:List α):(two a xs).length<=xs.length:=by
 unfold two
 refine aBD (List.length_filterMap_le _ _) ?_
 rw[aCH];lia
variable{e lo st:Expr}{tl ts:TO}
theorem aMj(he:PE X e te)(hl:PO X (some lo) tl)(hs:PO X (some st) ts):PE X (.Subscript e (.Slice (some lo) none (some st) p2) pos) (λσ H Q=>te σ H λx H1=>tl σ H1 λo1 H2=>ts σ H2 λo2 H3=>∃(a:Nat) (p:Addr) (xs:List V),o1=some (a:Int)/\o2=some 2/\x=.ref p/\SqL X.K H3 p xs/\a<=xs.length/\∀q,H3 q=none->Q (.ref q) (upd H3 q (.lst (two a xs)))):=by
 intro pins s σ H Q I h
 refine Subscript_ (thn (he pins s σ H _ I h) λv s1 ⟨x,H1,I1,r1,q1⟩=>?_)
 refine wpAny_Slice (thn (hl pins s1 σ H1 _ I1 q1) λvl s2 ⟨l,H2,I2,pl,q2⟩=>?_)
 rw[evalPart_none]
 refine aAD ?_
 refine thn (hs pins s2 σ H2 _ I2 q2) λvs s3 ⟨o,H3,I3,ps,q3⟩=>?_
 obtain⟨a,p,xs,rfl,rfl,rfl,hx,ha,q⟩:=q3
 have I4:Inv X pins σ H3 {s3 with heap:=s3.heap.push {cls:=.type "slice",data:=.fields #[vl,.none,vs]}}:=I3.kept (t':=s3.toks) λb ob q=>aAA _ q
 cases r1
 obtain⟨its,r,ht,hz⟩:=I4.list hx
 have hlen:=r.length
 show wpAny (model X.prog X.w) X.A (subscriptTail e (.Slice (some lo) none (some st) p2) (.ref p) (.ref s3.heap.objs.size)) (EP X pins σ Q) X.xe {s3 with heap:=s3.heap.push {cls:=.type "slice",data:=.fields #[vl,.none,vs]}}
 refine tail_any (ops:=[.ref p,.ref s3.heap.objs.size]) ht.isList.typeIs aHQ.lookup ?_ (by with_unfolding_all rfl)
 refine wpAny_getItem_list_slice ht.isList (Heap.IsSliceOf.new ..) pl .none ps (by simp) ?_ (by rw[aAJ] <;> lia)
 rw[qV its a (by lia)]
 refine⟨.ref _,_,I4.laid (t':=s3.toks) (o:=.lst (two a xs)) (λb ob q=>aAA _ q) (aAI _) ?_,rfl,q _ (I4.hok.fresh (aAI _))⟩
 exact⟨aBD (zR a xs) hz,_,0,aGo r a,aAG _ rfl⟩
end L2
namespace EV
open L2
theorem aIe{xs:List D}(r:Rps K μ H xs vs)(a:Nat):Rps K μ H (two a xs) (two a vs):=by
 unfold two
 rw[r.length]
 generalize(vs.length+1 - a) / 2=n
 induction n with
 |zero=>exact .nil
 |succ n ih =>
  rw[aGZ,aEX,aEX]
  refine ih.append ?_
  simp only[aCG,List.filterMap_nil]
  cases hx:xs[a+2*n]? with
  |none =>
   have:vs[a+2*n]?=none:=by rw[List.getElem?_eq_none_iff]at hx ⊢;rw[<- r.length];exact hx
   rw[this];exact .nil
  |some x =>
   obtain⟨u,hu,ru⟩:=r.get hx
   rw[hu];exact .cons ru .nil
variable{K:Frag}{e o lo st:Expr}{fl fs:FO}
noncomputable section
def pTwo(x:W)(o1 o2:Option Int)(M:Mm):Oc W:=match o1,o2,lr M x with
 |some a,some s,some xs=>if s=2/\0<=a/\a<=xs.length then okD (.lst (two a.toNat xs)) M else .bad
 |_,_,_=>.bad
def eTwo(f:FE)(fl fs:FO):FE:=λL M=>(f L M).bind λx M1=>(fl L M1).bind λo1 M2=>(fs L M2).bind λo2 M3=>pTwo x o1 o2 M3
theorem aDq(he:Ev X K Z e f)(hl:Eo X K Z (some lo) fl)(hs:Eo X K Z (some st) fs):Ev X K Z (.Subscript e (.Slice (some lo) none (some st) p2) pos) (eTwo f fl fs):=by
 have h:=aMj (p2:=p2) (pos:=pos) he.h hl.h hs.h
 rw[he.k]at h
 refine⟨he.k,cqE h ?_⟩
 rintro σ H Q ⟨μ,M,L,hr,lr',p⟩
 refine⟨μ,M,L,hr,lr',p.bind.imp λμ1 H1 M1 x e1 hr1 _ p1 v rx=>?_⟩
 refine⟨μ1,M1,L,hr1,lr'.ext hr.lsts e1,p1.bind.imp λμ2 H2 M2 l e2 hr2 _ p2=>?_⟩
 refine⟨μ2,M2,L,hr2,lr'.ext hr.lsts (e1.trans e2),p2.bind.imp λμ3 H3 M3 u e3 hr3 _ p3=>?_⟩
 have rx:=rx.ext hr1.lsts (e2.trans e3)
 unfold pTwo at p3
 cases l with
 |none=>exact p3.elim
 |some a =>
  cases u with
  |none=>exact p3.elim
  |some s =>
   cases q1:lr M3 x with
   |none=>rw[q1]at p3;exact p3.elim
   |some xs =>
    rw[q1]at p3
    simp only at p3
    split at p3
    ·rename_i hz
     obtain⟨rfl,h0,ha⟩:=hz
     obtain⟨p,vs,rfl,h1,r1⟩:=pK hr3 rx q1
     exact⟨a.toNat,p,vs,by congr 1;lia,rfl,rfl,h1,by rw[<- r1.length];lia,fE hr3 (aIe r1 _) p3⟩
    ·exact p3.elim
def pSplit(z:Str)(y:W)(M:Mm):Oc W:=match y with
 |.d (.str s)=>if 1<=s.length/\z.length < 16777216 then okD (.lst ((PySem.Txt.split z s).map D.str)) M else .bad
 |_=>.bad
def pStarts(z:Str)(y:W)(M:Mm):Oc W:=match y with
 |.d (.str s)=>.ok (.d (.bl (PySem.Txt.startswith z s))) M
 |_=>.bad
end
theorem mG{μ:List Addr}{H:Hp}:∀ys:List Str,Rps K μ H (ys.map D.str) (ys.map V.str)
 |[]=>.nil
 |y::ys=>.cons (by simp[Rp]) (mG ys)
theorem iI(ho:Ev X K Z o fo)(he:Ev X K Z e fa)(hbase:attributeBase o "split" X.env (eval o X.env)=eval o X.env:=by rfl)
  (hfew:((backTo cpos (starEach [e] X.env)).all (λx=>!x.1)&&(backToKw cpos (keywordEach [] X.env)).all (λx=>x.1.isSome)&&decide ([e].length+([]:List Keyword).length+(if([]:List Keyword).isEmpty then 0 else 1) < 30))=true:=by rfl)
  (hline:(apos.endLine==cpos.line)=true:=by rfl)(hs:starEach [e] X.env=(false,eval e X.env)::starEach [] X.env:=by rfl)(hplain:(backTo cpos (starEach [] X.env)).any (·.1)=false:=by rfl) :
  Ev X K Z (.Call (.Attribute o "split" apos) [e] [] cpos) (eS1 pSplit fo fa):=by
 have h:=sI aGH aER PySem.F.type_str_split aFi ho.h (bJ he.h dE hs) hbase hfew hline hs hplain
 rw[ho.k]at h
 refine⟨ho.k,cqE h ?_⟩
 rintro σ H Q ⟨μ,M,L,hr,lr,p⟩
 refine⟨μ,M,L,hr,lr,p.bind.imp λμ1 H1 M1 x e1 hr1 _ p1 v rx=>?_⟩
 cases x with
 |d x=>cases x with
  |str z =>
   simp only[Rw,Rp]at rx
   subst rx
   refine⟨rfl,μ1,M1,L,hr1,lr.ext hr.lsts e1,p1.bind.imp λμ2 H2 M2 y e2 hr2 _ p2 u ry=>?_⟩
   unfold pSplit at p2
   split at p2
   ·simp only[Rw,Rp]at ry
    subst ry
    split at p2
    ·rename_i hz
     exact⟨z,_,rfl,rfl,hz.1,by rw[aAT];exact hz.2,fE hr2 (mG _) p2⟩
    ·exact p2.elim
   ·exact p2.elim
  |_=>exact p1.elim
 |_=>exact p1.elim
theorem sL(ho:Ev X K Z o fo)(he:Ev X K Z e fa)(hbase:attributeBase o "startswith" X.env (eval o X.env)=eval o X.env:=by rfl)
  (hfew:((backTo cpos (starEach [e] X.env)).all (λx=>!x.1)&&(backToKw cpos (keywordEach [] X.env)).all (λx=>x.1.isSome)&&decide ([e].length+([]:List Keyword).length+(if([]:List Keyword).isEmpty then 0 else 1) < 30))=true:=by rfl)
  (hline:(apos.endLine==cpos.line)=true:=by rfl)(hs:starEach [e] X.env=(false,eval e X.env)::starEach [] X.env:=by rfl)(hplain:(backTo cpos (starEach [] X.env)).any (·.1)=false:=by rfl) :
  Ev X K Z (.Call (.Attribute o "startswith" apos) [e] [] cpos) (eS1 pStarts fo fa):=by
 have h:=sI aGH PySem.F.slot_str_startswith PySem.F.type_str_startswith aBg ho.h (bJ he.h dE hs) hbase hfew hline hs hplain
 rw[ho.k]at h
 refine⟨ho.k,cqE h ?_⟩
 rintro σ H Q ⟨μ,M,L,hr,lr,p⟩
 refine⟨μ,M,L,hr,lr,p.bind.imp λμ1 H1 M1 x e1 hr1 _ p1 v rx=>?_⟩
 cases x with
 |d x=>cases x with
  |str z =>
   simp only[Rw,Rp]at rx
   subst rx
   refine⟨rfl,μ1,M1,L,hr1,lr.ext hr.lsts e1,p1.bind.imp λμ2 H2 M2 y e2 hr2 _ p2 u ry=>?_⟩
   unfold pStarts at p2
   split at p2
   ·simp only[Rw,Rp]at ry
    subst ry
    exact⟨z,_,rfl,rfl,p2 μ2 H2 .refl hr2 _ (by simp[Rw,Rp])⟩
   ·exact p2.elim
  |_=>exact p1.elim
 |_=>exact p1.elim
variable{Q:W->Mm->Prop}
theorem aAi(z:Okx EX (f L M) λx M1=>Okx EX (fl L M1) λo1 M2=>Okx EX (fs L M2) λo2 M3=>Okx EX (pTwo x o1 o2 M3) Q):Okx EX (eTwo f fl fs L M) Q:=aG (z.mono λ_ _ z=>aG (z.mono λ_ _ z=>aG z))
theorem aFo{x:W}{xs:List D}{a:Int}(h:lr M x=some xs)(h0:0<=a)(ha:a<=xs.length)(q:Q (.d (.lst (two a.toNat xs))) M):Okx EX (pTwo x (some a) (some 2) M) Q:=by
 unfold pTwo;rw[h];simp only;rw[aAH ⟨trivial,h0,ha⟩];exact aH q
theorem iR{z s:Str}(h1:1<=s.length)(hz:z.length < 16777216)(q:Q (.d (.lst ((PySem.Txt.split z s).map D.str))) M):Okx EX (pSplit z (.d (.str s)) M) Q:=by
 simp only[pSplit];rw[aAH ⟨h1,hz⟩];exact aH q
theorem rJ{z s:Str}(q:Q (.d (.bl (PySem.Txt.startswith z s))) M):Okx EX (pStarts z (.d (.str s)) M) Q:=aH q
end EV
set_option maxHeartbeats 1000000
namespace L2
open AutoSeq1 (wpAny_loadPart')
theorem uQ(l:Addr)(items:Array Value)(c:Int)(t:Tok)(h0:0<=c)(h1:c < 1000000) :
  Meets (Builtin.«enumerate.__new__» ⟨[.type "enumerate",.ref l],[(Str.ofString "start",.int c t)]⟩) (λ_ R s=>s.heap.IsList l items/\R (.ok (.ret (.ref (eH1 true s.heap l).objs.size))) {s with heap:=eH2 true s.heap l c}) :=
 .of_wp λprog w A R s h=>by
  obtain⟨hp,g,d,tk,os⟩:=s;obtain⟨hl,h⟩:=h
  have hsub:=sub_enumerate
  have hL:Heap.IsList (Shared.heap ⟨hp,g,d,tk,os⟩) l items:=hl
  have hfit:(!Builtin.SmallTypes.fitsIndex c)=false:=by
   unfold Builtin.SmallTypes.fitsIndex
   simp
   lia
  wp_walk
  refine wpAny_stack_any λst=>aAD ?_
  split
  ·rename_i k _ _ _ _ _
   cases(k==Value.type "enumerate") <;> (wp_walk using aCS hL;exact⟨_,rfl,h⟩)
  ·wp_walk using aCS hL
   exact⟨_,rfl,h⟩
variable{prog:Program}{E:Value->Shared->Prop}
theorem wG{l:Addr}{c:Int}{t:Tok}(h0:0<=c)(h1:c < 1000000)(hl:s.heap.IsList l items)
  (h:∀h',IsEnum h' (s.heap.objs.size+1) s.heap.objs.size c .none->It0 true h' s.heap.objs.size l 0->(∀q o,s.heap.get? q=some o->h'.get? q=some o)->Q (.ref (s.heap.objs.size+1)) {s with heap:=h'}) :
  wpAny (model prog w) A (call (.type "enumerate") [.ref l] [(Str.ofString "start",.int c t)]) Q E s:=by
 obtain⟨z1,f1,f2,f3⟩:=aEi true s.heap l c
 have ft:=aHG
 obtain⟨k,tl,hmro⟩:=ft.mro
 have hmade:=ft.made
 have hsub:=ft.sub
 have hct:=aEt (.ref l) (.int c t)
 have g1:=ft.notType
 have g2:=ft.canCreate
 refine aEQ (codeAny_of_tree (show wpAny _ _ (callAny (.type "enumerate") _) _ _ _ from aAD ⟨aFT _ (by decide +kernel),aFO F.entry_type_call ?_⟩))
 rw[Around.under_plain (weight_type_call_type "enumerate" [.ref l] [(Str.ofString "start",.int c t)]) (units_type_call_type "enumerate" [.ref l] [(Str.ofString "start",.int c t)])]
 repeat(any_goals (first|assumption|wp_step))
 have hN:=uQ l items c t h0 h1 prog w A.in1 (λr s'=>r=.ok (.ret (.ref (s.heap.objs.size+1)))/\s'={s with heap:=eH2 true s.heap l c}) s ⟨hl,by rw[z1],rfl⟩
 refine aEW (R:=λr s'=>r=.ok (.ret (.ref (s.heap.objs.size+1)))/\s'={s with heap:=eH2 true s.heap l c}) (aDG ft.plain F.entry_enumerate_new (wpAny_of_eq (aCy (.ref l) (.int c t)) hN)) ?_
 rintro _ _ ⟨rfl,rfl⟩
 have hT:Shared.TypeIs {s with heap:=eH2 true s.heap l c} (.ref (s.heap.objs.size+1)) "enumerate":=⟨_,f1,rfl⟩
 have hli:=ft.init.lookup
 have hbi:=ft.init.bind (.ref (s.heap.objs.size+1))
 repeat(any_goals (first|assumption|wp_step))
 have hI:=initK (self:=.ref (s.heap.objs.size+1)) (a:=.ref l) (b:=.int c t) prog w A.in1 (λr s'=>r=.ok (.ret .none)/\s'={s with heap:=eH2 true s.heap l c}) {s with heap:=eH2 true s.heap l c} ⟨hT,rfl,rfl⟩
 refine aEW (R:=λr s'=>r=.ok (.ret .none)/\s'={s with heap:=eH2 true s.heap l c}) (aDG ft.init.plain F.entry_object_init (ft.init.check _ _ _ _ _ _ _ _ hT (aFa (.ref (s.heap.objs.size+1)) (.ref l) (.int c t)) hI)) ?_
 rintro _ _ ⟨rfl,rfl⟩
 have hq:=h _ f1 f2 f3
 repeat(any_goals (first|assumption|wp_step))
theorem aCt{elts:List Expr}{x1}{a e:Expr}{kp:Pos}(hg:Gl X "enumerate")(hm:X.mg "enumerate"=none)(ha:PE X a ta)(he:PE X e te)(hs:starEach [a] X.env=[(false,eval a X.env)]) :
  PI X (.Tuple elts x1 tpos) (.Call (.Name "enumerate" p) [a] [⟨some "start",e,kp⟩] pos) (λσ H R=>ta σ H λx H1=>te σ H1 λy H2=>∃l xs c,x=.ref l/\y=.int c/\0<=c/\c < 1000000/\SqB true X.K H2 l xs/\R (Ite true X.K l c xs) H2):=by
 intro pins s σ H R I h
 refine aCV (jW I hg hm sU (aHq (by rw[hs];rfl) (by rfl) ?_))
 have hA:=bJ ha dE hs pos pins s σ H (λvs H1=>match vs with|[x]=>te σ H1 (λy H2=>∃l xs c,x=.ref l/\y=.int c/\0<=c/\c < 1000000/\SqB true X.K H2 l xs/\R (Ite true X.K l c xs) H2)|_=>False) I h
 rw[hs]at hA ⊢
 refine evalArgs_kwB (by rfl) (thn hA λus s1 ⟨vs,H1,I1,r1,hr⟩=>?_)
 match vs,r1,hr with
 |[],_,hr=>exact hr.elim
 |_::_::_,_,hr=>exact hr.elim
 |[x],r1,hr =>
 obtain⟨u,rfl,rx⟩:=vals1 r1
 refine thn (aIn (nm:=some "start") (kpos:=kp) he aMh pos pins s1 σ H1 (λys H2=>match ys with|[y]=>∃l xs c,x=.ref l/\y=.int c/\0<=c/\c < 1000000/\SqB true X.K H2 l xs/\R (Ite true X.K l c xs) H2|_=>False) I1 hr) λws s2 ⟨ys,H2,I2,r2,hq⟩=>?_
 match ys,r2,hq with
 |[],_,hq=>exact hq.elim
 |_::_::_,_,hq=>exact hq.elim
 |[y],r2,hq =>
 obtain⟨l,xs,c,rfl,rfl,c0,c1,sx,hq⟩:=hq
 obtain⟨u2,rfl,⟨t,rfl⟩⟩:=vals1 r2
 cases rx
 obtain⟨its,q1,p1,z1⟩:=sx.inv I2
 have hl:l < s2.heap.objs.size:=p1.lt
 have hne:s2.heap.objs.size+1≠s2.heap.objs.size:=Nat.succ_ne_self _
 have hes:l≠s2.heap.objs.size+1:=aAN (aGA hl)
 have his:l≠s2.heap.objs.size:=aAN hl
 show wpAny _ _ (call (.type "enumerate") [.ref l] [(Str.ofString "start",.int c t)]) _ _ _
 refine wG c0 c1 p1 λh' a1 a2 k=>?_
 have tz:tne true (s2.heap.objs.size+1) s2.heap.objs.size l c 0 h':=⟨⟨_,by simpa using a1⟩,a2⟩
 refine(sQ (P:=X.prog) (w:=X.w) (K:=X.K) (elts:=elts) (x1:=x1) (pos:=tpos) c hne hes his xs).self _ 0 _ _ _ tz ?_
 refine⟨s2.heap.objs.size+1,_,_,_,H2,rfl,I2.kept (t':=s2.toks) λq o e=>k q o e,sQ c hne hes his xs,tz,λq hb=>?_,hq⟩
 refine I2.fpOk ?_ (I2.hok.fresh ?_) <;>
 ·simp only[aAO,aBW,aED]at hb
  rcases hb with rfl|rfl <;> (show(_:Nat)<=(_:Nat);lia)
end L2
namespace EV
open L2
section
variable{K:Frag}{a b:Expr}{g:FE}
noncomputable def iEnumKL(f g:FE):FI:=λL M=>(f L M).bind λx M1=>(g L M1).bind λy M2=>match x,y with
 |.d (.lst xs),.d (.int c)=>if 0<=c/\c < 1000000 then .ok ⟨enumT c xs,none⟩ M2 else .bad
 |_,_=>.bad
theorem aDc{p:Addr}{xs:List D}{c:Int}(h1:H p=some (.lst vs))(hp:p∉μ)(r1:Rps K μ H xs vs):ItOk K μ H ⟨enumT c xs,none⟩ (Ite true K p c vs):=by
 refine⟨λμ2 H2=>H2 p=some (.lst vs)/\p∉μ2/\Rps K μ2 H2 xs vs,⟨h1,hp,r1⟩,λμ1 H1 μ2 H2 l z e=>⟨e.keep _ _ z.2.1 z.1,e.out z.1 z.2.1,Rps.ext l e _ _ z.2.2⟩,λμ3 H3 M3 i hr3 hS hc=>⟨λd hd=>?_,λhl=>?_⟩⟩
 ·obtain⟨x,hx,rfl⟩:=rN hd
  obtain⟨u,hu,ru⟩:=hS.2.2.get hx
  refine⟨⟨SqL.of hS.1,(aAE.mp hu).1⟩,λx' H4 hy4=>?_⟩
  obtain⟨T,u',hT,rfl,hu',rfl⟩:=hy4
  rw[hu]at hu';cases hu'
  exact aGn hr3 hT (by simp[Rp]) ru
 ·refine⟨SqL.of hS.1,?_⟩
  simp only[lZ]at hl
  rw[<- hS.2.2.length]
  exact hl
theorem aCg{elts:List Expr}{x1}{kp:Pos}(hm:X.mg "enumerate"=none)(ha:Ev X K Z a f)(hb:Ev X K Z b g)(hg:Gl X "enumerate":=by rfl)(hs:starEach [a] X.env=[(false,eval a X.env)]:=by rfl) :
  Ei X K Z (.Tuple elts x1 tpos) (.Call (.Name "enumerate" p) [a] [⟨some "start",b,kp⟩] pos) (iEnumKL f g):=by
 have h':=aCt (elts:=elts) (x1:=x1) (tpos:=tpos) (p:=p) (pos:=pos) (kp:=kp) hg hm ha.h hb.h hs
 rw[ha.k]at h'
 refine⟨ha.k,cqI h' ?_⟩
 rintro σ H R ⟨μ,M,L,hr,lr,p⟩
 refine⟨μ,M,L,hr,lr,p.bind.imp λμ1 H1 M1 w e1 hr1 _ p1 v rx=>?_⟩
 refine⟨μ1,M1,L,hr1,lr.ext hr.lsts e1,p1.bind.imp λμ2 H2 M2 y e2 hr2 _ p2 u ry=>?_⟩
 cases w with
 |d x =>
  cases x with
  |lst xs =>
   cases y with
   |d y =>
    cases y with
    |int c =>
     dsimp only at p2
     split at p2
     ·rename_i hc
      have rx:=rx.ext hr1.lsts e2
      simp only[Rw,Rp]at rx ry
      obtain⟨q,vs,rfl,h1,hp,r1⟩:=rx
      exact⟨q,vs,c,rfl,ry,hc.1,hc.2,SqL.of h1,p2 μ2 H2 .refl hr2 _ (aDc h1 hp r1)⟩
     ·exact p2.elim
    |_=>exact p2.elim
   |_=>exact p2.elim
  |_=>exact p2.elim
 |_=>exact p2.elim
variable{EX:D->Mm->Prop}
theorem zF(h:Okx EX (f L M) λx M1=>Okx EX (g L M1) λy M2=>∃xs c,x=.d (.lst xs)/\y=.d (.int c)/\(0<=c/\c < 1000000)/\QI ⟨enumT c xs,none⟩ M2):Okx EX (iEnumKL f g L M) QI :=
 aG (h.mono λx M1 z=>aG (z.mono λy M2 ⟨xs,c,e1,e2,hc,q⟩=>by subst e1 e2;dsimp only;rw[aAH hc];exact aH q))
end
end EV
set_option maxHeartbeats 4000000
namespace LS
open L2 EV
open PySem.NumText
noncomputable def joinL(c:Nat):List (List Nat)->List Nat
 |[]=>[]
 |[w]=>w
 |w::r=>w++c::joinL c r
noncomputable def spl(c:Nat):List Nat->List (List Nat)
 |[]=>[[]]
 |x::r=>if x=c then[]::spl c r else match spl c r with
  |[]=>[[x]]
  |w::ws=>(x::w)::ws
variable{w:List Nat}
theorem cN{r:List (List Nat)}(h:r≠[]):joinL c (w::r)=w++c::joinL c r:=by
 cases r with
 |nil=>exact(h rfl).elim
 |cons x r=>rfl
theorem kT(c:Nat):∀l,spl c l≠[]
 |[]=>by simp[spl]
 |x::r=>by
  simp only[spl]
  split
  ·simp
  ·split <;> simp
theorem kG(c:Nat):∀l,joinL c (spl c l)=l
 |[]=>rfl
 |x::r=>by
  have ih:=kG c r
  simp only[spl]
  split
  ·rename_i h
   rw[cN (kT c r),ih,h];rfl
  ·split
   ·rename_i h;exact(kT c r h).elim
   ·rename_i w ws h
    rw[h]at ih
    cases ws with
    |nil=>simp only[joinL]at ih ⊢;rw[ih]
    |cons y ys =>
     rw[cN (by simp)]at ih ⊢
     rw[aEZ,ih]
theorem aAs{c:Nat}:∀{w:List Nat},c∉w->∀r:List Nat,spl c (w++c::r)=w::spl c r
 |[],_,r=>by simp[spl]
 |x::w,h,r=>by
  simp only[aAO,not_or]at h
  simp only[aEZ,spl]
  rw[aAL (λe=>h.1 e.symm),aAs h.2 r]
theorem zU{c:Nat}:∀{w:List Nat},c∉w->spl c w=[w]
 |[],_=>rfl
 |x::w,h=>by
  simp only[aAO,not_or]at h
  simp only[spl]
  rw[aAL (λe=>h.1 e.symm),zU h.2]
theorem rX{c:Nat}:∀{ws:List (List Nat)},ws≠[]->(∀w∈ws,c∉w)->spl c (joinL c ws)=ws
 |[],h,_=>(h rfl).elim
 |[w],_,h=>zU (h w (by simp))
 |w::x::r,_,h=>by
  rw[cN (by simp),aAs (h w (by simp)),rX (by simp) λy hy=>h y (by simp[hy])]
theorem gU(c:Nat):∀l,(spl c l).length<=l.length+1
 |[]=>by simp[spl]
 |x::r=>by
  have ih:=gU c r
  simp only[spl]
  split
  ·simp;lia
  ·split
   ·simp
   ·rename_i h;rw[h]at ih;simp at ih ⊢;lia
theorem eK{c:Nat}:∀{l w:List Nat},w∈spl c l->w.length<=l.length
 |[],w,h=>by simp[spl]at h;subst h;simp
 |x::r,w,h=>by
  simp only[spl]at h
  split at h
  ·rcases aAO.mp h with rfl|h
   ·simp
   ·have:=eK h;simp;lia
  ·split at h
   ·simp at h;subst h;simp
   ·rename_i v vs hv
    rcases aAO.mp h with rfl|h
    ·have:=eK (c:=c) (l:=r) (w:=v) (by rw[hv];simp);simp;lia
    ·have:=eK (c:=c) (l:=r) (w:=w) (by rw[hv];simp[h]);simp;lia
theorem wY(c:Nat):∀ws:List (List Nat),Str.join (T [c]) (ws.map T)=T (joinL c ws)
 |[]=>rfl
 |[w]=>rfl
 |w::x::r=>by
  show T w++T [c]++Str.join (T [c]) ((x::r).map T)=_
  have e:joinL c (w::x::r)=w++c::joinL c (x::r):=cN (by simp)
  rw[wY c (x::r),mE,mE,e,aGi]
  simp
theorem aEy(x y:Str):PySem.Txt.split x y≠[]:=by
 unfold PySem.Txt.split
 split
 ·simp
 ·split
  ·simp
  ·rw[StrLaws.partsBetween_eq]
   obtain⟨p,r,e⟩:=StrLaws.partsFrom_ne x y.length 0 (Builtin.Str.occurrences x y 0 x.length (x.length+1))
   rw[e];simp
theorem fZ(c:Nat)(l:List Nat):PySem.Txt.split (T l) (T [c])=(spl c l).map T:=by
 have e:PySem.Txt.split (T l) (T [c])=((PySem.Txt.split (T l) (T [c])).map λs=>s.cps.toList).map T:=by
  rw[aCL]
  conv=>lhs;rw[<- List.map_id (PySem.Txt.split (T l) (T [c]))]
  exact aFM λs _=>aKz s
 have hj:=StrLaws.join_split (T l) (T [c])
 have hf:=λp hp=>StrLaws.split_free (T l) c p hp
 have hn:=aEy (T l) (T [c])
 rw[e,wY,aGi]at hj
 have e2:spl c l=(PySem.Txt.split (T l) (T [c])).map λs=>s.cps.toList:=by
  have:=rX (c:=c) (ws:=(PySem.Txt.split (T l) (T [c])).map λs=>s.cps.toList) (λz=>hn (List.map_eq_nil_iff.mp z)) λw hw=>by
   obtain⟨s,hs,rfl⟩:=aBE.mp hw
   exact hf s hs
  rw[hj]at this
  exact this
 rw[e2]
 exact e
theorem uV(c:Nat)(w:List Nat):PySem.Txt.startswith (T w) (T [c])=decide (w.head?=some c):=by
 have h:=StrLaws.subAt_one (T w) c 0
 unfold PySem.Txt.startswith
 have e:(T w).cps.toList[0]?=w.head?:=by simp[List.head?_eq_getElem?]
 rw[e]at h
 by_cases hw:w.head?=some c
 ·have:=h.mpr hw
  rw[aFV hw,aBM]
  exact⟨aFV this.1,this.2⟩
 ·rw[aBI hw,Bool.and_eq_false_iff]
  by_cases h1:0+Str.length (T [c])<=Str.length (T w)
  ·right
   cases q:Builtin.Str.subAt (T w) (T [c]) 0 with
   |false=>rfl
   |true=>exact(hw (h.mp ⟨h1,q⟩)).elim
  ·left;exact aBI h1
noncomputable section
def nb(c:Nat)(w:List Nat):Option Nat:=if w.head?=some c then num? 7 (w.drop 1)else none
def allS:List (Option Nat)->Option (List Nat)
 |[]=>some []
 |some x::r=>(allS r).map (x::·)
 |none::_=>none
def hx(w:List Nat):Bool:=decide (w.head?=some 120)
def rdA(s c:Nat)(ws:List (List Nat)):Option Dd:=match allS ((ws.takeWhile hx).map (nb 120)),allS ((ws.dropWhile hx).map (nb 115))with
 |some gs,some ts=>some (.add s c gs ts)
 |_,_=>none
def rdD:List (List Nat)->Option Dd
 |w0::w1::w2::r=>match nb 115 w0,num? 7 w2 with
  |some s,some c=>if w1=[42]/\r=[]then some (.scale s c)else if w1=[43]then rdA s c r else none
  |_,_=>none
 |_=>none
def wRest:List Nat:=[114,101,115,116]
def wGivens:List Nat:=[103,105,118,101,110,115]
def wShelves:List Nat:=[115,104,101,108,118,101,115]
def rdH:List (List Nat)->Option (Nat×Nat×Nat)
 |[a,n,b,g,c,s]=>if a=wRest/\b=wGivens/\c=wShelves then(match num? 7 n,num? 7 g,num? 7 s with
  |some n,some g,some s=>if(2<=n/\n<=1000000)/\g<=8/\1<=s/\s<=9 then some (n,g,s)else none
  |_,_,_=>none)else none
 |_=>none
def xw(g:Nat):List Nat:=120::dig g
def sw(s:Nat):List Nat:=115::dig s
def dw:Dd->List (List Nat)
 |.add s c gs ts=>sw s::[43]::dig c.toNat::(gs.map xw++ts.map sw)
 |.scale s u=>[sw s,[42],dig u.toNat]
def hw(n g s:Nat):List (List Nat):=[wRest,dig n,wGivens,dig g,wShelves,dig s]
def Fg:Dd->Prop
 |.add s c gs ts=>s < 10000000/\0<=c/\c < 10000000/\(∀g∈gs,g < 10000000)/\∀t∈ts,t < 10000000
 |.scale s u=>s < 10000000/\0<=u/\u < 10000000
theorem num7(h:n < 10000000):num? 7 (dig n)=some n:=aGw (zX (by lia) (by lia))
theorem kN(h:num? most w=some n):w=dig n:=(aEn h).1
theorem yT(h:nb c w=some n):w=c::dig n:=by
 unfold nb at h
 split at h
 ·rename_i hc
  cases w with
  |nil=>simp at hc
  |cons x r=>simp at hc;subst hc;rw[<- kN h];rfl
 ·cases h
theorem jU{c:Nat}:∀{ws:List (List Nat)} {xs:List Nat},allS (ws.map (nb c))=some xs->ws=xs.map (λn=>c::dig n)
 |[],xs,h=>by simp[allS]at h;subst h;rfl
 |w::ws,xs,h=>by
  simp only[aAV]at h
  cases q:nb c w with
  |none=>rw[q]at h;simp[allS]at h
  |some n =>
   rw[q]at h
   simp only[allS,aAR]at h
   obtain⟨ys,h1,rfl⟩:=h
   rw[yT q,jU h1];rfl
theorem aGx{d:Dd}(h:rdD ws=some d):ws=dw d:=by
 unfold rdD at h
 split at h
 ·rename_i w0 w1 w2 r
  split at h
  ·rename_i s c hs hc
   split at h
   ·rename_i h1
    cases h
    obtain⟨rfl,rfl⟩:=h1
    simp only[dw,aBF]
    rw[yT hs,kN hc];rfl
   ·split at h
    ·rename_i h1
     subst h1
     unfold rdA at h
     split at h
     ·rename_i gs ts hg ht
      cases h
      simp only[dw,aBF]
      rw[yT hs,kN hc]
      have e1:=jU hg
      have e2:=jU ht
      rw[<- aEI (p:=hx) (l:=r),e1,e2];rfl
     ·cases h
    ·cases h
  ·cases h
 ·cases h
theorem oJ{r:Nat×Nat×Nat}(h:rdH ws=some r):ws=hw r.1 r.2.1 r.2.2/\(2<=r.1/\r.1<=1000000)/\r.2.1<=8/\1<=r.2.2/\r.2.2<=9:=by
 unfold rdH at h
 split at h
 ·split at h
  ·rename_i hw'
   obtain⟨rfl,rfl,rfl⟩:=hw'
   split at h
   ·rename_i n g s hn hg hs
    split at h
    ·rename_i hb
     cases h
     refine⟨?_,hb⟩
     unfold hw
     rw[kN hn,kN hg,kN hs]
    ·cases h
   ·cases h
  ·cases h
 ·cases h
def row(d:Dd):List Nat:=joinL 32 (dw d)
def headR(n g s:Nat):List Nat:=joinL 32 (hw n g s)
def prog(n g s:Nat)(ds:List Dd):List Nat:=joinL 10 (headR n g s::ds.map row)
end
theorem nB(c:Nat):∀ws:List (List Nat),(joinL c ws).length<=(ws.map List.length).sum+ws.length
 |[]=>by simp[joinL]
 |[w]=>by simp[joinL]
 |w::x::r=>by
  have:=nB c (x::r)
  rw[cN (by simp)]
  simp only[aBB,aBJ,aAV,List.sum_cons]at this ⊢
  lia
end LS
namespace L2
theorem mQ(k:Str):∀ys:List Str,countIn (.str k) (ys.map PyData.str)=((ys.filter (·==k)).length:Int)
 |[]=>rfl
 |y::r=>by
  rw[aAV,countIn,mQ k r,List.filter_cons]
  by_cases h:(y==k)=true
  ·rw[aAH (show same (PyData.str y) (PyData.str k)=true from h),aAH h,aBJ];lia
  ·rw[aAL (show ¬same (PyData.str y) (PyData.str k)=true from h),aAL h];lia
theorem aEg:MtR X "list.count" (λx xs H Q=>∃(p:Addr) (ys:List Str) (k:Str),x=.ref p/\xs=[.str k]/\SqL X.K H p (ys.map V.str)/\Q (.int ((ys.filter (·==k)).length:Int)) H):=by
 intro pins s σ H x xs v us Q I rx rs h
 obtain⟨p,ys,k,rfl,rfl,hp,q⟩:=h
 cases rx
 obtain⟨u,rfl,e⟩:=vals1 rs
 obtain⟨t,rfl⟩:=e
 obtain⟨its,r,ht,_⟩:=I.list hp
 refine count_list_strs ht.isList (lE r) ⟨.int _,H,I.tok _,⟨_,rfl⟩,?_⟩
 rw[mQ];exact q
end L2
namespace EV
open L2
variable{K:Frag}{o e:Expr}
noncomputable section
def pNinS(x y:W)(M:Mm):Oc W:=match x,y with
 |.d (.str i),.d (.str j)=>.ok (.d (.bl (Builtin.Str.occurrences j i 0 j.length 1).isEmpty)) M
 |_,_=>.bad
theorem opNinS:OpG X K Z (compareOp .NotIn) pNinS:=λhk=>by
 refine⟨_,uI,?_⟩
 intro μ H M x y v u Q hr rx ry p
 cases x with
 |d x=>cases y with
  |d y=>cases x <;> cases y <;> first
   |exact p.elim
   |(simp only[Rw,Rp]at rx ry;exact⟨_,_,rx,ry,by rw[Bool.not_not];exact p μ H .refl hr _ (by simp[Rw,Rp])⟩)
  |_=>cases x <;> exact p.elim
 |_=>exact p.elim
def eL1(g:List D->W->Mm->Oc W)(fo fa:FE):FE:=λL M=>(fo L M).bind λx M1=>match x with
 |.d (.lst xs)=>(fa L M1).bind λy M2=>g xs y M2
 |_=>.bad
def pCount(xs:List D)(y:W)(M:Mm):Oc W:=match strsOf xs,y with
 |some ys,.d (.str k)=>.ok (.d (.int ((ys.filter (·==k)).length:Int))) M
 |_,_=>.bad
end
theorem aDk(ho:Ev X K Z o fo)(he:Ev X K Z e fa)(hbase:attributeBase o "count" X.env (eval o X.env)=eval o X.env:=by rfl)
  (hfew:((backTo cpos (starEach [e] X.env)).all (λx=>!x.1)&&(backToKw cpos (keywordEach [] X.env)).all (λx=>x.1.isSome)&&decide ([e].length+([]:List Keyword).length+(if([]:List Keyword).isEmpty then 0 else 1) < 30))=true:=by rfl)
  (hline:(apos.endLine==cpos.line)=true:=by rfl)(hs:starEach [e] X.env=(false,eval e X.env)::starEach [] X.env:=by rfl)(hplain:(backTo cpos (starEach [] X.env)).any (·.1)=false:=by rfl) :
  Ev X K Z (.Call (.Attribute o "count" apos) [e] [] cpos) (eL1 pCount fo fa):=by
 have h:=sI aEK PySem.F.slot_list_count PySem.F.type_list_count aEg ho.h (bJ he.h dE hs) hbase hfew hline hs hplain
 rw[ho.k]at h
 refine⟨ho.k,cqE h ?_⟩
 rintro σ H Q ⟨μ,M,L,hr,lr,p⟩
 refine⟨μ,M,L,hr,lr,p.bind.imp λμ1 H1 M1 x e1 hr1 _ p1 v rx=>?_⟩
 cases x with
 |d x=>cases x with
  |lst xs =>
   obtain⟨a1,vs1,rfl,q1,r1⟩:=pK hr1 rx (ds:=xs) rfl
   refine⟨.inl ⟨rfl,vs1,q1⟩,μ1,M1,L,hr1,lr.ext hr.lsts e1,p1.bind.imp λμ2 H2 M2 y e2 hr2 _ p2 u ry=>?_⟩
   cases q2:strsOf xs with
   |none=>simp only[pCount,q2]at p2;exact p2.elim
   |some ys =>
    cases y with
    |d y=>cases y with
     |str k =>
      simp only[pCount,q2]at p2
      simp only[Rw,Rp]at ry
      subst ry
      obtain⟨a2,vs2,e,q3,r3⟩:=pK hr2 (rx.ext hr1.lsts e2) (ds:=xs) rfl
      have:=qH r3 q2
      subst this
      cases e
      exact⟨_,ys,k,rfl,rfl,q3,p2 μ2 H2 .refl hr2 _ (by simp[Rw,Rp])⟩
     |_=>simp only[pCount,q2]at p2;exact p2.elim
    |_=>simp only[pCount,q2]at p2;exact p2.elim
  |_=>exact p1.elim
 |_=>exact p1.elim
variable{Q:W->Mm->Prop}
theorem aQb{g:List D->W->Mm->Oc W}(z:Okx EX (fo L M) λx M1=>∃xs,x=.d (.lst xs)/\Okx EX (fa L M1) λy M2=>Okx EX (g xs y M2) Q):Okx EX (eL1 g fo fa L M) Q:=aG (z.mono λ_ _ ⟨xs,e,z⟩=>by subst e;exact aG z)
theorem aGg{xs:List D}{ys:List Str}{k:Str}(h:strsOf xs=some ys)(q:Q (.d (.int ((ys.filter (·==k)).length:Int))) M):Okx EX (pCount xs (.d (.str k)) M) Q:=by
 simp only[pCount,h];exact aH q
theorem aIj{i j:Str}(q:Q (.d (.bl (Builtin.Str.occurrences j i 0 j.length 1).isEmpty)) M):Okx EX (pNinS (.d (.str i)) (.d (.str j)) M) Q:=aH q
end EV
namespace L2
end L2
namespace EV
open L2
variable{K:Frag}{o e:Expr}{Q:W->Mm->Prop}
end EV
set_option maxHeartbeats 4000000
end
namespace K16
open PySem L2 EV
noncomputable section
def top(i:Nat):Stmt:=PySem.Challenge.pw_lentshelf_k16_whole_each_sign_of_a_text.main.body.getD i (.Pass ⟨0,0,0,0⟩)
abbrev bK:Stmt:=top 13
abbrev cD:Stmt:=top 14
abbrev dB:Stmt:=top 16
abbrev cZ:Stmt:=top 19
abbrev bL:Stmt:=top 20
abbrev gK:Stmt:=top 26
abbrev bP:Stmt:=top 27
abbrev gZ:Stmt:=top 28
abbrev bW:Stmt:=top 29
abbrev cC:Stmt:=top 30
abbrev bX:Stmt:=top 31
abbrev bF:Stmt:=top 32
abbrev fF:Stmt:=top 34
abbrev dP:Stmt:=top 35
abbrev kR:Stmt:=top 36
abbrev dO:Stmt:=top 37
abbrev cO:Stmt:=top 38
abbrev dW:Stmt:=top 39
abbrev cS:Stmt:=top 40
abbrev cY:Stmt:=top 41
abbrev bH:Stmt:=top 42
abbrev bN:Stmt:=top 43
abbrev bU:Stmt:=top 44
abbrev bV:Stmt:=top 45
abbrev bR:Stmt:=top 46
abbrev bT:Stmt:=top 47
abbrev bM:Stmt:=top 48
abbrev cH:Stmt:=top 49
abbrev dC:Stmt:=top 50
abbrev dU:Stmt:=top 51
abbrev dA:Stmt:=top 52
abbrev jN:Stmt:=top 53
abbrev cV:Stmt:=inClass (top 4) 0
def b_0:FS :=
 (sSeq (sAs (eV 1) (gN 2))
  (sSeq (whileD (EV.tAnd (EV.tB (e2 pLt (eV 2) (eA cLen (aCons (eV 0) aNil)))) (EV.tB (e2 pInS (e2 pIx (eV 0) (eV 2)) (eC (.str "0123456789")))))
  (sAug (pI (λ_ _=>true) λi j=>.int (i+j)) 2 (eC (.int 1))) NW)
  (sRt (eV 2))))
def dR:Fn:=fnD 2 3 b_0
theorem oE{ws:List W}(h:ws.length≠2):dR ws M=.bad:=aAL h
def b_1:FS :=
 (sSeq (sIf (EV.tOr (EV.tB (e2 pEq (eV 0) (eC (.str "")))) (EV.tB (e2 pGt (eA cLen (aCons (eV 0) aNil)) (eV 1))))
  (sRt (eC .non))
  sNil)
  (sSeq (sIf (EV.tB (e2 pLt (eA dR (aCons (eV 0) (aCons (eC (.int 0)) aNil))) (eA cLen (aCons (eV 0) aNil))))
  (sRt (eC .non))
  sNil)
  (sSeq (sIf (EV.tAnd (EV.tB (e2 pEq (e2 pIx (eV 0) (eC (.int 0))) (eC (.str "0")))) (EV.tB (e2 pGt (eA cLen (aCons (eV 0) aNil)) (eC (.int 1)))))
  (sRt (eC .non))
  sNil)
  (sRt (eA cIntS (aCons (eV 0) aNil))))))
def dM:Fn:=fnD 2 2 b_1
theorem hZ{ws:List W}(h:ws.length≠2):dM ws M=.bad:=aAL h
def b_2:FS :=
 (sSeq (sPar 2 3 (aCons (eV 0) (aCons (e2 pMod (eV 1) (eV 0)) aNil)))
  (sSeq (sAs (eA mkT (aCons (eC (.int 0)) (aCons (eC (.int 1)) aNil))) (gT 2 (gsCons (gN 4) (gsCons (gN 5) gsNil))))
  (sSeq (whileD (EV.tB (e2 pGt (eV 3) (eC (.int 0))))
  (sSeq (sAs (e2 pDiv (eV 2) (eV 3)) (gN 6))
  (sSeq (sPar 2 3 (aCons (eV 3) (aCons (e2 pSub (eV 2) (e2 pMulA (eV 6) (eV 3))) aNil)))
  (sPar 4 5 (aCons (eV 5) (aCons (e2 pSub (eV 4) (e2 pMulA (eV 6) (eV 5))) aNil))))) NW)
  (sSeq (sIf (EV.tB (e2 pNe (eV 2) (eC (.int 1))))
  (sRt (eC .non))
  sNil)
  (sRt (e2 pMod (eV 4) (eV 0)))))))
def iP:Fn:=fnD 2 7 b_2
theorem uW{ws:List W}(h:ws.length≠2):iP ws M=.bad:=aAL h
def b_4:FS :=
 (sSeq (sIf (EV.tB (e2 pGt (eA cLen (aCons (eV 0) aNil)) (eC (.int 4))))
  (sRt (eC (.bl false)))
  sNil)
  (sSeq (sAs (eC (.int 0)) (gN 2))
  (sSeq (sFor (iE (eV 0)) (gN 3)
  (sSeq (sIf (EV.tOr (EV.tB (e2 pLt (eV 3) (eV 2))) (EV.tB (e2 pGe (eV 3) (eV 1))))
  (sRt (eC (.bl false)))
  sNil)
  (sAs (eV 3) (gN 2))))
  (sRt (eC (.bl true))))))
def dD:Fn:=fnD 2 4 b_4
theorem jL{ws:List W}(h:ws.length≠2):dD ws M=.bad:=aAL h
def b_3:FS :=
 (sSeq (sPar 4 5 (aCons (e2 pIx (eV 3) (eC (.int 1))) (aCons (e2 pIx (eV 3) (eC (.int 2))) aNil)))
  (sSeq (sIf (EV.tOr (EV.tNot (EV.tB (e3c pLe pLt (eC (.int 0)) (eV 4) (eV 2)))) (EV.tNot (EV.tB (e3c pLe pLt (eC (.int 0)) (eV 5) (eV 0)))))
  (sRt (eC (.bl false)))
  sNil)
  (sSeq (sIf (EV.tB (e2 pEq (e2 pIx (eV 3) (eC (.int 0))) (eC (.str "scale"))))
  (sRt (e2 pIsNot (eA iP (aCons (eV 0) (aCons (eV 5) aNil))) (eC .non)))
  sNil)
  (sSeq (sPar 6 7 (aCons (e2 pIx (eV 3) (eC (.int 3))) (aCons (e2 pIx (eV 3) (eC (.int 4))) aNil)))
  (sRt (eAnd (eA dD (aCons (eV 6) (aCons (eV 1) aNil))) (eAnd (eA dD (aCons (eV 7) (aCons (eV 2) aNil))) (e2 pNotIn (eV 4) (eV 7)))))))))
def iQ:Fn:=fnD 4 8 b_3
theorem vZ{ws:List W}(h:ws.length≠4):iQ ws M=.bad:=aAL h
def b_6:FS :=
 (sSeq (sIf (EV.tB (e2 pEq (e2 pIx (eV 0) (eC (.int 0))) (eC (.str "scale"))))
  (sRt (eJ (jLit "s" (jVal (e2 pIx (eV 0) (eC (.int 1))) (jLit " * " (jVal (e2 pIx (eV 0) (eC (.int 2))) jNil))))))
  sNil)
  (sSeq (sAs (eA mkR (aCons (eJ (jLit "s" (jVal (e2 pIx (eV 0) (eC (.int 1))) (jLit " + " (jVal (e2 pIx (eV 0) (eC (.int 2))) jNil))))) aNil)) (gN 1))
  (sSeq (sAugL 1 (eComp [none] (iE (e2 pIx (eV 0) (eC (.int 3)))) (gN 0) EV.tYes (eJ (jLit "x" (jVal (eV 0) jNil)))))
  (sSeq (sAugL 1 (eComp [none] (iE (e2 pIx (eV 0) (eC (.int 4)))) (gN 0) EV.tYes (eJ (jLit "s" (jVal (eV 0) jNil)))))
  (sRt (eS1 pJoin (eC (.str " ")) (eV 1)))))))
def fK:Fn:=fnD 1 2 b_6
theorem qZ{ws:List W}(h:ws.length≠1):fK ws M=.bad:=aAL h
def b_5:FS :=
 (sSeq (sAs (eV 0) (gT 4 (gsCons (gN 1) (gsCons (gN 2) (gsCons (gN 3) (gsCons (gN 4) gsNil))))))
  (sSeq (sAs (eA mkR (aCons (eJ (jLit "rest " (jVal (eV 1) (jLit " givens " (jVal (eV 2) (jLit " shelves " (jVal (eV 3) jNil))))))) aNil)) (gN 5))
  (sSeq (sAugL 5 (eComp [none] (iE (eV 4)) (gN 0) EV.tYes (eA fK (aCons (eV 0) aNil))))
  (sRt (eS1 pJoin (eC (.str "\n")) (eV 5))))))
def pO:Fn:=fnD 1 6 b_5
theorem aFn{ws:List W}(h:ws.length≠1):pO ws M=.bad:=aAL h
def b_8:FS :=
 (sSeq (sAs (eS1 pSplit (eV 0) (eC (.str " "))) (gN 1))
  (sSeq (sIf (EV.tB (e2 pNe (eTwo (eV 1) (oAt (eC (.int 0))) (oAt (eC (.int 2)))) (eA mkL (aCons (eC (.str "rest")) (aCons (eC (.str "givens")) (aCons (eC (.str "shelves")) aNil))))))
  (sRt (eC .non))
  sNil)
  (sSeq (sAs (eComp [none] (iE (eTwo (eV 1) (oAt (eC (.int 1))) (oAt (eC (.int 2))))) (gN 0) EV.tYes (eA dM (aCons (eV 0) (aCons (eC (.int 7)) aNil)))) (gN 2))
  (sSeq (sIf (EV.tOr (EV.tB (e2 pNe (eA cLen (aCons (eV 2) aNil)) (eC (.int 3)))) (EV.tB (e2 pInN (eC .non) (eV 2))))
  (sRt (eC .non))
  sNil)
  (sSeq (sAs (eV 2) (gOr (gT 3 (gsCons (gN 3) (gsCons (gN 4) (gsCons (gN 5) gsNil)))) (gTL 3 (gsCons (gN 3) (gsCons (gN 4) (gsCons (gN 5) gsNil))))))
  (sSeq (sIf (EV.tOr (EV.tNot (EV.tB (e3c pLe pLe (eC (.int 2)) (eV 3) (eC (.int 1000000))))) (EV.tOr (EV.tB (e2 pGt (eV 4) (eC (.int 8)))) (EV.tNot (EV.tB (e3c pLe pLe (eC (.int 1)) (eV 5) (eC (.int 9)))))))
  (sRt (eC .non))
  sNil)
  (sRt (eA mkT (aCons (eV 3) (aCons (eV 4) (aCons (eV 5) aNil)))))))))))
def fP:Fn:=fnD 1 6 b_8
theorem qL{ws:List W}(h:ws.length≠1):fP ws M=.bad:=aAL h
def b_b:FS :=
 (sSeq (sIf (EV.tNot (tV (eS1 pStarts (eV 1) (eV 0))))
  (sRt (eC .non))
  sNil)
  (sRt (eA dM (aCons (eSlS (eV 1) (oAt (eC (.int 1))) oNo) (aCons (eC (.int 7)) aNil)))))
def bY:Fn:=fnD 2 2 b_b
theorem eP{ws:List W}(h:ws.length≠2):bY ws M=.bad:=aAL h
def b_a:FS :=
 (sSeq (sAs (eC (.int 0)) (gN 3))
  (sSeq (whileD (EV.tAnd (EV.tB (e2 pLt (eV 3) (eA cLen (aCons (eV 2) aNil)))) (tV (eS1 pStarts (e2 pIx (eV 2) (eV 3)) (eC (.str "x")))))
  (sAug (pI (λ_ _=>true) λi j=>.int (i+j)) 3 (eC (.int 1))) NW)
  (sSeq (sAs (eComp [none] (iE (eSlS (eV 2) oNo (oAt (eV 3)))) (gN 0) EV.tYes (eA bY (aCons (eC (.str "x")) (aCons (eV 0) aNil)))) (gN 4))
  (sSeq (sAs (eComp [none] (iE (eSlS (eV 2) (oAt (eV 3)) oNo)) (gN 0) EV.tYes (eA bY (aCons (eC (.str "s")) (aCons (eV 0) aNil)))) (gN 5))
  (sSeq (sIf (EV.tOr (EV.tB (e2 pInN (eC .non) (eV 4))) (EV.tB (e2 pInN (eC .non) (eV 5))))
  (sRt (eC .non))
  sNil)
  (sRt (eA mkT (aCons (eC (.str "add")) (aCons (eV 0) (aCons (eV 1) (aCons (eA cTup (aCons (eV 4) aNil)) (aCons (eA cTup (aCons (eV 5) aNil)) aNil))))))))))))
def gJ:Fn:=fnD 3 6 b_a
theorem tW{ws:List W}(h:ws.length≠3):gJ ws M=.bad:=aAL h
def b_9:FS :=
 (sSeq (sAs (eS1 pSplit (eV 0) (eC (.str " "))) (gN 1))
  (sSeq (sIf (EV.tB (e2 pLt (eA cLen (aCons (eV 1) aNil)) (eC (.int 3))))
  (sRt (eC .non))
  sNil)
  (sSeq (sAs (eA bY (aCons (eC (.str "s")) (aCons (e2 pIx (eV 1) (eC (.int 0))) aNil))) (gN 2))
  (sSeq (sAs (eA dM (aCons (e2 pIx (eV 1) (eC (.int 2))) (aCons (eC (.int 7)) aNil))) (gN 3))
  (sSeq (sIf (EV.tOr (EV.tB (e2 pIs (eV 2) (eC .non))) (EV.tB (e2 pIs (eV 3) (eC .non))))
  (sRt (eC .non))
  sNil)
  (sSeq (sIf (EV.tAnd (EV.tB (e2 pEq (e2 pIx (eV 1) (eC (.int 1))) (eC (.str "*")))) (EV.tB (e2 pEq (eA cLen (aCons (eV 1) aNil)) (eC (.int 3)))))
  (sRt (eA mkT (aCons (eC (.str "scale")) (aCons (eV 2) (aCons (eV 3) aNil)))))
  sNil)
  (sSeq (sIf (EV.tB (e2 pEq (e2 pIx (eV 1) (eC (.int 1))) (eC (.str "+"))))
  (sRt (eA gJ (aCons (eV 2) (aCons (eV 3) (aCons (eSlS (eV 1) (oAt (eC (.int 3))) oNo) aNil)))))
  sNil)
  (sRt (eC .non)))))))))
def fL:Fn:=fnD 1 4 b_9
theorem qP{ws:List W}(h:ws.length≠1):fL ws M=.bad:=aAL h
def b_7:FS :=
 (sSeq (sAs (eS1 pSplit (eV 0) (eC (.str "\n"))) (gN 1))
  (sSeq (sAs (eA (nx fP) (aCons (e2 pIx (eV 1) (eC (.int 0))) aNil)) (gN 2))
  (sSeq (sIf (EV.tB (e2 pIs (eV 2) (eC .non)))
  (sRaise "BadText" "row" (eC (.int 0)))
  sNil)
  (sSeq (sAs (eV 2) (gT 3 (gsCons (gN 3) (gsCons (gN 4) (gsCons (gN 5) gsNil)))))
  (sSeq (sAs (eA mkR aNil) (gN 6))
  (sSeq (sFor (iEnumKL (eSlS (eV 1) (oAt (eC (.int 1))) oNo) (eC (.int 1))) (gT 2 (gsCons (gN 7) (gsCons (gN 8) gsNil)))
  (sSeq (sAs (eA (nx fL) (aCons (eV 8) aNil)) (gN 9))
  (sSeq (sIf (EV.tOr (EV.tB (e2 pIs (eV 9) (eC .non))) (EV.tNot (tV (eA (nx iQ) (aCons (eV 3) (aCons (eV 4) (aCons (eV 5) (aCons (eV 9) aNil))))))))
  (sRaise "BadText" "row" (eV 7))
  sNil)
  (sEx (eM1 pAppend (eV 6) (eV 9))))))
  (sRt (eA mkT (aCons (eV 3) (aCons (eV 4) (aCons (eV 5) (aCons (eA cTup (aCons (eV 6) aNil)) aNil))))))))))))
def pY:Fn:=fnX 1 10 b_7
theorem aDw{ws:List W}(h:ws.length≠1):pY ws M=.bad:=tK h
def b_c:FS :=
 (sSeq (sAs (e2 pAdd (e2 pMulA (eC (.int 7919)) (eV 1)) (eC (.int 11))) (gN 2))
  (sSeq (sIf (EV.tB (e2 pLt (eV 1) (eA cLen (aCons (eV 0) aNil))))
  (sAs (e2 pIx (eV 0) (eV 1)) (gN 2))
  (sIf (EV.tB (e2 pGt (eA cLen (aCons (eV 0) aNil)) (eC (.int 0))))
  (sAs (e2 pAdd (eV 2) (e2 pMulA (e2 pMod (e2 pIx (eV 0) (e2 pMod (eV 1) (eA cLen (aCons (eV 0) aNil)))) (eC (.int 2147483629))) (eC (.int 69623)))) (gN 2))
  sNil))
  (sSeq (sAs (e2 pAdd (e2 pMod (e2 pAdd (e2 pMulA (e2 pMod (eV 2) (eC (.int 2147483629))) (eC (.int 48271))) (e2 pMulA (eC (.int 40692)) (eV 1))) (eC (.int 2147483629))) (eC (.int 1))) (gN 3))
  (sRt (eA mkR (aCons (e2 pIx (eA mkL (aCons (eC (.int 0)) (aCons (eV 2) aNil))) (eA cIntS (aCons (e2 pGe (eV 2) (e2 pPow (eC (.int 10)) (eC (.int 18)))) aNil))) (aCons (eV 3) (aCons (eC (.int 0)) aNil))))))))
def lT:Fn:=fnR 2 4 b_c
theorem rQ{ws:List W}(h:ws.length≠2):lT ws M=.bad:=aAL h
def b_d:FS :=
 (sSeq (sIf (EV.tB (e2 pGt (e2 pIx (eV 0) (eC (.int 0))) (eC (.int 0))))
  (sSeq (sAs (e2 pMod (e2 pIx (eV 0) (eC (.int 0))) (eV 1)) (gN 2))
  (sSeq (sAs (e2 pDiv (e2 pIx (eV 0) (eC (.int 0))) (eV 1)) (gS (eV 0) (eC (.int 0))))
  (sRt (eV 2))))
  sNil)
  (sSeq (sAs (e2 pAdd (e2 pIx (eV 0) (eC (.int 2))) (eC (.int 1))) (gS (eV 0) (eC (.int 2))))
  (sSeq (sAs (e2 pMod (e2 pMulA (e2 pAdd (e2 pIx (eV 0) (eC (.int 1))) (e2 pMulA (eC (.int 104729)) (e2 pIx (eV 0) (eC (.int 2))))) (eC (.int 69623))) (eC (.int 2147483647))) (gN 3))
  (sSeq (sAs (e2 pAdd (e2 pMod (e2 pAdd (e2 pMulA (eV 3) (eC (.int 48271))) (eC (.int 30103))) (eC (.int 2147483629))) (eC (.int 1))) (gS (eV 0) (eC (.int 1))))
  (sRt (e2 pMod (e2 pDiv (e2 pAdd (e2 pMulA (eV 3) (eC (.int 2147483647))) (e2 pIx (eV 0) (eC (.int 1)))) (eC (.int 8191))) (eV 1)))))))
def bA:Fn:=fnD 2 4 b_d
theorem aV{ws:List W}(h:ws.length≠2):bA ws M=.bad:=aAL h
def b_e:FS :=
 (sSeq (sAs (eA bA (aCons (eV 0) (aCons (eC (.int 6)) aNil))) (gN 1))
  (sSeq (sAs (eInts [2,3,4,5,6,7,8,9,12,16,30,36,49,64,91,97,210,1009,65536,999983,999999,1000000]) (gN 2))
  (sSeq (sAs (e2 pIx (eV 2) (eA bA (aCons (eV 0) (aCons (eC (.int 22)) aNil)))) (gN 3))
  (sSeq (sIf (EV.tB (e2 pEq (eV 1) (eC (.int 0))))
  (sRt (e2 pAdd (eC (.int 2)) (eA bA (aCons (eV 0) (aCons (eC (.int 999999)) aNil)))))
  sNil)
  (sSeq (sIf (EV.tB (e2 pLt (eV 1) (eC (.int 3))))
  (sRt (e2 pAdd (eC (.int 2)) (eA bA (aCons (eV 0) (aCons (eC (.int 11)) aNil)))))
  sNil)
  (sRt (eV 3)))))))
def vT:Fn:=fnD 1 4 b_e
theorem aGv{ws:List W}(h:ws.length≠1):vT ws M=.bad:=aAL h
def b_f:FS :=
 (sSeq (sAs (eA bA (aCons (eV 0) (aCons (eC (.int 4)) aNil))) (gN 2))
  (sSeq (sIf (EV.tB (e2 pEq (eV 2) (eC (.int 0))))
  (sRt (e2 pIx (eA mkL (aCons (eC (.int 0)) (aCons (e2 pMod (eC (.int 1)) (eV 1)) (aCons (e2 pSub (eV 1) (eC (.int 1))) (aCons (e2 pMod (e2 pSub (eV 1) (eC (.int 2))) (eV 1)) aNil))))) (eA bA (aCons (eV 0) (aCons (eC (.int 4)) aNil)))))
  sNil)
  (sRt (eA bA (aCons (eV 0) (aCons (eV 1) aNil))))))
def jP:Fn:=fnD 2 3 b_f
theorem zD{ws:List W}(h:ws.length≠2):jP ws M=.bad:=aAL h
def b_10:FS :=
 (sSeq (whileD (EV.tB (e2 pGt (eV 1) (eC (.int 0))))
  (sPar 0 1 (aCons (eV 1) (aCons (e2 pMod (eV 0) (eV 1)) aNil))) NW)
  (sRt (eV 0)))
def fC:Fn:=fnD 2 2 b_10
theorem lK{ws:List W}(h:ws.length≠2):fC ws M=.bad:=aAL h
def b_11:FS :=
 (sSeq (sAs (eA bA (aCons (eV 0) (aCons (eV 1) aNil))) (gN 2))
  (sSeq (whileD (EV.tB (e2 pNe (eA fC (aCons (eV 2) (aCons (eV 1) aNil))) (eC (.int 1))))
  (sAs (e2 pMod (e2 pAdd (eV 2) (eC (.int 1))) (eV 1)) (gN 2)) NW)
  (sRt (eV 2))))
def jV:Fn:=fnD 2 3 b_11
theorem xB{ws:List W}(h:ws.length≠2):jV ws M=.bad:=aAL h
def b_12:FS :=
 (sSeq (sAs (eA bA (aCons (eV 0) (aCons (eV 3) aNil))) (gN 4))
  (sSeq (sAs (eA bA (aCons (eV 0) (aCons (eC (.int 5)) aNil))) (gN 5))
  (sSeq (sIf (EV.tB (e2 pEq (eV 5) (eC (.int 0))))
  (sRt (eA mkT (aCons (eC (.str "scale")) (aCons (eV 4) (aCons (eA jV (aCons (eV 0) (aCons (eV 1) aNil))) aNil)))))
  sNil)
  (sSeq (sAs (e2 pMulA (eA bA (aCons (eV 0) (aCons (e2 pIx (eA mkL (aCons (eC (.int 3)) (aCons (eC (.int 3)) (aCons (eC (.int 5)) aNil)))) (eA bA (aCons (eV 0) (aCons (eC (.int 3)) aNil)))) aNil))) (eA cIntS (aCons (e2 pGt (eV 2) (eC (.int 0))) aNil))) (gN 6))
  (sSeq (sAs (eA cSorted (aCons (eComp [none,some 0,some 2] (iR1 (eV 6)) (gN 0) EV.tYes (eA bA (aCons (eV 1) (aCons (eV 2) aNil)))) aNil)) (gN 7))
  (sSeq (sAs (eComp [none,some 4] (iR1 (eV 3)) (gN 0) (EV.tB (e2 pNe (eV 0) (eV 1))) (eV 0)) (gN 8))
  (sSeq (sAs (eA mkL aNil) (gN 9))
  (sSeq (sIf (EV.tB (e2 pNe (eV 8) (eA mkL aNil)))
  (sAs (eA cSorted (aCons (eComp [none,some 8,some 0] (iR1 (eA bA (aCons (eV 0) (aCons (e2 pIx (eA mkL (aCons (eC (.int 2)) (aCons (eC (.int 3)) (aCons (eC (.int 5)) aNil)))) (eA bA (aCons (eV 0) (aCons (eC (.int 3)) aNil)))) aNil)))) (gN 0) EV.tYes (e2 pIx (eV 1) (eA bA (aCons (eV 2) (aCons (eA cLen (aCons (eV 1) aNil)) aNil))))) aNil)) (gN 9))
  sNil)
  (sRt (eA mkT (aCons (eC (.str "add")) (aCons (eV 4) (aCons (eA jP (aCons (eV 0) (aCons (eV 1) aNil))) (aCons (eA cTup (aCons (eV 7) aNil)) (aCons (eA cTup (aCons (eV 9) aNil)) aNil)))))))))))))))
def jO:Fn:=fnD 4 10 b_12
theorem xL{ws:List W}(h:ws.length≠4):jO ws M=.bad:=aAL h
def b_13:FS :=
 (sSeq (sAs (eA bA (aCons (eV 0) (aCons (eC (.int 3)) aNil))) (gN 1))
  (sSeq (sAs (eA vT (aCons (eV 0) aNil)) (gN 2))
  (sRt (eA mkT (aCons (eV 2) (aCons (eA bA (aCons (eV 0) (aCons (e2 pIx (eA mkL (aCons (eC (.int 4)) (aCons (eC (.int 4)) (aCons (eC (.int 9)) aNil)))) (eV 1)) aNil))) (aCons (e2 pAdd (eC (.int 1)) (eA bA (aCons (eV 0) (aCons (e2 pIx (eA mkL (aCons (eC (.int 4)) (aCons (eC (.int 4)) (aCons (eC (.int 9)) aNil)))) (eV 1)) aNil)))) aNil)))))))
def iH:Fn:=fnD 1 3 b_13
theorem vR{ws:List W}(h:ws.length≠1):iH ws M=.bad:=aAL h
def b_14:FS :=
 (sSeq (sAs (eA mkR aNil) (gN 5))
  (sSeq (sFor (iR1 (eA bA (aCons (eV 0) (aCons (e2 pAdd (eV 4) (eC (.int 1))) aNil)))) (gN 6)
  (sSeq (sAs (eA bA (aCons (eV 0) (aCons (eC (.int 4)) aNil))) (gN 7))
  (sSeq (sAs (eA jO (aCons (eV 0) (aCons (eV 1) (aCons (eV 2) (aCons (eV 3) aNil))))) (gN 8))
  (sSeq (sIf (EV.tAnd (EV.tB (e2 pEq (eV 7) (eC (.int 0)))) (EV.tB (e2 pNe (eV 5) (eA mkL aNil))))
  (sAs (e2 pIx (eV 5) (eA bA (aCons (eV 0) (aCons (eA cLen (aCons (eV 5) aNil)) aNil)))) (gN 8))
  sNil)
  (sEx (eM1 pAppend (eV 5) (eV 8)))))))
  (sRt (eA mkT (aCons (eV 1) (aCons (eV 2) (aCons (eV 3) (aCons (eA cTup (aCons (eV 5) aNil)) aNil))))))))
def dI:Fn:=fnD 5 9 b_14
theorem nD{ws:List W}(h:ws.length≠5):dI ws M=.bad:=aAL h
def b_15:FS :=
 (sSeq (sIf (EV.tOr (EV.tNot (EV.tB (e3c pLe pLt (eC (.int 0)) (e2 pIx (eV 3) (eC (.int 1))) (eV 2)))) (EV.tNot (EV.tB (e3c pLe pLt (eC (.int 0)) (e2 pIx (eV 3) (eC (.int 2))) (eV 0)))))
  (sRt (eC (.bl true)))
  sNil)
  (sSeq (sIf (EV.tB (e2 pEq (e2 pIx (eV 3) (eC (.int 0))) (eC (.str "scale"))))
  (sRt (e2 pNe (eA fC (aCons (e2 pIx (eV 3) (eC (.int 2))) (aCons (eV 0) aNil))) (eC (.int 1))))
  sNil)
  (sSeq (sFor (iE (eA mkL (aCons (eA mkT (aCons (e2 pIx (eV 3) (eC (.int 3))) (aCons (eV 1) aNil))) (aCons (eA mkT (aCons (e2 pIx (eV 3) (eC (.int 4))) (aCons (eV 2) aNil))) aNil)))) (gT 2 (gsCons (gN 4) (gsCons (gN 5) gsNil)))
  (sSeq (sIf (EV.tOr (EV.tB (e2 pGt (eA cLen (aCons (eV 4) aNil)) (eC (.int 4)))) (EV.tB (e2 pNe (eA cList (aCons (eV 4) aNil)) (eA cSortT (aCons (eV 4) aNil)))))
  (sRt (eC (.bl true)))
  sNil)
  (sIf (EV.tB (e2 pGt (eA cLen (aCons (eComp [none,some 5] (iE (eV 4)) (gN 0) (EV.tOr (EV.tB (e2 pLt (eV 0) (eC (.int 0)))) (EV.tB (e2 pGe (eV 0) (eV 1)))) (eV 0)) aNil)) (eC (.int 0))))
  (sRt (eC (.bl true)))
  sNil)))
  (sRt (e2 pIn (e2 pIx (eV 3) (eC (.int 1))) (e2 pIx (eV 3) (eC (.int 4))))))))
def eY:Fn:=fnD 4 6 b_15
theorem oW{ws:List W}(h:ws.length≠4):eY ws M=.bad:=aAL h
def b_16:FS :=
 (sSeq (sIf (EV.tOr (EV.tB (e2 pEq (eV 0) (eC (.str "")))) (EV.tOr (EV.tB (e2 pGt (eA cLen (aCons (eV 0) aNil)) (eC (.int 7)))) (EV.tB (e2 pGt (eA cLen (aCons (eComp [none] (iStr (eV 0)) (gN 0) (EV.tB (e2 pNinS (eV 0) (eC (.str "0123456789")))) (eV 0)) aNil)) (eC (.int 0))))))
  (sRt (eC .non))
  sNil)
  (sSeq (sIf (EV.tAnd (EV.tB (e2 pGt (eA cLen (aCons (eV 0) aNil)) (eC (.int 1)))) (EV.tB (e2 pEq (e2 pIx (eV 0) (eC (.int 0))) (eC (.str "0")))))
  (sRt (eC .non))
  sNil)
  (sRt (eA cIntS (aCons (eV 0) aNil)))))
def cB:Fn:=fnD 1 1 b_16
theorem dS{ws:List W}(h:ws.length≠1):cB ws M=.bad:=aAL h
def b_17:FS :=
 (sSeq (sAs (eS1 pSplit (eV 0) (eC (.str " "))) (gN 1))
  (sSeq (sIf (EV.tOr (EV.tB (e2 pNe (eA cLen (aCons (eV 1) aNil)) (eC (.int 6)))) (EV.tB (e2 pNe (e2 pAdd (e2 pAdd (e2 pIx (eV 1) (eC (.int 0))) (e2 pIx (eV 1) (eC (.int 2)))) (e2 pIx (eV 1) (eC (.int 4)))) (eC (.str "restgivensshelves")))))
  (sRt (eC .non))
  sNil)
  (sSeq (sIf (EV.tOr (EV.tB (e2 pNe (e2 pIx (eV 1) (eC (.int 0))) (eC (.str "rest")))) (EV.tB (e2 pNe (e2 pIx (eV 1) (eC (.int 2))) (eC (.str "givens")))))
  (sRt (eC .non))
  sNil)
  (sSeq (sAs (eComp [none] (iE (eA mkT (aCons (e2 pIx (eV 1) (eC (.int 1))) (aCons (e2 pIx (eV 1) (eC (.int 3))) (aCons (e2 pIx (eV 1) (eC (.int 5))) aNil))))) (gN 0) EV.tYes (eA cB (aCons (eV 0) aNil))) (gTL 3 (gsCons (gN 2) (gsCons (gN 3) (gsCons (gN 4) gsNil)))))
  (sSeq (sIf (EV.tOr (EV.tB (e2 pInN (eC .non) (eA mkT (aCons (eV 2) (aCons (eV 3) (aCons (eV 4) aNil)))))) (EV.tOr (EV.tNot (EV.tB (e3c pLe pLe (eC (.int 2)) (eV 2) (eC (.int 1000000))))) (EV.tOr (EV.tB (e2 pGt (eV 3) (eC (.int 8)))) (EV.tNot (EV.tB (e3c pLe pLe (eC (.int 1)) (eV 4) (eC (.int 9))))))))
  (sRt (eC .non))
  sNil)
  (sRt (eA mkT (aCons (eV 2) (aCons (eV 3) (aCons (eV 4) aNil))))))))))
def fN:Fn:=fnD 1 5 b_17
theorem rC{ws:List W}(h:ws.length≠1):fN ws M=.bad:=aAL h
def b_18:FS :=
 (sSeq (sAs (eS1 pSplit (eV 0) (eC (.str " "))) (gN 1))
  (sSeq (sAs (eComp [none] (iE (e2 pAdd (eSlS (eV 1) oNo (oAt (eC (.int 1)))) (eSlS (eV 1) (oAt (eC (.int 3))) oNo))) (gN 0) EV.tYes (eA cB (aCons (eSlS (eV 0) (oAt (eC (.int 1))) oNo) aNil))) (gN 2))
  (sSeq (sIf (EV.tOr (EV.tB (e2 pLt (eA cLen (aCons (eV 1) aNil)) (eC (.int 3)))) (EV.tOr (EV.tB (e2 pNe (eSlS (e2 pIx (eV 1) (eC (.int 0))) oNo (oAt (eC (.int 1)))) (eC (.str "s")))) (EV.tOr (EV.tB (e2 pInN (eC .non) (eV 2))) (EV.tB (e2 pIs (eA cB (aCons (e2 pIx (eV 1) (eC (.int 2))) aNil)) (eC .non))))))
  (sRt (eC .non))
  sNil)
  (sSeq (sIf (EV.tAnd (EV.tB (e2 pEq (e2 pIx (eV 1) (eC (.int 1))) (eC (.str "*")))) (EV.tB (e2 pEq (eA cLen (aCons (eV 1) aNil)) (eC (.int 3)))))
  (sRt (eA mkT (aCons (eC (.str "scale")) (aCons (e2 pIx (eV 2) (eC (.int 0))) (aCons (eA cB (aCons (e2 pIx (eV 1) (eC (.int 2))) aNil)) aNil)))))
  sNil)
  (sSeq (sAs (eComp [none] (iE (eSlS (eV 1) (oAt (eC (.int 3))) oNo)) (gN 0) EV.tYes (eSlS (eV 0) oNo (oAt (eC (.int 1))))) (gN 3))
  (sSeq (sAs (eL1 pCount (eV 3) (eC (.str "x"))) (gN 4))
  (sSeq (sIf (EV.tOr (EV.tB (e2 pNe (e2 pIx (eV 1) (eC (.int 1))) (eC (.str "+")))) (EV.tB (e2 pNe (eV 3) (e2 pAdd (e2 pMulA (eA mkL (aCons (eC (.str "x")) aNil)) (eV 4)) (e2 pMulA (eA mkL (aCons (eC (.str "s")) aNil)) (e2 pSub (eA cLen (aCons (eV 3) aNil)) (eV 4)))))))
  (sRt (eC .non))
  sNil)
  (sRt (eA mkT (aCons (eC (.str "add")) (aCons (e2 pIx (eV 2) (eC (.int 0))) (aCons (eA cB (aCons (e2 pIx (eV 1) (eC (.int 2))) aNil)) (aCons (eA cTup (aCons (eSlS (eV 2) (oAt (eC (.int 1))) (oAt (e2 pAdd (eC (.int 1)) (eV 4)))) aNil)) (aCons (eA cTup (aCons (eSlS (eV 2) (oAt (e2 pAdd (eC (.int 1)) (eV 4))) oNo) aNil)) aNil))))))))))))))
def fO:Fn:=fnD 1 5 b_18
theorem qW{ws:List W}(h:ws.length≠1):fO ws M=.bad:=aAL h
def b_19:FS :=
 (sSeq (sAs (eS1 pSplit (eV 0) (eC (.str "\n"))) (gN 1))
  (sSeq (sAs (eA fN (aCons (e2 pIx (eV 1) (eC (.int 0))) aNil)) (gN 2))
  (sSeq (sIf (EV.tB (e2 pIs (eV 2) (eC .non)))
  (sRt (eA mkT (aCons (eC (.str "refused")) (aCons (eC (.int 0)) aNil))))
  sNil)
  (sSeq (sAs (eA mkR aNil) (gN 3))
  (sSeq (sFor (iR2 (eC (.int 1)) (eA cLen (aCons (eV 1) aNil))) (gN 4)
  (sSeq (sAs (eA fO (aCons (e2 pIx (eV 1) (eV 4)) aNil)) (gN 5))
  (sSeq (sIf (EV.tOr (EV.tB (e2 pIs (eV 5) (eC .non))) (tV (eA eY (aCons (e2 pIx (eV 2) (eC (.int 0))) (aCons (e2 pIx (eV 2) (eC (.int 1))) (aCons (e2 pIx (eV 2) (eC (.int 2))) (aCons (eV 5) aNil)))))))
  (sRt (eA mkT (aCons (eC (.str "refused")) (aCons (eV 4) aNil))))
  sNil)
  (sEx (eM1 pAppend (eV 3) (eV 5))))))
  (sRt (eA mkT (aCons (eC (.str "told")) (aCons (e2 pAdd (eV 2) (eA mkT (aCons (eA cTup (aCons (eV 3) aNil)) aNil))) aNil)))))))))
def eR:Fn:=fnD 1 6 b_19
theorem oX{ws:List W}(h:ws.length≠1):eR ws M=.bad:=aAL h
def b_1a:FS :=
 (sSeq (sAs (eC .non) (gN 1))
  (sSeq (sTryAs 2 "LentError" (sAs (eA mkT (aCons (noX (eC (.str "told"))) (aCons (eA pY (aDef (noX (aCons (eV 0) aNil)) [])) aNil))) (gN 1))
  (sSeq (sAs (eA mkT (aCons (eC (.str "other")) (aCons (eC (.int 0)) aNil))) (gN 1))
  (sSeq (sAs (e1 (pIsX ["NoDeed","NoInverse","NoMove","NoPaper","NoRest","NoRoot","NoRow","TooMany"]) (eV 2)) (gN 3))
  (sIf (EV.tAnd (tV (e1 (pIsX ["BadText"]) (eV 2))) (EV.tAnd (tV (e1 (pIsX ["ValueError"]) (eV 2))) (EV.tNot (tV (eV 3)))))
  (sAs (eA mkT (aCons (eC (.str "refused")) (aCons (e1 (pFld "row") (eV 2)) aNil))) (gN 1))
  sNil))))
  (sRt (eV 1))))
def dX:Fn:=fnX 1 4 b_1a
theorem nY{ws:List W}(h:ws.length≠1):dX ws M=.bad:=tK h
def b_1b:FS :=
 (sSeq (sAs (eV 0) (gT 4 (gsCons (gN 1) (gsCons (gN 2) (gsCons (gN 3) (gsCons (gN 4) gsNil))))))
  (sSeq (sAs (eA mkR (aCons (e2 pAdd (e2 pAdd (e2 pAdd (e2 pAdd (e2 pAdd (eC (.str "rest ")) (eA cStr (aCons (eV 1) aNil))) (eC (.str " givens "))) (eA cStr (aCons (eV 2) aNil))) (eC (.str " shelves "))) (eA cStr (aCons (eV 3) aNil))) aNil)) (gN 5))
  (sSeq (sFor (iE (eV 4)) (gN 6)
  (sIf (EV.tB (e2 pEq (e2 pIx (eV 6) (eC (.int 0))) (eC (.str "scale"))))
  (sEx (eM1 pAppend (eV 5) (e2 pAdd (e2 pAdd (e2 pAdd (eC (.str "s")) (eA cStr (aCons (e2 pIx (eV 6) (eC (.int 1))) aNil))) (eC (.str " * "))) (eA cStr (aCons (e2 pIx (eV 6) (eC (.int 2))) aNil)))))
  (sSeq (sAs (e2 pAdd (eComp [none] (iE (e2 pIx (eV 6) (eC (.int 3)))) (gN 0) EV.tYes (e2 pAdd (eC (.str "x")) (eA cStr (aCons (eV 0) aNil)))) (eComp [none] (iE (e2 pIx (eV 6) (eC (.int 4)))) (gN 0) EV.tYes (e2 pAdd (eC (.str "s")) (eA cStr (aCons (eV 0) aNil))))) (gN 7))
  (sEx (eM1 pAppend (eV 5) (eS1 pJoin (eC (.str " ")) (e2 pAdd (eA mkL (aCons (e2 pAdd (eC (.str "s")) (eA cStr (aCons (e2 pIx (eV 6) (eC (.int 1))) aNil))) (aCons (eC (.str "+")) (aCons (eA cStr (aCons (e2 pIx (eV 6) (eC (.int 2))) aNil)) aNil)))) (eV 7))))))))
  (sRt (eS1 pJoin (eC (.str "\n")) (eV 5))))))
def iG:Fn:=fnD 1 8 b_1b
theorem vM{ws:List W}(h:ws.length≠1):iG ws M=.bad:=aAL h
def b_1c:FS :=
 (sSeq (sAs (eA mkR (aCons (eA mkT (aCons (eV 0) (aCons (eV 1) aNil))) aNil)) (gN 2))
  (sSeq (whileD (EV.tB (e2 pGt (eA cLen (aCons (eV 2) aNil)) (eC (.int 0))))
  (sSeq (sAs (e1 pPop (eV 2)) (gT 2 (gsCons (gN 3) (gsCons (gN 4) gsNil))))
  (sIf (tV (e1 (pIsI "tuple") (eV 4)))
  (sSeq (sIf (EV.tOr (EV.tNot (tV (e1 (pIsI "tuple") (eV 3)))) (EV.tB (e2 pNe (eA cLen (aCons (eV 3) aNil)) (eA cLen (aCons (eV 4) aNil)))))
  (sRt (eC (.bl false)))
  sNil)
  (sEx (eM1 pExtendA (eV 2) (e2 pZip (eV 3) (eV 4)))))
  (sIf (EV.tOr (EV.tB (e2 pNe (e1 (pIsI "bool") (eV 3)) (e1 (pIsI "bool") (eV 4)))) (EV.tB (e2 pNe (e1 (pIsI "int") (eV 3)) (e1 (pIsI "int") (eV 4)))))
  (sRt (eC (.bl false)))
  (sIf (EV.tOr (tV (e1 (pIsI "tuple") (eV 3))) (EV.tB (e2 pNe (eV 3) (eV 4))))
  (sRt (eC (.bl false)))
  sNil)))) NW)
  (sRt (eC (.bl true)))))
def kI:Fn:=fnD 2 5 b_1c
theorem wV{ws:List W}(h:ws.length≠2):kI ws M=.bad:=aAL h
def b_1d:FS :=
 (sSeq (sAs (eC (.str " !\"#$&'()*+,-./0123456789:;<=>?@\x5b\\]^_`{|}~abcdefghijklmnopqrstuvwxyz\n")) (gN 1))
  (sRt (e2 pIx (e2 pAdd (eV 1) (eC (.str "ABCDEFGHIJKLMNOPQRSTUVWXYZ0123456789sx +*"))) (eA bA (aCons (eV 0) (aCons (eC (.int 110)) aNil))))))
def kB:Fn:=fnD 1 2 b_1d
theorem xT{ws:List W}(h:ws.length≠1):kB ws M=.bad:=aAL h
def b_1e:FS :=
 (sSeq (sPar 1 2 (aCons (eA dX (aCons (eV 0) aNil)) (aCons (eA (nx eR) (aCons (eV 0) aNil)) aNil)))
  (sSeq (sIf (EV.tOr (EV.tB (e2 pNe (e2 pIx (eV 1) (eC (.int 0))) (e2 pIx (eV 2) (eC (.int 0))))) (EV.tNot (tV (eA (nx kI) (aCons (e2 pIx (eV 1) (eC (.int 1))) (aCons (e2 pIx (eV 2) (eC (.int 1))) aNil))))))
  (sRt (eC (.bl false)))
  sNil)
  (sRt (eOr (e2 pEq (e2 pIx (eV 2) (eC (.int 0))) (eC (.str "refused"))) (e2 pEq (eA (nx pO) (aCons (e2 pIx (eV 1) (eC (.int 1))) aNil)) (eV 0))))))
def iJ:Fn:=fnX 1 3 b_1e
theorem wT{ws:List W}(h:ws.length≠1):iJ ws M=.bad:=tK h
def b_1f:FS :=
 (sSeq (sAs (eA (nx lT) (aCons (eV 0) (aCons (eC (.int 0)) aNil))) (gN 1))
  (sSeq (sAs (eA (nx iH) (aCons (eV 1) aNil)) (gT 3 (gsCons (gN 2) (gsCons (gN 3) (gsCons (gN 4) gsNil)))))
  (sSeq (sAs (eA (nx iG) (aCons (eA (nx dI) (aCons (eV 1) (aCons (eV 2) (aCons (eV 3) (aCons (eV 4) (aCons (eC (.int 2)) aNil)))))) aNil)) (gN 5))
  (sSeq (sAs (eA (nx lT) (aCons (eV 0) (aCons (eC (.int 1)) aNil))) (gN 1))
  (sSeq (sAs (eA mkR (aCons (eV 5) aNil)) (gN 6))
  (sSeq (sFor (iR1 (eA cLen (aCons (eV 5) aNil))) (gN 7)
  (sSeq (sAs (eA (nx bA) (aCons (eV 1) (aCons (eC (.int 3)) aNil))) (gN 8))
  (sEx (eM1 pAppend (eV 6) (e2 pAdd (e2 pAdd (eSlS (eV 5) oNo (oAt (eV 7))) (e2 pIx (eA mkL (aCons (eC (.str "")) (aCons (e2 pRepT (e2 pIx (eV 5) (eV 7)) (eC (.int 2))) (aCons (eA (nx kB) (aCons (eV 1) aNil)) aNil)))) (eV 8))) (eSlS (eV 5) (oAt (e2 pAdd (eV 7) (eC (.int 1)))) oNo))))))
  (sRt (eA cAllB (aCons (eComp [none] (iE (e2 pAdd (eV 6) (eSlS (eV 6) oNo (oAt (eC (.int 1)))))) (gN 0) EV.tYes (eA iJ (aCons (eV 0) aNil))) aNil)))))))))
def pB:Fn:=fnX 1 9 b_1f
end
set_option genInjectivity false in
set_option genSizeOf false in
structure Adr where
 a_0:Addr
 d_0:FuncData
 a_1:Addr
 d_1:FuncData
 a_2:Addr
 d_2:FuncData
 a_3:Addr
 d_3:FuncData
 a_4:Addr
 d_4:FuncData
 a_5:Addr
 d_5:FuncData
 a_6:Addr
 d_6:FuncData
 a_7:Addr
 d_7:FuncData
 a_8:Addr
 d_8:FuncData
 a_9:Addr
 d_9:FuncData
 a_a:Addr
 d_a:FuncData
 a_b:Addr
 d_b:FuncData
 a_c:Addr
 d_c:FuncData
 a_d:Addr
 d_d:FuncData
 a_e:Addr
 d_e:FuncData
 a_f:Addr
 d_f:FuncData
 a_10:Addr
 d_10:FuncData
 a_11:Addr
 d_11:FuncData
 a_12:Addr
 d_12:FuncData
 a_13:Addr
 d_13:FuncData
 a_14:Addr
 d_14:FuncData
 a_15:Addr
 d_15:FuncData
 a_16:Addr
 d_16:FuncData
 a_17:Addr
 d_17:FuncData
 a_18:Addr
 d_18:FuncData
 a_19:Addr
 d_19:FuncData
 a_1a:Addr
 d_1a:FuncData
 a_1b:Addr
 d_1b:FuncData
 a_1c:Addr
 d_1c:FuncData
 a_1d:Addr
 d_1d:FuncData
 a_1e:Addr
 d_1e:FuncData
 a_1f:Addr
 d_1f:FuncData
 e_LentError:Addr
 e_BadText:Addr
 j_BadText:Addr
 g_BadText:FuncData
 e_NoDeed:Addr
 e_NoInverse:Addr
 e_NoMove:Addr
 e_NoPaper:Addr
 e_NoRest:Addr
 e_NoRoot:Addr
 e_NoRow:Addr
 e_TooMany:Addr
 t_FIGURES:Tok
 t_GREATEST_N:Tok
 t_MOST_FACTORS:Tok
 t_MOST_FIGURES:Tok
 t_MOST_GIVENS:Tok
 t_MOST_SHELVES:Tok
structure Tx(K:Frag)(mg:Str->Option Value)(a:Adr):Prop where
 f_0:Fun K "figures_end" "figures_end" bK a.a_0 a.d_0
 b_0:Binds K a.d_0 aHT []
 k_0:keepIn K (.ref a.a_0)=true
 m_0:mg "figures_end"=some (.ref a.a_0)
 f_1:Fun K "number_of" "number_of" cD a.a_1 a.d_1
 b_1:Binds K a.d_1 aHU []
 k_1:keepIn K (.ref a.a_1)=true
 m_1:mg "number_of"=some (.ref a.a_1)
 f_2:Fun K "inverse" "inverse" dB a.a_2 a.d_2
 b_2:Binds K a.d_2 ["n","k"] []
 k_2:keepIn K (.ref a.a_2)=true
 m_2:mg "inverse"=some (.ref a.a_2)
 f_3:Fun K "is_deed" "is_deed" cZ a.a_3 a.d_3
 b_3:Binds K a.d_3 aHV []
 k_3:keepIn K (.ref a.a_3)=true
 m_3:mg "is_deed"=some (.ref a.a_3)
 f_4:Fun K "are_factors" "are_factors" bL a.a_4 a.d_4
 b_4:Binds K a.d_4 aHW []
 k_4:keepIn K (.ref a.a_4)=true
 m_4:mg "are_factors"=some (.ref a.a_4)
 f_5:Fun K "show" "show" gK a.a_5 a.d_5
 b_5:Binds K a.d_5 ["program"] []
 k_5:keepIn K (.ref a.a_5)=true
 m_5:mg "show"=some (.ref a.a_5)
 f_6:Fun K "show_deed" "show_deed" bP a.a_6 a.d_6
 b_6:Binds K a.d_6 ["deed"] []
 k_6:keepIn K (.ref a.a_6)=true
 m_6:mg "show_deed"=some (.ref a.a_6)
 f_7:Fun K "read" "read" gZ a.a_7 a.d_7
 b_7:Binds K a.d_7 ["text"] []
 k_7:keepIn K (.ref a.a_7)=true
 m_7:mg "read"=some (.ref a.a_7)
 f_8:Fun K "read_head" "read_head" bW a.a_8 a.d_8
 b_8:Binds K a.d_8 ["row"] []
 k_8:keepIn K (.ref a.a_8)=true
 m_8:mg "read_head"=some (.ref a.a_8)
 f_9:Fun K "read_deed" "read_deed" cC a.a_9 a.d_9
 b_9:Binds K a.d_9 ["row"] []
 k_9:keepIn K (.ref a.a_9)=true
 m_9:mg "read_deed"=some (.ref a.a_9)
 f_a:Fun K "read_add" "read_add" bX a.a_a a.d_a
 b_a:Binds K a.d_a aHX []
 k_a:keepIn K (.ref a.a_a)=true
 m_a:mg "read_add"=some (.ref a.a_a)
 f_b:Fun K "number_behind" "number_behind" bF a.a_b a.d_b
 b_b:Binds K a.d_b aHY []
 k_b:keepIn K (.ref a.a_b)=true
 m_b:mg "number_behind"=some (.ref a.a_b)
 f_c:Fun K "_law_box" "_law_box" fF a.a_c a.d_c
 b_c:Binds K a.d_c aHZ []
 k_c:keepIn K (.ref a.a_c)=true
 m_c:mg "_law_box"=some (.ref a.a_c)
 f_d:Fun K "_law_take" "_law_take" dP a.a_d a.d_d
 b_d:Binds K a.d_d aIA []
 k_d:keepIn K (.ref a.a_d)=true
 m_d:mg "_law_take"=some (.ref a.a_d)
 f_e:Fun K "_law_n" "_law_n" kR a.a_e a.d_e
 b_e:Binds K a.d_e aIB []
 k_e:keepIn K (.ref a.a_e)=true
 m_e:mg "_law_n"=some (.ref a.a_e)
 f_f:Fun K "_law_rest" "_law_rest" dO a.a_f a.d_f
 b_f:Binds K a.d_f aIC []
 k_f:keepIn K (.ref a.a_f)=true
 m_f:mg "_law_rest"=some (.ref a.a_f)
 f_10:Fun K "_law_shared" "_law_shared" cO a.a_10 a.d_10
 b_10:Binds K a.d_10 aID []
 k_10:keepIn K (.ref a.a_10)=true
 m_10:mg "_law_shared"=some (.ref a.a_10)
 f_11:Fun K "_law_unit" "_law_unit" dW a.a_11 a.d_11
 b_11:Binds K a.d_11 aIC []
 k_11:keepIn K (.ref a.a_11)=true
 m_11:mg "_law_unit"=some (.ref a.a_11)
 f_12:Fun K "_law_deed" "_law_deed" cS a.a_12 a.d_12
 b_12:Binds K a.d_12 aIE []
 k_12:keepIn K (.ref a.a_12)=true
 m_12:mg "_law_deed"=some (.ref a.a_12)
 f_13:Fun K "_law_sizes" "_law_sizes" cY a.a_13 a.d_13
 b_13:Binds K a.d_13 aIB []
 k_13:keepIn K (.ref a.a_13)=true
 m_13:mg "_law_sizes"=some (.ref a.a_13)
 f_14:Fun K "_law_program_by" "_law_program_by" bH a.a_14 a.d_14
 b_14:Binds K a.d_14 aIF []
 k_14:keepIn K (.ref a.a_14)=true
 m_14:mg "_law_program_by"=some (.ref a.a_14)
 f_15:Fun K "_law_bad_deed" "_law_bad_deed" bN a.a_15 a.d_15
 b_15:Binds K a.d_15 aIG []
 k_15:keepIn K (.ref a.a_15)=true
 m_15:mg "_law_bad_deed"=some (.ref a.a_15)
 f_16:Fun K "_law_figures" "_law_figures" bU a.a_16 a.d_16
 b_16:Binds K a.d_16 aIH []
 k_16:keepIn K (.ref a.a_16)=true
 m_16:mg "_law_figures"=some (.ref a.a_16)
 f_17:Fun K "_law_head_of" "_law_head_of" bV a.a_17 a.d_17
 b_17:Binds K a.d_17 aII []
 k_17:keepIn K (.ref a.a_17)=true
 m_17:mg "_law_head_of"=some (.ref a.a_17)
 f_18:Fun K "_law_deed_of" "_law_deed_of" bR a.a_18 a.d_18
 b_18:Binds K a.d_18 aII []
 k_18:keepIn K (.ref a.a_18)=true
 m_18:mg "_law_deed_of"=some (.ref a.a_18)
 f_19:Fun K "_law_read_due" "_law_read_due" bT a.a_19 a.d_19
 b_19:Binds K a.d_19 aIJ []
 k_19:keepIn K (.ref a.a_19)=true
 m_19:mg "_law_read_due"=some (.ref a.a_19)
 f_1a:Fun K "_law_read_told" "_law_read_told" bM a.a_1a a.d_1a
 b_1a:Binds K a.d_1a aIJ []
 k_1a:keepIn K (.ref a.a_1a)=true
 m_1a:mg "_law_read_told"=some (.ref a.a_1a)
 f_1b:Fun K "_law_shown" "_law_shown" cH a.a_1b a.d_1b
 b_1b:Binds K a.d_1b aIK []
 k_1b:keepIn K (.ref a.a_1b)=true
 m_1b:mg "_law_shown"=some (.ref a.a_1b)
 f_1c:Fun K "_law_alike" "_law_alike" dC a.a_1c a.d_1c
 b_1c:Binds K a.d_1c aIL []
 k_1c:keepIn K (.ref a.a_1c)=true
 m_1c:mg "_law_alike"=some (.ref a.a_1c)
 f_1d:Fun K "_law_sign" "_law_sign" dU a.a_1d a.d_1d
 b_1d:Binds K a.d_1d aIB []
 k_1d:keepIn K (.ref a.a_1d)=true
 m_1d:mg "_law_sign"=some (.ref a.a_1d)
 f_1e:Fun K "_law_right" "_law_right" dA a.a_1e a.d_1e
 b_1e:Binds K a.d_1e aIJ []
 k_1e:keepIn K (.ref a.a_1e)=true
 m_1e:mg "_law_right"=some (.ref a.a_1e)
 f_1f:Fun K "law" "law" jN a.a_1f a.d_1f
 b_1f:Binds K a.d_1f aIM []
 k_1f:keepIn K (.ref a.a_1f)=true
 m_1f:mg "law"=some (.ref a.a_1f)
 nm_LentError:nsIn K mainGlobals "LentError"=some (some (.ref a.e_LentError))
 m_LentError:mg "LentError"=some (.ref a.e_LentError)
 le:LeF K a.e_LentError
 xc_BadText:Xc K "BadText" a.e_BadText a.e_LentError
 m_BadText:mg "BadText"=some (.ref a.e_BadText)
 fi_BadText:Fun K "__init__" "BadText.__init__" cV a.j_BadText a.g_BadText
 bi_BadText:Binds K a.g_BadText aIN []
 ti_BadText:PySem.W.typeIn K (.ref a.j_BadText)=some (.type "function")
 nf_BadText:PySem.W.findIn K (.ref a.e_BadText) "row"=some none
 sa_BadText:PySem.W.findIn K (.ref a.e_BadText) "__setattr__"=some (some (.builtin "object.__setattr__"))
 xb_BadText:xcB K a.e_BadText (.ref a.e_LentError::vb) (some (.ref a.j_BadText))=true
 kc_BadText:keepIn K (.ref a.e_BadText)=true
 xc_NoDeed:Xc K "NoDeed" a.e_NoDeed a.e_LentError
 m_NoDeed:mg "NoDeed"=some (.ref a.e_NoDeed)
 xc_NoInverse:Xc K "NoInverse" a.e_NoInverse a.e_LentError
 m_NoInverse:mg "NoInverse"=some (.ref a.e_NoInverse)
 xc_NoMove:Xc K "NoMove" a.e_NoMove a.e_LentError
 m_NoMove:mg "NoMove"=some (.ref a.e_NoMove)
 xc_NoPaper:Xc K "NoPaper" a.e_NoPaper a.e_LentError
 m_NoPaper:mg "NoPaper"=some (.ref a.e_NoPaper)
 xc_NoRest:Xc K "NoRest" a.e_NoRest a.e_LentError
 m_NoRest:mg "NoRest"=some (.ref a.e_NoRest)
 xc_NoRoot:Xc K "NoRoot" a.e_NoRoot a.e_LentError
 m_NoRoot:mg "NoRoot"=some (.ref a.e_NoRoot)
 xc_NoRow:Xc K "NoRow" a.e_NoRow a.e_LentError
 m_NoRow:mg "NoRow"=some (.ref a.e_NoRow)
 xc_TooMany:Xc K "TooMany" a.e_TooMany a.e_LentError
 m_TooMany:mg "TooMany"=some (.ref a.e_TooMany)
 v_FIGURES:mg "FIGURES"=some (.str "0123456789" a.t_FIGURES)
 v_GREATEST_N:mg "GREATEST_N"=some (.int 1000000 a.t_GREATEST_N)
 v_MOST_FACTORS:mg "MOST_FACTORS"=some (.int 4 a.t_MOST_FACTORS)
 v_MOST_FIGURES:mg "MOST_FIGURES"=some (.int 7 a.t_MOST_FIGURES)
 v_MOST_GIVENS:mg "MOST_GIVENS"=some (.int 8 a.t_MOST_GIVENS)
 v_MOST_SHELVES:mg "MOST_SHELVES"=some (.int 9 a.t_MOST_SHELVES)
 z_ValueError:mg "ValueError"=none
 z_all:mg "all"=none
 z_bool:mg "bool"=none
 z_enumerate:mg "enumerate"=none
 z_int:mg "int"=none
 z_isinstance:mg "isinstance"=none
 z_len:mg "len"=none
 z_list:mg "list"=none
 z_range:mg "range"=none
 z_sorted:mg "sorted"=none
 z_str:mg "str"=none
 z_tuple:mg "tuple"=none
 z_zip:mg "zip"=none
theorem vL:FnScope aIN aIN (defScope cV):=by constructor<;>first|rfl|decide +kernel
theorem gM:FnScope ["text","at","end"] aHT (defScope bK):=by constructor<;>first|rfl|decide +kernel
theorem uA:FnScope aHU aHU (defScope cD):=by constructor<;>first|rfl|decide +kernel
theorem eD:FnScope ["n","k","high","low","past","now","times"] ["n","k"] (defScope dB):=by constructor<;>first|rfl|decide +kernel
theorem lC:FnScope ["n","givens","shelves","deed","shelf","number","gs","ts"] aHV (defScope cZ):=by constructor<;>first|rfl|decide +kernel
theorem eM:FnScope ["numbers","many","least","number"] aHW (defScope bL):=by constructor<;>first|rfl|decide +kernel
theorem jC:FnScope aIO ["program"] (defScope gK):=by constructor<;>first|rfl|decide +kernel
theorem fR:FnScope ["deed","words"] ["deed"] (defScope bP):=by constructor<;>first|rfl|decide +kernel
theorem fG:FnScope ["text","rows","head","n","givens","shelves","deeds","at","row","deed"] ["text"] (defScope gZ):=by constructor<;>first|rfl|decide +kernel
theorem bZ:FnScope aIP ["row"] (defScope bW):=by constructor<;>first|rfl|decide +kernel
theorem fV:FnScope ["row","words","shelf","number"] ["row"] (defScope cC):=by constructor<;>first|rfl|decide +kernel
theorem fJ:FnScope aIQ aHX (defScope bX):=by constructor<;>first|rfl|decide +kernel
theorem nI:FnScope aHY aHY (defScope bF):=by constructor<;>first|rfl|decide +kernel
theorem jT:FnScope ["_law_script","_law_k","_law_cell","_law_seed"] aHZ (defScope fF):=by constructor<;>first|rfl|decide +kernel
theorem mV:FnScope ["_law_box_here","_law_many","_law_digit","_law_one"] aIA (defScope dP):=by constructor<;>first|rfl|decide +kernel
theorem sY:FnScope ["_law_box_here","_law_mode","_law_some","_law_number"] aIB (defScope kR):=by constructor<;>first|rfl|decide +kernel
theorem rS:FnScope ["_law_box_here","_law_n_here","_law_mode"] aIC (defScope dO):=by constructor<;>first|rfl|decide +kernel
theorem nW:FnScope aID aID (defScope cO):=by constructor<;>first|rfl|decide +kernel
theorem mZ:FnScope ["_law_box_here","_law_n_here","_law_u"] aIC (defScope dW):=by constructor<;>first|rfl|decide +kernel
theorem eG:FnScope aIR aIE (defScope cS):=by constructor<;>first|rfl|decide +kernel
theorem kY:FnScope ["_law_box_here","_law_wide","_law_n_here"] aIB (defScope cY):=by constructor<;>first|rfl|decide +kernel
theorem cJ:FnScope ["_law_box_here","_law_n_here","_law_givens","_law_shelves","_law_most","_law_deeds","_law_k","_law_mode","_law_deed_here"] aIF (defScope bH):=by constructor<;>first|rfl|decide +kernel
theorem iA:FnScope aIS aIG (defScope bN):=by constructor<;>first|rfl|decide +kernel
theorem tT:FnScope aIH aIH (defScope bU):=by constructor<;>first|rfl|decide +kernel
theorem eO:FnScope aIT aII (defScope bV):=by constructor<;>first|rfl|decide +kernel
theorem eS:FnScope aIU aII (defScope bR):=by constructor<;>first|rfl|decide +kernel
theorem cX:FnScope ["_law_text","_law_rows","_law_head","_law_deeds","_law_k","_law_deed_here"] aIJ (defScope bT):=by constructor<;>first|rfl|decide +kernel
theorem cF:FnScope ["_law_text","_law_found","e","_law_others"] aIJ (defScope bM):=by constructor<;>first|rfl|decide +kernel
theorem dL:FnScope aIV aIK (defScope cH):=by constructor<;>first|rfl|decide +kernel
theorem jH:FnScope ["_law_found","_law_due","_law_left","_law_one","_law_other"] aIL (defScope dC):=by constructor<;>first|rfl|decide +kernel
theorem sC:FnScope ["_law_box_here","_law_signs"] aIB (defScope dU):=by constructor<;>first|rfl|decide +kernel
theorem pC:FnScope ["_law_text","_law_found","_law_due"] aIJ (defScope dA):=by constructor<;>first|rfl|decide +kernel
theorem hX:FnScope aIW aIM (defScope jN):=by constructor<;>first|rfl|decide +kernel
variable{K:Frag}{a:Adr}
theorem jK(T:Tx K mg a):FnOk P w K mg base (CX1 P w) 1 a.j_BadText a.g_BadText aIN (spXI a.e_BadText "row"):=by
 obtain⟨cd,hc,_,hm⟩:=T.xc_BadText.cd
 exact aIp T.fi_BadText vL λcdv A outer s H E=>wL (aAj (aFc T.le T.m_LentError T.xb_BadText (bJ (pv 0) (bJ yW dE)))) (zO (aJx hc hm (aPh T.xc_BadText hc) T.sa_BadText T.nf_BadText (pv 0) (pv 1)))
theorem pR(T:Tx K mg a):FnOk P w K mg base CX0 1 a.a_0 a.d_0 aHT (spF K Z0 2 dR) :=
 cR (k:=0) T.f_0 gM λcdv A outer s H E hr=>show Ess _ K Z0 (defBody bK) b_0 from
  (aC (aQ (i:=2) gM.nd (aA 1))
  (aC (iB NW PassesOwn.never (eI (jB (aI opLt (aA 2) (aW callLen rfl T.z_len aAS (aB (aA 0) aE)) (nomark _)) (gX (aI opInS (aN (aA 0) (aA 2)) (aPk T.v_FIGURES) (by with_unfolding_all rfl)))))
  (aF (aAv (i:=2) gM.nd aFu aD)))
  (aF (aJ (aA 2)))))
theorem iZ(T:Tx K mg a):FnOk P w K mg base CX0 2 a.a_1 a.d_1 aHU (spF K Z0 2 dM) :=
 cR (k:=1) T.f_1 uA λcdv A outer s H E hr=>show Ess _ K Z0 (defBody cD) b_1 from
  (aC (bC (eI (cP (aI (opEq (aT hr)) (aA 0) aO (nomark _)) (cG (aI opGt (aW callLen rfl T.z_len aAS (aB (aA 0) aE)) (aA 1) (nomark _)))))
  (aF (aJ bG))
  aR)
  (aC (bC (aI opLt (aP ((pR T).mono (by lia)) hr T.m_0 T.k_0 T.b_0 (aB (aA 0) (aB aD aE)) (hlen:=λ_ _ h=>oE h)) (aW callLen rfl T.z_len aAS (aB (aA 0) aE)) (nomark _))
  (aF (aJ bG))
  aR)
  (aC (bC (eI (jB (aI (opEq (aT hr)) (aN (aA 0) aD) aO (nomark _)) (gX (aI opGt (aW callLen rfl T.z_len aAS (aB (aA 0) aE)) aD (nomark _)))))
  (aF (aJ bG))
  aR)
  (aF (aJ (bD callIntS rfl T.z_int nR (aB (aA 0) aE)))))))
theorem yA(T:Tx K mg a):FnOk P w K mg base CX0 1 a.a_2 a.d_2 ["n","k"] (spF K Z0 2 iP) :=
 cR (k:=0) T.f_2 eD λcdv A outer s H E hr=>show Ess _ K Z0 (defBody dB) b_2 from
  (aC (kX (i:=2) (j:=3) rfl eD.nd (aB (aA 0) (aB (aS opMod (aA 1) (aA 0)) aE)))
  (aC (gE (cE (aB aD (aB aD aE))) (iW rfl (aX (aK (i:=4) eD.nd) (aX (aK (i:=5) eD.nd) eQ))))
  (aC (iB NW PassesOwn.never (aI opGt (aA 3) aD (nomark _))
  (aC (aQ (i:=6) eD.nd (aS opDiv (aA 2) (aA 3)))
  (aC (kX (i:=2) (j:=3) rfl eD.nd (aB (aA 3) (aB (aS opSub (aA 2) (aS opMulA (aA 6) (aA 3))) aE)))
  (aF (kX (i:=4) (j:=5) rfl eD.nd (aB (aA 5) (aB (aS opSub (aA 4) (aS opMulA (aA 6) (aA 5))) aE)))))))
  (aC (bC (aI (opNe (aT hr)) (aA 2) aD (nomark _))
  (aF (aJ bG))
  aR)
  (aF (aJ (aS opMod (aA 4) (aA 0))))))))
theorem jQ(T:Tx K mg a):FnOk P w K mg base CX0 1 a.a_4 a.d_4 aHW (spF K Z0 2 dD) :=
 cR (k:=0) T.f_4 eM λcdv A outer s H E hr=>show Ess _ K Z0 (defBody bL) b_4 from
  (aC (bC (aI opGt (aW callLen rfl T.z_len aAS (aB (aA 0) aE)) (qJ T.v_MOST_FACTORS) (nomark _))
  (aF (aJ jM))
  aR)
  (aC (aQ (i:=2) eM.nd aD)
  (aC (lD PassesOwn.never rfl (kP (aA 0)) (aK (i:=3) eM.nd)
  (aC (bC (eI (cP (aI opLt (aA 3) (aA 2) (nomark _)) (cG (aI opGe (aA 3) (aA 1) (nomark _)))))
  (aF (aJ jM))
  aR)
  (aF (aQ (i:=2) eM.nd (aA 3)))))
  (aF (aJ jM)))))
theorem yG(T:Tx K mg a):FnOk P w K mg base CX0 2 a.a_3 a.d_3 aHV (spF K Z0 4 iQ) :=
 cR (k:=1) T.f_3 lC λcdv A outer s H E hr=>show Ess _ K Z0 (defBody cZ) b_3 from
  (aC (kX (i:=4) (j:=5) rfl lC.nd (aB (aN (aA 3) aD) (aB (aN (aA 3) aD) aE)))
  (aC (bC (eI (cP (fB (fM opLe opLt aD (aA 4) (aA 2))) (cG (fB (fM opLe opLt aD (aA 5) (aA 0))))))
  (aF (aJ jM))
  aR)
  (aC (bC (aI (opEq (aT hr)) (aN (aA 3) aD) aO (nomark _))
  (aF (aJ (jS opIsNot (aP ((yA T).mono (by lia)) hr T.m_2 T.k_2 T.b_2 (aB (aA 0) (aB (aA 5) aE)) (hlen:=λ_ _ h=>uW h)) bG (nomark _))))
  aR)
  (aC (kX (i:=6) (j:=7) rfl lC.nd (aB (aN (aA 3) aD) (aB (aN (aA 3) aD) aE)))
  (aF (aJ (aEq (aP ((jQ T).mono (by lia)) hr T.m_4 T.k_4 T.b_4 (aB (aA 6) (aB (aA 1) aE)) (hlen:=λ_ _ h=>jL h)) (aEq (aP ((jQ T).mono (by lia)) hr T.m_4 T.k_4 T.b_4 (aB (aA 7) (aB (aA 2) aE)) (hlen:=λ_ _ h=>jL h)) (aGh (jS opNotIn (aA 4) (aA 7) (by with_unfolding_all rfl)))))))))))
theorem uJ(T:Tx K mg a):FnOk P w K mg base CX0 1 a.a_6 a.d_6 ["deed"] (spF K Z0 1 fK) :=
 cR (k:=0) T.f_6 fR λcdv A outer s H E hr=>show Ess _ K Z0 (defBody bP) b_6 from
  (aC (bC (aI (opEq (aT hr)) (aN (aA 0) aD) aO (nomark _))
  (aF (aJ (iF (jE (iV (aN (aA 0) aD) (jE (iV (aN (aA 0) aD) pD)))))))
  aR)
  (aC (aQ (i:=1) fR.nd (fW (aB (iF (jE (iV (aN (aA 0) aD) (jE (iV (aN (aA 0) aD) pD))))) aE)))
  (aC (tF (i:=1) fR.nd (dY rfl (CompOk.of (N0:=["deed","words"]) (sc0:=defScope bP) (Nc:=["given"]) (js:=[none]) (by decide +kernel)) (kP (aN (aA 0) aD)) (λ_ _ _ _ _ _=>(aK (i:=0) (show(["given"]:List Str).Nodup by decide +kernel))) (λ_ _ _ _ _ _=>dF) (λ_ _ _ _ _ _=>(iF (jE (iV (aA 0) pD))))))
  (aC (tF (i:=1) fR.nd (dY rfl (CompOk.of (N0:=["deed","words"]) (sc0:=defScope bP) (Nc:=["shelf"]) (js:=[none]) (by decide +kernel)) (kP (aN (aA 0) aD)) (λ_ _ _ _ _ _=>(aK (i:=0) (show(["shelf"]:List Str).Nodup by decide +kernel))) (λ_ _ _ _ _ _=>dF) (λ_ _ _ _ _ _=>(iF (jE (iV (aA 0) pD))))))
  (aF (aJ (oN aO (aA 1))))))))
theorem aGy(T:Tx K mg a):FnOk P w K mg base CX0 2 a.a_5 a.d_5 ["program"] (spF K Z0 1 pO) :=
 cR (k:=1) T.f_5 jC λcdv A outer s H E hr=>show Ess _ K Z0 (defBody gK) b_5 from
  (aC (gE (aA 0) (iW rfl (aX (aK (i:=1) jC.nd) (aX (aK (i:=2) jC.nd) (aX (aK (i:=3) jC.nd) (aX (aK (i:=4) jC.nd) eQ))))))
  (aC (aQ (i:=5) jC.nd (fW (aB (iF (jE (iV (aA 1) (jE (iV (aA 2) (jE (iV (aA 3) pD))))))) aE)))
  (aC (tF (i:=5) jC.nd (dY rfl (CompOk.of (N0:=aIO) (sc0:=defScope gK) (Nc:=["deed"]) (js:=[none]) (by decide +kernel)) (kP (aA 4)) (λ_ _ _ _ _ _=>(aK (i:=0) (show(["deed"]:List Str).Nodup by decide +kernel))) (λ_ _ _ _ _ _=>dF) (λ_ _ _ _ _ _=>(aP ((uJ T).mono (by lia)) hr T.m_6 T.k_6 T.b_6 (aB (aA 0) aE) (hlen:=λ_ _ h=>qZ h)))))
  (aF (aJ (oN aO (aA 5)))))))
theorem uH(T:Tx K mg a):FnOk P w K mg base CX0 3 a.a_8 a.d_8 ["row"] (spF K Z0 1 fP) :=
 cR (k:=2) T.f_8 bZ λcdv A outer s H E hr=>show Ess _ K Z0 (defBody bW) b_8 from
  (aC (aQ (i:=1) bZ.nd (iI (aA 0) aO))
  (aC (bC (aI (opNe (aT hr)) (aDq (aA 1) (dQ aD) (dQ aD)) (eB (aB aO (aB aO (aB aO aE)))) (nomark _))
  (aF (aJ bG))
  aR)
  (aC (mD (i:=2) bZ.nd rfl (CompOk.of (N0:=aIP) (sc0:=defScope bW) (Nc:=["word"]) (js:=[none]) (by decide +kernel)) (kP (aDq (aA 1) (dQ aD) (dQ aD))) (λ_ _ _ _ _ _=>(aK (i:=0) (show(["word"]:List Str).Nodup by decide +kernel))) (λ_ _ _ _ _ _=>dF) (λ_ _ _ _ _ _=>(aP ((iZ T).mono (by lia)) hr T.m_1 T.k_1 T.b_1 (aB (aA 0) (aB (qJ T.v_MOST_FIGURES) aE)) (hlen:=λ_ _ h=>hZ h))))
  (aC (bC (eI (cP (aI (opNe (aT hr)) (aW callLen rfl T.z_len aAS (aB (aA 2) aE)) aD (nomark _)) (cG (aI (opInN (aT hr)) bG (aA 2) (by with_unfolding_all rfl)))))
  (aF (aJ bG))
  aR)
  (aC (gE (aA 2) (aPl (iW rfl (aX (aK (i:=3) bZ.nd) (aX (aK (i:=4) bZ.nd) (aX (aK (i:=5) bZ.nd) eQ)))) (aAx rfl (aX (aK (i:=3) bZ.nd) (aX (aK (i:=4) bZ.nd) (aX (aK (i:=5) bZ.nd) eQ))))))
  (aC (bC (eI (cP (fB (fM opLe opLe aD (aA 3) (qJ T.v_GREATEST_N))) (cP (aI opGt (aA 4) (qJ T.v_MOST_GIVENS) (nomark _)) (cG (fB (fM opLe opLe aD (aA 5) (qJ T.v_MOST_SHELVES)))))))
  (aF (aJ bG))
  aR)
  (aF (aJ (cE (aB (aA 3) (aB (aA 4) (aB (aA 5) aE))))))))))))
theorem fD(T:Tx K mg a):FnOk P w K mg base CX0 3 a.a_b a.d_b aHY (spF K Z0 2 bY) :=
 cR (k:=2) T.f_b nI λcdv A outer s H E hr=>show Ess _ K Z0 (defBody bF) b_b from
  (aC (bC (fB (gD (sL (aA 1) (aA 0))))
  (aF (aJ bG))
  aR)
  (aF (aJ (aP ((iZ T).mono (by lia)) hr T.m_1 T.k_1 T.b_1 (aB (bO (aA 1) (dQ aD) gO) (aB (qJ T.v_MOST_FIGURES) aE)) (hlen:=λ_ _ h=>hZ h)))))
theorem vV(T:Tx K mg a):FnOk P w K mg base CX0 4 a.a_a a.d_a aHX (spF K Z0 3 gJ) :=
 cR (k:=3) T.f_a fJ λcdv A outer s H E hr=>show Ess _ K Z0 (defBody bX) b_a from
  (aC (aQ (i:=3) fJ.nd aD)
  (aC (iB NW PassesOwn.never (eI (jB (aI opLt (aA 3) (aW callLen rfl T.z_len aAS (aB (aA 2) aE)) (nomark _)) (gX (gD (sL (aN (aA 2) (aA 3)) aO)))))
  (aF (aAv (i:=3) fJ.nd aFu aD)))
  (aC (mD (i:=4) fJ.nd rfl (CompOk.of (N0:=aIQ) (sc0:=defScope bX) (Nc:=["word"]) (js:=[none]) (by decide +kernel)) (kP (bO (aA 2) gO (dQ (aA 3)))) (λ_ _ _ _ _ _=>(aK (i:=0) (show(["word"]:List Str).Nodup by decide +kernel))) (λ_ _ _ _ _ _=>dF) (λ_ _ _ _ _ _=>(aP ((fD T).mono (by lia)) hr T.m_b T.k_b T.b_b (aB aO (aB (aA 0) aE)) (hlen:=λ_ _ h=>eP h))))
  (aC (mD (i:=5) fJ.nd rfl (CompOk.of (N0:=aIQ) (sc0:=defScope bX) (Nc:=["word"]) (js:=[none]) (by decide +kernel)) (kP (bO (aA 2) (dQ (aA 3)) gO)) (λ_ _ _ _ _ _=>(aK (i:=0) (show(["word"]:List Str).Nodup by decide +kernel))) (λ_ _ _ _ _ _=>dF) (λ_ _ _ _ _ _=>(aP ((fD T).mono (by lia)) hr T.m_b T.k_b T.b_b (aB aO (aB (aA 0) aE)) (hlen:=λ_ _ h=>eP h))))
  (aC (bC (eI (cP (aI (opInN (aT hr)) bG (aA 4) (by with_unfolding_all rfl)) (cG (aI (opInN (aT hr)) bG (aA 5) (by with_unfolding_all rfl)))))
  (aF (aJ bG))
  aR)
  (aF (aJ (cE (aB aO (aB (aA 0) (aB (aA 1) (aB (bD callTup rfl T.z_tuple cW (aB (aA 4) aE)) (aB (bD callTup rfl T.z_tuple cW (aB (aA 5) aE)) aE)))))))))))))
theorem tX(T:Tx K mg a):FnOk P w K mg base CX0 5 a.a_9 a.d_9 ["row"] (spF K Z0 1 fL) :=
 cR (k:=4) T.f_9 fV λcdv A outer s H E hr=>show Ess _ K Z0 (defBody cC) b_9 from
  (aC (aQ (i:=1) fV.nd (iI (aA 0) aO))
  (aC (bC (aI opLt (aW callLen rfl T.z_len aAS (aB (aA 1) aE)) aD (nomark _))
  (aF (aJ bG))
  aR)
  (aC (aQ (i:=2) fV.nd (aP ((fD T).mono (by lia)) hr T.m_b T.k_b T.b_b (aB aO (aB (aN (aA 1) aD) aE)) (hlen:=λ_ _ h=>eP h)))
  (aC (aQ (i:=3) fV.nd (aP ((iZ T).mono (by lia)) hr T.m_1 T.k_1 T.b_1 (aB (aN (aA 1) aD) (aB (qJ T.v_MOST_FIGURES) aE)) (hlen:=λ_ _ h=>hZ h)))
  (aC (bC (eI (cP (aI opIs (aA 2) bG (nomark _)) (cG (aI opIs (aA 3) bG (nomark _)))))
  (aF (aJ bG))
  aR)
  (aC (bC (eI (jB (aI (opEq (aT hr)) (aN (aA 1) aD) aO (nomark _)) (gX (aI (opEq (aT hr)) (aW callLen rfl T.z_len aAS (aB (aA 1) aE)) aD (nomark _)))))
  (aF (aJ (cE (aB aO (aB (aA 2) (aB (aA 3) aE))))))
  aR)
  (aC (bC (aI (opEq (aT hr)) (aN (aA 1) aD) aO (nomark _))
  (aF (aJ (aP ((vV T).mono (by lia)) hr T.m_a T.k_a T.b_a (aB (aA 2) (aB (aA 3) (aB (bO (aA 1) (dQ aD) gO) aE))) (hlen:=λ_ _ h=>tW h))))
  aR)
  (aF (aJ bG)))))))))
theorem aIr(T:Tx K mg a):FnOk P w K mg base (CX1 P w) 6 a.a_7 a.d_7 ["text"] (spX K 1 pY) :=
 tJ (k:=5) T.f_7.g fG λcdv A outer s H E hr hz=>show Ess _ K (ZR K (wishR E)) (defBody gZ) b_7 from
  (aC (aQ (i:=1) fG.nd (iI (aA 0) aO))
  (aC (aQ (i:=2) fG.nd (cQ ((uH T).mono (by lia)) hr T.m_8 T.k_8 T.b_8 (aB (aN (aA 1) aD) aE) (hlen:=λ_ _ h=>qL h)))
  (aC (bC (aI opIs (aA 2) bG (nomark _))
  (aF (vE hz T.xc_BadText T.xb_BadText T.le T.ti_BadText (jK T) T.nf_BadText (hr.mono (by lia)) T.bi_BadText T.m_BadText T.kc_BadText rfl aD))
  aR)
  (aC (gE (aA 2) (iW rfl (aX (aK (i:=3) fG.nd) (aX (aK (i:=4) fG.nd) (aX (aK (i:=5) fG.nd) eQ)))))
  (aC (aQ (i:=6) fG.nd (fW aE))
  (aC (lD PassesOwn.leaving rfl (aCg T.z_enumerate (bO (aA 1) (dQ aD) gO) aD) (iW rfl (aX (aK (i:=7) fG.nd) (aX (aK (i:=8) fG.nd) eQ)))
  (aC (aQ (i:=9) fG.nd (cQ ((tX T).mono (by lia)) hr T.m_9 T.k_9 T.b_9 (aB (aA 8) aE) (hlen:=λ_ _ h=>qP h)))
  (aC (bC (eI (cP (aI opIs (aA 9) bG (nomark _)) (cG (fB (gD (cQ ((yG T).mono (by lia)) hr T.m_3 T.k_3 T.b_3 (aB (aA 3) (aB (aA 4) (aB (aA 5) (aB (aA 9) aE)))) (hlen:=λ_ _ h=>vZ h)))))))
  (aF (vE hz T.xc_BadText T.xb_BadText T.le T.ti_BadText (jK T) T.nf_BadText (hr.mono (by lia)) T.bi_BadText T.m_BadText T.kc_BadText rfl (aA 7)))
  aR)
  (aF (jJ (gB (aA 6) (aA 9)))))))
  (aF (aJ (cE (aB (aA 3) (aB (aA 4) (aB (aA 5) (aB (bD callTup rfl T.z_tuple cW (aB (aA 6) aE)) aE)))))))))))))
theorem wW(T:Tx K mg a):FnOk P w K mg base CX0 1 a.a_c a.d_c aHZ (spF K Z0 2 lT) :=
 aNf (k:=0) T.f_c jT λcdv A outer s H E hr=>show Ess _ K Z0 (defBody fF) b_c from
  (aC (aQ (i:=2) jT.nd (aS opAdd (aS opMulA aD (aA 1)) aD))
  (aC (bC (aI opLt (aA 1) (aW callLen rfl T.z_len aAS (aB (aA 0) aE)) (nomark _))
  (aF (aQ (i:=2) jT.nd (aN (aA 0) (aA 1))))
  (aF (bC (aI opGt (aW callLen rfl T.z_len aAS (aB (aA 0) aE)) aD (nomark _))
  (aF (aQ (i:=2) jT.nd (aS opAdd (aA 2) (aS opMulA (aS opMod (aN (aA 0) (aS opMod (aA 1) (aW callLen rfl T.z_len aAS (aB (aA 0) aE)))) aD) aD))))
  aR)))
  (aC (aQ (i:=3) jT.nd (aS opAdd (aS opMod (aS opAdd (aS opMulA (aS opMod (aA 2) aD) aD) (aS opMulA aD (aA 1))) aD) aD))
  (aF (aJ (fW (aB (aN (eB (aB aD (aB (aA 2) aE))) (bD callIntS rfl T.z_int nR (aB (jS opGe (aA 2) (aS opPow aD aD) (nomark _)) aE))) (aB (aA 3) (aB aD aE)))))))))
theorem aZ(T:Tx K mg a):FnOk P w K mg base CX0 1 a.a_d a.d_d aIA (spF K Z0 2 bA) :=
 cR (k:=0) T.f_d mV λcdv A outer s H E hr=>show Ess _ K Z0 (defBody dP) b_d from
  (aC (bC (aI opGt (aN (aA 0) aD) aD (nomark _))
  (aC (aQ (i:=2) mV.nd (aS opMod (aN (aA 0) aD) (aA 1)))
  (aC (gE (aS opDiv (aN (aA 0) aD) (aA 1)) (xX (aA 0) aD))
  (aF (aJ (aA 2)))))
  aR)
  (aC (gE (aS opAdd (aN (aA 0) aD) aD) (xX (aA 0) aD))
  (aC (aQ (i:=3) mV.nd (aS opMod (aS opMulA (aS opAdd (aN (aA 0) aD) (aS opMulA aD (aN (aA 0) aD))) aD) aD))
  (aC (gE (aS opAdd (aS opMod (aS opAdd (aS opMulA (aA 3) aD) aD) aD) aD) (xX (aA 0) aD))
  (aF (aJ (aS opMod (aS opDiv (aS opAdd (aS opMulA (aA 3) aD) (aN (aA 0) aD)) aD) (aA 1))))))))
theorem aNx(T:Tx K mg a):FnOk P w K mg base CX0 2 a.a_e a.d_e aIB (spF K Z0 1 vT) :=
 cR (k:=1) T.f_e sY λcdv A outer s H E hr=>show Ess _ K Z0 (defBody kR) b_e from
  (aC (aQ (i:=1) sY.nd (aP ((aZ T).mono (by lia)) hr T.m_d T.k_d T.b_d (aB (aA 0) (aB aD aE)) (hlen:=λ_ _ h=>aV h)))
  (aC (aQ (i:=2) sY.nd (aHe (ns:=[2,3,4,5,6,7,8,9,12,16,30,36,49,64,91,97,210,1009,65536,999983,999999,1000000]) (by repeat constructor)))
  (aC (aQ (i:=3) sY.nd (aN (aA 2) (aP ((aZ T).mono (by lia)) hr T.m_d T.k_d T.b_d (aB (aA 0) (aB aD aE)) (hlen:=λ_ _ h=>aV h))))
  (aC (bC (aI (opEq (aT hr)) (aA 1) aD (nomark _))
  (aF (aJ (aS opAdd aD (aP ((aZ T).mono (by lia)) hr T.m_d T.k_d T.b_d (aB (aA 0) (aB aD aE)) (hlen:=λ_ _ h=>aV h)))))
  aR)
  (aC (bC (aI opLt (aA 1) aD (nomark _))
  (aF (aJ (aS opAdd aD (aP ((aZ T).mono (by lia)) hr T.m_d T.k_d T.b_d (aB (aA 0) (aB aD aE)) (hlen:=λ_ _ h=>aV h)))))
  aR)
  (aF (aJ (aA 3))))))))
theorem aBm(T:Tx K mg a):FnOk P w K mg base CX0 2 a.a_f a.d_f aIC (spF K Z0 2 jP) :=
 cR (k:=1) T.f_f rS λcdv A outer s H E hr=>show Ess _ K Z0 (defBody dO) b_f from
  (aC (aQ (i:=2) rS.nd (aP ((aZ T).mono (by lia)) hr T.m_d T.k_d T.b_d (aB (aA 0) (aB aD aE)) (hlen:=λ_ _ h=>aV h)))
  (aC (bC (aI (opEq (aT hr)) (aA 2) aD (nomark _))
  (aF (aJ (aN (eB (aB aD (aB (aS opMod aD (aA 1)) (aB (aS opSub (aA 1) aD) (aB (aS opMod (aS opSub (aA 1) aD) (aA 1)) aE))))) (aP ((aZ T).mono (by lia)) hr T.m_d T.k_d T.b_d (aB (aA 0) (aB aD aE)) (hlen:=λ_ _ h=>aV h)))))
  aR)
  (aF (aJ (aP ((aZ T).mono (by lia)) hr T.m_d T.k_d T.b_d (aB (aA 0) (aB (aA 1) aE)) (hlen:=λ_ _ h=>aV h))))))
theorem nU(T:Tx K mg a):FnOk P w K mg base CX0 1 a.a_10 a.d_10 aID (spF K Z0 2 fC) :=
 cR (k:=0) T.f_10 nW λcdv A outer s H E hr=>show Ess _ K Z0 (defBody cO) b_10 from
  (aC (iB NW PassesOwn.never (aI opGt (aA 1) aD (nomark _))
  (aF (kX (i:=0) (j:=1) rfl nW.nd (aB (aA 1) (aB (aS opMod (aA 0) (aA 1)) aE)))))
  (aF (aJ (aA 0))))
theorem aCm(T:Tx K mg a):FnOk P w K mg base CX0 2 a.a_11 a.d_11 aIC (spF K Z0 2 jV) :=
 cR (k:=1) T.f_11 mZ λcdv A outer s H E hr=>show Ess _ K Z0 (defBody dW) b_11 from
  (aC (aQ (i:=2) mZ.nd (aP ((aZ T).mono (by lia)) hr T.m_d T.k_d T.b_d (aB (aA 0) (aB (aA 1) aE)) (hlen:=λ_ _ h=>aV h)))
  (aC (iB NW PassesOwn.never (aI (opNe (aT hr)) (aP ((nU T).mono (by lia)) hr T.m_10 T.k_10 T.b_10 (aB (aA 2) (aB (aA 1) aE)) (hlen:=λ_ _ h=>lK h)) aD (nomark _))
  (aF (aQ (i:=2) mZ.nd (aS opMod (aS opAdd (aA 2) aD) (aA 1)))))
  (aF (aJ (aA 2)))))
theorem aBl(T:Tx K mg a):FnOk P w K mg base CX0 3 a.a_12 a.d_12 aIE (spF K Z0 4 jO) :=
 cR (k:=2) T.f_12 eG λcdv A outer s H E hr=>show Ess _ K Z0 (defBody cS) b_12 from
  (aC (aQ (i:=4) eG.nd (aP ((aZ T).mono (by lia)) hr T.m_d T.k_d T.b_d (aB (aA 0) (aB (aA 3) aE)) (hlen:=λ_ _ h=>aV h)))
  (aC (aQ (i:=5) eG.nd (aP ((aZ T).mono (by lia)) hr T.m_d T.k_d T.b_d (aB (aA 0) (aB aD aE)) (hlen:=λ_ _ h=>aV h)))
  (aC (bC (aI (opEq (aT hr)) (aA 5) aD (nomark _))
  (aF (aJ (cE (aB aO (aB (aA 4) (aB (aP ((aCm T).mono (by lia)) hr T.m_11 T.k_11 T.b_11 (aB (aA 0) (aB (aA 1) aE)) (hlen:=λ_ _ h=>xB h)) aE))))))
  aR)
  (aC (aQ (i:=6) eG.nd (aS opMulA (aP ((aZ T).mono (by lia)) hr T.m_d T.k_d T.b_d (aB (aA 0) (aB (aN (eB (aB aD (aB aD (aB aD aE)))) (aP ((aZ T).mono (by lia)) hr T.m_d T.k_d T.b_d (aB (aA 0) (aB aD aE)) (hlen:=λ_ _ h=>aV h))) aE)) (hlen:=λ_ _ h=>aV h)) (bD callIntS rfl T.z_int nR (aB (jS opGt (aA 2) aD (nomark _)) aE))))
  (aC (aQ (i:=7) eG.nd (aW (callSorted rfl) rfl T.z_sorted nO (aB (dY rfl (CompOk.of (N0:=aIR) (sc0:=defScope cS) (Nc:=aIX) (js:=[none,some 0,some 2]) (by decide +kernel)) (iT T.z_range (aA 6)) (λ_ _ _ _ _ _=>(aK (i:=0) (show(aIX:List Str).Nodup by decide +kernel))) (λ_ _ _ _ _ _=>dF) (λ_ _ _ _ _ _=>(aP ((aZ T).mono (by lia)) hr T.m_d T.k_d T.b_d (aB (aA 1) (aB (aA 2) aE)) (hlen:=λ_ _ h=>aV h)))) aE)))
  (aC (aQ (i:=8) eG.nd (dY rfl (CompOk.of (N0:=aIR) (sc0:=defScope cS) (Nc:=["_law_kt","_law_ks"]) (js:=[none,some 4]) (by decide +kernel)) (iT T.z_range (aA 3)) (λ_ _ _ _ _ _=>(aK (i:=0) (show(["_law_kt","_law_ks"]:List Str).Nodup by decide +kernel))) (λ_ _ _ _ _ _=>(sZ (aI (opNe (aT hr)) (aA 0) (aA 1) (nomark _)))) (λ_ _ _ _ _ _=>(aA 0))))
  (aC (aQ (i:=9) eG.nd (eB aE))
  (aC (bC (aI (opNe (aT hr)) (aA 8) (eB aE) (nomark _))
  (aF (aQ (i:=9) eG.nd (aW (callSorted rfl) rfl T.z_sorted nO (aB (dY rfl (CompOk.of (N0:=aIR) (sc0:=defScope cS) (Nc:=aIY) (js:=[none,some 8,some 0]) (by decide +kernel)) (iT T.z_range (aP ((aZ T).mono (by lia)) hr T.m_d T.k_d T.b_d (aB (aA 0) (aB (aN (eB (aB aD (aB aD (aB aD aE)))) (aP ((aZ T).mono (by lia)) hr T.m_d T.k_d T.b_d (aB (aA 0) (aB aD aE)) (hlen:=λ_ _ h=>aV h))) aE)) (hlen:=λ_ _ h=>aV h))) (λ_ _ _ _ _ _=>(aK (i:=0) (show(aIY:List Str).Nodup by decide +kernel))) (λ_ _ _ _ _ _=>dF) (λ_ _ _ _ _ _=>(aN (aA 1) (aP ((aZ T).mono (by lia)) hr T.m_d T.k_d T.b_d (aB (aA 2) (aB (aW callLen rfl T.z_len aAS (aB (aA 1) aE)) aE)) (hlen:=λ_ _ h=>aV h))))) aE))))
  aR)
  (aF (aJ (cE (aB aO (aB (aA 4) (aB (aP ((aBm T).mono (by lia)) hr T.m_f T.k_f T.b_f (aB (aA 0) (aB (aA 1) aE)) (hlen:=λ_ _ h=>zD h)) (aB (bD callTup rfl T.z_tuple cW (aB (aA 7) aE)) (aB (bD callTup rfl T.z_tuple cW (aB (aA 9) aE)) aE))))))))))))))))
theorem xF(T:Tx K mg a):FnOk P w K mg base CX0 3 a.a_13 a.d_13 aIB (spF K Z0 1 iH) :=
 cR (k:=2) T.f_13 kY λcdv A outer s H E hr=>show Ess _ K Z0 (defBody cY) b_13 from
  (aC (aQ (i:=1) kY.nd (aP ((aZ T).mono (by lia)) hr T.m_d T.k_d T.b_d (aB (aA 0) (aB aD aE)) (hlen:=λ_ _ h=>aV h)))
  (aC (aQ (i:=2) kY.nd (aP ((aNx T).mono (by lia)) hr T.m_e T.k_e T.b_e (aB (aA 0) aE) (hlen:=λ_ _ h=>aGv h)))
  (aF (aJ (cE (aB (aA 2) (aB (aP ((aZ T).mono (by lia)) hr T.m_d T.k_d T.b_d (aB (aA 0) (aB (aN (eB (aB aD (aB aD (aB aD aE)))) (aA 1)) aE)) (hlen:=λ_ _ h=>aV h)) (aB (aS opAdd aD (aP ((aZ T).mono (by lia)) hr T.m_d T.k_d T.b_d (aB (aA 0) (aB (aN (eB (aB aD (aB aD (aB aD aE)))) (aA 1)) aE)) (hlen:=λ_ _ h=>aV h))) aE))))))))
theorem nX(T:Tx K mg a):FnOk P w K mg base CX0 4 a.a_14 a.d_14 aIF (spF K Z0 5 dI) :=
 cR (k:=3) T.f_14 cJ λcdv A outer s H E hr=>show Ess _ K Z0 (defBody bH) b_14 from
  (aC (aQ (i:=5) cJ.nd (fW aE))
  (aC (lD PassesOwn.never rfl (iT T.z_range (aP ((aZ T).mono (by lia)) hr T.m_d T.k_d T.b_d (aB (aA 0) (aB (aS opAdd (aA 4) aD) aE)) (hlen:=λ_ _ h=>aV h))) (aK (i:=6) cJ.nd)
  (aC (aQ (i:=7) cJ.nd (aP ((aZ T).mono (by lia)) hr T.m_d T.k_d T.b_d (aB (aA 0) (aB aD aE)) (hlen:=λ_ _ h=>aV h)))
  (aC (aQ (i:=8) cJ.nd (aP ((aBl T).mono (by lia)) hr T.m_12 T.k_12 T.b_12 (aB (aA 0) (aB (aA 1) (aB (aA 2) (aB (aA 3) aE)))) (hlen:=λ_ _ h=>xL h)))
  (aC (bC (eI (jB (aI (opEq (aT hr)) (aA 7) aD (nomark _)) (gX (aI (opNe (aT hr)) (aA 5) (eB aE) (nomark _)))))
  (aF (aQ (i:=8) cJ.nd (aN (aA 5) (aP ((aZ T).mono (by lia)) hr T.m_d T.k_d T.b_d (aB (aA 0) (aB (aW callLen rfl T.z_len aAS (aB (aA 5) aE)) aE)) (hlen:=λ_ _ h=>aV h)))))
  aR)
  (aF (jJ (gB (aA 5) (aA 8))))))))
  (aF (aJ (cE (aB (aA 1) (aB (aA 2) (aB (aA 3) (aB (bD callTup rfl T.z_tuple cW (aB (aA 5) aE)) aE)))))))))
theorem qN(T:Tx K mg a):FnOk P w K mg base CX0 2 a.a_15 a.d_15 aIG (spF K Z0 4 eY) :=
 cR (k:=1) T.f_15 iA λcdv A outer s H E hr=>show Ess _ K Z0 (defBody bN) b_15 from
  (aC (bC (eI (cP (fB (fM opLe opLt aD (aN (aA 3) aD) (aA 2))) (cG (fB (fM opLe opLt aD (aN (aA 3) aD) (aA 0))))))
  (aF (aJ jM))
  aR)
  (aC (bC (aI (opEq (aT hr)) (aN (aA 3) aD) aO (nomark _))
  (aF (aJ (jS (opNe (aT hr)) (aP ((nU T).mono (by lia)) hr T.m_10 T.k_10 T.b_10 (aB (aN (aA 3) aD) (aB (aA 0) aE)) (hlen:=λ_ _ h=>lK h)) aD (nomark _))))
  aR)
  (aC (lD PassesOwn.never rfl (kP (eB (aB (cE (aB (aN (aA 3) aD) (aB (aA 1) aE))) (aB (cE (aB (aN (aA 3) aD) (aB (aA 2) aE))) aE)))) (iW rfl (aX (aK (i:=4) iA.nd) (aX (aK (i:=5) iA.nd) eQ)))
  (aC (bC (eI (cP (aI opGt (aW callLen rfl T.z_len aAS (aB (aA 4) aE)) aD (nomark _)) (cG (aI (opNe (aT hr)) (bD callList rfl T.z_list aAe (aB (aA 4) aE)) (aW (callSortT rfl) rfl T.z_sorted nO (aB (aA 4) aE)) (nomark _)))))
  (aF (aJ jM))
  aR)
  (aF (bC (aI opGt (aW callLen rfl T.z_len aAS (aB (dY rfl (CompOk.of (N0:=aIS) (sc0:=defScope bN) (Nc:=["_law_one","_law_many"]) (js:=[none,some 5]) (by decide +kernel)) (kP (aA 4)) (λ_ _ _ _ _ _=>(aK (i:=0) (show(["_law_one","_law_many"]:List Str).Nodup by decide +kernel))) (λ_ _ _ _ _ _=>(sZ (eI (cP (aI opLt (aA 0) aD (nomark _)) (cG (aI opGe (aA 0) (aA 1) (nomark _))))))) (λ_ _ _ _ _ _=>(aA 0))) aE)) aD (nomark _))
  (aF (aJ jM))
  aR))))
  (aF (aJ (jS opIn (aN (aA 3) aD) (aN (aA 3) aD) (by with_unfolding_all rfl)))))))
theorem eU(T:Tx K mg a):FnOk P w K mg base CX0 1 a.a_16 a.d_16 aIH (spF K Z0 1 cB) :=
 cR (k:=0) T.f_16 tT λcdv A outer s H E hr=>show Ess _ K Z0 (defBody bU) b_16 from
  (aC (bC (eI (cP (aI (opEq (aT hr)) (aA 0) aO (nomark _)) (cP (aI opGt (aW callLen rfl T.z_len aAS (aB (aA 0) aE)) aD (nomark _)) (cG (aI opGt (aW callLen rfl T.z_len aAS (aB (dY rfl (CompOk.of (N0:=aIH) (sc0:=defScope bU) (Nc:=["_law_sign_here"]) (js:=[none]) (by decide +kernel)) (aMl (aA 0)) (λ_ _ _ _ _ _=>(aK (i:=0) (show(["_law_sign_here"]:List Str).Nodup by decide +kernel))) (λ_ _ _ _ _ _=>(sZ (aI opNinS (aA 0) aO (by with_unfolding_all rfl)))) (λ_ _ _ _ _ _=>(aA 0))) aE)) aD (nomark _))))))
  (aF (aJ bG))
  aR)
  (aC (bC (eI (jB (aI opGt (aW callLen rfl T.z_len aAS (aB (aA 0) aE)) aD (nomark _)) (gX (aI (opEq (aT hr)) (aN (aA 0) aD) aO (nomark _)))))
  (aF (aJ bG))
  aR)
  (aF (aJ (bD callIntS rfl T.z_int nR (aB (aA 0) aE))))))
theorem sW(T:Tx K mg a):FnOk P w K mg base CX0 2 a.a_17 a.d_17 aII (spF K Z0 1 fN) :=
 cR (k:=1) T.f_17 eO λcdv A outer s H E hr=>show Ess _ K Z0 (defBody bV) b_17 from
  (aC (aQ (i:=1) eO.nd (iI (aA 0) aO))
  (aC (bC (eI (cP (aI (opNe (aT hr)) (aW callLen rfl T.z_len aAS (aB (aA 1) aE)) aD (nomark _)) (cG (aI (opNe (aT hr)) (aS opAdd (aS opAdd (aN (aA 1) aD) (aN (aA 1) aD)) (aN (aA 1) aD)) aO (nomark _)))))
  (aF (aJ bG))
  aR)
  (aC (bC (eI (cP (aI (opNe (aT hr)) (aN (aA 1) aD) aO (nomark _)) (cG (aI (opNe (aT hr)) (aN (aA 1) aD) aO (nomark _)))))
  (aF (aJ bG))
  aR)
  (aC (gE (dY rfl (CompOk.of (N0:=aIT) (sc0:=defScope bV) (Nc:=aIH) (js:=[none]) (by decide +kernel)) (kP (cE (aB (aN (aA 1) aD) (aB (aN (aA 1) aD) (aB (aN (aA 1) aD) aE))))) (λ_ _ _ _ _ _=>(aK (i:=0) (show(aIH:List Str).Nodup by decide +kernel))) (λ_ _ _ _ _ _=>dF) (λ_ _ _ _ _ _=>(aP ((eU T).mono (by lia)) hr T.m_16 T.k_16 T.b_16 (aB (aA 0) aE) (hlen:=λ_ _ h=>dS h)))) (aAx rfl (aX (aK (i:=2) eO.nd) (aX (aK (i:=3) eO.nd) (aX (aK (i:=4) eO.nd) eQ)))))
  (aC (bC (eI (cP (aI (opInN (aT hr)) bG (cE (aB (aA 2) (aB (aA 3) (aB (aA 4) aE)))) (by with_unfolding_all rfl)) (cP (fB (fM opLe opLe aD (aA 2) aD)) (cP (aI opGt (aA 3) aD (nomark _)) (cG (fB (fM opLe opLe aD (aA 4) aD)))))))
  (aF (aJ bG))
  aR)
  (aF (aJ (cE (aB (aA 2) (aB (aA 3) (aB (aA 4) aE)))))))))))
theorem uC(T:Tx K mg a):FnOk P w K mg base CX0 2 a.a_18 a.d_18 aII (spF K Z0 1 fO) :=
 cR (k:=1) T.f_18 eS λcdv A outer s H E hr=>show Ess _ K Z0 (defBody bR) b_18 from
  (aC (aQ (i:=1) eS.nd (iI (aA 0) aO))
  (aC (mD (i:=2) eS.nd rfl (CompOk.of (N0:=aIU) (sc0:=defScope bR) (Nc:=aIH) (js:=[none]) (by decide +kernel)) (kP (aS opAdd (bO (aA 1) gO (dQ aD)) (bO (aA 1) (dQ aD) gO))) (λ_ _ _ _ _ _=>(aK (i:=0) (show(aIH:List Str).Nodup by decide +kernel))) (λ_ _ _ _ _ _=>dF) (λ_ _ _ _ _ _=>(aP ((eU T).mono (by lia)) hr T.m_16 T.k_16 T.b_16 (aB (bO (aA 0) (dQ aD) gO) aE) (hlen:=λ_ _ h=>dS h))))
  (aC (bC (eI (cP (aI opLt (aW callLen rfl T.z_len aAS (aB (aA 1) aE)) aD (nomark _)) (cP (aI (opNe (aT hr)) (bO (aN (aA 1) aD) gO (dQ aD)) aO (nomark _)) (cP (aI (opInN (aT hr)) bG (aA 2) (by with_unfolding_all rfl)) (cG (aI opIs (aP ((eU T).mono (by lia)) hr T.m_16 T.k_16 T.b_16 (aB (aN (aA 1) aD) aE) (hlen:=λ_ _ h=>dS h)) bG (nomark _)))))))
  (aF (aJ bG))
  aR)
  (aC (bC (eI (jB (aI (opEq (aT hr)) (aN (aA 1) aD) aO (nomark _)) (gX (aI (opEq (aT hr)) (aW callLen rfl T.z_len aAS (aB (aA 1) aE)) aD (nomark _)))))
  (aF (aJ (cE (aB aO (aB (aN (aA 2) aD) (aB (aP ((eU T).mono (by lia)) hr T.m_16 T.k_16 T.b_16 (aB (aN (aA 1) aD) aE) (hlen:=λ_ _ h=>dS h)) aE))))))
  aR)
  (aC (mD (i:=3) eS.nd rfl (CompOk.of (N0:=aIU) (sc0:=defScope bR) (Nc:=aIH) (js:=[none]) (by decide +kernel)) (kP (bO (aA 1) (dQ aD) gO)) (λ_ _ _ _ _ _=>(aK (i:=0) (show(aIH:List Str).Nodup by decide +kernel))) (λ_ _ _ _ _ _=>dF) (λ_ _ _ _ _ _=>(bO (aA 0) gO (dQ aD))))
  (aC (aQ (i:=4) eS.nd (aDk (aA 3) aO))
  (aC (bC (eI (cP (aI (opNe (aT hr)) (aN (aA 1) aD) aO (nomark _)) (cG (aI (opNe (aT hr)) (aA 3) (aS opAdd (aS opMulA (eB (aB aO aE)) (aA 4)) (aS opMulA (eB (aB aO aE)) (aS opSub (aW callLen rfl T.z_len aAS (aB (aA 3) aE)) (aA 4)))) (nomark _)))))
  (aF (aJ bG))
  aR)
  (aF (aJ (cE (aB aO (aB (aN (aA 2) aD) (aB (aP ((eU T).mono (by lia)) hr T.m_16 T.k_16 T.b_16 (aB (aN (aA 1) aD) aE) (hlen:=λ_ _ h=>dS h)) (aB (bD callTup rfl T.z_tuple cW (aB (bO (aA 2) (dQ aD) (dQ (aS opAdd aD (aA 4)))) aE)) (aB (bD callTup rfl T.z_tuple cW (aB (bO (aA 2) (dQ (aS opAdd aD (aA 4))) gO) aE)) aE)))))))))))))))
theorem rD(T:Tx K mg a):FnOk P w K mg base CX0 3 a.a_19 a.d_19 aIJ (spF K Z0 1 eR) :=
 cR (k:=2) T.f_19 cX λcdv A outer s H E hr=>show Ess _ K Z0 (defBody bT) b_19 from
  (aC (aQ (i:=1) cX.nd (iI (aA 0) aO))
  (aC (aQ (i:=2) cX.nd (aP ((sW T).mono (by lia)) hr T.m_17 T.k_17 T.b_17 (aB (aN (aA 1) aD) aE) (hlen:=λ_ _ h=>rC h)))
  (aC (bC (aI opIs (aA 2) bG (nomark _))
  (aF (aJ (cE (aB aO (aB aD aE)))))
  aR)
  (aC (aQ (i:=3) cX.nd (fW aE))
  (aC (lD PassesOwn.never rfl (aCf T.z_range aD (aW callLen rfl T.z_len aAS (aB (aA 1) aE))) (aK (i:=4) cX.nd)
  (aC (aQ (i:=5) cX.nd (aP ((uC T).mono (by lia)) hr T.m_18 T.k_18 T.b_18 (aB (aN (aA 1) (aA 4)) aE) (hlen:=λ_ _ h=>qW h)))
  (aC (bC (eI (cP (aI opIs (aA 5) bG (nomark _)) (cG (gD (aP ((qN T).mono (by lia)) hr T.m_15 T.k_15 T.b_15 (aB (aN (aA 2) aD) (aB (aN (aA 2) aD) (aB (aN (aA 2) aD) (aB (aA 5) aE)))) (hlen:=λ_ _ h=>oW h))))))
  (aF (aJ (cE (aB aO (aB (aA 4) aE)))))
  aR)
  (aF (jJ (gB (aA 3) (aA 5)))))))
  (aF (aJ (cE (aB aO (aB (aS opAdd (aA 2) (cE (aB (bD callTup rfl T.z_tuple cW (aB (aA 3) aE)) aE))) aE))))))))))
theorem oV(T:Tx K mg a):FnOk P w K mg base (CX1 P w) 7 a.a_1a a.d_1a aIJ (spX K 1 dX) :=
 tJ (k:=6) T.f_1a.g cF λcdv A outer s H E hr hz=>show Ess _ K (ZR K (wishR E)) (defBody bM) b_1a from
  (aC (aQ (i:=1) cF.nd bG)
  (aC (aEm (i:=2) (aNr T.nm_LentError) T.m_LentError cF.nd
  (aLd (i:=1) cF.nd (aKj aO (aIk ((aIr T).mono (by lia)) hr T.m_7 T.k_7 T.b_7 (aB (aA 0) aE) (hlen:=λ_ _ h=>aDw h))))
  (λ_=>(aC (aQ (i:=1) cF.nd (cE (aB aO (aB aD aE))))
  (aC (aQ (i:=3) cF.nd (aJn (fH (jG T.xc_NoDeed) T.m_NoDeed (fH (jG T.xc_NoInverse) T.m_NoInverse (fH (jG T.xc_NoMove) T.m_NoMove (fH (jG T.xc_NoPaper) T.m_NoPaper (fH (jG T.xc_NoRest) T.m_NoRest (fH (jG T.xc_NoRoot) T.m_NoRoot (fH (jG T.xc_NoRow) T.m_NoRow (fH (jG T.xc_TooMany) T.m_TooMany aKg)))))))) T.z_isinstance (aA 2)))
  (aF (bC (eI (jB (gD (aLp (jG T.xc_BadText) T.m_BadText T.z_isinstance (aA 2))) (jB (gD (aIc T.z_ValueError T.z_isinstance (aA 2))) (gX (fB (gD (aA 3)))))))
  (aF (aQ (i:=1) cF.nd (cE (aB aO (aB (aMg (aA 2)) aE)))))
  aR))))))
  (aF (aJ (aA 1)))))
theorem xS(T:Tx K mg a):FnOk P w K mg base CX0 1 a.a_1b a.d_1b aIK (spF K Z0 1 iG) :=
 cR (k:=0) T.f_1b dL λcdv A outer s H E hr=>show Ess _ K Z0 (defBody cH) b_1b from
  (aC (gE (aA 0) (iW rfl (aX (aK (i:=1) dL.nd) (aX (aK (i:=2) dL.nd) (aX (aK (i:=3) dL.nd) (aX (aK (i:=4) dL.nd) eQ))))))
  (aC (aQ (i:=5) dL.nd (fW (aB (aS opAdd (aS opAdd (aS opAdd (aS opAdd (aS opAdd aO (bD callStr rfl T.z_str jA (aB (aA 1) aE))) aO) (bD callStr rfl T.z_str jA (aB (aA 2) aE))) aO) (bD callStr rfl T.z_str jA (aB (aA 3) aE))) aE)))
  (aC (lD PassesOwn.never rfl (kP (aA 4)) (aK (i:=6) dL.nd)
  (aF (bC (aI (opEq (aT hr)) (aN (aA 6) aD) aO (nomark _))
  (aF (jJ (gB (aA 5) (aS opAdd (aS opAdd (aS opAdd aO (bD callStr rfl T.z_str jA (aB (aN (aA 6) aD) aE))) aO) (bD callStr rfl T.z_str jA (aB (aN (aA 6) aD) aE))))))
  (aC (aQ (i:=7) dL.nd (aS opAdd (dY rfl (CompOk.of (N0:=aIV) (sc0:=defScope cH) (Nc:=["_law_i"]) (js:=[none]) (by decide +kernel)) (kP (aN (aA 6) aD)) (λ_ _ _ _ _ _=>(aK (i:=0) (show(["_law_i"]:List Str).Nodup by decide +kernel))) (λ_ _ _ _ _ _=>dF) (λ_ _ _ _ _ _=>(aS opAdd aO (bD callStr rfl T.z_str jA (aB (aA 0) aE))))) (dY rfl (CompOk.of (N0:=aIV) (sc0:=defScope cH) (Nc:=["_law_kt"]) (js:=[none]) (by decide +kernel)) (kP (aN (aA 6) aD)) (λ_ _ _ _ _ _=>(aK (i:=0) (show(["_law_kt"]:List Str).Nodup by decide +kernel))) (λ_ _ _ _ _ _=>dF) (λ_ _ _ _ _ _=>(aS opAdd aO (bD callStr rfl T.z_str jA (aB (aA 0) aE)))))))
  (aF (jJ (gB (aA 5) (oN aO (aS opAdd (eB (aB (aS opAdd aO (bD callStr rfl T.z_str jA (aB (aN (aA 6) aD) aE))) (aB aO (aB (bD callStr rfl T.z_str jA (aB (aN (aA 6) aD) aE)) aE)))) (aA 7))))))))))
  (aF (aJ (oN aO (aA 5)))))))
theorem zE(T:Tx K mg a):FnOk P w K mg base CX0 1 a.a_1c a.d_1c aIL (spF K Z0 2 kI) :=
 cR (k:=0) T.f_1c jH λcdv A outer s H E hr=>show Ess _ K Z0 (defBody dC) b_1c from
  (aC (aQ (i:=2) jH.nd (fW (aB (cE (aB (aA 0) (aB (aA 1) aE))) aE)))
  (aC (iB NW PassesOwn.never (aI opGt (aW callLen rfl T.z_len aAS (aB (aA 2) aE)) aD (nomark _))
  (aC (gE (aOm (aA 2)) (iW rfl (aX (aK (i:=3) jH.nd) (aX (aK (i:=4) jH.nd) eQ))))
  (aF (bC (gD (kZ pS T.z_isinstance T.z_tuple cW (aA 4)))
  (aC (bC (eI (cP (fB (gD (kZ pS T.z_isinstance T.z_tuple cW (aA 3)))) (cG (aI (opNe (aT hr)) (aW callLen rfl T.z_len aAS (aB (aA 3) aE)) (aW callLen rfl T.z_len aAS (aB (aA 4) aE)) (nomark _)))))
  (aF (aJ jM))
  aR)
  (aF (jJ (xJ (aA 2) (zG rfl T.z_list T.z_zip (aA 3) (aA 4))))))
  (aF (bC (eI (cP (aI (opNe (aT hr)) (kZ zV T.z_isinstance T.z_bool aAh (aA 3)) (kZ zV T.z_isinstance T.z_bool aAh (aA 4)) (nomark _)) (cG (aI (opNe (aT hr)) (kZ aEf T.z_isinstance T.z_int nR (aA 3)) (kZ aEf T.z_isinstance T.z_int nR (aA 4)) (nomark _)))))
  (aF (aJ jM))
  (aF (bC (eI (cP (gD (kZ pS T.z_isinstance T.z_tuple cW (aA 3))) (cG (aI (opNe (aT hr)) (aA 3) (aA 4) (nomark _)))))
  (aF (aJ jM))
  aR))))))))
  (aF (aJ jM))))
theorem aCe(T:Tx K mg a):FnOk P w K mg base CX0 2 a.a_1d a.d_1d aIB (spF K Z0 1 kB) :=
 cR (k:=1) T.f_1d sC λcdv A outer s H E hr=>show Ess _ K Z0 (defBody dU) b_1d from
  (aC (aQ (i:=1) sC.nd aO)
  (aF (aJ (aN (aS opAdd (aA 1) aO) (aP ((aZ T).mono (by lia)) hr T.m_d T.k_d T.b_d (aB (aA 0) (aB aD aE)) (hlen:=λ_ _ h=>aV h))))))
theorem yZ(T:Tx K mg a):FnOk P w K mg base (CX1 P w) 8 a.a_1e a.d_1e aIJ (spX K 1 iJ) :=
 tJ (k:=7) T.f_1e.g pC λcdv A outer s H E hr hz=>show Ess _ K (ZR K (wishR E)) (defBody dA) b_1e from
  (aC (kX (i:=1) (j:=2) rfl pC.nd (aB (aEa hz ((oV T).mono (by lia)) hr T.m_1a T.k_1a T.b_1a (aB (aA 0) aE) (hlen:=λ_ _ h=>nY h)) (aB (cQ ((rD T).mono (by lia)) hr T.m_19 T.k_19 T.b_19 (aB (aA 0) aE) (hlen:=λ_ _ h=>oX h)) aE)))
  (aC (bC (eI (cP (aI (opNe (aT hr)) (aN (aA 1) aD) (aN (aA 2) aD) (nomark _)) (cG (fB (gD (cQ ((zE T).mono (by lia)) hr T.m_1c T.k_1c T.b_1c (aB (aN (aA 1) aD) (aB (aN (aA 2) aD) aE)) (hlen:=λ_ _ h=>wV h)))))))
  (aF (aJ jM))
  aR)
  (aF (aJ (aQf (jS (opEq (aT hr)) (aN (aA 2) aD) aO (nomark _)) (aGh (jS (opEq (aT hr)) (cQ ((aGy T).mono (by lia)) hr T.m_5 T.k_5 T.b_5 (aB (aN (aA 1) aD) aE) (hlen:=λ_ _ h=>aFn h)) (aA 0) (nomark _))))))))
theorem aLw(T:Tx K mg a):FnOk P w K mg base (CX1 P w) 9 a.a_1f a.d_1f aIM (spX K 1 pB) :=
 tJ (k:=8) T.f_1f.g hX λcdv A outer s H E hr hz=>show Ess _ K (ZR K (wishR E)) (defBody jN) b_1f from
  (aC (aQ (i:=1) hX.nd (cQ ((wW T).mono (by lia)) hr T.m_c T.k_c T.b_c (aB (aA 0) (aB aD aE)) (hlen:=λ_ _ h=>rQ h)))
  (aC (gE (cQ ((xF T).mono (by lia)) hr T.m_13 T.k_13 T.b_13 (aB (aA 1) aE) (hlen:=λ_ _ h=>vR h)) (iW rfl (aX (aK (i:=2) hX.nd) (aX (aK (i:=3) hX.nd) (aX (aK (i:=4) hX.nd) eQ)))))
  (aC (aQ (i:=5) hX.nd (cQ ((xS T).mono (by lia)) hr T.m_1b T.k_1b T.b_1b (aB (cQ ((nX T).mono (by lia)) hr T.m_14 T.k_14 T.b_14 (aB (aA 1) (aB (aA 2) (aB (aA 3) (aB (aA 4) (aB aD aE))))) (hlen:=λ_ _ h=>nD h)) aE) (hlen:=λ_ _ h=>vM h)))
  (aC (aQ (i:=1) hX.nd (cQ ((wW T).mono (by lia)) hr T.m_c T.k_c T.b_c (aB (aA 0) (aB aD aE)) (hlen:=λ_ _ h=>rQ h)))
  (aC (aQ (i:=6) hX.nd (fW (aB (aA 5) aE)))
  (aC (lD PassesOwn.leaving rfl (iT T.z_range (aW callLen rfl T.z_len aAS (aB (aA 5) aE))) (aK (i:=7) hX.nd)
  (aC (aQ (i:=8) hX.nd (cQ ((aZ T).mono (by lia)) hr T.m_d T.k_d T.b_d (aB (aA 1) (aB aD aE)) (hlen:=λ_ _ h=>aV h)))
  (aF (jJ (gB (aA 6) (aS opAdd (aS opAdd (bO (aA 5) gO (dQ (aA 7))) (aN (eB (aB aO (aB (aS opRepT (aN (aA 5) (aA 7)) aD) (aB (cQ ((aCe T).mono (by lia)) hr T.m_1d T.k_1d T.b_1d (aB (aA 1) aE) (hlen:=λ_ _ h=>xT h)) aE)))) (aA 8))) (bO (aA 5) (dQ (aS opAdd (aA 7) aD)) gO)))))))
  (aF (aJ (aW (callAllB rfl) rfl T.z_all aLv (aB (dY rfl (CompOk.of (N0:=aIW) (sc0:=defScope jN) (Nc:=["_law_one"]) (js:=[none]) (by decide +kernel)) (kP (aS opAdd (aA 6) (bO (aA 6) gO (dQ aD)))) (λ_ _ _ _ _ _=>(aK (i:=0) (show(["_law_one"]:List Str).Nodup by decide +kernel))) (λ_ _ _ _ _ _=>dF) (λ_ _ _ _ _ _=>(aCx ((yZ T).mono (by lia)) hr T.m_1e T.k_1e T.b_1e (aB (aA 0) aE) (hlen:=λ_ _ h=>wT h)))) aE))))))))))
open PySem L2 EV LS
local macro_rules | `(tactic| rfl') => `(tactic| repeat decreasing_trivial_pre_omega)
local macro_rules | `(tactic| decreasing_trivial_pre_omega) => `(tactic| with_reducible first
 | apply fA
 | apply aLf
 | apply qB
 | apply aKu
 | refine aDd (by with_unfolding_all exact rfl) ?_
 | apply aCb
 | apply aQz
 | apply aQt
 | apply aQq
 | apply aGk
 | apply eF
 | apply aQh
 | apply oR
 | apply aQl
 | apply aQp
 | apply aPp
 | apply aDt
 | apply aIl
 | apply aMs
 | apply aOx
 | apply aCh
 | apply aMy
 | apply aNd
 | apply aNj
 | (refine aFk ?hz ?_; case hz=>(with_unfolding_all first | exact rfl | decide | ((try simp only [aAU,true_and,and_true,aAK,aBJ,aGT,aBB,aEU]) <;> lia)))
 | (refine aOj ?hz ?_; case hz=>(with_unfolding_all first | decide | ((try simp only [mulOk,aAU,aAK,aBJ,aGT,aBB,aEU]) <;> lia)))
 | apply aNq
 | apply aNs
 | apply aPc
 | apply aQv
 | apply aGa
 | refine aOd (by with_unfolding_all exact rfl) ?_
 | refine bS (by with_unfolding_all exact rfl) ?_
 | refine zC (by with_unfolding_all exact rfl) ?_
 | refine yU (by assumption) (by with_unfolding_all exact rfl) ?_
 | refine yU (aBT (by simpa only [List.length_set])) (by with_unfolding_all exact rfl) ?_
 | apply lO
 | apply aJa
 | apply nM
 | apply aPo
 | apply aIs
 | apply aNw
 | apply aQs
 | refine aMr (by with_unfolding_all exact rfl) (by with_unfolding_all simp) ?_
 | refine aNb (by with_unfolding_all exact rfl) (by with_unfolding_all simp) ?_
 | refine aLi (by with_unfolding_all exact rfl) (by with_unfolding_all simp) ?_
 | apply aJo
 | apply aIz
 | apply aJc
 | apply aHg
 | refine aJu (by assumption) ?_
 | apply aPe
 | apply aNo
 | apply aOl
 | apply aNk
 | apply aNe
 | apply aNm
 | refine aPw (s:=⟨[],none⟩) ?_
 | apply aMt
 | apply aFw
 | apply aPx
 | apply aPf
 | apply zH
 | apply aLj
 | apply aKt
 | apply aPz
 | apply aNz
 | apply aLu
 | refine aMa (by with_unfolding_all exact rfl) ?_
 | apply aIu
 | refine aPs (by with_unfolding_all exact rfl) ?_
 | refine aMo (by with_unfolding_all exact rfl) ?_
 | refine ⟨_,rfl,?_⟩
 | refine ⟨_,_,_,_,rfl,rfl,by assumption,by with_unfolding_all exact rfl,?_⟩
 | refine ⟨_,_,_,_,rfl,rfl,aBT (by simpa only [List.length_set]),by with_unfolding_all exact rfl,?_⟩
 | refine jZ (by with_unfolding_all decide) ?_
 | refine hW (by with_unfolding_all decide) ?_
 | refine ⟨fun h=>absurd h (by with_unfolding_all decide),fun _=>?_⟩
 | refine ⟨fun _=>?_,fun h=>absurd h (by with_unfolding_all decide)⟩
 | refine ⟨_,_,rfl,?_⟩
 | refine ⟨_,_,_,rfl,?_⟩)
theorem aY{b:Nat}{m:Int}(h:Bx M b)(h0:0 < m)(h1:m < 18446744073709551616):Ok (bA [.ref b,.d (.int m)] M) λw M'=>∃d:Int,w=.d (.int d)/\0<=d/\d < m/\Nx b M M':=by
 have hb:=h.lt
 obtain⟨x,y,z,e⟩:=h
 refine cU rfl ?_
 unfold b_d
 rfl'
 refine eX (λhx=>?_) (λhx=>?_)
 ·rfl'
  refine⟨aCU _ (by lia),aCB _ h0,x / m,y,z,?_⟩
  rw[aCO (by simp)];rfl
 ·rfl'
  refine⟨aCU _ (by lia),aCB _ h0,?_⟩
  rw[aCO (by simp)]
  exact⟨_,_,_,by rw[List.set_set];rfl⟩
theorem wN{k:Int}(h0:0<=k)(hl:ns.length<=63):Ok (lT [.d (.fz (ns.map D.int)),.d (.int k)] M) λw M'=>∃x y z,w=.ref M.length/\M'=M++[[.int x,.int y,.int z]]:=by
 refine aMc rfl ?_
 have at_:∀i:Int,0<=i->i < (ns.length:Int)->∃n,atI (ns.map D.int) i=some (.int n):=λi a b=>by
  have hi:i.toNat < ns.length:=by lia
  refine⟨ns[i.toNat],?_⟩
  simp only[atI,ixN,aAK]
  rw[aAH a,aAH b]
  simp[hi]
 unfold b_c
 rfl'
 refine eX (λhx=>?_) (λhx=>?_)
 ·rw[aAK]at hx
  obtain⟨n,e⟩:=at_ k h0 hx
  rfl'
  refine zC e ?_
  rfl'
  refine bS (atBox _) ?_
  rfl'
  exact⟨M.length,[.int _,.int _,.int _],rfl,aAI _,aEY,_,_,_,rfl,by rw[List.take_left]⟩
 ·rfl'
  refine eX (λhy=>?_) (λhy=>?_)
  ·rw[aAK]at hy
   obtain⟨n,e⟩:=at_ (k % ns.length) (aCU _ (by lia)) (aCB _ hy)
   rfl'
   rw[aAK]
   refine zC e ?_
   rfl'
   refine bS (atBox _) ?_
   rfl'
   exact⟨M.length,[.int _,.int _,.int _],rfl,aAI _,aEY,_,_,_,rfl,by rw[List.take_left]⟩
  ·rfl'
   refine bS (atBox _) ?_
   rfl'
   exact⟨M.length,[.int _,.int _,.int _],rfl,aAI _,aEY,_,_,_,rfl,by rw[List.take_left]⟩
theorem aAu{xs:List Nat}{j:Nat}(h:∀c∈xs.take j,isF c=true)(hj:j<=xs.length)(he:∀c,xs[j]?=some c->isF c=false):(xs.takeWhile isF).length=j:=by
 have e:xs=xs.take j++xs.drop j:=(List.take_append_drop j xs).symm
 have hs:calm (xs.drop j):=λc hc=>he c (by rw[List.head?_drop]at hc;exact hc)
 have t:=(aDe h hs).1
 rw[<- e]at t
 rw[t,aDP];lia
theorem figs(c:Nat):(!(Builtin.Str.occurrences (Str.ofString "0123456789") (T [c]) 0 (Str.ofString "0123456789").length 1).isEmpty)=isF c:=by
 rw[show T [c]=⟨#[c]⟩from rfl,StrLaws.found_one,dG]
 have:(T ("0123456789".toList.map Char.toNat)).cps.toList=List.range' 48 10:=by decide
 rw[this]
 unfold isF
 congr 1
 apply propext
 rw[List.mem_range'_1]
 exact⟨λh=>⟨h.1,Nat.le_of_lt_succ h.2⟩,λh=>⟨h.1,Nat.lt_succ_of_le h.2⟩⟩
variable{a:Nat}
theorem nN(hz:l.length<=16777216)(ha:a<=l.length):Ok (dR [.d (.str (T l)),.d (.int a)] M) λw M'=>w=.d (.int ((a+((l.drop a).takeWhile isF).length:Nat):Int))/\M'=M:=by
 unfold dR
 refine cU rfl ?_
 unfold b_0
 rfl'
 refine(fY (QS:=λo M'=>M'=M/\o=.nx [some (.d (.str (T l))),some (.d (.int a)),some (.d (.int ((a+((l.drop a).takeWhile isF).length:Nat):Int)))]) (I:=λm L M'=>∃j:Nat,m=l.length - (a+j)/\a+j<=l.length/\(∀c∈(l.drop a).take j,isF c=true)/\M'=M/\L=[some (.d (.str (T l))),some (.d (.int a)),some (.d (.int ((a+j:Nat):Int)))]) ?_ NW (l.length - a) _ _ ⟨0,by lia,by lia,by simp,rfl,by simp⟩ (by rw[sM];lia)).mono ?_
 ·rintro m L M' ⟨j,rfl,hj,hf,rfl,rfl⟩
  have hd:(l.drop a).length=l.length - a:=by simp
  rfl'
  refine iX (by rw[bQ];exact hz) ?_
  rw[bQ]
  rfl'
  refine⟨λh=>?_,λh=>?_⟩
  ·have hlt:a+j < l.length:=by have:=aCI h;lia
   have hat:atI l ((a+j:Nat):Int)=some l[a+j]:=by
    simp only[atI,ixN]
    rw[aAH (by lia),aAH (by lia)]
    rw[aBF];simp[hlt]
   rfl'
   refine pE hat hz ?_
   rfl'
   rw[figs]
   have hjd:(l.drop a)[j]?=some l[a+j]:=by rw[List.getElem?_drop];simp[hlt]
   refine⟨λhc=>?_,λhc=>⟨rfl,?_⟩⟩
   ·refine aAa rfl (aCb (aFk rfl ?_))
    refine⟨l.length - (a+(j+1)),by lia,j+1,rfl,by lia,?_,rfl,by simp;lia⟩
    intro c hc'
    rw[aCQ,hjd]at hc'
    rcases aBH.mp hc' with hc'|hc'
    ·exact hf c hc'
    ·simp at hc';subst hc';exact hc
   ·rw[aAu hf (by lia) (λc hc'=>by rw[hjd]at hc';cases hc';exact hc)]
  ·have hge:l.length<=a+j:=by have:=aCW h;lia
   refine⟨λh=>(by cases h),λ_=>⟨rfl,?_⟩⟩
   rw[aAu hf (by lia) (λc hc'=>by rw[aDW (by lia)]at hc';cases hc')]
 ·rintro _ _ ⟨rfl,rfl⟩
  rfl'
  exact⟨rfl,aAC⟩
theorem vC:(l.takeWhile isF).length < l.length ↔ ¬l.all isF=true:=by
 induction l with
 |nil=>simp
 |cons c r ih =>
  rw[aEG]
  by_cases h:isF c=true
  ·simp only[h,aDI,aBJ,aCY,Bool.true_and]
   rw[<- ih];lia
  ·simp[h]
noncomputable def optI:Option Nat->D
 |some n=>.int n
 |none=>.non
theorem gH(hz:l.length<=16777216)(hm:m<=640):Ok (dM [.d (.str (T l)),.d (.int m)] M) λw M'=>w=.d (optI (num? m l))/\M'=M:=by
 unfold dM
 refine cU rfl ?_
 unfold b_1
 refine fA (eF (Ok.mono (Q:=λc M'=>M'=M/\(c=true ↔ (l=[]\/m < l.length))) ?_ ?_))
 ·rfl'
  have e:(T l==Str.ofString "")=decide (l=[]):=by rw[dG,gY];rfl
  rw[e]
  refine⟨λh=>⟨rfl,by simp at h;simp[h]⟩,λh=>?_⟩
  rfl'
  refine iX (by rw[bQ];exact hz) ?_
  rw[bQ]
  rfl'
  refine⟨rfl,?_⟩
  simp only[aFZ]at h
  simp[h]
 rintro c M ⟨rfl,hc⟩
 refine kD (λh=>?_) (λh=>?_)
 ·have:=hc.mp h
  rfl'
  rw[aAC]
  refine⟨?_,rfl⟩
  unfold num?
  rw[aAH (by rcases this with h|h <;> simp[h])];rfl
 have h1:¬(l=[]\/m < l.length):=λz=>by rw[hc.mpr z]at h;cases h
 clear hc h
 rfl'
 refine(nN (l:=l) (a:=0) hz (by lia)).mono ?_
 rintro _ M ⟨rfl,rfl⟩
 rfl'
 refine iX (by rw[bQ];exact hz) ?_
 rw[bQ]
 rfl'
 refine eX (λh=>?_) (λh=>?_)
 ·have h2:¬l.all isF=true:=vC.mp (by simp only[aFU]at h;lia)
  rfl'
  rw[aAC]
  refine⟨?_,rfl⟩
  unfold num?
  rw[aAH (by simp[h2])];rfl
 have h2:l.all isF=true:=aBZ λz=>h (by have:=vC.mpr z;simp only[aFU];lia)
 refine oR ?_
 obtain⟨c,r,rfl⟩:∃c r,l=c::r:=by
  cases l with
  |nil=>simp at h1
  |cons c r=>exact⟨c,r,rfl⟩
 refine fA (eF (Ok.mono (Q:=λb M'=>M'=M/\(b=true ↔ (c=48/\1 < (c::r).length))) ?_ ?_))
 ·rfl'
  refine pE (c:=c) (by simp[atI,ixN]) hz ?_
  rfl'
  have e:(T [c]==Str.ofString "0")=decide (c=48):=by rw[dG,gY];simp
  rw[e]
  refine⟨λh=>?_,λh=>⟨rfl,?_⟩⟩
  ·rfl'
   refine iX (by rw[bQ];exact hz) ?_
   rw[bQ]
   rfl'
   refine⟨rfl,?_⟩
   simp only[aAU]at h ⊢
   constructor
   ·intro z;exact⟨h,by lia⟩
   ·rintro⟨_,z⟩;lia
  ·simp only[aFZ]at h
   simp[h]
 rintro b M ⟨rfl,hb⟩
 refine kD (λh=>?_) (λh=>?_)
 ·have:=hb.mp h
  rfl'
  rw[aAC]
  refine⟨?_,rfl⟩
  unfold num?
  rw[aAH (.inr (.inr (.inr ⟨by simp[this.1],this.2⟩)))];rfl
 have h3:¬(c=48/\1 < (c::r).length):=λz=>by rw[hb.mpr z]at h;cases h
 have e:num? m (c::r)=some (NumText.digitsVal (c::r)):=by
  unfold num?
  rw[aAL]
  rintro(z|z|z|⟨z,z'⟩)
  ·exact h1 (.inl z)
  ·exact h1 (.inr z)
  ·exact z h2
  ·simp at z;exact h3 ⟨z,z'⟩
 obtain⟨i1,i2⟩:=kA e hm
 rfl'
 refine aAp i1 (by rw[bQ];exact i2) ?_
 rfl'
 rw[e,aAC]
 exact⟨rfl,rfl⟩
theorem cM(s:String)(c:Nat)(h:s.toList.map Char.toNat=[c]):Str.ofString s=T [c]:=by rw[dG,h]
theorem iK(l:List α)(a:Nat):cut l (some (a:Int)) none=l.drop a:=by
 unfold cut
 rw[HT.sIx_nat,HT.sIx_none]
 by_cases ha:a<=l.length
 ·rw[show min a l.length=a by lia,aCO (by simp)]
 ·rw[show min a l.length=l.length by lia,aCE (aAI _),aCE (by lia)]
  simp
theorem vQ(l:List α)(a:Nat):cut l none (some (a:Int))=l.take a:=by
 unfold cut
 rw[HT.sIx_nat,HT.sIx_none,aFU,Nat.sub_zero]
 by_cases ha:a<=l.length
 ·rw[show min a l.length=a by lia]
 ·rw[show min a l.length=l.length by lia,aAC,aCO (by lia)]
variable{w:List Nat}
theorem eE(hz:w.length<=16777216):Ok (bY [.d (.str (T [c])),.d (.str (T w))] M) λr M'=>r=.d (optI (nb c w))/\M'=M:=by
 unfold bY
 refine cU rfl ?_
 unfold b_b
 rfl'
 refine rJ ?_
 rw[uV]
 rfl'
 refine jR (λh=>?_) (λh=>?_)
 ·rfl'
  refine oP hz ?_
  rw[show(1:Int)=((1:Nat):Int)from rfl,iK]
  rfl'
  refine(gH (m:=7) (by simp;lia) (by lia)).mono ?_
  rintro _ M ⟨rfl,rfl⟩
  rfl'
  rw[aAC]
  unfold nb
  rw[aAH h]
  exact⟨rfl,rfl⟩
 ·rfl'
  rw[aAC]
  unfold nb
  rw[aAL h]
  exact⟨rfl,rfl⟩
noncomputable def wordsD(ws:List (List Nat)):List D:=ws.map λw=>.str (T w)
theorem xY{xs:List (List Nat)}{j:Nat}(h:∀c∈xs.take j,hx c=true)(hj:j<=xs.length)(he:∀c,xs[j]?=some c->hx c=false):(xs.takeWhile hx)=xs.take j/\xs.dropWhile hx=xs.drop j:=by
 induction xs generalizing j with
 |nil=>simp
 |cons x r ih =>
  cases j with
  |zero =>
   have:=he x rfl
   simp[aEG,aFI,this]
  |succ j =>
   have hx':=h x (by simp)
   have:=ih (j:=j) (λc hc=>h c (by simp[hc])) (by simp at hj;lia) (λc hc=>he c (by simpa using hc))
   simp[aEG,aFI,hx',this]
theorem iO:(os.map optI).any noD=(allS os).isNone:=by
 induction os with
 |nil=>rfl
 |cons o r ih =>
  cases o with
  |none=>rfl
  |some n =>
   simp only[aAV,aDK,ih,allS,Option.isNone_map]
   rfl
variable{xs:List Nat}
theorem nA(h:allS os=some xs):os.map optI=xs.map λk=>D.int (k:Nat):=by
 induction os generalizing xs with
 |nil=>cases h;rfl
 |cons o r ih =>
  cases o with
  |none=>cases h
  |some n =>
   simp only[allS,aAR]at h
   obtain⟨ys,h,rfl⟩:=h
   simp only[aAV,ih h];rfl
noncomputable section
def optD:Option Dd->D
 |some d=>encD d
 |none=>.non
theorem jY(os:List (Option Nat)):deps (os.map optI)<=1:=by
 induction os with
 |nil=>simp[deps]
 |cons o r ih=>cases o <;> simp[deps,optI,dep] <;> lia
def gW(c:Nat):D->D
 |.str t=>optI (nb c t.cps.toList)
 |_=>.non
theorem rK(c:Nat)(ws:List (List Nat)):(wordsD ws).map (gW c)=(ws.map (nb c)).map optI:=by
 simp[wordsD,gW,T]
theorem qO{s:Nat}{ws:List (List Nat)}(hl:ws.length<=16777216)(hz:∀w∈ws,w.length<=16777216):Ok (gJ [.d (.int s),.d (.int c),.d (.lst (wordsD ws))] M) λr M'=>r=.d (optD (rdA s c ws))/\M'=M:=by
 unfold gJ
 refine cU rfl ?_
 unfold b_a
 rfl'
 refine(fY (QS:=λo M'=>M'=M/\∃j:Nat,o=.nx [some (.d (.int s)),some (.d (.int c)),some (.d (.lst (wordsD ws))),some (.d (.int j)),none,none]/\ws.takeWhile hx=ws.take j/\ws.dropWhile hx=ws.drop j) (I:=λm L M'=>∃j:Nat,m=ws.length - j/\j<=ws.length/\(∀c∈ws.take j,hx c=true)/\M'=M/\L=[some (.d (.int s)),some (.d (.int c)),some (.d (.lst (wordsD ws))),some (.d (.int j)),none,none]) ?_ NW ws.length _ _ ⟨0,by lia,by lia,by simp,rfl,by simp⟩ (by rw[sM];lia)).mono ?_
 ·rintro m L M' ⟨j,rfl,hj,hf,rfl,rfl⟩
  rfl'
  refine⟨λh=>?_,λh=>?_⟩
  ·have hlt:j < ws.length:=by have:=aCI h;simp[wordsD]at this;lia
   have hat:atI (wordsD ws) (j:Int)=some (.str (T ws[j])):=by
    simp only[atI,ixN]
    rw[aAH (by lia),aAH (by simp[wordsD];lia)]
    rw[aBF];simp[wordsD,hlt]
   rfl'
   refine bS hat ?_
   rfl'
   rw[cM "x" 120 rfl]
   refine rJ ?_
   rw[uV]
   have hjd:ws[j]?=some ws[j]:=by simp[hlt]
   rfl'
   refine⟨λhc=>?_,λhc=>⟨rfl,j,rfl,?_⟩⟩
   ·refine aAa rfl (aCb (aFk rfl ?_))
    refine⟨ws.length - (j+1),by lia,j+1,rfl,by lia,?_,rfl,by simp⟩
    intro c hc'
    rw[aCQ,hjd]at hc'
    rcases aBH.mp hc' with hc'|hc'
    ·exact hf c hc'
    ·simp at hc';subst hc';exact hc
   ·exact xY hf (by lia) (λc hc'=>by rw[hjd]at hc';cases hc';exact hc)
  ·have hge:ws.length<=j:=by have:=aCW h;simp[wordsD]at this;lia
   refine⟨λh=>(by cases h),λ_=>⟨rfl,j,rfl,?_⟩⟩
   exact xY hf (by lia) (λc hc'=>by rw[aDW (by lia)]at hc';cases hc')
 ·rintro _ M ⟨rfl,j,rfl,e1,e2⟩
  have ht:ws.takeWhile hx ⊆ ws:=(List.takeWhile_sublist hx).subset
  have hd:ws.dropWhile hx ⊆ ws:=(List.dropWhile_sublist hx).subset
  have lt:(ws.takeWhile hx).length<=ws.length:=(List.takeWhile_sublist hx).length_le
  have ld:(ws.dropWhile hx).length<=ws.length:=(List.dropWhile_sublist hx).length_le
  rfl'
  refine dJ ?_
  rfl'
  refine fX ?_
  rw[vQ,show(wordsD ws).take j=wordsD (ws.takeWhile hx) by rw[e1];simp[wordsD]]
  refine⟨_,rfl,gW 120,by simp only[wordsD,aAK];lia,(λt e=>by cases e),?_,?_⟩
  ·intro d hd' acc
   obtain⟨w,hw,rfl⟩:=aBE.mp hd'
   rfl'
   rw[cM "x" 120 rfl]
   exact eE (hz w (ht hw))
  rw[rK]
  rfl'
  refine dJ ?_
  rfl'
  refine fX ?_
  rw[iK,show(wordsD ws).drop j=wordsD (ws.dropWhile hx) by rw[e2];simp[wordsD]]
  refine⟨_,rfl,gW 115,by simp only[wordsD,aAK];lia,(λt e=>by cases e),?_,?_⟩
  ·intro d hd' acc
   obtain⟨w,hw,rfl⟩:=aBE.mp hd'
   rfl'
   rw[cM "s" 115 rfl]
   exact eE (hz w (hd hw))
  rw[rK]
  have q1:=jY ((ws.takeWhile hx).map (nb 120))
  have q2:=jY ((ws.dropWhile hx).map (nb 115))
  refine qB (fA (eF ?_))
  unfold rdA
  rfl'
  refine pQ (xs:=((ws.takeWhile hx).map (nb 120)).map optI) rfl (by lia) ?_
  rw[iO]
  cases h1:allS ((ws.takeWhile hx).map (nb 120))with
  |none =>
   rfl'
   rw[aAC]
   exact⟨rfl,rfl⟩
  |some gs =>
   rw[aHJ]
   rfl'
   refine pQ (xs:=((ws.dropWhile hx).map (nb 115)).map optI) rfl (by lia) ?_
   rw[iO]
   cases h2:allS ((ws.dropWhile hx).map (nb 115))with
   |none =>
    rfl'
    rw[aAC]
    exact⟨rfl,rfl⟩
   |some ts =>
    rw[nA h1,nA h2,aHJ]
    rfl'
    refine jD rfl ?_
    rfl'
    refine jD rfl ?_
    rfl'
    rw[aAC]
    exact⟨rfl,rfl⟩
theorem dZ{xs:List D}{k:Nat}{d:D}(h:xs[k]?=some d):atI xs (k:Int)=some d:=by
 have:=(aAE.mp h).1
 simp only[atI,ixN]
 rw[aAH (by lia),aAH (by lia),aBF];exact h
theorem pH(hz:l.length < 16777216):Ok (fL [.d (.str (T l))] M) λr M'=>r=.d (optD (rdD (spl 32 l)))/\M'=M:=by
 have hw:∀w∈spl 32 l,w.length<=16777216:=λw h=>by have:=eK h;lia
 have hn:=gU 32 l
 unfold fL
 refine cU rfl ?_
 unfold b_9
 rfl'
 rw[cM " " 32 rfl]
 refine iR (by rw[bQ];decide) (by rw[bQ];exact hz) ?_
 rw[fZ,aCL,show(spl 32 l).map (D.str ∘ T)=wordsD (spl 32 l)from rfl]
 generalize spl 32 l=ws at *
 rfl'
 rw[show(wordsD ws).length=ws.length by simp[wordsD]]
 match ws,hw,hn with
 |[],_,_ =>
  refine jZ (by simp) ?_
  rfl'
  rw[aAC]
  exact⟨rfl,rfl⟩
 |[_],_,_ =>
  refine jZ (by simp) ?_
  rfl'
  rw[aAC]
  exact⟨rfl,rfl⟩
 |[_,_],_,_ =>
  refine jZ (by simp) ?_
  rfl'
  rw[aAC]
  exact⟨rfl,rfl⟩
 |w0::w1::w2::r,hw,hn =>
  refine hW (by simp;lia) ?_
  rfl'
  rw[cM "s" 115 rfl]
  simp only[wordsD,aAV]
  rfl'
  refine bS (dZ (k:=0) rfl) ?_
  rfl'
  refine(eE (hw w0 (by simp))).mono ?_
  rintro _ M ⟨rfl,rfl⟩
  rfl'
  refine bS (dZ (k:=2) rfl) ?_
  rfl'
  refine(gH (m:=7) (hw w2 (by simp)) (by lia)).mono ?_
  rintro _ M ⟨rfl,rfl⟩
  cases h0:nb 115 w0 with
  |none =>
   rfl'
   rw[aAC]
   exact⟨by simp only[rdD,h0];rfl,rfl⟩
  |some s =>
   rw[show optI (some s)=.int s from rfl]
   cases h2:num? 7 w2 with
   |none =>
    rfl'
    refine⟨λh=>by simp[isN]at h,λ_=>?_⟩
    rfl'
    rw[aAC]
    exact⟨by simp only[rdD,h0,h2];rfl,rfl⟩
   |some c =>
    rw[show optI (some c)=.int c from rfl]
    rfl'
    refine⟨λh=>by simp[isN]at h,λ_=>?_⟩
    rfl'
    refine hW (by simp[isN]) ?_
    rfl'
    refine bS (dZ (k:=1) rfl) ?_
    rfl'
    rw[cM "*" 42 rfl,gY]
    by_cases h1:w1=[42]
    ·subst h1
     refine⟨λ_=>?_,λh=>by simp at h⟩
     cases r with
     |nil =>
      rfl'
      refine jZ (by simp) ?_
      rfl'
      rw[aAC]
      exact⟨by simp only[rdD,h0,h2];rfl,rfl⟩
     |cons x r =>
      rfl'
      refine hW (by simp;lia) ?_
      rfl'
      refine bS (dZ (k:=1) rfl) ?_
      rfl'
      rw[aAC]
      exact⟨by simp only[rdD,h0,h2];rfl,rfl⟩
    ·refine⟨λh=>absurd (aCI h) h1,λ_=>?_⟩
     rfl'
     refine bS (dZ (k:=1) rfl) ?_
     rfl'
     rw[cM "+" 43 rfl,gY]
     refine eX (λh3=>?_) (λh3=>?_)
     ·subst h3
      rfl'
      refine fX ?_
      rw[show(3:Int)=((3:Nat):Int)from rfl,iK]
      rfl'
      refine(qO (ws:=r) (by simp at hn;lia) (λw h=>hw w (by simp[h]))).mono ?_
      rintro _ M ⟨rfl,rfl⟩
      cases hr:rdA s c r with
      |none =>
       rfl'
       rw[aAC]
       refine⟨?_,rfl⟩
       simp only[rdD,h0,h2]
       rw[aAL (λz=>h1 z.1),aAH trivial,hr]
      |some d =>
       rw[show optD (some d)=encD d from rfl]
       rfl'
       rw[aAC]
       refine⟨?_,rfl⟩
       simp only[rdD,h0,h2]
       rw[aAL (λz=>h1 z.1),aAH trivial,hr];rfl
     ·rfl'
      rw[aAC]
      refine⟨?_,rfl⟩
      simp only[rdD,h0,h2]
      rw[aAL (λz=>h1 z.1),aAL h3];rfl
theorem kW:∀xs ys:List (List Nat),eqDs (wordsD xs) (wordsD ys)=decide (xs=ys)
 |[],[]=>rfl
 |[],_::_=>rfl
 |_::_,[]=>rfl
 |x::xs,y::ys=>by
  show(T x==T y&&eqDs (wordsD xs) (wordsD ys))=_
  rw[gY,kW xs ys]
  simp[Bool.decide_and]
theorem iU(xs:List (List Nat)):deps (wordsD xs)<=1:=by
 induction xs with
 |nil=>simp[wordsD,deps]
 |cons x r ih=>simp only[wordsD,aAV,deps,dep]at ih ⊢;lia
theorem cA(x y:α)(r:List α):two 0 (x::y::r)=x::two 0 r:=by
 unfold two
 rw[show((x::y::r).length+1 - 0) / 2=(r.length+1 - 0) / 2+1 by simp only[aBJ];lia,aES]
 simp only[aCG,aFS]
 rfl
theorem lX(x y:α)(r:List α):two 1 (x::y::r)=y::two 1 r:=by
 unfold two
 rw[show((x::y::r).length+1 - 1) / 2=(r.length+1 - 1) / 2+1 by simp only[aBJ];lia,aES]
 simp only[aCG,aFS]
 rfl
theorem sB(a:Nat)(ws:List (List Nat)):two a (wordsD ws)=wordsD (two a ws):=by
 unfold two wordsD
 rw[aAK,List.map_filterMap]
 congr 1
 funext k
 simp
theorem sD(a:Nat):two a ([]:List α)=[]:=by simp[two]
theorem sV(x:α):two 0 [x]=[x]:=by
 unfold two
 rw[show([x].length+1 - 0) / 2=0+1 by simp,aES]
 rfl
theorem aOo(x:α):two 1 [x]=[]:=by
 unfold two
 rw[show([x].length+1 - 1) / 2=0 by simp]
 rfl
theorem aJl{xs:List α}{x:α}(h:x∈two a xs):x∈xs:=by
 obtain⟨k,_,h⟩:=aHM.mp h
 exact aCD h
theorem aHn{xs:List α}{a b c:α}(h:two 0 xs=[a,b,c]):∃x y,(xs=[a,x,b,y,c]\/∃z,xs=[a,x,b,y,c,z]):=by
 match xs with
 |[]=>rw[sD]at h;cases h
 |[x]=>rw[sV]at h;cases h
 |[x,y]=>rw[cA,sD]at h;cases h
 |[x,y,z]=>rw[cA,sV]at h;cases h
 |[x,y,z,u]=>rw[cA,cA,sD]at h;cases h
 |[x,y,z,u,v]=>rw[cA,cA,sV]at h;cases h;exact⟨_,_,.inl rfl⟩
 |[x,y,z,u,v,w]=>rw[cA,cA,cA,sD]at h;cases h;exact⟨_,_,.inr ⟨_,rfl⟩⟩
 |[x,y,z,u,v,w,t]=>rw[cA,cA,cA,sV]at h;cases h
 |x::y::z::u::v::w::t::s::r=>rw[cA,cA,cA,cA]at h;cases h
def optH:Option (Nat×Nat×Nat)->D
 |some (n,g,s)=>.tup [.int n,.int g,.int s]
 |none=>.non
def gN7:D->D
 |.str t=>optI (num? 7 t.cps.toList)
 |_=>.non
end
variable{a x:Int}
theorem rng3{QT:Bool->Mm->Prop}{b:Int}(hf:L[i]?=some (some (.d (.int x))))(q:QT (decide (a<=x/\x<=b)) M):Ok (EV.tB (e3c pLe pLe (eC (.int a)) (eV i) (eC (.int b))) L M) QT:=by
 refine aGk (xO (aCb (aDd hf ?_)))
 rfl'
 refine⟨λh=>?_,λh=>?_⟩
 ·have h:=aCI h
  rfl'
  simpa[h]using q
 ·have h:=aCW h
  rfl'
  simpa[h]using q
theorem pL(hz:l.length < 16777216):Ok (fP [.d (.str (T l))] M) λr M'=>r=.d (optH (rdH (spl 32 l)))/\M'=M:=by
 have hw:∀w∈spl 32 l,w.length<=16777216:=λw h=>by have:=eK h;lia
 have hn:=gU 32 l
 have hne:=kT 32 l
 unfold fP
 refine cU rfl ?_
 unfold b_8
 rfl'
 rw[cM " " 32 rfl]
 refine iR (by rw[bQ];decide) (by rw[bQ];exact hz) ?_
 rw[fZ,aCL,show(spl 32 l).map (D.str ∘ T)=wordsD (spl 32 l)from rfl]
 generalize spl 32 l=ws at *
 rfl'
 refine aAi ?_
 rfl'
 refine aFo (xs:=wordsD ws) rfl (by lia) (by simp[wordsD]) ?_
 rw[sB]
 rfl'
 refine lW (a:=.lst (wordsD (two 0 ws))) (b:=.lst (wordsD [wRest,wGivens,wShelves])) rfl (by show some (D.lst [D.str (Str.ofString "rest"),D.str (Str.ofString "givens"),D.str (Str.ofString "shelves")])=_;rw[dG,dG,dG];rfl) (by have:=iU (two 0 ws);have:=iU [wRest,wGivens,wShelves];simp only[dep];lia) ?_
 rw[show eqD (.lst (wordsD (two 0 ws))) (.lst (wordsD [wRest,wGivens,wShelves]))=decide (two 0 ws=[wRest,wGivens,wShelves])from kW _ _]
 rfl'
 refine jR (λh=>?_) (λh=>?_)
 ·obtain⟨x,y,e⟩:=aHn h
  rfl'
  refine dJ ?_
  rfl'
  refine aAi ?_
  rfl'
  refine aFo (xs:=wordsD ws) rfl (by lia) (by have:=aFK.mpr hne;simp[wordsD];lia) ?_
  rw[show Int.toNat 1=1 from rfl,sB]
  refine⟨_,rfl,gN7,?_,(λt e=>by cases e),?_,?_⟩
  ·have:=zR 1 ws
   simp only[wordsD,aAK];lia
  ·intro d hd' acc
   obtain⟨w,hw',rfl⟩:=aBE.mp hd'
   rfl'
   exact gH (m:=7) (hw w (aJl hw')) (by lia)
  rcases e with e|⟨z,e⟩
  ·subst e
   rw[lX,lX,aOo,show({ds:=wordsD [x,y],k:=none}:Src).ds.map gN7=[optI (num? 7 x),optI (num? 7 y)]from rfl]
   rfl'
   refine⟨λ_=>?_,λh=>by simp at h⟩
   rfl'
   rw[aAC]
   exact⟨rfl,rfl⟩
  ·subst e
   rw[lX,lX,lX,sD,show({ds:=wordsD [x,y,z],k:=none}:Src).ds.map gN7=[optI (num? 7 x),optI (num? 7 y),optI (num? 7 z)]from rfl]
   have hno:(D.lst [optI (num? 7 x),optI (num? 7 y),optI (num? 7 z)])=.lst ([num? 7 x,num? 7 y,num? 7 z].map optI):=rfl
   have q:=jY [num? 7 x,num? 7 y,num? 7 z]
   refine qB (fA (eF ?_))
   rfl'
   refine⟨λh=>by simp at h,λ_=>?_⟩
   rfl'
   refine pQ (xs:=[num? 7 x,num? 7 y,num? 7 z].map optI) rfl (by lia) ?_
   rw[iO]
   cases hx:num? 7 x with
   |none =>
    refine⟨_,rfl,jZ rfl ?_⟩
    rfl'
    rw[aAC]
    exact⟨by simp only[rdH,hx];rfl,rfl⟩
   |some n =>
   cases hy:num? 7 y with
   |none =>
    refine⟨_,rfl,jZ rfl ?_⟩
    rfl'
    rw[aAC]
    exact⟨by simp only[rdH,hx,hy];rfl,rfl⟩
   |some g =>
   cases hz':num? 7 z with
   |none =>
    refine⟨_,rfl,jZ rfl ?_⟩
    rfl'
    rw[aAC]
    exact⟨by simp only[rdH,hx,hy,hz'];rfl,rfl⟩
   |some s =>
    simp only[allS,aEO,aHJ]
    rw[show optI (some n)=.int n from rfl,show optI (some g)=.int g from rfl,show optI (some s)=.int s from rfl]
    rfl'
    refine aKd ?_
    iterate 9 decreasing_trivial_pre_omega
    refine eF (Ok.mono (Q:=λb M'=>M'=M/\b=decide (¬((2<=n/\n<=1000000)/\g<=8/\1<=s/\s<=9))) ?_ ?_)
    ·refine nM (lO (rng3 rfl ?_))
     refine⟨λh=>⟨rfl,?_⟩,λh=>?_⟩
     ·simp at h;simp;lia
     have h1:(2:Int)<=n/\(n:Int)<=1000000:=by simpa using h
     refine nM ?_
     rfl'
     refine⟨λh=>⟨rfl,?_⟩,λh=>?_⟩
     ·simp at h;simp;lia
     have h2:¬(8:Int) < g:=by simpa using h
     refine lO (rng3 rfl ?_)
     refine⟨rfl,?_⟩
     rw[<- decide_not]
     congr 1
     apply propext
     lia
    ·rintro b M' ⟨rfl,rfl⟩
     refine eX (λh=>?_) (λh=>?_)
     ·rfl'
      rw[aAC]
      refine⟨?_,rfl⟩
      simp only[rdH,hx,hy,hz']
      rw[aAH (by simp),aAL h];rfl
     ·rfl'
      rw[aAC]
      refine⟨?_,rfl⟩
      simp only[rdH,hx,hy,hz']
      rw[aAH (by simp),aAH (Decidable.not_not.mp h)];rfl
 ·rfl'
  rw[aAC]
  refine⟨?_,rfl⟩
  rw[show rdH ws=none from ?_]
  ·rfl
  ·unfold rdH
   split
   ·rw[aAL]
    rintro⟨rfl,rfl,rfl⟩
    exact h (by rw[cA,cA,cA,sD])
   ·rfl
theorem uB{n k:Int}(hn:2<=n)(hn2:n<=1000000):Ok (iP [.d (.int n),.d (.int k)] M) λw M'=>M'=M/\((∃v,IsIv n k v/\w=.d (.int v))\/((¬∃v,IsIv n k v)/\w=.d .non)):=by
 unfold iP
 refine cU rfl ?_
 unfold b_2
 rfl'
 refine(fY (QS:=λo M'=>M'=M/\∃h p q t,o=.nx [some (.d (.int n)),some (.d (.int k)),some (.d (.int h)),some (.d (.int 0)),some (.d (.int p)),some (.d (.int q)),t]/\0 < h/\h<=n/\Cg n (p*k) h/\h ∣ n/\h ∣ k)
  (I:=λm L M'=>M'=M/\∃(h l p q:Int) (t:Option W),L=[some (.d (.int n)),some (.d (.int k)),some (.d (.int h)),some (.d (.int l)),some (.d (.int p)),some (.d (.int q)),t]/\m=l.toNat/\0 < h/\h<=n/\0<=l/\l<=n/\Cg n (p*k) h/\Cg n (q*k) l/\∀c:Int,c ∣ h->c ∣ l->c ∣ n/\c ∣ k) ?_ NW (k % n).toNat _ _
  ⟨rfl,n,k % n,0,1,none,rfl,rfl,by lia,by lia,aCU _ (by lia),Int.le_of_lt (aCB _ (by lia)),⟨-1,by grind⟩,?_,?_⟩ ?_).mono ?_
 ·rintro m L _ ⟨rfl,h,l,p,q,t,rfl,rfl,h0,h1,l0,l1,c1,c2,hd⟩
  rfl'
  refine⟨λhl=>?_,λhl=>?_⟩
  ·have hl:0 < l:=by simpa using hl
   have e:h - h / l*l=h % l:=by rw[Int.emod_def,Int.mul_comm]
   have ht0:0<=h / l:=Int.ediv_nonneg (by lia) (by lia)
   have ht1:h / l<=h:=Int.ediv_le_self _ (by lia)
   rfl'
   rw[e]
   have em1:=aCU h (by lia:l≠0)
   have em2:=aCB h hl
   refine⟨(h % l).toNat,by lia,rfl,l,h % l,q,p - h / l*q,_,rfl,rfl,hl,by lia,em1,by lia,c2,?_,?_⟩
   ·rw[<- e]
    exact(Cg.of_eq (by grind)).trans (Cg.sub c1 (Cg.mul (Cg.rfl (a:=h / l)) c2))
   ·intro c g1 g2
    refine hd c ?_ g1
    have:=Int.dvd_add g2 (Int.dvd_trans g1 (Int.dvd_mul_left (h / l) l))
    rwa[<- e,show h - h / l*l+h / l*l=h by lia]at this
  ·have hl:l=0:=by simp at hl;lia
   subst hl
   have:=hd h (Int.dvd_refl h) (Int.dvd_zero h)
   exact⟨rfl,h,p,q,t,rfl,h0,h1,c1,this.1,this.2⟩
 ·exact(Cg.of_eq (by grind)).trans (Cg.mod (a:=k)).symm
 ·intro c g1 g2
  refine⟨g1,?_⟩
  have:=Int.dvd_add g2 (Int.dvd_trans g1 (Int.dvd_mul_right n (k / n)))
  rwa[Int.emod_add_mul_ediv]at this
 ·rw[sM];have:=aCB k (by lia:0 < n);lia
 ·rintro _ _ ⟨rfl,h,p,q,t,rfl,h0,h1,c1,d1,d2⟩
  have pn:=aCU p (by lia:n≠0)
  have pl:=aCB p (by lia:0 < n)
  rfl'
  refine jR (λhh=>?_) (λhh=>?_)
  ·subst hh
   rfl'
   refine⟨by simp,.inl ⟨p % n,⟨pn,pl,?_⟩,rfl⟩⟩
   exact Cg.emod ((Cg.mul Cg.rfl Cg.mod).trans ((Cg.of_eq (Int.mul_comm _ _)).trans c1))
  ·rfl'
   refine⟨by simp,.inr ⟨?_,rfl⟩⟩
   rintro⟨v,v0,v1,e⟩
   obtain⟨z,hz⟩:=Cg.of e
   have:h ∣ 1:=by
    have g1:h ∣ k*v:=aEJ d2
    rw[hz]at g1
    exact(Int.dvd_add_left (aEJ d1)).mp g1
   have:=Int.le_of_dvd (by lia) this
   lia
noncomputable def fok(m:Nat):Nat->List Nat->Bool
 |_,[]=>true
 |l,x::r=>if x < l\/m<=x then false else fok m x r
theorem tE{m:Nat}:∀{xs:List Nat} {l:Nat},fok m l xs=true ↔ (∀x∈xs,l<=x/\x < m)/\xs.Pairwise (·<=·)
 |[],l=>by simp[fok]
 |x::r,l=>by
  simp only[fok]
  split
  ·rename_i h
   simp only[aBG,aHH]
   rintro⟨h1,_⟩
   have:=h1 x (by simp)
   lia
  ·rename_i h
   rw[tE]
   constructor
   ·rintro⟨h1,h2⟩
    refine⟨?_,List.pairwise_cons.mpr ⟨λy hy=>(h1 y hy).1,h2⟩⟩
    intro y hy
    rcases aAO.mp hy with rfl|hy
    ·lia
    ·have:=h1 y hy;lia
   ·rintro⟨h1,h2⟩
    obtain⟨h3,h4⟩:=List.pairwise_cons.mp h2
    exact⟨λy hy=>⟨h3 y hy,(h1 y (by simp[hy])).2⟩,h4⟩
theorem iC :Ok (dD [.d (natsD xs),.d (.int m)] M) λw M'=>w=.d (.bl (decide (xs.length<=4)&&fok m 0 xs))/\M'=M:=by
 unfold dD
 refine cU rfl ?_
 unfold b_4 natsD
 rfl'
 refine eX (λh=>?_) (λh=>?_)
 ·rfl'
  rw[aAC]
  simp at h
  exact⟨by rw[aBI (by lia)];rfl,rfl⟩
 ·have h:xs.length<=4:=by simp at h;lia
  rw[aFV h,Bool.true_and]
  rfl'
  refine gP (λi L M'=>M'=M/\∃(l:Nat) (o:Option W),L=[some (.d (natsD xs)),some (.d (.int m)),some (.d (.int l)),o]/\fok m 0 xs=fok m l (xs.drop i)) ⟨rfl,0,none,rfl,rfl⟩ (λi L M _ _ t e=>by cases e) ?_ ?_
  ·rintro i d L M' hd ⟨rfl,l,o,rfl,e⟩
   obtain⟨x,hx,rfl⟩:∃x,xs[i]?=some x/\d=.int (x:Nat):=by
    rw[aBN]at hd
    obtain⟨x,hx,rfl⟩:=aAR.mp hd
    exact⟨x,hx,rfl⟩
   have hdr:xs.drop i=x::xs.drop (i+1):=by
    obtain⟨hi,rfl⟩:=aAE.mp hx
    exact aCA hi
   rw[hdr]at e
   simp only[fok]at e
   rfl'
   refine⟨λh=>?_,λh=>?_⟩
   ·rfl'
    rw[aAC,e,aAH (by simp at h;lia)]
    exact⟨rfl,rfl⟩
   ·rfl'
    refine eX (λh'=>?_) (λh'=>?_)
    ·rfl'
     rw[aAC,e,aAH (by lia)]
     exact⟨rfl,rfl⟩
    ·rfl'
     refine⟨rfl,x,_,rfl,?_⟩
     rw[e,aAL (by simp at h;lia)]
  ·rintro L M' ⟨rfl,l,o,rfl,e⟩
   rfl'
   rw[aAC,e]
   simp only[aAK,List.drop_length]
   exact⟨rfl,trivial⟩
noncomputable def okB(n:Int)(G S:Nat)(d:Dd):Prop:=OkD n G S d/\SrtD d
theorem rng3l{Q:W->Mm->Prop}{y:Int}(hf:L[i]?=some (some (.d (.int x))))(hg:L[j]?=some (some (.d (.int y))))(q:Q (.d (.bl (decide (a<=x/\x < y)))) M):Ok (e3c pLe pLt (eC (.int a)) (eV i) (eV j) L M) Q:=by
 refine(xO (aCb (aDd hf ?_)))
 rfl'
 refine⟨λh=>?_,λh=>?_⟩
 ·have h:=aCI h
  refine aDd hg ?_
  rfl'
  simpa[h]using q
 ·have h:=aCW h
  simpa[h]using q
variable{G:Nat}{d:Dd}
theorem tO(hn:2<=n)(hn2:n<=1000000):Ok (iQ [.d (.int n),.d (.int G),.d (.int S),.d (encD d)] M) λw M'=>(∃b:Bool,w=.d (.bl b)/\(b=true ↔ okB n G S d))/\M'=M:=by
 unfold iQ
 refine cU rfl ?_
 unfold b_3
 cases d with
 |scale s u =>
  simp only[encD]
  rfl'
  refine rng3l rfl rfl ?_
  refine⟨_,rfl,λh=>?_,λh=>?_⟩
  ·rfl'
   rw[aAC]
   refine⟨⟨false,rfl,?_⟩,rfl⟩
   simp at h
   simp only[aBG,aHH]
   rintro⟨⟨h1,h2⟩,_⟩
   lia
  have hs:s < S:=by simp at h;lia
  rfl'
  refine rng3l rfl rfl ?_
  refine⟨_,rfl,?_⟩
  refine jR (λhu=>?_) (λhu=>?_)
  ·rfl'
   refine(uB (by lia) (by lia)).mono ?_
   rintro _ M ⟨rfl,⟨v,hv,rfl⟩|⟨hv,rfl⟩⟩
   ·rfl'
    rw[aAC]
    exact⟨⟨_,rfl,by simpa[isN]using⟨⟨hs,hu.1,hu.2,v,hv⟩,trivial⟩⟩,rfl⟩
   ·rfl'
    rw[aAC]
    exact⟨⟨_,rfl,by simp only[isN,Bool.not_true,aBG,aHH];rintro⟨⟨_,_,_,h⟩,_⟩;exact hv h⟩,rfl⟩
  ·rfl'
   rw[aAC]
   refine⟨⟨false,rfl,?_⟩,rfl⟩
   simp only[aBG,aHH]
   rintro⟨⟨h1,h2,h3,_⟩,_⟩
   exact hu ⟨h2,h3⟩
 |add s c g t =>
  simp only[encD]
  rfl'
  refine rng3l rfl rfl ?_
  refine⟨_,rfl,λh=>?_,λh=>?_⟩
  ·rfl'
   rw[aAC]
   refine⟨⟨false,rfl,?_⟩,rfl⟩
   simp at h
   simp only[aBG,aHH]
   rintro⟨⟨h1,h2⟩,_⟩
   lia
  have hs:s < S:=by simp at h;lia
  rfl'
  refine rng3l rfl rfl ?_
  refine⟨_,rfl,?_⟩
  refine jR (λhu=>?_) (λhu=>?_)
  ·rfl'
   refine iC.mono ?_
   rintro _ M ⟨rfl,rfl⟩
   have e:okB n G S (.add s c g t) ↔ ((decide (g.length<=4)&&fok G 0 g)=true/\(decide (t.length<=4)&&fok S 0 t)=true/\s∉t):=by
    simp only[okB,OkD,SrtD,aBM,aAU,tE]
    constructor
    ·rintro⟨⟨h1,h2,h3,h4,h5,h6,h7,h8⟩,h9,h10⟩
     exact⟨⟨h7,λx hx=>⟨by lia,h4 x hx⟩,h9⟩,⟨h8,λx hx=>⟨by lia,h5 x hx⟩,h10⟩,h6⟩
    ·rintro⟨⟨h7,h4,h9⟩,⟨h8,h5,h10⟩,h6⟩
     exact⟨⟨hs,hu.1,hu.2,λx hx=>(h4 x hx).2,λx hx=>(h5 x hx).2,h6,h7,h8⟩,h9,h10⟩
   generalize(decide (g.length<=4)&&fok G 0 g)=b1 at *
   cases b1 with
   |false =>
    rfl'
    rw[aAC]
    exact⟨⟨false,rfl,by rw[e];simp⟩,rfl⟩
   |true =>
    rfl'
    refine iC.mono ?_
    rintro _ M ⟨rfl,rfl⟩
    generalize(decide (t.length<=4)&&fok S 0 t)=b2 at *
    cases b2 with
    |false =>
     rfl'
     rw[aAC]
     exact⟨⟨false,rfl,by rw[e];simp⟩,rfl⟩
    |true =>
     rfl'
     refine aLc (neg:=true) (xs:=t.map λk=>D.int (k:Nat)) rfl rfl (by simp[List.all_map,aGC,flatD,fv]) ?_
     rw[uT]
     rfl'
     rw[aAC]
     exact⟨⟨_,rfl,by rw[e];simp⟩,rfl⟩
  ·rfl'
   rw[aAC]
   refine⟨⟨false,rfl,?_⟩,rfl⟩
   simp only[aBG,aHH]
   rintro⟨⟨h1,h2,h3,_⟩,_⟩
   exact hu ⟨h2,h3⟩
variable{i:Int}
theorem qF(h0:0<=i)(h:i < 10000000):i.natAbs.log2 < 1920:=by
 by_cases hz:i.natAbs=0
 ·rw[hz];decide
 ·rw[Nat.log2_lt hz]
  exact aAP (show i.natAbs < 2 ^ 24 by lia) (Nat.pow_le_pow_right (by lia) (by lia))
theorem aAc(h0:0<=i):Str.ofString (toString i)=T (dig i.toNat):=by
 obtain⟨n,rfl⟩:=Int.eq_ofNat_of_zero_le h0
 exact aPq n
theorem zP(a:List Nat):Str.empty++T a=T a:=mE [] a
theorem dig7(h:i < 10000000):(dig i.toNat).length<=7:=zX (by lia) (by lia)
variable{QJ:Str->Mm->Prop}{j:FJ}{s:String}{y:List Nat}
theorem jlit0(hs:s.toList.map Char.toNat=y)(hz:y.length<=16777216)(h:Ok (j (T y) L M) QJ):Ok (jLit s j Str.empty L M) QJ:=by
 have e:Str.ofString s=T y:=by rw[dG,hs]
 rw[e]
 refine aAn (by rw[zP,bQ];exact hz) ?_
 rw[zP];exact h
theorem jlit(hs:s.toList.map Char.toNat=y)(hz:acc.length+y.length<=16777216)(h:Ok (j (T (acc++y)) L M) QJ):Ok (jLit s j (T acc) L M) QJ:=by
 have e:Str.ofString s=T y:=by rw[dG,hs]
 rw[e]
 refine aAn (by rw[mE,bQ,aBB];exact hz) ?_
 rw[mE];exact h
theorem jnum(hz:acc.length+7<=16777216)(h:Ok (f L M) λw M1=>∃i:Int,w=.d (.int i)/\0<=i/\i < 10000000/\Ok (j (T (acc++dig i.toNat)) L M1) QJ):Ok (jVal f j (T acc) L M) QJ:=by
 refine zH (h.mono ?_)
 rintro _ M1 ⟨i,rfl,h0,h1,q⟩
 have hl:=dig7 h1
 refine⟨T (dig i.toNat),?_,⟨by rw[bQ];lia,by rw[mE,bQ,aBB];lia⟩,?_⟩
 ·simp only[fmtD]
  rw[aAH (qF h0 h1),aAc h0]
 rw[mE];exact q
theorem jnil(hz:acc.length<=16777216)(q:QJ (T acc) M):Ok (jNil (T acc) L M) QJ:=aJs (by rw[bQ];exact hz) q
theorem rW{c:Nat}:∀{as bs:List (List Nat)},as≠[]->bs≠[]->joinL c (as++bs)=joinL c as++c::joinL c bs
 |[],_,h,_=>(h rfl).elim
 |[x],bs,_,h=>by rw[List.singleton_append,cN h];rfl
 |x::y::r,bs,_,h=>by
  have ih:=rW (c:=c) (as:=y::r) (bs:=bs) (by simp) h
  rw[aEZ,cN (r:=y::r++bs) (by simp),ih,cN (r:=y::r) (by simp)]
  simp
theorem zB{as bs:List (List Nat)}(h:as≠[]):joinL c (joinL c as::bs)=joinL c (as++bs):=by
 cases bs with
 |nil=>simp[joinL]
 |cons b bs=>rw[cN (by simp),rW h (by simp)]
noncomputable def gL(c:Nat):D->D
 |.int k=>.str (T (c::dig k.toNat))
 |_=>.non
theorem uN(c:Nat)(xs:List Nat):(xs.map λk=>D.int (k:Nat)).map (gL c)=(xs.map λk=>c::dig k).map λw=>D.str (T w):=by
 simp[gL]
theorem nC{a b:List D}:(M++[a]).set M.length b=M++[b]:=by simp
theorem nE{a:List D}:(M++[a])[M.length]?=some a:=by simp
theorem tY{ws:List (List Nat)}(h:∀w∈ws,w.length<=c):(ws.map List.length).sum<=c*ws.length:=by
 induction ws with
 |nil=>simp
 |cons w r ih =>
  have h1:=h w (by simp)
  have h2:=ih λx hx=>h x (by simp[hx])
  simp only[aAV,List.sum_cons,aBJ,Nat.mul_succ];lia
theorem mO{Q:W->Mm->Prop}{y:W}(h:sv M y=some (wordsD ws))(hz:(ws.map List.length).sum+ws.length<=16777216)(q:Q (.d (.str (T (joinL c ws)))) M):Ok (pJoin (T [c]) y M) Q:=by
 refine aIg (ys:=ws.map T) (by rw[h];simp[wordsD]) ?_ (by rw[wY];exact q)
 have e:((ws.map T).map (·.length))=ws.map List.length:=by rw[aCL];exact aFM λw _=>bQ w
 rw[e,aAK,bQ]
 simpa using hz
theorem aJd(s:Nat)(c:Int)(g t:List Nat):joinL 32 (([115]++dig s++[32,43,32]++dig c.toNat)::(g.map (λk=>120::dig k)++t.map λk=>115::dig k))=row (.add s c g t):=by
 have e:[115]++dig s++[32,43,32]++dig c.toNat=joinL 32 [sw s,[43],dig c.toNat]:=by simp[joinL,sw]
 rw[e,zB (by simp)]
 rfl
noncomputable def fw:Dd->Prop
 |.add _ _ g t=>g.length<=4/\t.length<=4
 |.scale _ _=>True
theorem qG(hf:Fg d)(h4:fw d):Ok (fK [.d (encD d)] M) λw M'=>w=.d (.str (T (row d)))/\M'=M:=by
 unfold fK
 refine cU rfl ?_
 unfold b_6
 cases d with
 |scale s u =>
  obtain⟨h1,h2,h3⟩:=hf
  simp only[encD]
  rfl'
  refine jlit0 (y:=[115]) rfl (by decide) (jnum (by decide) ?_)
  have l1:=dig7 (i:=(s:Int)) (by lia)
  have l2:=dig7 h3
  rfl'
  refine⟨by lia,by lia,jlit (y:=[32,42,32]) rfl (by simp at l1 ⊢;lia) (jnum (by simp at l1 ⊢;lia) ?_)⟩
  rfl'
  refine⟨h2,h3,jnil (by simp at l1 ⊢;lia) ?_⟩
  rfl'
  rw[aAC]
  exact⟨by simp[row,dw,joinL,sw],rfl⟩
 |add s c g t =>
  obtain⟨h1,h2,h3,hg,ht⟩:=hf
  obtain⟨hg4,ht4⟩:=h4
  have l1:=dig7 (i:=(s:Int)) (by lia)
  have l2:=dig7 h3
  simp only[encD,natsD]
  rfl'
  refine jlit0 (y:=[115]) rfl (by decide) (jnum (by decide) ?_)
  rfl'
  refine⟨by lia,by lia,jlit (y:=[32,43,32]) rfl (by simp at l1 ⊢;lia) (jnum (by simp at l1 ⊢;lia) ?_)⟩
  rfl'
  refine⟨h2,h3,jnil (by simp at l1 ⊢;lia) ?_⟩
  rfl'
  refine uE rfl (dJ ?_)
  rfl'
  refine⟨gL 120,by simp;lia,(λt e=>by cases e),?_,?_⟩
  ·intro d hd acc
   obtain⟨k,hk,rfl⟩:=aBE.mp hd
   have hk7:=hg k hk
   have l3:=dig7 (i:=(k:Int)) (by lia)
   rfl'
   refine jlit0 (y:=[120]) rfl (by decide) (jnum (by decide) ?_)
   rfl'
   refine⟨by lia,by lia,jnil (by simp at l3 ⊢;lia) ?_⟩
   exact⟨rfl,rfl⟩
  rw[uN]
  refine⟨_,_,nE,rfl,by simp;lia,?_⟩
  rw[nC]
  rfl'
  refine uE rfl (dJ ?_)
  rfl'
  refine⟨gL 115,by simp;lia,(λt e=>by cases e),?_,?_⟩
  ·intro d hd acc
   obtain⟨k,hk,rfl⟩:=aBE.mp hd
   have hk7:=ht k hk
   have l3:=dig7 (i:=(k:Int)) (by lia)
   rfl'
   refine jlit0 (y:=[115]) rfl (by decide) (jnum (by decide) ?_)
   rfl'
   refine⟨by lia,by lia,jnil (by simp at l3 ⊢;lia) ?_⟩
   exact⟨rfl,rfl⟩
  rw[uN]
  refine⟨_,_,nE,rfl,by simp;lia,?_⟩
  rw[nC]
  rfl'
  rw[cM " " 32 rfl]
  refine mO (ws:=([115]++dig s++[32,43,32]++dig c.toNat)::(g.map (λk=>120::dig k)++t.map λk=>115::dig k)) (by simp[sv,lr,lv,wordsD]) ?_ ?_
  ·have:=tY (c:=20) (ws:=([115]++dig s++[32,43,32]++dig c.toNat)::(g.map (λk=>120::dig k)++t.map λk=>115::dig k)) (by
    intro w hw
    rcases aAO.mp hw with rfl|hw
    ·simp at l1 ⊢;lia
    rcases aBH.mp hw with hw|hw
    ·obtain⟨k,hk,rfl⟩:=aBE.mp hw
     have hk7:=hg k hk
     have l3:=dig7 (i:=(k:Int)) (by lia)
     simp at l3 ⊢;lia
    ·obtain⟨k,hk,rfl⟩:=aBE.mp hw
     have hk7:=ht k hk
     have l3:=dig7 (i:=(k:Int)) (by lia)
     simp at l3 ⊢;lia)
   simp only[aBJ,aBB,aAK]at this ⊢
   lia
  rw[aJd]
  rfl'
  exact⟨rfl,by simp⟩
theorem aKf(hf:Fg d)(h4:fw d):(row d).length<=200:=by
 have h:=nB 32 (dw d)
 cases d with
 |scale s u =>
  obtain⟨h1,h2,h3⟩:=hf
  have l1:=dig7 (i:=(s:Int)) (by lia)
  have l2:=dig7 h3
  simp[dw,sw]at h l1
  unfold row;simp only[dw,sw];lia
 |add s c g t =>
  obtain⟨h1,h2,h3,hg,ht⟩:=hf
  have l1:=dig7 (i:=(s:Int)) (by lia)
  have l2:=dig7 h3
  have:=tY (c:=10) (ws:=dw (.add s c g t)) (by
   intro w hw
   simp only[dw,aAO,aBH,aBE]at hw
   rcases hw with rfl|rfl|rfl|⟨k,hk,rfl⟩|⟨k,hk,rfl⟩
   ·simp[sw]at l1 ⊢;lia
   ·simp
   ·lia
   ·have hk7:=hg k hk
    have l3:=dig7 (i:=(k:Int)) (by lia)
    simp[xw]at l3 ⊢;lia
   ·have hk7:=ht k hk
    have l3:=dig7 (i:=(k:Int)) (by lia)
    simp[sw]at l3 ⊢;lia)
  have hl:(dw (.add s c g t)).length=3+(g.length+t.length):=by simp[dw];lia
  unfold row
  obtain⟨q1,q2⟩:=h4
  lia
variable{g s:Nat}
theorem aEk(h:(2<=n/\n<=1000000)/\g<=8/\1<=s/\s<=9):(headR n g s).length<=100:=by
 have l1:=dig7 (i:=(n:Int)) (by lia)
 have l2:=dig7 (i:=(g:Int)) (by lia)
 have l3:=dig7 (i:=(s:Int)) (by lia)
 simp[headR,hw,joinL,wRest,wGivens,wShelves]at l1 l2 l3 ⊢
 lia
noncomputable def Wr(d:Dd):Prop:=Fg d/\fw d
theorem aKw{n:Int}(hn:n<=1000000)(hG:G<=8)(hS:S<=9)(h:OkD n G S d):Wr d:=by
 cases d with
 |add s c g t =>
  obtain⟨h1,h2,h3,h4,h5,_,h7,h8⟩:=h
  exact⟨⟨by lia,h2,by lia,λx hx=>by have:=h4 x hx;lia,λx hx=>by have:=h5 x hx;lia⟩,h7,h8⟩
 |scale s u =>
  obtain⟨h1,h2,h3,_⟩:=h
  exact⟨⟨by lia,h2,by lia⟩,trivial⟩
theorem wS(n g s:Nat):[114,101,115,116,32]++dig n++[32,103,105,118,101,110,115,32]++dig g++[32,115,104,101,108,118,101,115,32]++dig s=headR n g s:=by
 simp[headR,hw,joinL,wRest,wGivens,wShelves]
theorem oY{ds:List Dd}(hb:(2<=n/\n<=1000000)/\g<=8/\1<=s/\s<=9)(hd:∀d∈ds,Wr d):((headR n g s::ds.map row).map List.length).sum+(headR n g s::ds.map row).length<=201*(ds.length+1):=by
 have:=tY (c:=200) (ws:=headR n g s::ds.map row) (by
  intro w hw
  rcases aAO.mp hw with rfl|hw
  ·have:=aEk hb;lia
  ·obtain⟨d,hd',rfl⟩:=aBE.mp hw
   exact aKf (hd d hd').1 (hd d hd').2)
 simp only[aBJ,aAK]at this ⊢
 lia
theorem aFe{ds:List Dd}(hb:(2<=n/\n<=1000000)/\g<=8/\1<=s/\s<=9)(hd:∀d∈ds,Wr d):(prog n g s ds).length<=201*(ds.length+1):=aBD (nB _ _) (oY hb hd)
theorem xG{i:Nat}(h:ds[i]?=some d):wordsD ((ds.take (i+1)).map row)=wordsD ((ds.take i).map row)++[.str (T (row d))]:=by
 rw[aCQ,h];simp[wordsD]
theorem aBy{ds:List Dd}(hb:(2<=n/\n<=1000000)/\g<=8/\1<=s/\s<=9)(hd:∀d∈ds,Wr d)(hl:ds.length<=2000):Ok (pO [.d (encP n g s ds)] M) λw M'=>w=.d (.str (T (prog n g s ds)))/\M'=M:=by
 have l1:=dig7 (i:=(n:Int)) (by lia)
 have l2:=dig7 (i:=(g:Int)) (by lia)
 have l3:=dig7 (i:=(s:Int)) (by lia)
 unfold pO
 refine cU rfl ?_
 unfold b_5 encP
 rfl'
 refine jlit0 (y:=[114,101,115,116,32]) rfl (by decide) (jnum (by decide) ?_)
 rfl'
 refine⟨by lia,by lia,jlit (y:=[32,103,105,118,101,110,115,32]) rfl (by simp at l1 ⊢;lia) (jnum (by simp at l1 ⊢;lia) ?_)⟩
 rfl'
 refine⟨by lia,by lia,jlit (y:=[32,115,104,101,108,118,101,115,32]) rfl (by simp at l1 l2 ⊢;lia) (jnum (by simp at l1 l2 ⊢;lia) ?_)⟩
 rfl'
 refine⟨by lia,by lia,jnil (by simp at l1 l2 l3 ⊢;lia) ?_⟩
 rw[aBF,aBF,aBF,wS]
 rfl'
 refine uE rfl (gG (λi acc L' M'=>acc=wordsD ((ds.take i).map row)/\M'=M++[[.str (T (headR n g s))]]/\∃a,L'=[a]) ?_)
 rfl'
 refine⟨⟨rfl,rfl,none,rfl⟩,?_,by simp;lia,?_,?_⟩
 ·rintro i acc L' M' hi ⟨rfl,rfl,_⟩
  exact⟨rfl,(λt e=>by cases e),by simp[wordsD];lia⟩
 ·rintro i d acc _ _ hx ⟨rfl,rfl,a,rfl⟩
  obtain⟨e,he,rfl⟩:∃e,ds[i]?=some e/\d=encD e:=by
   simp only[aBN,aAR]at hx
   obtain⟨e,he,rfl⟩:=hx
   exact⟨e,he,rfl⟩
  have hw:=hd e (aCD he)
  rfl'
  refine(qG hw.1 hw.2).mono ?_
  rintro _ _ ⟨rfl,rfl⟩
  exact⟨_,_,rfl,rfl,(xG he).symm,rfl,_,rfl⟩
 ·rintro acc _ _ ⟨rfl,rfl,a,rfl⟩
  rw[aAK,aAC]
  refine⟨_,_,nE,rfl,by simp[wordsD];lia,?_⟩
  rw[nC]
  rfl'
  rw[cM "\n" 10 rfl]
  refine mO (ws:=headR n g s::ds.map row) (by simp[sv,lr,lv,wordsD]) (by have:=oY hb hd;lia) ?_
  rfl'
  exact⟨rfl,by simp⟩
theorem mM{a b:List D}:(M++[a]).set M.length b=M++[b]:=by simp
theorem lJ{a:List D}:(M++[a])[M.length]?=some a:=by simp
variable{b:Nat}
theorem aLe(hb:Bx M b):Ok (vT [.ref b] M) λw M'=>∃n:Int,w=.d (.int n)/\2<=n/\n<=1000000/\Nx b M M':=by
 have n:=Nx.refl hb
 unfold vT
 refine cU rfl ?_
 unfold b_e
 rfl'
 (refine(aY hb (by lia) (by lia)).mono ?_;rintro _ _ ⟨d1,rfl,l_d1,u_d1,n'⟩;replace n:=n.trans n';replace hb:=n'.bx hb;clear n')
 rfl'
 (refine(aY hb (by lia) (by lia)).mono ?_;rintro _ _ ⟨d2,rfl,l_d2,u_d2,n'⟩;replace n:=n.trans n';replace hb:=n'.bx hb;clear n')
 obtain⟨v,ev,mv⟩:=atInts (ns:=[2,3,4,5,6,7,8,9,12,16,30,36,49,64,91,97,210,1009,65536,999983,999999,1000000]) l_d2 (by simpa using u_d2)
 have hv:∀x∈[2,3,4,5,6,7,8,9,12,16,30,36,49,64,91,97,210,1009,65536,999983,999999,(1000000:Int)],2<=x/\x<=1000000:=by decide
 refine bS ev ?_
 rfl'
 refine eX (λ_=>?_) (λ_=>?_)
 ·rfl'
  (refine(aY hb (by lia) (by lia)).mono ?_;rintro _ _ ⟨d3,rfl,l_d3,u_d3,n'⟩;replace n:=n.trans n';replace hb:=n'.bx hb;clear n')
  rfl'
  rw[n.take]
  exact⟨by lia,by lia,n⟩
 ·rfl'
  refine eX (λ_=>?_) (λ_=>?_)
  ·rfl'
   (refine(aY hb (by lia) (by lia)).mono ?_;rintro _ _ ⟨d3,rfl,l_d3,u_d3,n'⟩;replace n:=n.trans n';replace hb:=n'.bx hb;clear n')
   rfl'
   rw[n.take]
   exact⟨by lia,by lia,n⟩
  ·rfl'
   rw[n.take]
   exact⟨(hv v mv).1,(hv v mv).2,n⟩
variable{m:Int}
theorem aBn(hb:Bx M b)(h2:2<=m)(hn:m<=1000000):Ok (jP [.ref b,.d (.int m)] M) λw M'=>∃r:Int,w=.d (.int r)/\0<=r/\r < m/\Nx b M M':=by
 have n:=Nx.refl hb
 unfold jP
 refine cU rfl ?_
 unfold b_f
 rfl'
 (refine(aY hb (by lia) (by lia)).mono ?_;rintro _ _ ⟨d1,rfl,l_d1,u_d1,n'⟩;replace n:=n.trans n';replace hb:=n'.bx hb;clear n')
 rfl'
 refine eX (λ_=>?_) (λ_=>?_)
 ·rfl'
  (refine(aY hb (by lia) (by lia)).mono ?_;rintro _ _ ⟨d2,rfl,l_d2,u_d2,n'⟩;replace n:=n.trans n';replace hb:=n'.bx hb;clear n')
  have e1:(1:Int) % m=1:=aGB (by lia) (by lia)
  obtain⟨w,ew,hw⟩:=at4 l_d2 u_d2 (.int 0) (.int (1 % m)) (.int (m - 1)) (.int ((m - 2) % m))
  refine bS ew ?_
  rcases hw with rfl|rfl|rfl|rfl
  ·rfl'
   rw[n.take]
   exact⟨by lia,by lia,n⟩
  ·rfl'
   rw[n.take]
   exact⟨by lia,by lia,n⟩
  ·rfl'
   rw[n.take]
   exact⟨by lia,by lia,n⟩
  ·rfl'
   rw[n.take]
   exact⟨aCU _ (by lia),aCB _ (by lia),n⟩
 ·rfl'
  (refine(aY hb (by lia) (by lia)).mono ?_;rintro _ _ ⟨d2,rfl,l_d2,u_d2,n'⟩;replace n:=n.trans n';replace hb:=n'.bx hb;clear n')
  rfl'
  rw[n.take]
  exact⟨l_d2,u_d2,n⟩
theorem nS{b:Int}(ha:0<=a)(hb:0<=b)(hb2:b<=1000000):Ok (fC [.d (.int a),.d (.int b)] M) λw M'=>M'=M/\∃g:Int,w=.d (.int g)/\0<=g/\g ∣ a/\g ∣ b/\∃x y,a*x+b*y=g:=by
 unfold fC
 refine cU rfl ?_
 unfold b_10
 rfl'
 refine(fY (QS:=λo M'=>M'=M/\∃g t,o=.nx [some (.d (.int g)),t]/\0<=g/\g ∣ a/\g ∣ b/\∃x y,a*x+b*y=g)
  (I:=λm L M'=>M'=M/\∃(h l:Int),L=[some (.d (.int h)),some (.d (.int l))]/\m=l.toNat/\0<=h/\0<=l/\l<=1000000/\(∃x y,a*x+b*y=h)/\(∃x y,a*x+b*y=l)/\∀c:Int,c ∣ h->c ∣ l->c ∣ a/\c ∣ b) ?_ NW b.toNat _ _
  ⟨rfl,a,b,rfl,rfl,ha,hb,hb2,⟨1,0,by lia⟩,⟨0,1,by lia⟩,λc h1 h2=>⟨h1,h2⟩⟩ (by rw[sM];lia)).mono ?_
 ·rintro m L _ ⟨rfl,h,l,rfl,rfl,h0,l0,l1,⟨x1,y1,e1⟩,⟨x2,y2,e2⟩,hd⟩
  rfl'
  refine⟨λhl=>?_,λhl=>?_⟩
  ·have hl:0 < l:=by simpa using hl
   have em1:=aCU h (by lia:l≠0)
   have em2:=aCB h hl
   have e:h - l*(h / l)=h % l:=by rw[Int.emod_def]
   rfl'
   refine⟨(h % l).toNat,by lia,rfl,l,h % l,rfl,rfl,by lia,em1,by lia,⟨x2,y2,e2⟩,⟨x1 - x2*(h / l),y1 - y2*(h / l),?_⟩,?_⟩
   ·rw[<- e,<- e1,<- e2];grind
   ·intro c g1 g2
    refine hd c ?_ g1
    have:=Int.dvd_add g2 (Int.dvd_trans g1 (Int.dvd_mul_right l (h / l)))
    rwa[<- e,show h - l*(h / l)+l*(h / l)=h by lia]at this
  ·have hl:l=0:=by simp at hl;lia
   subst hl
   have:=hd h (Int.dvd_refl h) (Int.dvd_zero h)
   exact⟨rfl,h,_,rfl,h0,this.1,this.2,x1,y1,e1⟩
 ·rintro _ _ ⟨rfl,g,t,rfl,h0,d1,d2,x,y,e⟩
  rfl'
  exact⟨by simp,_,rfl,h0,d1,d2,x,y,e⟩
theorem aCa(hb:Bx M b)(h2:2<=m)(hn:m<=1000000):Ok (jV [.ref b,.d (.int m)] M) λw M'=>∃u:Int,w=.d (.int u)/\Un m u/\Nx b M M':=by
 have n:=Nx.refl hb
 unfold jV
 refine cU rfl ?_
 unfold b_11
 rfl'
 (refine(aY hb (by lia) (by lia)).mono ?_;rintro _ _ ⟨d1,rfl,l_d1,u_d1,n'⟩;replace n:=n.trans n';replace hb:=n'.bx hb;clear n')
 rename_i M1
 rfl'
 refine(fY (QS:=λo M'=>M'=M1/\∃u,o=.nx [some (.ref b),some (.d (.int m)),some (.d (.int u))]/\Un m u)
  (I:=λk L M'=>M'=M1/\∃u:Int,L=[some (.ref b),some (.d (.int m)),some (.d (.int u))]/\0<=u/\u < m/\k=(if u<=1 then 1 - u else m+1 - u).toNat) ?_ NW (if d1<=1 then 1 - d1 else m+1 - d1).toNat _ _
  ⟨rfl,d1,rfl,l_d1,u_d1,rfl⟩ (by rw[sM];split <;> lia)).mono ?_
 ·rintro k L _ ⟨rfl,u,rfl,u0,u1,rfl⟩
  rfl'
  refine(nS u0 (by lia) hn).mono ?_
  rintro _ _ ⟨rfl,g,rfl,g0,q1,q2,x,y,e⟩
  rfl'
  refine⟨λhg=>?_,λhg=>?_⟩
  ·have hg:g≠1:=by simpa using hg
   have hu:u≠1:=by
    rintro rfl
    have:=Int.le_of_dvd (by lia) q1
    have:g≠0:=by rintro rfl;have:=Int.zero_dvd.mp q1;lia
    lia
   rfl'
   by_cases hm:u+1=m
   ·rw[hm,Int.emod_self]
    refine⟨_,?_,rfl,0,rfl,by lia,by lia,rfl⟩
    split <;> split <;> lia
   ·rw[aGB (by lia) (by lia)]
    refine⟨_,?_,rfl,u+1,rfl,by lia,by lia,rfl⟩
    split <;> split <;> lia
  ·have hg:g=1:=by simpa using hg
   subst hg
   refine⟨rfl,u,rfl,u0,u1,x % m,aCU _ (by lia),aCB _ (by lia),?_⟩
   refine Cg.emod ((Cg.mul Cg.rfl Cg.mod).trans ⟨-y,?_⟩)
   rw[<- e];grind
 ·rintro _ _ ⟨rfl,u,rfl,hu⟩
  rfl'
  rw[n.take]
  exact⟨hu,n⟩
theorem aCk{k:Int}(hb:Bx M b)(hk:0<=k)(hk2:k < 60)(hm:0 < k->0 < m)(hm2:m < 1000){fi:FI}{Q:W->Mm->Prop}(e:outL js L=[none,some (.ref b),some (.d (.int m))])(hi:Ok (fi L M) λs M1=>s=⟨rngD 0 k.toNat,none⟩/\M1=M)
  (q:∀(ns:List Nat) M',(ns.length:Int)=k->(∀x∈ns,(x:Int) < m)->Nx b M M'->Bx M' b->Q (.d (.lst (ns.map λx=>.int (x:Nat)))) M'):Ok (eComp js fi (gN 0) EV.tYes (eA bA (aCons (eV 1) (aCons (eV 2) aNil))) L M) Q:=by
 refine gG (λi acc L' M'=>∃ns:List Nat,acc=ns.map (λx=>.int (x:Nat))/\ns.length=i/\(∀x∈ns,(x:Int) < m)/\Nx b M M'/\Bx M' b/\∃a,L'=[a,some (.ref b),some (.d (.int m))]) ?_
 refine hi.mono ?_
 rintro _ _ ⟨rfl,rfl⟩
 refine⟨⟨[],rfl,rfl,(λ_ h=>by cases h),Nx.refl hb,hb,none,e⟩,?_,by simp only[rngD,aAK,aCH];lia,?_,?_⟩
 ·rintro i acc L' M' hi ⟨ns,rfl,hl,_,n',_⟩
  exact⟨n'.len,(λt e=>by cases e),by simp[hl]⟩
 ·rintro i d acc _ M1 hx ⟨ns,rfl,hl,hr,n',hb',a,rfl⟩
  obtain⟨hi,rfl⟩:=iD hx
  rfl'
  have q1:=aY (hb'.app (J:=[ns.map λx=>D.int (x:Nat)])) (hm (by lia)) (by lia)
  refine q1.mono ?_
  rintro _ _ ⟨r,rfl,l,u,n2⟩
  obtain⟨M2,rfl,n3⟩:=n2.unapp hb'.lt
  obtain⟨r,rfl⟩:∃k:Nat,r=k:=⟨r.toNat,by lia⟩
  refine⟨_,M2,rfl,rfl,ns++[r],by simp,by simp[hl],?_,n'.trans n3,n3.bx hb',_,rfl⟩
  intro c hc
  rcases aBH.mp hc with hc|hc
  ·exact hr c hc
  ·rw[aBO.mp hc];exact u
 ·rintro acc _ M1 ⟨ns,rfl,hl,hr,n',hb',a,rfl⟩
  simp only[rngD,aAK,aCH]at hl
  exact q ns M1 (by lia) hr n' hb'
theorem aCp(hb:Bx M b)(h2:2<=m)(hn:m<=1000000)(hG:G<=8)(hS:1<=S)(hS2:S<=9):Ok (jO [.ref b,.d (.int m),.d (.int G),.d (.int S)] M) λw M'=>∃d:Dd,w=.d (encD d)/\OkD m G S d/\SrtD d/\Nx b M M':=by
 have n:=Nx.refl hb
 unfold jO
 refine cU rfl ?_
 unfold b_12
 rfl'
 (refine(aY hb (by lia) (by lia)).mono ?_;rintro _ _ ⟨d1,rfl,l_d1,u_d1,n'⟩;replace n:=n.trans n';replace hb:=n'.bx hb;clear n')
 obtain⟨ks,rfl⟩:∃k:Nat,d1=k:=⟨d1.toNat,by lia⟩
 rfl'
 (refine(aY hb (by lia) (by lia)).mono ?_;rintro _ _ ⟨d2,rfl,l_d2,u_d2,n'⟩;replace n:=n.trans n';replace hb:=n'.bx hb;clear n')
 rfl'
 refine eX (λ_=>?_) (λ_=>?_)
 ·rfl'
  refine(aCa hb h2 hn).mono ?_
  rintro _ _ ⟨u,rfl,hu,n'⟩
  replace n:=n.trans n'
  rfl'
  rw[n.take]
  exact⟨.scale ks u,rfl,⟨by lia,hu⟩,trivial,n⟩
 rfl'
 (refine(aY hb (by lia) (by lia)).mono ?_;rintro _ _ ⟨d3,rfl,l_d3,u_d3,n'⟩;replace n:=n.trans n';replace hb:=n'.bx hb;clear n')
 obtain⟨w3,e3,h3⟩:=at3 l_d3 u_d3 (.int 3) (.int 3) (.int 5)
 obtain⟨k3,rfl,k30,k31⟩:∃k:Int,w3=.int k/\3<=k/\k<=5:=by
  rcases h3 with rfl|rfl|rfl
  ·exact⟨_,rfl,by lia,by lia⟩
  ·exact⟨_,rfl,by lia,by lia⟩
  ·exact⟨_,rfl,by lia,by lia⟩
 refine bS e3 ?_
 rfl'
 (refine(aY hb (by lia) (by lia)).mono ?_;rintro _ _ ⟨d4,rfl,l_d4,u_d4,n'⟩;replace n:=n.trans n';replace hb:=n'.bx hb;clear n')
 rfl'
 have hmany:∃k:Int,d4*(if decide (0 < (G:Int))=true then 1 else 0)=k/\0<=k/\k<=4/\(0 < k->0 < (G:Int)):=by
  by_cases hg:0 < (G:Int)
  ·exact⟨d4,by rw[aAH (by simpa using hg),Int.mul_one],by lia,by lia,λ_=>hg⟩
  ·exact⟨0,by rw[aAL (by simpa using hg),Int.mul_zero],by lia,by lia,λh=>by lia⟩
 obtain⟨k,ek,hk0,hk1,hkG⟩:=hmany
 rw[ek]
 rfl'
 refine aCk hb hk0 (by lia) hkG (by lia) rfl ?_ ?_
 ·rfl'
  refine⟨by simp only[in62,aAU];lia,rfl,rfl⟩
 intro gs M1 gl gr n' hb'
 replace n:=n.trans n'
 clear hb n'
 have hb:=hb'
 clear hb'
 obtain⟨g,eg,pg,og⟩:=vS gs
 rfl'
 refine rT (ns:=gs.map λk:Nat=>(k:Int)) rfl (gR gs) (by simp;lia) ?_
 rw[eg]
 rfl'
 refine gG (λi acc L' M'=>acc=((List.range i).filter (·≠ks)).map (λx=>.int (x:Nat))/\M'=M1/\∃a,L'=[a,some (.d (.int ks))]) ?_
 rfl'
 refine⟨by simp only[in62,aAU];lia,⟨rfl,rfl,none,rfl⟩,?_,by simp only[rngD,aAK,aCH];lia,?_,?_⟩
 ·rintro i acc L' M' hi ⟨rfl,rfl,_⟩
  exact⟨rfl,(λt e=>by cases e),by simp only[aAK];exact aBD (aDS _ _) (by simp)⟩
 ·rintro i d acc _ _ hx ⟨rfl,rfl,a,rfl⟩
  obtain⟨hi,rfl⟩:=iD hx
  rfl'
  refine⟨λh=>?_,λh=>?_⟩
  ·rfl'
   have hne:i≠ks:=by simp at h;lia
   refine⟨_,_,rfl,rfl,?_,rfl,_,rfl⟩
   rw[aGZ,aDC]
   simp[hne]
  ·have hne:i=ks:=by simp at h;lia
   refine⟨_,rfl,?_,rfl,_,rfl⟩
   rw[aGZ,aDC]
   simp[hne]
 rintro acc _ _ ⟨rfl,rfl,a,rfl⟩
 simp only[rngD,aAK,aCH,aBF]
 rw[show(List.range S).filter (·≠ks)=othersL S ks from rfl]
 have hts:∀x∈othersL S ks,x < S/\x≠ks:=λx hx=>xI.mp hx
 have hle:(othersL S ks).length<=9:=aBD (aDS _ _) (by simp;lia)
 generalize othersL S ks=os at hts hle
 rfl'
 refine lW rfl rfl (by simp[dep,deps];have:=mW os;lia) ?_
 rw[vU]
 rfl'
 refine Ok.mono (Q:=λo M2=>∃(ts:List Nat),o=.nx [some (.ref b),some (.d (.int m)),some (.d (.int G)),some (.d (.int S)),some (.d (.int ks)),some (.d (.int d2)),some (.d (.int k)),some (.d (.lst ((g.map λk:Nat=>(k:Int)).map D.int))),some (.d (.lst (os.map λx=>.int (x:Nat)))),some (.d (.lst ((ts.map λk:Nat=>(k:Int)).map D.int)))]/\(∀x∈ts,x < S/\x≠ks)/\ts.length<=4/\ts.Pairwise (·<=·)/\Nx b M M2/\Bx M2 b) ?_ ?_
 ·refine eX (λhos=>?_) (λ_=>?_)
  ·have hos:os≠[]:=by simpa using hos
   have hpos:0 < os.length:=aFK.mpr hos
   rfl'
   refine gG (λi acc L' M'=>∃ns:List Nat,acc=ns.map (λx=>.int (x:Nat))/\ns.length=i/\(∀x∈ns,x∈os)/\Nx b M M'/\Bx M' b/\∃a,L'=[a,some (.d (.lst (os.map λx=>.int (x:Nat)))),some (.ref b)]) ?_
   rfl'
   (refine(aY hb (by lia) (by lia)).mono ?_;rintro _ _ ⟨d5,rfl,l_d5,u_d5,n'⟩;replace n:=n.trans n';replace hb:=n'.bx hb;clear n')
   obtain⟨w5,e5,h5⟩:=at3 l_d5 u_d5 (.int 2) (.int 3) (.int 5)
   obtain⟨k5,rfl,k50,k51⟩:∃k:Int,w5=.int k/\2<=k/\k<=5:=by
    rcases h5 with rfl|rfl|rfl
    ·exact⟨_,rfl,by lia,by lia⟩
    ·exact⟨_,rfl,by lia,by lia⟩
    ·exact⟨_,rfl,by lia,by lia⟩
   refine bS e5 ?_
   rfl'
   (refine(aY hb (by lia) (by lia)).mono ?_;rintro _ _ ⟨d6,rfl,l_d6,u_d6,n'⟩;replace n:=n.trans n';replace hb:=n'.bx hb;clear n')
   rfl'
   refine⟨by simp only[in62,aAU];lia,⟨[],rfl,rfl,(λ_ h=>by cases h),n,hb,none,rfl⟩,?_,by simp only[rngD,aAK,aCH];lia,?_,?_⟩
   ·rintro i acc L' M' hi ⟨ns,rfl,hl,_,n',_⟩
    exact⟨by rw[n'.len,n.len],(λt e=>by cases e),by simp[hl]⟩
   ·rintro i d acc _ M2 hx ⟨ns,rfl,hl,hr,n',hb',a,rfl⟩
    rfl'
    have q1:=aY (hb'.app (J:=[ns.map λx=>D.int (x:Nat)])) (m:=((os.map λx=>D.int (x:Nat)).length:Int)) (by simp;lia) (by simp;lia)
    refine q1.mono ?_
    rintro _ _ ⟨r,rfl,l,u,n2⟩
    obtain⟨M3,rfl,n3⟩:=n2.unapp hb'.lt
    obtain⟨x,hx1,hx2⟩:=aIq l (by simpa using u)
    refine bS hx2 ?_
    refine⟨_,M3,rfl,rfl,ns++[x],by simp,by simp[hl],?_,n'.trans n3,n3.bx hb',_,rfl⟩
    intro c hc
    rcases aBH.mp hc with hc|hc
    ·exact hr c hc
    ·rw[aBO.mp hc];exact hx1
   ·rintro acc _ M2 ⟨ns,rfl,hl,hr,n',hb',a,rfl⟩
    simp only[rngD,aAK,aCH]at hl
    obtain⟨ts,et,pt,ot⟩:=vS ns
    rfl'
    refine rT (ns:=ns.map λk:Nat=>(k:Int)) rfl (gR ns) (by simp;lia) ?_
    rw[et]
    rfl'
    exact⟨λx hx=>hts x (hr x (pt.mem_iff.mp hx)),by rw[pt.length_eq];lia,ot,n',hb'⟩
  ·rfl'
   exact⟨[],rfl,by simp,by simp,.nil,n,hb⟩
 clear n hb
 rintro _ M2 ⟨ts,rfl,ht1,ht2,ht3,n,hb⟩
 rfl'
 refine(aBn hb h2 hn).mono ?_
 rintro _ _ ⟨c,rfl,c0,c1,n'⟩
 replace n:=n.trans n'
 rfl'
 refine jD (xs:=(g.map λk:Nat=>(k:Int)).map D.int) rfl ?_
 rfl'
 refine jD (xs:=(ts.map λk:Nat=>(k:Int)).map D.int) rfl ?_
 rfl'
 rw[n.take]
 refine⟨.add ks c g ts,by simp only[encD,natsD];rw[gR,gR],⟨by lia,c0,c1,?_,λx hx=>(ht1 x hx).1,λhk=>(ht1 ks hk).2 rfl,by rw[pg.length_eq];lia,ht2⟩,⟨og,ht3⟩,n⟩
 intro i hi
 have:=gr i (pg.mem_iff.mp hi)
 lia
theorem yO(hb:Bx M b):Ok (iH [.ref b] M) λw M'=>∃(m:Int) (G S:Nat),w=.d (.tup [.int m,.int G,.int S])/\2<=m/\m<=1000000/\G<=8/\1<=S/\S<=9/\Nx b M M':=by
 have n:=Nx.refl hb
 unfold iH
 refine cU rfl ?_
 unfold b_13
 rfl'
 (refine(aY hb (by lia) (by lia)).mono ?_;rintro _ _ ⟨d1,rfl,l_d1,u_d1,n'⟩;replace n:=n.trans n';replace hb:=n'.bx hb;clear n')
 rfl'
 refine(aLe hb).mono ?_
 rintro _ _ ⟨m,rfl,m2,m1,n'⟩
 replace n:=n.trans n'
 replace hb:=n'.bx hb
 clear n'
 obtain⟨w3,e3,h3⟩:=at3 l_d1 u_d1 (.int 4) (.int 4) (.int 9)
 obtain⟨k3,rfl,k30,k31⟩:∃k:Int,w3=.int k/\4<=k/\k<=9:=by
  rcases h3 with rfl|rfl|rfl
  ·exact⟨_,rfl,by lia,by lia⟩
  ·exact⟨_,rfl,by lia,by lia⟩
  ·exact⟨_,rfl,by lia,by lia⟩
 rfl'
 refine bS e3 ?_
 rfl'
 (refine(aY hb (by lia) (by lia)).mono ?_;rintro _ _ ⟨d2,rfl,l_d2,u_d2,n'⟩;replace n:=n.trans n';replace hb:=n'.bx hb;clear n')
 rfl'
 refine bS e3 ?_
 rfl'
 (refine(aY hb (by lia) (by lia)).mono ?_;rintro _ _ ⟨d3,rfl,l_d3,u_d3,n'⟩;replace n:=n.trans n';replace hb:=n'.bx hb;clear n')
 rfl'
 rw[n.take]
 obtain⟨G,rfl⟩:∃k:Nat,d2=k:=⟨d2.toNat,by lia⟩
 obtain⟨S,hS⟩:∃k:Nat,1+d3=k:=⟨(1+d3).toNat,by lia⟩
 rw[hS]
 exact⟨m,G,S,rfl,m2,m1,by lia,by lia,by lia,n⟩
theorem aGu{k:Nat}{ds:List D}{Q:W->Mm->Prop}(h:M[k]?=some ds)(hd:deps ds<=90)(q:Q (.d (.bl (decide (ds≠[])))) M):Ok (pNe (.ref k) (.d (.lst [])) M) Q:=by
 refine lW (a:=.lst ds) (b:=.lst []) (by simp[wd,h]) rfl (by simp[dep,deps];lia) ?_
 rw[vU];exact q
theorem aDr(d:Dd):dep (encD d)<=10:=by
 cases d with
 |add s c g t=>have h1:=mW g;have h2:=mW t;simp[encD,natsD,dep,deps];lia
 |scale s u=>simp[encD,dep,deps]
theorem sN:∀ds:List Dd,deps (ds.map encD)<=10
 |[]=>by simp[deps]
 |d::r=>by have:=aDr d;have:=sN r;simp[deps];lia
theorem oB{k:Int}(hb:Bx M b)(h2:2<=m)(hn:m<=1000000)(hG:G<=8)(hS:1<=S)(hS2:S<=9)(k0:0<=k)(k1:k < 1000):Ok (dI [.ref b,.d (.int m),.d (.int G),.d (.int S),.d (.int k)] M) λw M'=>∃ds:List Dd,w=.d (encP m G S ds)/\(∀d∈ds,OkD m G S d)/\(∀d∈ds,SrtD d)/\(ds.length:Int)<=k/\Nx b M M':=by
 unfold dI
 refine cU rfl ?_
 unfold b_14
 have hb1:Bx (M++[[]]) b:=hb.app
 have n:=Nx.refl hb1
 rfl'
 refine(aY hb1 (by lia) (by lia)).mono ?_
 rintro _ _ ⟨d1,rfl,l_d1,u_d1,n'⟩
 replace n:=n.trans n'
 obtain⟨M1,rfl,n1⟩:=n.unapp hb.lt
 have hb':=n1.bx hb
 clear hb1 n n'
 rfl'
 refine⟨by simp only[in62,aAU];lia,?_⟩
 have el:M.length=M1.length:=n1.len.symm
 refine gP (λi L M'=>∃(Mi:Mm) (ds:List Dd) (o1 o2 o3:Option W),M'=Mi++[ds.map encD]/\Nx b M Mi/\Bx Mi b/\ds.length=i/\(∀d∈ds,OkD m G S d)/\(∀d∈ds,SrtD d)/\L=[some (.ref b),some (.d (.int m)),some (.d (.int G)),some (.d (.int S)),some (.d (.int k)),some (.ref M.length),o1,o2,o3])
  ⟨M1,[],_,_,_,rfl,n1,hb',rfl,by simp,by simp,rfl⟩ (λi L M _ _ t e=>by cases e) ?_ ?_
 ·rintro i d _ _ hx ⟨Mi,ds,o1,o2,o3,rfl,n,hb,hl,hd,hs,rfl⟩
  obtain⟨hi,rfl⟩:=iD hx
  have e1:M.length=Mi.length:=n.len.symm
  rfl'
  refine(aY (hb.app (J:=[ds.map encD])) (by lia) (by lia)).mono ?_
  rintro _ _ ⟨d2,rfl,l_d2,u_d2,n'⟩
  obtain⟨M2,rfl,n2⟩:=n'.unapp hb.lt
  replace n:=n.trans n2
  replace hb:=n2.bx hb
  clear n' n2 e1
  rfl'
  refine(aCp (hb.app (J:=[ds.map encD])) h2 hn hG hS hS2).mono ?_
  rintro _ _ ⟨d3,rfl,ok3,sr3,n'⟩
  obtain⟨M3,rfl,n2⟩:=n'.unapp hb.lt
  replace n:=n.trans n2
  replace hb:=n2.bx hb
  clear n' n2
  have e1:M.length=M3.length:=n.len.symm
  have g1:(M3++[ds.map encD])[M.length]?=some (ds.map encD):=by rw[e1];simp
  refine qB (fA (eF (Ok.mono (Q:=λc M4=>M4=M3++[ds.map encD]/\(c=true->ds≠[])) ?_ ?_)))
  ·rfl'
   refine⟨λ_=>?_,λ_=>⟨rfl,by simp⟩⟩
   rfl'
   refine aGu g1 (aBD (sN ds) (by lia)) ?_
   rfl'
   exact⟨rfl,by simp⟩
  rintro c _ ⟨rfl,hc⟩
  refine Ok.mono (Q:=λo M4=>∃(M5:Mm) (d4:Dd) (o1 o2:Option W),M4=M5++[ds.map encD]/\Nx b M M5/\Bx M5 b/\OkD m G S d4/\SrtD d4/\o=.nx [some (.ref b),some (.d (.int m)),some (.d (.int G)),some (.d (.int S)),some (.d (.int k)),some (.ref M.length),o1,o2,some (.d (encD d4))]) ?_ ?_
  ·refine kD (λh=>?_) (λ_=>?_)
   ·have hne:=hc h
    have hpos:0 < ds.length:=aFK.mpr hne
    rfl'
    refine(aY (hb.app (J:=[ds.map encD])) (m:=((ds.map encD).length:Int)) (by simp;lia) (by simp;lia)).mono ?_
    rintro _ _ ⟨r,rfl,l,u,n'⟩
    obtain⟨M4,rfl,n2⟩:=n'.unapp hb.lt
    have e2:M.length=M4.length:=by rw[n2.len];exact e1
    have hr:r.toNat < ds.length:=by simp at u;lia
    refine yU (xs:=ds.map encD) (d:=encD ds[r.toNat]) (by rw[e2];simp) ?_ ?_
    ·simp only[atI,ixN,aAK]
     rw[aAH l,aAH (by simpa using u)]
     simp[hr]
    rfl'
    exact⟨M4,ds[r.toNat],_,_,rfl,n.trans n2,n2.bx hb,hd _ (aEE hr),hs _ (aEE hr),rfl⟩
   ·rfl'
    exact⟨M3,d3,_,_,rfl,n,hb,ok3,sr3,rfl⟩
  clear n hb e1 g1 ok3 sr3
  rintro _ _ ⟨M5,d4,o1',o2',rfl,n,hb,ok4,sr4,rfl⟩
  have e1:M.length=M5.length:=n.len.symm
  rfl'
  refine gA (xs:=ds.map encD) (by rw[e1];simp) (by simp;lia) ?_
  rfl'
  refine⟨M5,ds++[d4],_,_,_,by rw[e1];simp,n,hb,by simp[hl],?_,?_,rfl⟩
  ·intro x hx
   rcases aBH.mp hx with hx|hx
   ·exact hd x hx
   ·rw[aBO.mp hx];exact ok4
  ·intro x hx
   rcases aBH.mp hx with hx|hx
   ·exact hs x hx
   ·rw[aBO.mp hx];exact sr4
 ·rintro _ _ ⟨Mi,ds,o1,o2,o3,rfl,n,hb,hl,hd,hs,rfl⟩
  have e1:M.length=Mi.length:=n.len.symm
  simp only[rngD,aAK,aCH]at hl
  rfl'
  refine jD (xs:=ds.map encD) (by simp[sv,lr,lv,e1]) ?_
  rfl'
  exact⟨hd,hs,by lia,by rw[e1];simpa using n⟩
theorem qE{d:D}(hl:noL d=true)(hs:sz d<=16777216):Ok (kI [.d d,.d d] M) λw M'=>w=.d (.bl true)/\M'=M:=by
 refine cU rfl ?_
 unfold b_1c
 rfl'
 refine(fY (QS:=λo M'=>∃a b,o=.nx [some (.d d),some (.d d),some (.ref M.length),a,b]/\∃s,M'=M++[s]) (I:=λm L M'=>∃(ds:List D) (a b:Option W),m=szs ds/\(∀x∈ds,noL x=true)/\m<=16777216/\M'=M++[ds.map λx=>.tup [x,x]]/\L=[some (.d d),some (.d d),some (.ref M.length),a,b]) ?_ NW (sz d) _ _ ⟨[d],none,none,by simp[szs],by simpa using hl,hs,rfl,rfl⟩ (by rw[sM];lia)).mono ?_
 ·rintro m L M' ⟨ds,a,b,rfl,hn,hm,rfl,rfl⟩
  have g:(M++[ds.map λx=>D.tup [x,x]])[M.length]?=some (ds.map λx=>.tup [x,x]):=by simp
  rfl'
  refine⟨λh=>?_,λh=>⟨a,b,rfl,_,rfl⟩⟩
  have hne:ds≠[]:=by rintro rfl;simp at h
  obtain⟨ds',x,rfl⟩:∃ds' x,ds=ds'++[x]:=⟨ds.dropLast,ds.getLast hne,(List.dropLast_concat_getLast hne).symm⟩
  have hx:noL x=true:=hn x (by simp)
  have hn':∀y∈ds',noL y=true:=λy hy=>hn y (by simp[hy])
  rw[lG]at hm ⊢
  have se:szs [x]=sz x:=by simp[szs]
  rw[se]at hm ⊢
  have hp:=aGs x
  rfl'
  refine aNy (xs:=ds'.map λx=>.tup [x,x]) (d:=.tup [x,x]) (by simp) ?_
  rw[show(M++[(ds'++[x]).map λx=>D.tup [x,x]]).set M.length (ds'.map λx=>.tup [x,x])=M++[ds'.map λx=>.tup [x,x]] by simp]
  have g':(M++[ds'.map λx=>D.tup [x,x]])[M.length]?=some (ds'.map λx=>.tup [x,x]):=by simp
  rfl'
  cases x with
  |tup xs =>
   rfl'
   refine hW (by simp) ?_
   rfl'
   have hz:szs xs+1=sz (.tup xs):=by simp[sz]
   refine aOr rfl rfl ?_
   have hle:=tD xs
   have hle':=tD ds'
   refine aBp (xs:=ds'.map λx=>.tup [x,x]) (ys:=zipT xs xs) g' rfl (by simp[zipT];lia) ?_
   rw[show zipT xs xs=xs.map (λx=>.tup [x,x]) by unfold zipT;clear hz hle hle' hx hn hm g h hne se hp;induction xs with|nil=>rfl|cons a t ih=>rw[List.zip_cons_cons,aAV,aAV,ih]]
   refine⟨szs ds'+szs xs,by lia,ds'++xs,_,_,by rw[lG],?_,by lia,by simp,rfl⟩
   intro y hy
   rcases aBH.mp hy with hy|hy
   ·exact hn' y hy
   ·exact aJk hx hy
  |non =>
   rfl'
   refine lW (a:=.non) (b:=.non) rfl rfl (by simp[dep,deps]) ?_
   rfl'
   exact⟨szs ds',by lia,ds',_,_,rfl,hn',by lia,rfl,rfl⟩
  |bl b =>
   rfl'
   refine hW (by simp) ?_
   rfl'
   exact⟨szs ds',by lia,ds',_,_,rfl,hn',by lia,rfl,rfl⟩
  |int b =>
   rfl'
   refine hW (by simp) ?_
   rfl'
   exact⟨szs ds',by lia,ds',_,_,rfl,hn',by lia,rfl,rfl⟩
  |str b =>
   rfl'
   refine hW (by simp) ?_
   rfl'
   exact⟨szs ds',by lia,ds',_,_,rfl,hn',by lia,rfl,rfl⟩
  |lst b=>simp[noL]at hx
  |fz b=>simp[noL]at hx
  |exn c f b=>simp[noL]at hx
 ·rintro o M' ⟨a,b,rfl,s,rfl⟩
  rfl'
  exact by simp
variable{Q:W->Mm->Prop}
theorem fU(h0:0<=i)(h1:i < 10000000)(q:Q (.d (.str (T (dig i.toNat)))) M):Ok (cStr [.d (.int i)] M) Q:=aIo (qF h0 h1) (by rw[aAc h0];exact q)
theorem cL{a b:List Nat}(hz:a.length+b.length<=16777216)(q:Q (.d (.str (T (a++b)))) M):Ok (pAdd (.d (.str (T a))) (.d (.str (T b))) M) Q:=by
 refine aAl (by simpa[Str.length]using hz) ?_
 rw[mE];exact q
theorem wZ{ds:List Dd}(hb:(2<=n/\n<=1000000)/\g<=8/\1<=s/\s<=9)(hd:∀d∈ds,Wr d)(hl:ds.length<=2000):Ok (iG [.d (encP n g s ds)] M) λw M'=>w=.d (.str (T (prog n g s ds)))/\M'=M:=by
 have l1:=dig7 (i:=(n:Int)) (by lia)
 have l2:=dig7 (i:=(g:Int)) (by lia)
 have l3:=dig7 (i:=(s:Int)) (by lia)
 have e1:Str.ofString "rest "=T [114,101,115,116,32]:=by rw[dG];rfl
 have e2:Str.ofString " givens "=T [32,103,105,118,101,110,115,32]:=by rw[dG];rfl
 have e3:Str.ofString " shelves "=T [32,115,104,101,108,118,101,115,32]:=by rw[dG];rfl
 have e4:Str.ofString " * "=T [32,42,32]:=by rw[dG];rfl
 have e5:Str.ofString "+"=T [43]:=by rw[dG];rfl
 have e6:Str.ofString "s"=T [115]:=by rw[dG];rfl
 have e7:Str.ofString "x"=T [120]:=by rw[dG];rfl
 unfold iG
 refine cU rfl ?_
 unfold b_1b encP
 rfl'
 rw[e1]
 refine fU (by lia) (by lia) ?_
 refine cL (by simp at l1 ⊢;lia) ?_
 rfl'
 rw[e2]
 refine cL (by simp at l1 ⊢;lia) ?_
 rfl'
 refine fU (by lia) (by lia) ?_
 refine cL (by simp at l1 l2 ⊢;lia) ?_
 rfl'
 rw[e3]
 refine cL (by simp at l1 l2 ⊢;lia) ?_
 rfl'
 refine fU (by lia) (by lia) ?_
 refine cL (by simp at l1 l2 l3 ⊢;lia) ?_
 rw[aBF,aBF,aBF,wS]
 rfl'
 refine gP (λi L M'=>M'=M++[wordsD (headR n g s::(ds.take i).map row)]/\∃o6 o7:Option W,L=[some (.d (encP n g s ds)),some (.d (.int n)),some (.d (.int g)),some (.d (.int s)),some (.d (.tup (ds.map encD))),some (.ref M.length),o6,o7]) ⟨by simp[wordsD],none,none,rfl⟩ (λi L M _ _ t e=>by cases e) ?_ ?_
 ·rintro i d L M' hx ⟨rfl,o6,o7,rfl⟩
  obtain⟨e,he,rfl⟩:∃e,ds[i]?=some e/\d=encD e:=by
   simp only[aBN,aAR]at hx
   obtain⟨e,he,rfl⟩:=hx
   exact⟨e,he,rfl⟩
  have hw:=hd e (aCD he)
  have hi:i < ds.length:=(aAE.mp he).1
  have hsn:wordsD (headR n g s::(ds.take i).map row)++[.str (T (row e))]=wordsD (headR n g s::(ds.take (i+1)).map row):=by
   rw[aCQ,he];simp[wordsD]
  cases e with
  |scale a u =>
   obtain⟨h1,h2,h3⟩:=hw.1
   have q1:=dig7 (i:=(a:Int)) (by lia)
   have q2:=dig7 h3
   simp only[encD]
   rfl'
   rw[e6]
   refine fU (by lia) (by lia) ?_
   refine cL (by simp at q1 ⊢;lia) ?_
   rfl'
   rw[e4]
   refine cL (by simp at q1 ⊢;lia) ?_
   rfl'
   refine fU h2 h3 ?_
   refine cL (by simp at q1 ⊢;lia) ?_
   refine gA lJ (by simp[wordsD];lia) ?_
   rw[mM]
   rfl'
   refine⟨?_,_,_,rfl⟩
   rw[<- hsn]
   simp[row,dw,joinL,sw]
  |add a c gs ts =>
   obtain⟨⟨h1,h2,h3,hg,ht⟩,hg4,ht4⟩:=hw
   have q1:=dig7 (i:=(a:Int)) (by lia)
   have q2:=dig7 h3
   simp only[encD,natsD]
   rfl'
   refine dJ ?_
   rfl'
   refine⟨gL 120,by simp;lia,(λt e=>by cases e),?_,?_⟩
   ·intro d hd acc
    obtain⟨k,hk,rfl⟩:=aBE.mp hd
    have hk7:=hg k hk
    have l3:=dig7 (i:=(k:Int)) (by lia)
    rfl'
    rw[e7]
    refine fU (by lia) (by lia) ?_
    refine cL (by simp at l3 ⊢;lia) ?_
    exact⟨rfl,rfl⟩
   rw[uN]
   rfl'
   refine dJ ?_
   rfl'
   refine⟨gL 115,by simp;lia,(λt e=>by cases e),?_,?_⟩
   ·intro d hd acc
    obtain⟨k,hk,rfl⟩:=aBE.mp hd
    have hk7:=ht k hk
    have l3:=dig7 (i:=(k:Int)) (by lia)
    rfl'
    rw[e6]
    refine fU (by lia) (by lia) ?_
    refine cL (by simp at l3 ⊢;lia) ?_
    exact⟨rfl,rfl⟩
   rw[uN]
   refine lM rfl rfl (by simp;lia) ?_
   rfl'
   rw[e6]
   refine fU (by lia) (by lia) ?_
   refine cL (by simp at q1 ⊢;lia) ?_
   rfl'
   refine fU h2 h3 ?_
   rfl'
   rw[e5,cM " " 32 rfl]
   refine lM rfl rfl (by simp;lia) ?_
   rfl'
   refine mO (ws:=dw (.add a c gs ts)) (by simp[sv,lr,lv,wordsD,dw,sw];rfl) ?_ ?_
   ·have:=tY (c:=10) (ws:=dw (.add a c gs ts)) (by
     intro w hw
     simp only[dw,aAO,aBH,aBE]at hw
     rcases hw with rfl|rfl|rfl|⟨k,hk,rfl⟩|⟨k,hk,rfl⟩
     ·simp[sw]at q1 ⊢;lia
     ·simp
     ·lia
     ·have hk7:=hg k hk
      have l3:=dig7 (i:=(k:Int)) (by lia)
      simp[xw]at l3 ⊢;lia
     ·have hk7:=ht k hk
      have l3:=dig7 (i:=(k:Int)) (by lia)
      simp[sw]at l3 ⊢;lia)
    have hl:(dw (.add a c gs ts)).length=3+(gs.length+ts.length):=by simp[dw];lia
    lia
   rfl'
   refine gA lJ (by simp[wordsD];lia) ?_
   rw[mM]
   rfl'
   refine⟨?_,_,_,rfl⟩
   rw[<- hsn];rfl
 ·rintro L M' ⟨rfl,o6,o7,rfl⟩
  rw[aAK,aAC]
  rfl'
  rw[cM "\n" 10 rfl]
  refine mO (ws:=headR n g s::ds.map row) (by simp[sv,lr,lv,wordsD]) (by have:=oY hb hd;lia) ?_
  rfl'
  exact⟨rfl,by simp⟩
theorem nfigs(c:Nat):(Builtin.Str.occurrences (Str.ofString "0123456789") (T [c]) 0 (Str.ofString "0123456789").length 1).isEmpty=!isF c:=by
 rw[<- figs c,Bool.not_not]
noncomputable def oneS(c:Nat):D:=.str (T [c])
theorem aGj:0 < (l.filter λc=>!isF c).length ↔ ¬l.all isF=true:=by
 rw[aFK]
 simp[List.filter_eq_nil_iff]
theorem eN(ha:l.all (· < 128)=true)(hz:l.length<=16777216):Ok (cB [.d (.str (T l))] M) λw M'=>w=.d (optI (num? 7 l))/\M'=M:=by
 unfold cB
 refine cU rfl ?_
 unfold b_16
 refine fA (eF (Ok.mono (Q:=λc M'=>M'=M/\(c=true ↔ (l=[]\/7 < l.length\/¬l.all isF=true))) ?_ ?_))
 ·rfl'
  have e:(T l==Str.ofString "")=decide (l=[]):=by rw[dG,gY];rfl
  rw[e]
  refine⟨λh=>⟨rfl,by simp at h;simp[h]⟩,λh=>?_⟩
  rfl'
  refine iX (by rw[bQ];exact hz) ?_
  rw[bQ]
  rfl'
  refine⟨λh'=>⟨rfl,?_⟩,λh'=>?_⟩
  ·have:=aCI h'
   simp only[true_iff];right;left;lia
  rfl'
  refine gG (λi acc L' M'=>acc=((l.take i).filter λc=>!isF c).map oneS/\M'=M/\∃a,L'=[a]) ?_
  refine aJv (aDd rfl ⟨l,rfl,ha,⟨rfl,rfl,none,rfl⟩,?_,by simp;lia,?_,?_⟩)
  ·rintro i acc L' M' hi ⟨rfl,rfl,_⟩
   refine⟨rfl,(λt e=>by cases e),?_⟩
   have:=aDS (λc=>!isF c) (l.take i)
   simp at this ⊢;lia
  ·rintro i d acc _ _ hx ⟨rfl,rfl,a,rfl⟩
   simp only[aBN,aAR]at hx
   obtain⟨c,hc,rfl⟩:=hx
   rfl'
   refine aIj ?_
   rw[nfigs]
   refine⟨_,rfl,λh=>?_,λh=>?_⟩
   ·rfl'
    refine⟨_,_,rfl,rfl,?_,rfl,_,rfl⟩
    rw[aCQ,hc]
    simp[aDC,h,oneS]
   ·refine⟨_,rfl,?_,rfl,_,rfl⟩
    rw[aCQ,hc]
    simp[aDC,h]
  ·rintro acc _ _ ⟨rfl,rfl,a,rfl⟩
   rw[aAK,aAC]
   rfl'
   refine⟨rfl,?_⟩
   have hf:=aGj (l:=l)
   simp only[aAU,aAK]
   have h7:=aCW h'
   have h0:=aCW h
   constructor
   ·intro z;right;right;exact hf.mp (by lia)
   ·rintro(z|z|z)
    ·exact(h0 z).elim
    ·lia
    ·have:=hf.mpr z;lia
 rintro c M ⟨rfl,hc⟩
 refine kD (λh=>?_) (λh=>?_)
 ·have:=hc.mp h
  rfl'
  rw[aAC]
  refine⟨?_,rfl⟩
  unfold num?
  rw[aAH (by rcases this with h|h|h <;> simp[h])];rfl
 have h1:¬(l=[]\/7 < l.length\/¬l.all isF=true):=λz=>by rw[hc.mpr z]at h;cases h
 clear hc h
 have h2:l.all isF=true:=aBZ λz=>h1 (.inr (.inr z))
 refine oR ?_
 obtain⟨c,r,rfl⟩:∃c r,l=c::r:=by
  cases l with
  |nil=>simp at h1
  |cons c r=>exact⟨c,r,rfl⟩
 refine fA (eF (Ok.mono (Q:=λb M'=>M'=M/\(b=true ↔ (c=48/\1 < (c::r).length))) ?_ ?_))
 ·rfl'
  refine iX (by rw[bQ];exact hz) ?_
  rw[bQ]
  rfl'
  refine⟨λh=>?_,λh=>⟨rfl,?_⟩⟩
  ·rfl'
   refine pE (c:=c) (by simp[atI,ixN]) hz ?_
   rfl'
   have e:(T [c]==Str.ofString "0")=decide (c=48):=by rw[dG,gY];simp
   rw[e]
   refine⟨rfl,?_⟩
   have h:=aCI h
   simp only[aAU]
   constructor
   ·intro z;exact⟨z,by lia⟩
   ·rintro⟨z,_⟩;exact z
  ·have h:=aCW h
   constructor
   ·intro z;cases z
   ·rintro⟨_,z⟩;lia
 rintro b M ⟨rfl,hb⟩
 refine kD (λh=>?_) (λh=>?_)
 ·have:=hb.mp h
  rfl'
  rw[aAC]
  refine⟨?_,rfl⟩
  unfold num?
  rw[aAH (.inr (.inr (.inr ⟨by simp[this.1],this.2⟩)))];rfl
 have h3:¬(c=48/\1 < (c::r).length):=λz=>by rw[hb.mpr z]at h;cases h
 have e:num? 7 (c::r)=some (NumText.digitsVal (c::r)):=by
  unfold num?
  rw[aAL]
  rintro(z|z|z|⟨z,z'⟩)
  ·exact h1 (.inl z)
  ·exact h1 (.inr (.inl z))
  ·exact z h2
  ·simp at z;exact h3 ⟨z,z'⟩
 obtain⟨i1,i2⟩:=kA e (by lia)
 rfl'
 refine aAp i1 (by rw[bQ];exact i2) ?_
 rfl'
 rw[e,aAC]
 exact⟨rfl,rfl⟩
theorem oH{c:Nat}:∀{l w:List Nat},w∈spl c l->∀x∈w,x∈l
 |[],w,h,x,hx=>by simp[spl]at h;subst h;cases hx
 |y::r,w,h,x,hx=>by
  simp only[spl]at h
  split at h
  ·rcases aAO.mp h with rfl|h
   ·cases hx
   ·exact aBR _ (oH h x hx)
  ·split at h
   ·simp at h;subst h;simp at hx;simp[hx]
   ·rename_i v vs hv
    rcases aAO.mp h with rfl|h
    ·rcases aAO.mp hx with rfl|hx
     ·simp
     ·exact aBR _ (oH (c:=c) (w:=v) (by rw[hv];simp) x hx)
    ·exact aBR _ (oH (c:=c) (w:=w) (by rw[hv];simp[h]) x hx)
theorem uP(ha:l.all (· < 128)=true)(h:w∈spl c l):w.all (· < 128)=true :=
 aBC.mpr λx hx=>aBC.mp ha x (oH h x hx)
theorem uR(ha:l.all (· < 128)=true)(hz:l.length < 1000000):Ok (fN [.d (.str (T l))] M) λr M'=>r=.d (optH (rdH (spl 32 l)))/\M'=M:=by
 have hw:∀w∈spl 32 l,w.length<=1000000:=λw h=>by have:=eK h;lia
 have hwa:∀w∈spl 32 l,w.all (· < 128)=true:=λw h=>uP ha h
 have hn:=gU 32 l
 have hne:=kT 32 l
 unfold fN
 refine cU rfl ?_
 unfold b_17
 rfl'
 rw[cM " " 32 rfl]
 refine iR (by rw[bQ];decide) (by rw[bQ];lia) ?_
 rw[fZ,aCL,show(spl 32 l).map (D.str ∘ T)=wordsD (spl 32 l)from rfl]
 generalize spl 32 l=ws at *
 rfl'
 rw[show(wordsD ws).length=ws.length by simp[wordsD]]
 refine⟨λh=>?_,λh=>?_⟩
 ·rfl'
  rw[aAC]
  refine⟨?_,rfl⟩
  rw[show rdH ws=none from ?_]
  ·rfl
  ·unfold rdH
   split
   ·simp at h
   ·rfl
 obtain⟨a,n,b,g,c,s,rfl⟩:∃a n b g c s,ws=[a,n,b,g,c,s]:=by
  have h6:ws.length=6:=by simp at h;lia
  match ws,h6 with
  |[a,n,b,g,c,s],_=>exact⟨a,n,b,g,c,s,rfl⟩
 clear h hne
 have la:=hw a (by simp)
 have lb:=hw b (by simp)
 have lc:=hw c (by simp)
 have e1:Str.ofString "restgivensshelves"=T (wRest++wGivens++wShelves):=by rw[dG];rfl
 have e2:Str.ofString "rest"=T wRest:=by rw[dG];rfl
 have e3:Str.ofString "givens"=T wGivens:=by rw[dG];rfl
 simp only[wordsD,aAV,List.map_nil]
 rfl'
 refine cL (by lia) ?_
 rfl'
 refine cL (by simp;lia) ?_
 rfl'
 rw[e1,gY]
 refine jR (λh=>?_) (λh=>?_)
 ·refine oR (fA (eF (Ok.mono (Q:=λq M'=>M'=M/\(q=true ↔ ¬(a=wRest/\b=wGivens))) ?_ ?_)))
  ·rfl'
   rw[e2,gY]
   refine⟨λh=>⟨rfl,by simp at h;simp[h]⟩,λh=>?_⟩
   have h:a=wRest:=by simpa using h
   rfl'
   rw[e3,gY]
   exact⟨rfl,by simp[h]⟩
  rintro q M ⟨rfl,hq⟩
  refine kD (λh'=>?_) (λh'=>?_)
  ·rfl'
   rw[aAC]
   refine⟨?_,rfl⟩
   simp only[rdH]
   rw[aAL (λz=>hq.mp h' ⟨z.1,z.2.1⟩)];rfl
  obtain⟨rfl,rfl⟩:a=wRest/\b=wGivens:=aBZ λz=>by rw[hq.mpr z]at h';cases h'
  have hc:c=wShelves:=List.append_cancel_left h
  subst hc
  rfl'
  refine dJ ?_
  rfl'
  refine⟨gN7,by simp,(λt e=>by cases e),?_,?_⟩
  ·intro d hd acc
   simp only[aAO,aBW,aED]at hd
   rcases hd with rfl|rfl|rfl
   ·rfl'
    exact eN (hwa _ (by simp)) (by have:=hw n (by simp);lia)
   ·rfl'
    exact eN (hwa _ (by simp)) (by have:=hw g (by simp);lia)
   ·rfl'
    exact eN (hwa _ (by simp)) (by have:=hw s (by simp);lia)
  rw[show({ds:=[D.str (T n),D.str (T g),D.str (T s)],k:=none}:Src).ds.map gN7=[optI (num? 7 n),optI (num? 7 g),optI (num? 7 s)]from rfl]
  have qd:=jY [num? 7 n,num? 7 g,num? 7 s]
  iterate 9 decreasing_trivial_pre_omega
  refine eF (Ok.mono (Q:=λb M'=>M'=M/\(b=true ↔ rdH [wRest,n,wGivens,g,wShelves,s]=none)) ?_ ?_)
  ·refine nM (aGk (aKu ?_))
   rfl'
   refine pQ (xs:=[num? 7 n,num? 7 g,num? 7 s].map optI) rfl (by lia) ?_
   rw[iO]
   refine⟨_,rfl,λh=>⟨rfl,?_⟩,λh=>?_⟩
   ·simp only[rdH,true_and,aDI,true_iff]
    cases hx:num? 7 n with
    |none=>rfl
    |some a=>cases hy:num? 7 g with
     |none=>rfl
     |some b=>cases hz:num? 7 s with
      |none=>rfl
      |some c=>rw[hx,hy,hz]at h;cases h
   obtain⟨a,b,c,hx,hy,hz'⟩:∃a b c,num? 7 n=some a/\num? 7 g=some b/\num? 7 s=some c:=by
    cases hx:num? 7 n with
    |none=>rw[hx]at h;cases h
    |some a=>cases hy:num? 7 g with
     |none=>rw[hx,hy]at h;cases h
     |some b=>cases hz:num? 7 s with
      |none=>rw[hx,hy,hz]at h;cases h
      |some c=>exact⟨a,b,c,rfl,rfl,rfl⟩
   have er:rdH [wRest,n,wGivens,g,wShelves,s]=if(2<=a/\a<=1000000)/\b<=8/\1<=c/\c<=9 then some (a,b,c)else none:=by
    simp only[rdH,hx,hy,hz',true_and,aDI]
   rw[er,hx,hy,hz',show optI (some a)=.int a from rfl,show optI (some b)=.int b from rfl,show optI (some c)=.int c from rfl]
   refine nM (lO (rng3 rfl ?_))
   refine⟨λh=>⟨rfl,?_⟩,λh=>?_⟩
   ·rw[aAL (by simp at h;lia)];simp
   have h1:(2:Int)<=a/\(a:Int)<=1000000:=by simpa using h
   refine nM ?_
   rfl'
   refine⟨λh=>⟨rfl,?_⟩,λh=>?_⟩
   ·rw[aAL (by simp at h;lia)];simp
   have h2:¬(8:Int) < b:=by simpa using h
   refine lO (rng3 rfl ?_)
   refine⟨rfl,?_⟩
   by_cases h3:(1:Int)<=c/\(c:Int)<=9
   ·rw[aAH (by lia),aFV h3];simp
   ·rw[aAL (by lia),aBI h3];simp
  rintro q M ⟨rfl,hq⟩
  refine kD (λh=>?_) (λh=>?_)
  ·rfl'
   rw[aAC,hq.mp h]
   exact⟨rfl,rfl⟩
  ·cases hr:rdH [wRest,n,wGivens,g,wShelves,s]with
   |none=>rw[hq.mpr hr]at h;cases h
   |some r =>
    obtain⟨a,b,c⟩:=r
    obtain⟨hi,_⟩:=oJ hr
    simp only[hw,List.cons.injEq,and_true,true_and]at hi
    obtain⟨rfl,rfl,rfl⟩:=hi
    rename_i hbd
    simp only at hbd
    rw[num7 (by lia),num7 (by lia),num7 (by lia),show optI (some a)=.int a from rfl,show optI (some b)=.int b from rfl,show optI (some c)=.int c from rfl]
    rfl'
    rw[aAC]
    exact⟨rfl,rfl⟩
 ·rfl'
  rw[aAC]
  refine⟨?_,rfl⟩
  simp only[rdH]
  rw[aAL]
  ·rfl
  ·rintro⟨rfl,rfl,rfl⟩;exact h rfl
theorem rng3e{Q:W->Mm->Prop}{y:Int}{g:FE}(hf:Ok (f L M) λw M'=>w=.d (.int x)/\M'=M)(hg:Ok (g L M) λw M'=>w=.d (.int y)/\M'=M)(q:Q (.d (.bl (decide (a<=x/\x < y)))) M):Ok (e3c pLe pLt (eC (.int a)) f g L M) Q:=by
 refine(xO (aCb (hf.mono ?_)))
 rintro _ _ ⟨rfl,rfl⟩
 rfl'
 refine⟨λh=>?_,λh=>?_⟩
 ·have h:=aCI h
  refine hg.mono ?_
  rintro _ _ ⟨rfl,rfl⟩
  rfl'
  simpa[h]using q
 ·have h:=aCW h
  simpa[h]using q
theorem aMu{n u g y:Int}(hn:2<=n)(g0:0<=g)(h1:g ∣ u)(h2:g ∣ n)(e:u*x+n*y=g):(∃v,IsIv n u v) ↔ g=1:=by
 constructor
 ·rintro⟨v,v0,v1,e'⟩
  obtain⟨z,hz⟩:=Cg.of e'
  have:g ∣ 1:=by
   have g1:g ∣ u*v:=aEJ h1
   rw[hz]at g1
   exact(Int.dvd_add_left (aEJ h2)).mp g1
  have:=Int.le_of_dvd (by lia) this
  have:g≠0:=by rintro rfl;have:=Int.zero_dvd.mp h2;lia
  lia
 ·rintro rfl
  refine⟨x % n,aCU _ (by lia),aCB _ (by lia),?_⟩
  exact Cg.emod ((Cg.mul Cg.rfl Cg.mod).trans ⟨-y,by rw[<- e];grind⟩)
theorem rH:∀xs ys:List Int,eqDs (xs.map D.int) (ys.map D.int)=decide (xs=ys)
 |[],[]=>rfl
 |[],_::_=>rfl
 |_::_,[]=>rfl
 |x::xs,y::ys=>by
  show(x==y&&eqDs (xs.map D.int) (ys.map D.int))=_
  rw[rH xs ys,show(x==y)=decide (x=y) by by_cases h:x=y <;> simp[h]]
  simp[Bool.decide_and]
theorem pN(xs:List Int):deps (xs.map D.int)<=1:=by
 induction xs with
 |nil=>simp[deps]
 |cons x r ih=>simp only[aAV,deps,dep]at ih ⊢;lia
noncomputable def FF(m:Nat)(xs:List Nat):Prop:=(decide (xs.length<=4)&&fok m 0 xs)=true
variable{m:Nat}
theorem sX{xs:List Nat}:FF m xs ↔ xs.length<=4/\(∀x∈xs,x < m)/\xs.Pairwise (·<=·):=by
 simp only[FF,aBM,aAU,tE]
 exact⟨λ⟨a,b,c⟩=>⟨a,λx hx=>(b x hx).2,c⟩,λ⟨a,b,c⟩=>⟨a,λx hx=>⟨by lia,b x hx⟩,c⟩⟩
theorem wE{a b c d:Option W}:Ok ((sSeq (sIf (EV.tOr (EV.tB (e2 pGt (eA cLen (aCons (eV 4) aNil)) (eC (.int 4)))) (EV.tB (e2 pNe (eA cList (aCons (eV 4) aNil)) (eA cSortT (aCons (eV 4) aNil)))))
  (sRt (eC (.bl true)))
  sNil)
  (sIf (EV.tB (e2 pGt (eA cLen (aCons (eComp [none,some 5] (iE (eV 4)) (gN 0) (EV.tOr (EV.tB (e2 pLt (eV 0) (eC (.int 0)))) (EV.tB (e2 pGe (eV 0) (eV 1)))) (eV 0)) aNil)) (eC (.int 0))))
  (sRt (eC (.bl true)))
  sNil)) [a,b,c,d,some (.d (natsD xs)),some (.d (.int m))] M) λo M'=>M'=M/\((FF m xs/\o=.nx [a,b,c,d,some (.d (natsD xs)),some (.d (.int m))])\/(¬FF m xs/\o=.rt (.d (.bl true)))):=by
 unfold natsD
 refine fA (eF (Ok.mono (Q:=λq M'=>M'=M/\(q=true ↔ ¬(xs.length<=4/\xs.Pairwise (·<=·)))) ?_ ?_))
 ·rfl'
  refine⟨λh=>⟨rfl,?_⟩,λh=>?_⟩
  ·simp at h;simp;lia
  have h4:xs.length<=4:=by simp at h;lia
  rfl'
  refine aOi rfl ?_
  rfl'
  refine aGq (ns:=xs.map λk:Nat=>(k:Int)) (by simp) (by simp;lia) ?_
  have e:xs.map (λk=>D.int (k:Nat))=(xs.map λk:Nat=>(k:Int)).map D.int:=by simp
  refine lW (a:=.lst (xs.map λk=>D.int (k:Nat))) (b:=.lst ((srt (xs.map λk:Nat=>(k:Int))).map D.int)) rfl rfl (by rw[e];have:=pN (xs.map λk:Nat=>(k:Int));have:=pN (srt (xs.map λk:Nat=>(k:Int)));simp only[dep];lia) ?_
  rw[show eqD (.lst (xs.map λk=>D.int (k:Nat))) (.lst ((srt (xs.map λk:Nat=>(k:Int))).map D.int))=decide ((xs.map λk:Nat=>(k:Int))=srt (xs.map λk:Nat=>(k:Int))) by rw[e];exact rH _ _]
  refine⟨_,rfl,rfl,?_⟩
  have hp:(xs.map λk:Nat=>(k:Int)).Pairwise (·<=·) ↔ xs.Pairwise (·<=·):=by
   rw[List.pairwise_map]
   simp
  have hs:((xs.map λk:Nat=>(k:Int))=srt (xs.map λk:Nat=>(k:Int))) ↔ xs.Pairwise (·<=·):=by
   rw[<- hp]
   exact⟨λz=>by rw[z];exact kU _,λz=>(rE z).symm⟩
  rw[<- hs]
  simp[h4]
 rintro q M ⟨rfl,hq⟩
 refine kD (λh=>?_) (λh=>?_)
 ·rfl'
  refine⟨rfl,.inr ⟨λz=>?_,rfl⟩⟩
  have:=sX.mp z
  exact hq.mp h ⟨this.1,this.2.2⟩
 have h1:xs.length<=4/\xs.Pairwise (·<=·):=aBZ λz=>by rw[hq.mpr z]at h;cases h
 obtain⟨h4,hs⟩:=h1
 rfl'
 refine gG (λi acc L' M'=>acc=((xs.take i).filter λk=>decide (m<=k)).map (λk=>D.int (k:Nat))/\M'=M/\∃a,L'=[a,some (.d (.int m))]) ?_
 rfl'
 refine⟨⟨rfl,rfl,none,rfl⟩,?_,by simp;lia,?_,?_⟩
 ·rintro i acc L' M' hi ⟨rfl,rfl,_⟩
  refine⟨rfl,(λt e=>by cases e),?_⟩
  have:=aDS (λk=>decide (m<=k)) (xs.take i)
  simp at this ⊢;lia
 ·rintro i d acc _ _ hx ⟨rfl,rfl,a,rfl⟩
  simp only[aBN,aAR]at hx
  obtain⟨k,hk,rfl⟩:=hx
  rfl'
  refine⟨λh=>by simp at h;lia,λ_=>?_⟩
  rfl'
  refine⟨λh=>?_,λh=>?_⟩
  ·have h:m<=k:=by simpa using h
   rfl'
   refine⟨_,_,rfl,rfl,?_,rfl,_,rfl⟩
   rw[aCQ,hk]
   simp[aDC,h]
  ·have h:¬m<=k:=by simpa using h
   refine⟨_,rfl,?_,rfl,_,rfl⟩
   rw[aCQ,hk]
   simp[aDC,h]
 ·rintro acc _ _ ⟨rfl,rfl,a,rfl⟩
  rw[aAK,aAC]
  rfl'
  refine eX (λh=>?_) (λh=>?_)
  ·rfl'
   refine⟨rfl,.inr ⟨λz=>?_,rfl⟩⟩
   have hp:0 < (xs.filter λk=>decide (m<=k)).length:=by first|simpa using h|(simp at h ⊢;lia)
   obtain⟨k,hk⟩:=List.exists_mem_of_length_pos hp
   obtain⟨hk1,hk2⟩:=aGR.mp hk
   have:=(sX.mp z).2.1 k hk1
   simp at hk2;lia
  ·rfl'
   refine⟨rfl,.inl ⟨sX.mpr ⟨h4,λk hk=>?_,hs⟩,rfl⟩⟩
   refine aBZ λz=>h ?_
   have:k∈xs.filter λk=>decide (m<=k):=aGR.mpr ⟨hk,by simp;lia⟩
   have:=List.length_pos_of_mem this
   simp only[aAK];lia
theorem rB(hn:2<=n)(hn2:n<=1000000):Ok (eY [.d (.int n),.d (.int G),.d (.int S),.d (encD d)] M) λw M'=>(∃b:Bool,w=.d (.bl b)/\(b=true ↔ ¬okB n G S d))/\M'=M:=by
 unfold eY
 refine cU rfl ?_
 unfold b_15
 cases d with
 |scale s u =>
  simp only[encD]
  rfl'
  refine rng3e (x:=(s:Int)) (y:=(S:Int)) (by(rfl');exact⟨rfl,rfl⟩) (by(rfl');exact⟨rfl,rfl⟩) ?_
  refine⟨_,rfl,λh=>?_,λh=>?_⟩
  ·rfl'
   rw[aAC]
   refine⟨⟨true,rfl,?_⟩,rfl⟩
   simp at h
   simp only[true_iff]
   rintro⟨⟨h1,h2⟩,_⟩
   lia
  have hs:s < S:=by simp at h;lia
  rfl'
  refine rng3e (x:=u) (y:=(n:Int)) (by(rfl');exact⟨rfl,rfl⟩) (by(rfl');exact⟨rfl,rfl⟩) ?_
  refine⟨_,rfl,?_⟩
  refine jR (λhu=>?_) (λhu=>?_)
  ·rfl'
   refine(nS hu.1 (by lia) (by lia)).mono ?_
   rintro _ M ⟨rfl,g,rfl,g0,q1,q2,x,y,e⟩
   rfl'
   rw[aAC]
   refine⟨⟨_,rfl,?_⟩,rfl⟩
   have:=aMu (by lia) g0 q1 q2 e
   simp only[okB,OkD,SrtD,LS.Un,and_true]
   rw[this]
   simp[hs,hu]
  ·rfl'
   rw[aAC]
   refine⟨⟨true,rfl,?_⟩,rfl⟩
   simp only[true_iff]
   rintro⟨⟨h1,h2,h3,_⟩,_⟩
   exact hu ⟨h2,h3⟩
 |add s c g t =>
  simp only[encD]
  rfl'
  refine rng3e (x:=(s:Int)) (y:=(S:Int)) (by(rfl');exact⟨rfl,rfl⟩) (by(rfl');exact⟨rfl,rfl⟩) ?_
  refine⟨_,rfl,λh=>?_,λh=>?_⟩
  ·rfl'
   rw[aAC]
   refine⟨⟨true,rfl,?_⟩,rfl⟩
   simp at h
   simp only[true_iff]
   rintro⟨⟨h1,h2⟩,_⟩
   lia
  have hs:s < S:=by simp at h;lia
  rfl'
  refine rng3e (x:=c) (y:=(n:Int)) (by(rfl');exact⟨rfl,rfl⟩) (by(rfl');exact⟨rfl,rfl⟩) ?_
  refine⟨_,rfl,?_⟩
  refine jR (λhu=>?_) (λhu=>?_)
  ·rfl'
   have eok:okB n G S (.add s c g t) ↔ FF G g/\FF S t/\s∉t:=by
    simp only[okB,OkD,SrtD,sX]
    constructor
    ·rintro⟨⟨h1,h2,h3,h4,h5,h6,h7,h8⟩,h9,h10⟩
     exact⟨⟨h7,h4,h9⟩,⟨h8,h5,h10⟩,h6⟩
    ·rintro⟨⟨h7,h4,h9⟩,⟨h8,h5,h10⟩,h6⟩
     exact⟨⟨hs,hu.1,hu.2,h4,h5,h6,h7,h8⟩,h9,h10⟩
   refine gP (λi L M'=>M'=M/\(1<=i->FF G g)/\(2<=i->FF S t)/\∃o4 o5:Option W,L=[some (.d (.int n)),some (.d (.int G)),some (.d (.int S)),some (.d (encD (.add s c g t))),o4,o5]) ⟨rfl,(λh=>by lia),(λh=>by lia),none,none,rfl⟩ (λi L M _ _ t e=>by cases e) ?_ ?_
   ·rintro i d L M' hd ⟨rfl,f1,f2,o4,o5,rfl⟩
    match i,hd with
    |0,hd =>
     cases hd
     iterate 6 decreasing_trivial_pre_omega
     refine(wE (xs:=g) (m:=G)).mono ?_
     rintro _ M ⟨rfl,⟨hf,rfl⟩|⟨hf,rfl⟩⟩
     ·exact⟨rfl,λ_=>hf,(λh=>by lia),_,_,rfl⟩
     ·rfl'
      rw[aAC]
      exact⟨⟨true,rfl,by rw[eok];simp[hf]⟩,rfl⟩
    |1,hd =>
     cases hd
     iterate 6 decreasing_trivial_pre_omega
     refine(wE (xs:=t) (m:=S)).mono ?_
     rintro _ M ⟨rfl,⟨hf,rfl⟩|⟨hf,rfl⟩⟩
     ·exact⟨rfl,λ_=>f1 (by lia),λ_=>hf,_,_,rfl⟩
     ·rfl'
      rw[aAC]
      exact⟨⟨true,rfl,by rw[eok];simp[hf]⟩,rfl⟩
    |i+2,hd=>simp at hd
   ·rintro L M' ⟨rfl,f1,f2,o4,o5,rfl⟩
    have f1:=f1 (by simp)
    have f2:=f2 (by simp)
    simp only[encD]
    rfl'
    refine aLc (neg:=false) (xs:=t.map λk=>D.int (k:Nat)) rfl rfl (by simp[List.all_map,aGC,flatD,fv]) ?_
    rw[uT]
    rfl'
    rw[aAC]
    exact⟨⟨_,rfl,by rw[eok];simp[f1,f2]⟩,rfl⟩
  ·rfl'
   rw[aAC]
   refine⟨⟨true,rfl,?_⟩,rfl⟩
   simp only[true_iff]
   rintro⟨⟨h1,h2,h3,_⟩,_⟩
   exact hu ⟨h2,h3⟩
noncomputable section
def nm(w:List Nat):Option Nat:=num? 7 (w.drop 1)
theorem sP:∀{os:List (Option Nat)} {xs:List Nat},allS os=some xs->∀m,allS (os.take m)=some (xs.take m)/\allS (os.drop m)=some (xs.drop m)
 |[],xs,h,m=>by cases h;simp[allS]
 |none::r,xs,h,m=>by cases h
 |some x::r,xs,h,m=>by
  simp only[allS,aAR]at h
  obtain⟨ys,h,rfl⟩:=h
  cases m with
  |zero=>exact⟨by simp[allS],by simp[allS,h]⟩
  |succ m =>
   have:=sP h m
   simp only[List.take_succ_cons,List.drop_succ_cons,allS,this.1,this.2]
   exact⟨rfl,trivial⟩
theorem uZ:∀{os:List (Option Nat)} {xs:List Nat},allS os=some xs->os.length=xs.length
 |[],xs,h=>by cases h;rfl
 |none::r,xs,h=>by cases h
 |some x::r,xs,h=>by
  simp only[allS,aAR]at h
  obtain⟨ys,h,rfl⟩:=h
  simp[uZ h]
theorem vF:∀{os ps:List (Option Nat)} {xs ys:List Nat},allS os=some xs->allS ps=some ys->allS (os++ps)=some (xs++ys)
 |[],ps,xs,ys,h,g=>by cases h;exact g
 |none::r,ps,xs,ys,h,g=>by cases h
 |some x::r,ps,xs,ys,h,g=>by
  simp only[allS,aAR]at h
  obtain⟨zs,h,rfl⟩:=h
  simp only[aEZ,allS,vF h g];rfl
theorem kK :w.take 1=[c] ↔ w.head?=some c:=by
 cases w <;> simp
theorem zS{ws:List (List Nat)}(h:∀w∈ws,w.take 1=[c]):ws.map (nb c)=ws.map nm :=
 aFM λw hw=>by unfold nb nm;rw[aAH (kK.mp (h w hw))]
def lets(r:List (List Nat)):List (List Nat):=r.map (List.take 1)
def manyX(r:List (List Nat)):Nat:=((lets r).filter (·==[120])).length
end
variable{r:List (List Nat)}
theorem aIh(hx':allS (r.map nm)=some xs)(h:lets r=List.replicate (manyX r) [120]++List.replicate (r.length - manyX r) [115]):rdA s c r=some (.add s c (xs.take (manyX r)) (xs.drop (manyX r))):=by
 generalize manyX r=m at *
 have hm:m<=r.length:=by
  have:=congrArg List.length h
  simp[lets]at this;lia
 have h1:(r.take m).map (List.take 1)=List.replicate m [120]:=by
  have:=congrArg (List.take m) h
  rw[List.take_left' (by simp)]at this
  rw[<- this];simp[lets]
 have h2:(r.drop m).map (List.take 1)=List.replicate (r.length - m) [115]:=by
  have:=congrArg (List.drop m) h
  rw[List.drop_left' (by simp)]at this
  rw[<- this];simp[lets]
 have a1:∀w∈r.take m,w.take 1=[120]:=λw hw=>by
  have:w.take 1∈(r.take m).map (List.take 1):=aBE.mpr ⟨w,hw,rfl⟩
  rw[h1]at this
  exact(aHF.mp this).2
 have a2:∀w∈r.drop m,w.take 1=[115]:=λw hw=>by
  have:w.take 1∈(r.drop m).map (List.take 1):=aBE.mpr ⟨w,hw,rfl⟩
  rw[h2]at this
  exact(aHF.mp this).2
 obtain⟨e1,e2⟩:=xY (xs:=r) (j:=m) (λw hw=>by simp[hx,kK.mp (a1 w hw)]) hm (λw hw=>by
  have:w∈r.drop m:=by
   rw[List.mem_iff_getElem?]
   exact⟨0,by rw[List.getElem?_drop];exact hw⟩
  simp[hx,kK.mp (a2 w this)])
 unfold rdA
 have t:=sP hx' m
 rw[e1,e2,zS a1,zS a2,List.map_take,List.map_drop,t.1,t.2]
theorem aFp(h:rdA s c r=some d):(∃xs,allS (r.map nm)=some xs)/\lets r=List.replicate (manyX r) [120]++List.replicate (r.length - manyX r) [115]:=by
 unfold rdA at h
 split at h
 ·rename_i gs ts hg ht
  have e1:=jU hg
  have e2:=jU ht
  have er:r=gs.map xw++ts.map sw:=by rw[<- aEI (p:=hx) (l:=r),e1,e2];rfl
  have l1:lets r=List.replicate gs.length [120]++List.replicate ts.length [115]:=by
   rw[er]
   simp only[lets,List.map_append,aCL]
   congr 1
   ·rw[List.eq_replicate_iff];simp[xw]
   ·rw[List.eq_replicate_iff];simp[sw]
  have l2:manyX r=gs.length:=by
   unfold manyX
   rw[l1,aDC,List.filter_replicate,List.filter_replicate]
   simp
  refine⟨⟨gs++ts,?_⟩,?_⟩
  ·have n1:∀w∈r.takeWhile hx,w.take 1=[120]:=λw hw=>by rw[e1]at hw;obtain⟨k,_,rfl⟩:=aBE.mp hw;rfl
   have n2:∀w∈r.dropWhile hx,w.take 1=[115]:=λw hw=>by rw[e2]at hw;obtain⟨k,_,rfl⟩:=aBE.mp hw;rfl
   rw[zS n1]at hg
   rw[zS n2]at ht
   rw[<- aEI (p:=hx) (l:=r),List.map_append]
   exact vF hg ht
  ·rw[l2,l1]
   congr 2
   rw[er];simp
 ·cases h
theorem aHr(h:nb c w=some s):w.head?=some c/\nm w=some s:=by
 unfold nb at h
 split at h
 ·rename_i hc;exact⟨hc,h⟩
 ·cases h
theorem aPj(h:w.head?=some c)(h':nm w=some s):nb c w=some s:=by
 unfold nb;rw[aAH h];exact h'
theorem yE(l:List α):cut l none (some 1)=l.take 1:=vQ l 1
theorem aDi(l:List α):cut l (some 1) none=l.drop 1:=iK l 1
theorem aDx(l:List α):cut l (some 3) none=l.drop 3:=iK l 3
noncomputable def gF:D->D
 |.str t=>optI (nm t.cps.toList)
 |_=>.non
noncomputable def gT1:D->D
 |.str t=>.str (T (t.cps.toList.take 1))
 |_=>.non
theorem aDh(ws:List (List Nat)):(wordsD ws).map gF=(ws.map nm).map optI:=by
 simp only[wordsD,aCL]
 rfl
theorem aCv(ws:List (List Nat)):(wordsD ws).map gT1=wordsD (lets ws):=by
 simp only[wordsD,lets,aCL]
 rfl
theorem aKh(ws:List (List Nat)):(((lets ws).map T).filter (·==T [120])).length=manyX ws:=by
 unfold manyX
 rw[List.filter_map,aAK]
 congr 2
 funext w
 show(T w==T [120])=_
 rw[gY]
 by_cases h:w=[120] <;> simp[h]
theorem aFv(r:List (List Nat)):manyX r<=r.length:=by
 have:=aDS (·==[120]) (lets r)
 simp[lets]at this
 unfold manyX lets;exact this
theorem aMd(l:List α)(m:Nat):cut l (some 1) (some (1+(m:Int)))=(l.drop 1).take m:=by
 have:=aHu l 1 (1+m)
 rw[show(1+m:Nat) - 1=m by lia]at this
 rw[<- this]
 congr 2
theorem aQn(l:List α)(m:Nat):cut l (some (1+(m:Int))) none=l.drop (1+m):=by
 rw[<- iK l (1+m)]
 congr 2
theorem pP:∀ws:List (List Nat),strsOf (wordsD ws)=some (ws.map T)
 |[]=>rfl
 |w::r=>by
  show(strsOf (wordsD r)).map (T w::·)=_
  rw[pP r];rfl
theorem uS(ha:l.all (· < 128)=true)(hz:l.length < 1000000):Ok (fO [.d (.str (T l))] M) λr M'=>r=.d (optD (rdD (spl 32 l)))/\M'=M:=by
 have hw:∀w∈spl 32 l,w.length<=1000000:=λw h=>by have:=eK h;lia
 have hwa:∀w∈spl 32 l,w.all (· < 128)=true:=λw h=>uP ha h
 have hn:=gU 32 l
 have hne:=kT 32 l
 unfold fO
 refine cU rfl ?_
 unfold b_18
 rfl'
 rw[cM " " 32 rfl]
 refine iR (by rw[bQ];decide) (by rw[bQ];lia) ?_
 rw[fZ,aCL,show(spl 32 l).map (D.str ∘ T)=wordsD (spl 32 l)from rfl]
 generalize spl 32 l=ws at *
 rfl'
 refine dJ ?_
 rfl'
 refine fX ?_
 rw[yE]
 rfl'
 refine fX ?_
 rw[aDx]
 refine lM rfl rfl (by simp[wordsD];lia) ?_
 rw[show(wordsD ws).take 1++(wordsD ws).drop 3=wordsD (ws.take 1++ws.drop 3) by simp[wordsD]]
 refine⟨_,rfl,gF,by simp[wordsD];lia,(λt e=>by cases e),?_,?_⟩
 ·intro d hd acc
  obtain⟨w,hw',rfl⟩:=aBE.mp hd
  have hm:w∈ws:=by
   rcases aBH.mp hw' with h|h
   ·exact aBY h
   ·exact aFD h
  rfl'
  refine oP (by have:=hw w hm;lia) ?_
  rw[aDi]
  rfl'
  refine eN (aBC.mpr λx hx=>aBC.mp (hwa w hm) x (aFD hx)) (by have:=hw w hm;simp;lia)
 rw[show({ds:=wordsD (ws.take 1++ws.drop 3),k:=none}:Src).ds.map gF=((ws.take 1++ws.drop 3).map nm).map optI from aDh _]
 match ws,hw,hwa,hn,hne with
 |[],_,_,_,hne=>exact(hne rfl).elim
 |[_],_,_,_,_ =>
  rfl'
  refine⟨λ_=>?_,λh=>by simp[wordsD]at h⟩
  rfl'
  rw[aAC]
  exact⟨rfl,rfl⟩
 |[_,_],_,_,_,_ =>
  rfl'
  refine⟨λ_=>?_,λh=>by simp[wordsD]at h⟩
  rfl'
  rw[aAC]
  exact⟨rfl,rfl⟩
 |w0::w1::w2::r,hw,hwa,hn,_ =>
  rw[show((w0::w1::w2::r).take 1++(w0::w1::w2::r).drop 3).map nm=nm w0::r.map nm from rfl]
  have l0:=hw w0 (by simp)
  have l1:=hw w1 (by simp)
  have l2:=hw w2 (by simp)
  have hq:=jY (nm w0::r.map nm)
  have f2:∀M,Ok (cB [.d (.str (T w2))] M) λw M'=>w=.d (optI (num? 7 w2))/\M'=M:=λM=>eN (hwa w2 (by simp)) (by lia)
  have e0:∀w:List Nat,(T (w.take 1)==Str.ofString "s")=decide (w.head?=some 115):=λw=>by
   rw[cM "s" 115 rfl,gY]
   congr 1
   exact propext kK
  refine qB (fA (eF (Ok.mono (Q:=λq M'=>M'=M/\(q=true ↔ ¬(w0.head?=some 115/\(∃xs,allS (nm w0::r.map nm)=some xs)/\∃c,num? 7 w2=some c))) ?_ ?_)))
  ·rfl'
   refine⟨λh=>by simp[wordsD]at h;lia,λ_=>?_⟩
   simp only[wordsD,aAV]
   rfl'
   refine bS (dZ (k:=0) rfl) ?_
   rfl'
   refine oP (by lia) ?_
   rw[yE]
   rfl'
   rw[e0]
   refine⟨λh=>⟨rfl,by simp at h;simp[h]⟩,λh=>?_⟩
   have h:w0.head?=some 115:=by simpa using h
   rfl'
   refine pQ (xs:=(nm w0::r.map nm).map optI) rfl (by lia) ?_
   rw[iO]
   refine⟨_,rfl,λh'=>⟨rfl,?_⟩,λh'=>?_⟩
   ·rw[Option.isNone_iff_eq_none]at h';simp[h']
   obtain⟨xs,hxs⟩:∃xs,allS (nm w0::r.map nm)=some xs:=by
    cases q:allS (nm w0::r.map nm)with
    |none=>rw[q]at h';cases h'
    |some xs=>exact⟨xs,rfl⟩
   rfl'
   refine bS (dZ (k:=2) rfl) ?_
   rfl'
   refine(f2 _).mono ?_
   rintro _ _ ⟨rfl,rfl⟩
   rfl'
   refine⟨rfl,?_⟩
   rw[hxs]
   cases num? 7 w2 <;> simp[h,optI,isN]
  rintro q M ⟨rfl,hqq⟩
  refine kD (λh=>?_) (λh=>?_)
  ·rfl'
   rw[aAC]
   refine⟨?_,rfl⟩
   rw[show rdD (w0::w1::w2::r)=none from ?_]
   ·rfl
   have hnot:=hqq.mp h
   cases q:rdD (w0::w1::w2::r)with
   |none=>rfl
   |some d =>
    exfalso
    apply hnot
    simp only[rdD]at q
    split at q
    ·rename_i s c hs hc
     obtain⟨b1,b2⟩:=aHr hs
     refine⟨b1,?_,c,hc⟩
     split at q
     ·rename_i hr
      rw[hr.2,b2]
      exact⟨_,rfl⟩
     ·split at q
      ·obtain⟨⟨xs,hx⟩,_⟩:=aFp q
       rw[b2]
       exact⟨s::xs,by simp only[allS,hx];rfl⟩
      ·cases q
    ·cases q
  obtain⟨hh,⟨xs0,hxs⟩,c,hc⟩:(w0.head?=some 115/\(∃xs,allS (nm w0::r.map nm)=some xs)/\∃c,num? 7 w2=some c):=aBZ λz=>by rw[hqq.mpr z]at h;cases h
  obtain⟨s,xs,hs,hx,rfl⟩:∃s xs,nm w0=some s/\allS (r.map nm)=some xs/\xs0=s::xs:=by
   cases q:nm w0 with
   |none=>rw[q]at hxs;cases hxs
   |some s =>
    rw[q]at hxs
    simp only[allS,aAR]at hxs
    obtain⟨xs,h1,rfl⟩:=hxs
    exact⟨s,xs,rfl,h1,rfl⟩
  have hnb:=aPj hh hs
  have lr:=uZ hx
  rw[nA hxs]
  have hxl:r.length=xs.length:=by simpa using lr
  refine oR (fA (eF (Ok.mono (Q:=λq M'=>M'=M/\(q=true ↔ (w1=[42]/\r=[]))) ?_ ?_)))
  ·simp only[wordsD,aAV]
   rfl'
   refine bS (dZ (k:=1) rfl) ?_
   rfl'
   rw[cM "*" 42 rfl,gY]
   refine⟨λh=>?_,λh=>⟨rfl,by simp at h;simp[h]⟩⟩
   have h:w1=[42]:=by simpa using h
   rfl'
   refine⟨rfl,?_⟩
   cases r with
   |nil=>simp[h]
   |cons x r=>simp;lia
  rintro q' M ⟨rfl,hq'⟩
  refine kD (λh=>?_) (λh=>?_)
  ·obtain⟨rfl,rfl⟩:=hq'.mp h
   simp only[wordsD,aAV]
   rfl'
   refine bS (dZ (k:=0) rfl) ?_
   rfl'
   refine(f2 _).mono ?_
   rintro _ M ⟨rfl,rfl⟩
   rw[hc,show optI (some c)=.int c from rfl]
   rfl'
   rw[aAC]
   refine⟨?_,rfl⟩
   simp only[rdD,hnb,hc]
   rfl
  have hns:¬(w1=[42]/\r=[]):=λz=>by rw[hq'.mpr z]at h;cases h
  rfl'
  refine dJ ?_
  rfl'
  refine fX ?_
  rw[aDx,show(wordsD (w0::w1::w2::r)).drop 3=wordsD r from rfl]
  refine⟨_,rfl,gT1,by simp[wordsD]at hn ⊢;lia,(λt e=>by cases e),?_,?_⟩
  ·intro d hd acc
   obtain⟨w,hw',rfl⟩:=aBE.mp hd
   rfl'
   refine oP (by have:=hw w (by simp[hw']);lia) ?_
   rw[yE]
   exact⟨rfl,rfl⟩
  rw[show({ds:=wordsD r,k:=none}:Src).ds.map gT1=wordsD (lets r)from aCv r]
  rfl'
  refine aQb ?_
  rfl'
  rw[cM "x" 120 rfl]
  refine aGg (pP (lets r)) ?_
  rw[aKh]
  have hm:=aFv r
  have ll:(lets r).length=r.length:=by simp[lets]
  have hrl:r.length<=1000000:=by simp at hn;lia
  refine qB (fA (eF (Ok.mono (Q:=λq M'=>M'=M/\(q=true ↔ ¬(w1=[43]/\lets r=List.replicate (manyX r) [120]++List.replicate (r.length - manyX r) [115]))) ?_ ?_)))
  ·simp only[wordsD,aAV]
   rfl'
   refine bS (dZ (k:=1) rfl) ?_
   rfl'
   rw[cM "+" 43 rfl,gY]
   refine⟨λh=>⟨rfl,by simp at h;simp[h]⟩,λh=>?_⟩
   have h:w1=[43]:=by simpa using h
   rfl'
   refine vK ⟨by simp;lia,by lia,by lia⟩ ?_
   rfl'
   refine vK ⟨by simp;lia,by simp;lia,by simp;lia⟩ ?_
   refine lM rfl rfl (by simp;lia) ?_
   have ef:(List.replicate (↑(manyX r):Int).toNat [D.str (T [120])]).flatten++(List.replicate ((((lets r).map λw=>D.str (T w)).length:Int) - (manyX r:Int)).toNat [D.str (Str.ofString "s")]).flatten=wordsD (List.replicate (manyX r) [120]++List.replicate (r.length - manyX r) [115]):=by
    rw[cM "s" 115 rfl,aBF,aAK,ll,show((r.length:Int) - manyX r).toNat=r.length - manyX r by lia]
    simp[wordsD]
   refine lW (a:=.lst (wordsD (lets r))) (b:=.lst (wordsD (List.replicate (manyX r) [120]++List.replicate (r.length - manyX r) [115]))) rfl (congrArg (λz=>some (D.lst z)) ef) (by have:=iU (lets r);have:=iU (List.replicate (manyX r) [120]++List.replicate (r.length - manyX r) [115]);simp only[dep];lia) ?_
   rw[show eqD (.lst (wordsD (lets r))) (.lst (wordsD (List.replicate (manyX r) [120]++List.replicate (r.length - manyX r) [115])))=decide (lets r=List.replicate (manyX r) [120]++List.replicate (r.length - manyX r) [115])from kW _ _]
   refine⟨_,rfl,rfl,?_⟩
   simp[h]
  rintro q2 M ⟨rfl,hq2⟩
  refine kD (λh=>?_) (λh=>?_)
  ·rfl'
   rw[aAC]
   refine⟨?_,rfl⟩
   have hno:=hq2.mp h
   rw[show rdD (w0::w1::w2::r)=none from ?_]
   ·rfl
   simp only[rdD,hnb,hc]
   rw[aAL hns]
   split
   ·rename_i h43
    cases qq:rdA s c r with
    |none=>rfl
    |some d=>exact(hno ⟨h43,(aFp qq).2⟩).elim
   ·rfl
  ·obtain⟨rfl,hlt⟩:w1=[43]/\lets r=List.replicate (manyX r) [120]++List.replicate (r.length - manyX r) [115]:=aBZ λz=>by rw[hq2.mpr z]at h;cases h
   have hy:=aIh (s:=s) (c:=c) hx hlt
   simp only[wordsD,aAV]
   rfl'
   refine bS (dZ (k:=0) rfl) ?_
   rfl'
   refine bS (dZ (k:=2) rfl) ?_
   rfl'
   refine(f2 _).mono ?_
   rintro _ M ⟨rfl,rfl⟩
   rw[hc,show optI (some c)=.int c from rfl]
   rfl'
   refine fX ?_
   rw[aMd]
   rfl'
   refine jD rfl ?_
   rfl'
   refine fX ?_
   rw[aQn]
   rfl'
   refine jD rfl ?_
   rfl'
   rw[aAC]
   refine⟨?_,rfl⟩
   simp only[rdD,hnb,hc]
   rw[aAL hns,aAH trivial,hy]
   simp[optD,encD,natsD,Nat.add_comm 1]
open Classical in
noncomputable def rdRows(n g s:Nat):Nat->List (List Nat)->List Dd ⊕ Nat
 |_,[]=>.inl []
 |k,r::rs=>match rdD (spl 32 r)with
  |some d=>if okB n g s d then(match rdRows n g s (k+1) rs with|.inl ds=>.inl (d::ds)|.inr j=>.inr j)else .inr k
  |none=>.inr k
noncomputable def pre(a:List Dd):List Dd ⊕ Nat->List Dd ⊕ Nat
 |.inl ds=>.inl (a++ds)
 |.inr k=>.inr k
theorem zJ(x:List Dd ⊕ Nat):pre [] x=x:=by cases x <;> rfl
variable{r:List Nat}
theorem rO{k:Nat}(h:rdD (spl 32 r)=some d)(hk:okB n g s d)(a:List Dd):pre a (rdRows n g s k (r::rs))=pre (a++[d]) (rdRows n g s (k+1) rs):=by
 simp only[rdRows,h]
 rw[aAH hk]
 cases rdRows n g s (k+1) rs <;> simp[pre]
theorem lN{k:Nat}(h:∀d,rdD (spl 32 r)=some d->¬okB n g s d)(a:List Dd):pre a (rdRows n g s k (r::rs))=.inr k:=by
 simp only[rdRows]
 cases q:rdD (spl 32 r)with
 |none=>rfl
 |some d=>simp only;rw[aAL (h d q)];rfl
noncomputable def resT(l:List Nat):(Nat×Nat×Nat×List Dd) ⊕ Nat:=match spl 10 l with
 |[]=>.inr 0
 |h::rs=>match rdH (spl 32 h)with
  |none=>.inr 0
  |some (n,g,s)=>match rdRows n g s 1 rs with
   |.inl ds=>.inl (n,g,s,ds)
   |.inr k=>.inr k
variable{h:List Nat}
theorem rV(e:spl 10 l=h::rs)(hh:rdH (spl 32 h)=none):resT l=.inr 0:=by
 unfold resT;rw[e];simp only;rw[hh]
theorem mL{k:Nat}(e:spl 10 l=h::rs)(hh:rdH (spl 32 h)=some (n,g,s))(hr:rdRows n g s 1 rs=.inr k):resT l=.inr k:=by
 unfold resT;rw[e];simp only;rw[hh];simp only;rw[hr]
theorem vI(e:spl 10 l=h::rs)(hh:rdH (spl 32 h)=some (n,g,s))(hr:rdRows n g s 1 rs=.inl ds):resT l=.inl (n,g,s,ds):=by
 unfold resT;rw[e];simp only;rw[hh];simp only;rw[hr]
theorem aAt(d:Dd):isN (.d (encD d))=false:=by cases d <;> rfl
theorem aBh(hl:l.length < 1000000):Okx (λx M'=>M'=M/\∃k,resT l=.inr k/\x=.exn "BadText" "row" [.int (k:Nat)]) (pY [.d (.str (T l))] M) λw M'=>M'=M/\∃n g s ds,resT l=.inl (n,g,s,ds)/\w=.d (encP n g s ds):=by
 have hm:∀w∈spl 10 l,w.length < 16777216:=λw h=>by have:=eK h;lia
 have hn:=gU 10 l
 unfold pY
 refine uM rfl ?_
 unfold b_7
 rfl'
 rw[cM "\n" 10 rfl]
 refine iR (by rw[bQ];decide) (by rw[bQ];lia) ?_
 rw[fZ,aCL,show(spl 10 l).map (D.str ∘ T)=wordsD (spl 10 l)from rfl]
 obtain⟨h,rs,e⟩:∃h rs,spl 10 l=h::rs:=by
  cases q:spl 10 l with
  |nil=>exact(kT 10 l q).elim
  |cons h rs=>exact⟨h,rs,rfl⟩
 rw[e]at hm hn ⊢
 rfl'
 refine bS (dZ (k:=0) rfl) ?_
 rfl'
 refine(pL (hm _ (by simp))).mono ?_
 rintro _ M ⟨rfl,rfl⟩
 cases hh:rdH (spl 32 h)with
 |none =>
  rw[show optH none=.non from rfl]
  rfl'
  exact⟨aAC,0,rV e hh,rfl⟩
 |some r =>
  obtain⟨n,g,s⟩:=r
  obtain⟨_,hb⟩:=oJ hh
  simp only at hb
  rw[show optH (some (n,g,s))=.tup [.int n,.int g,.int s]from rfl]
  rfl'
  refine hW (by simp[isN]) ?_
  rfl'
  refine zF ?_
  rfl'
  refine fX ?_
  rw[aDi,show(wordsD (h::rs)).drop 1=wordsD rs from rfl]
  rfl'
  refine⟨_,_,rfl,rfl,by lia,?_⟩
  refine gP (λi L M'=>∃(ds:List Dd) (o7 o8 o9:Option W),M'=M++[ds.map encD]/\ds.length=i/\rdRows n g s 1 rs=pre ds (rdRows n g s (1+i) (rs.drop i))/\L=[some (.d (.str (T l))),some (.d (.lst (wordsD (h::rs)))),some (.d (.tup [.int n,.int g,.int s])),some (.d (.int n)),some (.d (.int g)),some (.d (.int s)),some (.ref M.length),o7,o8,o9]) ⟨[],none,none,none,by simp,rfl,by rw[zJ];rfl,rfl⟩ (λi L M _ _ t e=>by cases e) ?_ ?_
  ·rintro i d L M' hx0 ⟨ds,o7,o8,o9,rfl,hds,hr,rfl⟩
   obtain⟨x,hx,rfl⟩:=rN hx0
   clear hx0
   obtain⟨w,he,rfl⟩:∃w,rs[i]?=some w/\x=.str (T w):=by
    simp only[wordsD,aBN,aAR]at hx
    obtain⟨w,he,rfl⟩:=hx
    exact⟨w,he,rfl⟩
   have hmem:=aCD he
   have hi:=(aAE.mp he).1
   have hdr:rs.drop i=w::rs.drop (i+1):=by
    obtain⟨hi,rfl⟩:=aAE.mp he
    exact aCA hi
   rw[hdr]at hr
   simp only[aBJ]at hn
   rfl'
   refine(pH (hm _ (by simp[hmem]))).mono ?_
   rintro _ _ ⟨rfl,rfl⟩
   cases hd:rdD (spl 32 w)with
   |none =>
    rw[lN (λd z=>by rw[hd]at z;cases z)]at hr
    rw[show optD none=.non from rfl]
    rfl'
    refine⟨by simp,1+i,mL e hh hr,?_⟩
    simp
   |some f =>
    rw[show optD (some f)=encD f from rfl]
    rfl'
    refine⟨(λh=>by rw[aAt]at h;cases h),λ_=>?_⟩
    rfl'
    refine(tO hb.1.1 hb.1.2).mono ?_
    rintro _ _ ⟨⟨b,rfl,hbt⟩,rfl⟩
    cases b with
    |false =>
     rw[lN (λd z=>(by rw[hd]at z;cases z;exact λy=>(by have:=hbt.mpr y;cases this)))]at hr
     rfl'
     refine⟨by simp,1+i,mL e hh hr,?_⟩
     simp
    |true =>
     rw[rO hd (hbt.mp rfl)]at hr
     rfl'
     refine gA lJ (by simp;lia) ?_
     rw[mM]
     rfl'
     refine⟨ds++[f],_,_,_,by simp,by simp[hds],?_,rfl⟩
     rw[hr];congr 2
  ·rintro L M' ⟨ds,o7,o8,o9,rfl,hds,hr,rfl⟩
   simp only[lZ,wordsD,aAK,List.drop_length]at hr
   rfl'
   refine jD (xs:=ds.map encD) (by simp[sv,lr,lv]) ?_
   rfl'
   refine⟨by simp,n,g,s,ds,vI e hh (by rw[hr];simp[rdRows,pre]),rfl⟩
theorem vP{n g s:Nat}:∀{rs:List (List Nat)} {k:Nat} {ds:List Dd},rdRows n g s k rs=.inl ds->rs=ds.map row/\∀d∈ds,okB n g s d
 |[],k,ds,h=>by simp only[rdRows,Sum.inl.injEq]at h;subst h;simp
 |r::rs,k,ds,h=>by
  simp only[rdRows]at h
  split at h
  ·rename_i d hd
   split at h
   ·rename_i hk
    split at h
    ·rename_i es he
     cases h
     obtain⟨h1,h2⟩:=vP he
     have er:r=row d:=by
      have:=aGx hd
      unfold row
      rw[<- this,kG]
     refine⟨by rw[er,h1];simp,?_⟩
     intro x hx
     rcases aAO.mp hx with rfl|hx
     ·exact hk
     ·exact h2 x hx
    ·cases h
   ·cases h
  ·cases h
theorem aBa{ds:List Dd}(h:resT l=.inl (n,g,s,ds)):l=prog n g s ds/\((2<=n/\n<=1000000)/\g<=8/\1<=s/\s<=9)/\(∀d∈ds,okB n g s d)/\ds.length<=l.length:=by
 have hn:=gU 10 l
 have hj:=kG 10 l
 unfold resT at h
 split at h
 ·cases h
 ·rename_i hd rs e
  split at h
  ·cases h
  ·rename_i n' g' s' hh
   split at h
   ·rename_i es he
    cases h
    obtain⟨h1,h2⟩:=vP he
    obtain⟨h3,h4⟩:=oJ hh
    have er:hd=headR n g s:=by
     unfold headR
     rw[<- kG 32 hd,h3]
    rw[e,er,h1]at hj
    rw[e,h1]at hn
    exact⟨hj.symm,h4,h2,by simp at hn;lia⟩
   ·cases h
noncomputable def dueD:(Nat×Nat×Nat×List Dd) ⊕ Nat->D
 |.inl (n,g,s,ds)=>.tup [.str "told",encP n g s ds]
 |.inr k=>.tup [.str "refused",.int (k:Nat)]
theorem qR(ha:l.all (· < 128)=true)(hl:l.length < 1000000):Ok (eR [.d (.str (T l))] M) λw M'=>w=.d (dueD (resT l))/\M'=M:=by
 have hm:∀w∈spl 10 l,w.length < 1000000:=λw h=>by have:=eK h;lia
 have hma:∀w∈spl 10 l,w.all (· < 128)=true:=λw h=>uP ha h
 have hn:=gU 10 l
 unfold eR
 refine cU rfl ?_
 unfold b_19
 rfl'
 rw[cM "\n" 10 rfl]
 refine iR (by rw[bQ];decide) (by rw[bQ];lia) ?_
 rw[fZ,aCL,show(spl 10 l).map (D.str ∘ T)=wordsD (spl 10 l)from rfl]
 obtain⟨h,rs,e⟩:∃h rs,spl 10 l=h::rs:=by
  cases q:spl 10 l with
  |nil=>exact(kT 10 l q).elim
  |cons h rs=>exact⟨h,rs,rfl⟩
 rw[e]at hm hma hn ⊢
 rfl'
 refine bS (dZ (k:=0) rfl) ?_
 rfl'
 refine(uR (hma _ (by simp)) (hm _ (by simp))).mono ?_
 rintro _ M ⟨rfl,rfl⟩
 cases hh:rdH (spl 32 h)with
 |none =>
  rw[show optH none=.non from rfl]
  rfl'
  rw[aAC,rV e hh]
  exact⟨rfl,rfl⟩
 |some r =>
  obtain⟨n,g,s⟩:=r
  obtain⟨_,hb⟩:=oJ hh
  simp only at hb
  rw[show optH (some (n,g,s))=.tup [.int n,.int g,.int s]from rfl]
  rfl'
  refine hW (by simp[isN]) ?_
  rfl'
  refine⟨_,_,rfl,rfl,⟨by decide,by simp only[in62,aAU,wordsD,aAK];lia⟩,?_⟩
  refine gP (λi L M'=>∃(ds:List Dd) (o4 o5:Option W),M'=M++[ds.map encD]/\ds.length=i/\rdRows n g s 1 rs=pre ds (rdRows n g s (1+i) (rs.drop i))/\L=[some (.d (.str (T l))),some (.d (.lst (wordsD (h::rs)))),some (.d (.tup [.int n,.int g,.int s])),some (.ref M.length),o4,o5]) ⟨[],none,none,by simp,rfl,by rw[zJ];rfl,rfl⟩ (λi L M _ _ t e=>by cases e) ?_ ?_
  ·rintro i d L M' hx0 ⟨ds,o4,o5,rfl,hds,hr,rfl⟩
   obtain⟨hi,rfl⟩:=iD hx0
   have hi:i < rs.length:=by simp[wordsD]at hi;lia
   have hg:(wordsD (h::rs))[1+i]?=some (.str (T rs[i])):=by
    rw[Nat.add_comm];simp[wordsD,hi]
   have hdr:rs.drop i=rs[i]::rs.drop (i+1):=aCA hi
   have hmem:rs[i]∈h::rs:=by simp
   rw[hdr]at hr
   generalize rs[i]=w at *
   simp only[aBJ]at hn
   rfl'
   refine bS (by have:=dZ (k:=1+i) hg;simpa using this) ?_
   rfl'
   refine(uS (hma _ hmem) (hm _ hmem)).mono ?_
   rintro _ _ ⟨rfl,rfl⟩
   cases hd:rdD (spl 32 w)with
   |none =>
    rw[lN (λd z=>by rw[hd]at z;cases z)]at hr
    rw[show optD none=.non from rfl]
    rfl'
    rw[mL e hh hr]
    exact⟨by simp[dueD],by simp⟩
   |some f =>
    rw[show optD (some f)=encD f from rfl]
    rfl'
    refine⟨(λh=>by rw[aAt]at h;cases h),λ_=>?_⟩
    rfl'
    refine(rB hb.1.1 hb.1.2).mono ?_
    rintro _ _ ⟨⟨b,rfl,hbt⟩,rfl⟩
    cases b with
    |true =>
     rw[lN (λd z=>(by rw[hd]at z;cases z;exact hbt.mp rfl))]at hr
     rfl'
     rw[mL e hh hr]
     exact⟨by simp[dueD],by simp⟩
    |false =>
     rw[rO hd (aBZ λz=>(by have:=hbt.mpr z;cases this))]at hr
     rfl'
     refine gA lJ (by simp;lia) ?_
     rw[mM]
     rfl'
     refine⟨ds++[f],_,_,by simp,by simp[hds],?_,rfl⟩
     rw[hr];congr 2
  ·rintro L M' ⟨ds,o4,o5,rfl,hds,hr,rfl⟩
   have hlen:(rngD 1 (((wordsD (h::rs)).length:Int) - 1).toNat).length=rs.length:=by simp[rngD,wordsD]
   rw[hlen,List.drop_length]at hr
   rfl'
   refine jD (xs:=ds.map encD) (by simp[sv,lr,lv]) ?_
   rfl'
   refine aHk (by simp) ?_
   rfl'
   rw[vI (ds:=ds) e hh (by rw[hr];simp[rdRows,pre])]
   exact⟨rfl,by simp⟩
theorem qI{EX:D->Mm->Prop}(hl:l.length < 1000000):Okx EX (dX [.d (.str (T l))] M) λw M'=>w=.d (dueD (resT l))/\M'=M:=by
 unfold dX
 refine uM rfl ?_
 unfold b_1a
 rfl'
 refine aBw ?_
 rfl'
 refine(aBh hl).monoX ?_ ?_
 ·rintro _ M ⟨rfl,n,g,s,ds,hr,rfl⟩
  rw[hr]
  rfl'
  exact⟨rfl,aAC⟩
 ·rintro x M ⟨rfl,k,hr,rfl⟩
  refine⟨rfl,?_⟩
  rw[hr]
  rfl'
  dsimp only[unset]
  rfl'
  exact⟨rfl,aAC⟩
theorem xE(ha:l.all (· < 128)=true)(hl:l.length<=1402):Ok (iJ [.d (.str (T l))] M) λw M'=>w=.d (.bl true)/\M'=M:=by
 unfold iJ
 refine uM rfl ?_
 unfold b_1e
 rfl'
 refine(qI (by lia)).mono ?_
 rintro _ M ⟨rfl,rfl⟩
 rfl'
 refine(qR ha (by lia)).mono ?_
 rintro _ M ⟨rfl,rfl⟩
 cases hr:resT l with
 |inr k =>
  simp only[dueD]
  rfl'
  refine(qE (d:=.int (k:Nat)) rfl (by simp[sz])).mono ?_
  rintro _ M ⟨rfl,rfl⟩
  rfl'
  exact⟨rfl,aAC⟩
 |inl p =>
  obtain⟨n,g,s,ds⟩:=p
  obtain⟨e,hb,ok,hds⟩:=aBa hr
  have okd:∀d∈ds,OkD n g s d:=λd h=>(ok d h).1
  have hw:∀d∈ds,Wr d:=λd h=>aKw (by lia) hb.2.1 hb.2.2.2 (ok d h).1
  simp only[dueD]
  rfl'
  refine(qE (d:=encP n g s ds) aFr (by have:=aHz (G:=g) (S:=s) okd;lia)).mono ?_
  rintro _ M ⟨rfl,rfl⟩
  rfl'
  refine(aBy hb hw (by lia)).mono ?_
  rintro _ M ⟨rfl,rfl⟩
  rw[<- e]
  rfl'
  exact⟨by rw[aGN],aAC⟩
structure Pn(n:Nat)(l:List Nat):Prop where
 a:l.all (· < 128)=true
 n:l.length<=n
variable{a:List Nat}
theorem Pn.app{n':Nat}{b:List Nat}(h:Pn n a)(g:Pn n' b):Pn (n+n') (a++b):=⟨by rw[List.all_append,h.a,g.a];rfl,by have:=h.n;have:=g.n;rw[aBB];lia⟩
theorem Pn.take{n:Nat}{a:List Nat}(h:Pn n a)(i:Nat):Pn n (a.take i):=⟨aBC.mpr λx hx=>aBC.mp h.a x (aBY hx),by have:=h.n;rw[aDP];lia⟩
theorem Pn.drop{n:Nat}{a:List Nat}(h:Pn n a)(i:Nat):Pn n (a.drop i):=⟨aBC.mpr λx hx=>aBC.mp h.a x (aFD hx),by have:=h.n;rw[aGJ];lia⟩
theorem Pn.cut{n:Nat}{a:List Nat}(h:Pn n a)(lo hi:Option Int):Pn n (cut a lo hi):=(h.drop _).take _
theorem Pn.one(h:c < 128):Pn 1 [c]:=⟨by simpa using h,by simp⟩
theorem Pn.mono(h:Pn n a)(hm:n<=m):Pn m a:=⟨h.a,aBD h.n hm⟩
theorem Pn.rep{n:Nat}{a:List Nat}(h:Pn n a):∀k:Nat,Pn (k*n) (List.replicate k a).flatten
 |0=>⟨rfl,by simp⟩
 |k+1=>by
  rw[aCT,aET,Nat.succ_mul,Nat.add_comm]
  exact h.app (h.rep k)
variable{EX:D->Mm->Prop}{Q:W->Mm->Prop}{a b:List Nat}{n n':Nat}{x y:Str}
theorem aAd(ex:x=T a)(ey:y=T b)(h:Pn n a)(g:Pn n' b)(hz:n+n'<=16777216)(q:∀z,Pn (n+n') z->Q (.d (.str (T z))) M):Okx EX (pAdd (.d (.str x)) (.d (.str y)) M) Q:=by
 subst ex ey
 refine aAl (by have:=h.n;have:=g.n;rw[bQ,bQ];lia) ?_
 rw[mE]
 exact q _ (h.app g)
theorem zZ(h:Pn n a)(hz:n<=16777216)(q:∀z,Pn n z->Q (.d (.str (T z))) M):Okx EX (pSlS (.d (.str (T a))) lo hi M) Q :=
 oP (by have:=h.n;lia) (q _ (h.cut lo hi))
theorem aKk{k:Int}{K:Nat}(ex:x=T a)(h:Pn n a)(hk:1<=k/\k<=K)(hK:K<=10000)(hn:n<=1000)(q:∀z,Pn (K*n) z->Q (.d (.str (T z))) M):Okx EX (pRepT (.d (.str x)) (.d (.int k)) M) Q:=by
 subst ex
 refine aJw ⟨hk.1,by lia,by have:=h.n;lia⟩ ?_
 exact q _ ((h.rep k.toNat).mono (Nat.mul_le_mul_right n (by lia)))
noncomputable section
def tx(l:List Nat):D:=.str (T l)
theorem aLl{d:Int}(h0:0<=d)(h1:d < l.length)(ha:l.all (· < 128)=true):∃c,atI l d=some c/\c < 128:=by
 have hd:d.toNat < l.length:=by lia
 refine⟨l[d.toNat],?_,by simpa using aBC.mp ha _ (aEE hd)⟩
 simp only[atI,ixN]
 rw[aAH h0,aAH h1]
 simp[hd]
def sg1:List Nat:=" !\"#$&'()*+,-./0123456789:;<=>?@\x5b\\]^_`{|}~abcdefghijklmnopqrstuvwxyz\n".toList.map Char.toNat
def sg2:List Nat:="ABCDEFGHIJKLMNOPQRSTUVWXYZ0123456789sx +*".toList.map Char.toNat
end
theorem aLg:(sg1++sg2).all (· < 128)=true:=by decide +kernel
theorem aGe:(sg1++sg2).length=110:=by decide +kernel
theorem aCl{b:Nat}(hb:Bx M b):Ok (kB [.ref b] M) λw M'=>∃l,w=.d (tx l)/\Pn 1 l/\Nx b M M':=by
 have n:=Nx.refl hb
 unfold kB
 refine cU rfl ?_
 unfold b_1d
 rfl'
 rw[dG,dG]
 refine cL (by decide +kernel) ?_
 rfl'
 (refine(aY hb (by lia) (by lia)).mono ?_;rintro _ _ ⟨d1,rfl,l_d1,u_d1,n'⟩;replace n:=n.trans n';replace hb:=n'.bx hb;clear n')
 rfl'
 obtain⟨c,ec,hc⟩:=aLl (l:=sg1++sg2) l_d1 (by rw[aGe];lia) aLg
 refine pE (l:=sg1++sg2) ec (by rw[aGe];lia) ?_
 rfl'
 rw[n.take]
 exact⟨Pn.one hc,n⟩
theorem Bx.push{a b c:Int}:Bx (M++[[.int a,.int b,.int c]]) M.length:=⟨a,b,c,by simp⟩
theorem fT(n:Nat):(dig n).all (· < 128)=true:=aBC.mpr λc hc=>by
 have:=aKx n c hc
 simp[isF]at this ⊢;lia
theorem kH{c:Nat}(hc:c < 128):∀{ws:List (List Nat)},(∀w∈ws,w.all (· < 128)=true)->(joinL c ws).all (· < 128)=true
 |[],_=>rfl
 |[w],h=>h w (by simp)
 |w::y::r,h=>by
  rw[cN (by simp),List.all_append,aCY,h w (by simp),kH hc λz hz=>h z (by simp[hz])]
  simpa using hc
theorem aJf(d:Dd):(row d).all (· < 128)=true:=by
 refine kH (by decide) λw hw=>?_
 cases d with
 |scale s u =>
  simp only[dw,aAO,aBW,aED]at hw
  rcases hw with rfl|rfl|rfl
  ·simp only[sw,aCY,fT];decide
  ·decide
  ·exact fT _
 |add s c gs ts =>
  simp only[dw,aAO,aBH,aBE]at hw
  rcases hw with rfl|rfl|rfl|⟨k,_,rfl⟩|⟨k,_,rfl⟩
  ·simp only[sw,aCY,fT];decide
  ·decide
  ·exact fT _
  ·simp only[xw,aCY,fT];decide
  ·simp only[sw,aCY,fT];decide
theorem aEb(n g s:Nat)(ds:List Dd):(prog n g s ds).all (· < 128)=true:=by
 refine kH (by decide) λw hw'=>?_
 rcases aAO.mp hw' with rfl|hw'
 ·refine kH (by decide) λw hw'=>?_
  simp only[hw,aAO,aBW,aED]at hw'
  rcases hw' with rfl|rfl|rfl|rfl|rfl|rfl
  ·decide
  ·exact fT _
  ·decide
  ·exact fT _
  ·decide
  ·exact fT _
 ·obtain⟨d,_,rfl⟩:=aBE.mp hw'
  exact aJf d
structure Mem(k:Nat)(M:Mm)(ts:List (List Nat))(n:Nat):Prop where
 b:Bx M k
 l:M.length=k+2
 t:M[k+1]?=some (ts.map tx)
 n:ts.length<=n
 g:∀t∈ts,Pn 1402 t
variable{b:Nat}
theorem Mem.add{u:List Nat}(h:Mem b M ts n)(hu:Pn 1402 u):Mem b (M.set (b+1) ((ts++[u]).map tx)) (ts++[u]) (n+1):=by
 obtain⟨x,y,z,e⟩:=h.b
 refine⟨⟨x,y,z,by rw[aBS (by lia)];exact e⟩,by simp[h.l],aBT (by rw[h.l];lia),by have:=h.n;rw[aBB];simp;lia,λt ht=>?_⟩
 rcases aBH.mp ht with ht|ht
 ·exact h.g t ht
 ·rw[aBO.mp ht];exact hu
theorem Mem.take(h:Mem b M ts n)(x:Nx b M M'):Mem b M' ts n:=⟨x.bx h.b,by rw[x.len];exact h.l,by rw[x.get (by lia)];exact h.t,h.n,h.g⟩
theorem aOq(ns:List Int)(hn:ns.length<=63):Ok (pB [.d (.fz (ns.map D.int))] []) λw _=>w=.d (.bl true):=by
 unfold pB
 refine uM rfl ?_
 unfold b_1f
 rfl'
 refine(wN (by lia) hn).mono ?_
 rintro _ _ ⟨x0,y0,z0,rfl,rfl⟩
 have hb:Bx ([]++[[D.int x0,D.int y0,D.int z0]]) ([]:Mm).length:=Bx.push
 have n:=Nx.refl hb
 rfl'
 refine(yO hb).mono ?_
 rintro _ _ ⟨m,G,S,rfl,m2,m1,hG,hS,hS2,n'⟩
 replace n:=n.trans n'
 replace hb:=n'.bx hb
 clear n'
 rfl'
 refine(oB hb m2 m1 hG hS hS2 (by lia) (by lia)).mono ?_
 rintro _ M1 ⟨ds,rfl,ok,sr,hl,n'⟩
 obtain⟨m',rfl⟩:∃k:Nat,m=k:=⟨m.toNat,by lia⟩
 have hbd:(2<=m'/\m'<=1000000)/\G<=8/\1<=S/\S<=9:=⟨⟨by lia,by lia⟩,hG,hS,hS2⟩
 have hw:∀d∈ds,Wr d:=λd h=>aKw (by lia) hG hS2 (ok d h)
 rfl'
 refine(wZ hbd hw (by lia)).mono ?_
 rintro _ M1 ⟨rfl,rfl⟩
 have p0:Pn 700 (prog m' G S ds):=⟨aEb _ _ _ _,by have:=aFe hbd hw;lia⟩
 clear n n' hb hw hbd ok sr hl
 generalize prog m' G S ds=l at p0
 have hln:=p0.n
 rfl'
 refine(wN (by lia) hn).mono ?_
 rintro _ _ ⟨x1,y1,z1,rfl,rfl⟩
 have hb:Bx (M1++[[D.int x1,D.int y1,D.int z1]]) M1.length:=Bx.push
 rfl'
 have m0:Mem M1.length (M1++[[D.int x1,D.int y1,D.int z1]]++[[tx l]]) [l] 1:=by
  obtain⟨x,y,z,ee⟩:=hb
  exact⟨⟨x,y,z,by rw[aAX (by simp)];exact ee⟩,by simp,by simp,by simp,λt ht=>by rw[aBO.mp ht];exact p0.mono (by lia)⟩
 rw[show(M1++[[D.int x1,D.int y1,D.int z1]]).length=M1.length+1 by simp]
 generalize M1.length=b at *
 refine iX (by rw[bQ];lia) ?_
 rw[bQ]
 rfl'
 refine⟨by simp only[in62,aAU];lia,?_⟩
 refine gP (λi L M'=>∃(ts:List (List Nat)) (o7 o8:Option W),Mem b M' ts (1+i)/\L=[some (.d (.fz (ns.map D.int))),some (.ref b),some (.d (.int m')),some (.d (.int G)),some (.d (.int S)),some (.d (.str (T l))),some (.ref (b+1)),o7,o8]) ⟨[l],_,_,m0,rfl⟩ (λi L M _ _ t e=>by cases e) ?_ ?_
 ·clear m0
  rintro i d _ M3 hd ⟨ts,o7,o8,m,rfl⟩
  obtain⟨hi,rfl⟩:=iD hd
  have hi:i < l.length:=by simpa using hi
  have hat:atI l (0+(i:Int))=some l[i]:=by
   simp only[atI,ixN]
   rw[aAH (by lia),aAH (by lia)]
   rw[show(0+(i:Int)).toNat=i by lia];simp[hi]
  have hc:l[i] < 128:=by simpa using aBC.mp p0.a l[i] (aEE _)
  have pc:=Pn.one hc
  generalize l[i]=c at hat pc
  have hnn:=m.n
  rfl'
  refine(aY m.b (by lia) (by lia)).mono ?_
  rintro _ M4 ⟨d3,rfl,l3,u3,n3⟩
  replace m:=m.take n3
  clear n3
  rfl'
  refine zZ p0 (by lia) λa1 p1=>?_
  rfl'
  refine pE hat (by lia) ?_
  rfl'
  refine aKk (K:=2) rfl pc ⟨by lia,by lia⟩ (by lia) (by lia) λa2 p2=>?_
  rfl'
  refine(aCl m.b).mono ?_
  rintro _ M5 ⟨a3,rfl,p3,n3⟩
  replace m:=m.take n3
  clear n3
  rfl'
  obtain⟨w,ew,hw⟩:=at3 l3 u3 (.str (Str.ofString "")) (.str (T a2)) (tx a3)
  refine bS ew ?_
  obtain⟨a4,rfl,p4⟩:∃a4,w=tx a4/\Pn 2 a4:=by
   rcases hw with rfl|rfl|rfl
   ·exact⟨[],by rw[dG];rfl,rfl,by simp⟩
   ·exact⟨a2,rfl,p2⟩
   ·exact⟨a3,rfl,p3.mono (by lia)⟩
  refine aAd rfl rfl p1 p4 (by lia) λa5 p5=>?_
  rfl'
  refine zZ p0 (by lia) λa6 p6=>?_
  rfl'
  refine aAd rfl rfl p5 p6 (by lia) λa7 p7=>?_
  have m2:=m.add (u:=a7) p7
  have hn4:=m.n
  refine gA (xs:=ts.map tx) m.t (by simp;lia) ?_
  rw[show ts.map tx++[.str (T a7)]=(ts++[a7]).map tx by simp[tx]]
  rfl'
  exact⟨ts++[a7],_,_,by rw[show 1+(i+1)=1+i+1 by lia];exact m2,rfl⟩
 ·clear m0
  rintro _ M3 ⟨ts,o7,o8,m,rfl⟩
  have hl2:(rngD 0 ((l.length:Nat):Int).toNat).length=l.length:=by simp[rngD]
  rw[hl2]at m
  have hnn:=m.n
  rfl'
  refine dJ ?_
  rfl'
  refine aIb m.t ?_
  refine lM (xs:=ts.map tx) (ys:=cut (ts.map tx) none (some 1)) (by simp only[lv,m.t]) rfl (by have:=aAb (xs:=ts.map tx) (lo:=none) (hi:=some 1);simp at this;simp;lia) ?_
  have hlc:=aAb (xs:=ts.map tx) (lo:=none) (hi:=some 1)
  refine⟨_,rfl,λ_=>.bl true,by simp at hlc;simp;lia,(λt e=>by cases e),λd hd acc=>?_,?_⟩
  ·obtain⟨t,ht',rfl⟩:∃t,t∈ts/\d=tx t:=by
    have hm:d∈ts.map tx:=by
     rcases aBH.mp hd with hm|hm
     ·exact hm
     ·exact aHp hm
    obtain⟨t,h1,rfl⟩:=aBE.mp hm
    exact⟨t,h1,rfl⟩
   have pt:=m.g t ht'
   rfl'
   refine(xE pt.a pt.n).mono ?_
   rintro _ _ ⟨rfl,rfl⟩
   exact⟨rfl,rfl⟩
  ·rfl'
   refine aMf (bs:=List.replicate (ts.map tx++cut (ts.map tx) none (some 1)).length true) rfl (by simp[List.map_const',aGC]) ?_
   rfl'
   simp
theorem aGl(ns:List Int)(hn:ns.length<=63):∃M',pB [.d (.fz (ns.map D.int))] []=.ok (.d (.bl true)) M':=by
 obtain⟨_,M,e,rfl⟩:=lB.mp (aOq ns hn)
 exact⟨M,e⟩
theorem aMv{l:PySem.W.OpenLaw}{w:World}{h:Heap}{fa:Addr}{f1 f2 f3 f4 f5 f6 f7 f8 f9 f10 f11 f12 f13 f14 f15 f16 f17 f18 f19 f20 f21 f22 f23 f24 f25 f26 f27 f28 f29 f30 f31 f32 eL eBadText jBadText eNoDeed jNoDeed eNoInverse jNoInverse eNoMove jNoMove eNoPaper jNoPaper eNoRest eNoRoot jNoRoot eNoRow eTooMany jTooMany:Addr}{od1 an1 od2 an2 od3 an3 od4 an4 od5 an5 od6 an6 od7 an7 od8 an8 od9 an9 od10 an10 od11 an11 od12 an12 od13 an13 od14 an14 od15 an15 od16 an16 od17 an17 od18 an18 od19 an19 od20 an20 od21 an21 od22 an22 od23 an23 od24 an24 od25 an25 od26 an26 od27 an27 od28 an28 od29 an29 od30 an30 od31 an31 od32 an32 odBadText anBadText:Option Addr}{sl1 sl2 sl3 sl4 sl5 sl6 sl7 sl8 sl9 sl10 sl11 sl12 sl13 sl14 sl15 sl16 sl17 sl18 sl19 sl20 sl21 sl22 sl23 sl24 sl25 sl26 sl27 sl28 sl29 sl30 sl31 sl32 slBadText:Array (Option Value)}{oc1 kV1 dc1 pm1 cd1 ct1 oc2 kV2 dc2 pm2 cd2 ct2 oc3 kV3 dc3 pm3 cd3 ct3 oc4 kV4 dc4 pm4 cd4 ct4 oc5 kV5 dc5 pm5 cd5 ct5 oc6 kV6 dc6 pm6 cd6 ct6 oc7 kV7 dc7 pm7 cd7 ct7 oc8 kV8 dc8 pm8 cd8 ct8 oc9 kV9 dc9 pm9 cd9 ct9 oc10 kV10 dc10 pm10 cd10 ct10 oc11 kV11 dc11 pm11 cd11 ct11 oc12 kV12 dc12 pm12 cd12 ct12 oc13 kV13 dc13 pm13 cd13 ct13 oc14 kV14 dc14 pm14 cd14 ct14 oc15 kV15 dc15 pm15 cd15 ct15 oc16 kV16 dc16 pm16 cd16 ct16 oc17 kV17 dc17 pm17 cd17 ct17 oc18 kV18 dc18 pm18 cd18 ct18 oc19 kV19 dc19 pm19 cd19 ct19 oc20 kV20 dc20 pm20 cd20 ct20 oc21 kV21 dc21 pm21 cd21 ct21 oc22 kV22 dc22 pm22 cd22 ct22 oc23 kV23 dc23 pm23 cd23 ct23 oc24 kV24 dc24 pm24 cd24 ct24 oc25 kV25 dc25 pm25 cd25 ct25 oc26 kV26 dc26 pm26 cd26 ct26 oc27 kV27 dc27 pm27 cd27 ct27 oc28 kV28 dc28 pm28 cd28 ct28 oc29 kV29 dc29 pm29 cd29 ct29 oc30 kV30 dc30 pm30 cd30 ct30 oc31 kV31 dc31 pm31 cd31 ct31 oc32 kV32 dc32 pm32 cd32 ct32 ocBadText kVBadText dcBadText pmBadText cdBadText ctBadText:Value}{tFIGURES tGREATEST_N tMOST_FACTORS tMOST_FIGURES tMOST_GIVENS tMOST_SHELVES:Tok}(X:K.In h)(G:h.Ns mainGlobals mg)(hfa:mg "law"=some (.ref fa))
  (a1:nsIn K mainGlobals "figures_end"=some (some (.ref f1)))
  (l1:K.lookup f1=some ⟨oc1,od1,.func (fnOf "figures_end" "figures_end" (defArgs bK) (defBody bK) (defScope bK) .none kV1 dc1 pm1 an1 cd1 ct1),sl1⟩)
  (c1:codeIn K cd1 "figures_end"=true)
  (k1:keepIn K (.ref f1)=true)
  (a2:nsIn K mainGlobals "number_of"=some (some (.ref f2)))
  (l2:K.lookup f2=some ⟨oc2,od2,.func (fnOf "number_of" "number_of" (defArgs cD) (defBody cD) (defScope cD) .none kV2 dc2 pm2 an2 cd2 ct2),sl2⟩)
  (c2:codeIn K cd2 "number_of"=true)
  (k2:keepIn K (.ref f2)=true)
  (a3:nsIn K mainGlobals "inverse"=some (some (.ref f3)))
  (l3:K.lookup f3=some ⟨oc3,od3,.func (fnOf "inverse" "inverse" (defArgs dB) (defBody dB) (defScope dB) .none kV3 dc3 pm3 an3 cd3 ct3),sl3⟩)
  (c3:codeIn K cd3 "inverse"=true)
  (k3:keepIn K (.ref f3)=true)
  (a4:nsIn K mainGlobals "is_deed"=some (some (.ref f4)))
  (l4:K.lookup f4=some ⟨oc4,od4,.func (fnOf "is_deed" "is_deed" (defArgs cZ) (defBody cZ) (defScope cZ) .none kV4 dc4 pm4 an4 cd4 ct4),sl4⟩)
  (c4:codeIn K cd4 "is_deed"=true)
  (k4:keepIn K (.ref f4)=true)
  (a5:nsIn K mainGlobals "are_factors"=some (some (.ref f5)))
  (l5:K.lookup f5=some ⟨oc5,od5,.func (fnOf "are_factors" "are_factors" (defArgs bL) (defBody bL) (defScope bL) .none kV5 dc5 pm5 an5 cd5 ct5),sl5⟩)
  (c5:codeIn K cd5 "are_factors"=true)
  (k5:keepIn K (.ref f5)=true)
  (a6:nsIn K mainGlobals "show"=some (some (.ref f6)))
  (l6:K.lookup f6=some ⟨oc6,od6,.func (fnOf "show" "show" (defArgs gK) (defBody gK) (defScope gK) .none kV6 dc6 pm6 an6 cd6 ct6),sl6⟩)
  (c6:codeIn K cd6 "show"=true)
  (k6:keepIn K (.ref f6)=true)
  (a7:nsIn K mainGlobals "show_deed"=some (some (.ref f7)))
  (l7:K.lookup f7=some ⟨oc7,od7,.func (fnOf "show_deed" "show_deed" (defArgs bP) (defBody bP) (defScope bP) .none kV7 dc7 pm7 an7 cd7 ct7),sl7⟩)
  (c7:codeIn K cd7 "show_deed"=true)
  (k7:keepIn K (.ref f7)=true)
  (a8:nsIn K mainGlobals "read"=some (some (.ref f8)))
  (l8:K.lookup f8=some ⟨oc8,od8,.func (fnOf "read" "read" (defArgs gZ) (defBody gZ) (defScope gZ) .none kV8 dc8 pm8 an8 cd8 ct8),sl8⟩)
  (c8:codeIn K cd8 "read"=true)
  (k8:keepIn K (.ref f8)=true)
  (a9:nsIn K mainGlobals "read_head"=some (some (.ref f9)))
  (l9:K.lookup f9=some ⟨oc9,od9,.func (fnOf "read_head" "read_head" (defArgs bW) (defBody bW) (defScope bW) .none kV9 dc9 pm9 an9 cd9 ct9),sl9⟩)
  (c9:codeIn K cd9 "read_head"=true)
  (k9:keepIn K (.ref f9)=true)
  (a10:nsIn K mainGlobals "read_deed"=some (some (.ref f10)))
  (l10:K.lookup f10=some ⟨oc10,od10,.func (fnOf "read_deed" "read_deed" (defArgs cC) (defBody cC) (defScope cC) .none kV10 dc10 pm10 an10 cd10 ct10),sl10⟩)
  (c10:codeIn K cd10 "read_deed"=true)
  (k10:keepIn K (.ref f10)=true)
  (a11:nsIn K mainGlobals "read_add"=some (some (.ref f11)))
  (l11:K.lookup f11=some ⟨oc11,od11,.func (fnOf "read_add" "read_add" (defArgs bX) (defBody bX) (defScope bX) .none kV11 dc11 pm11 an11 cd11 ct11),sl11⟩)
  (c11:codeIn K cd11 "read_add"=true)
  (k11:keepIn K (.ref f11)=true)
  (a12:nsIn K mainGlobals "number_behind"=some (some (.ref f12)))
  (l12:K.lookup f12=some ⟨oc12,od12,.func (fnOf "number_behind" "number_behind" (defArgs bF) (defBody bF) (defScope bF) .none kV12 dc12 pm12 an12 cd12 ct12),sl12⟩)
  (c12:codeIn K cd12 "number_behind"=true)
  (k12:keepIn K (.ref f12)=true)
  (a13:nsIn K mainGlobals "_law_box"=some (some (.ref f13)))
  (l13:K.lookup f13=some ⟨oc13,od13,.func (fnOf "_law_box" "_law_box" (defArgs fF) (defBody fF) (defScope fF) .none kV13 dc13 pm13 an13 cd13 ct13),sl13⟩)
  (c13:codeIn K cd13 "_law_box"=true)
  (k13:keepIn K (.ref f13)=true)
  (a14:nsIn K mainGlobals "_law_take"=some (some (.ref f14)))
  (l14:K.lookup f14=some ⟨oc14,od14,.func (fnOf "_law_take" "_law_take" (defArgs dP) (defBody dP) (defScope dP) .none kV14 dc14 pm14 an14 cd14 ct14),sl14⟩)
  (c14:codeIn K cd14 "_law_take"=true)
  (k14:keepIn K (.ref f14)=true)
  (a15:nsIn K mainGlobals "_law_n"=some (some (.ref f15)))
  (l15:K.lookup f15=some ⟨oc15,od15,.func (fnOf "_law_n" "_law_n" (defArgs kR) (defBody kR) (defScope kR) .none kV15 dc15 pm15 an15 cd15 ct15),sl15⟩)
  (c15:codeIn K cd15 "_law_n"=true)
  (k15:keepIn K (.ref f15)=true)
  (a16:nsIn K mainGlobals "_law_rest"=some (some (.ref f16)))
  (l16:K.lookup f16=some ⟨oc16,od16,.func (fnOf "_law_rest" "_law_rest" (defArgs dO) (defBody dO) (defScope dO) .none kV16 dc16 pm16 an16 cd16 ct16),sl16⟩)
  (c16:codeIn K cd16 "_law_rest"=true)
  (k16:keepIn K (.ref f16)=true)
  (a17:nsIn K mainGlobals "_law_shared"=some (some (.ref f17)))
  (l17:K.lookup f17=some ⟨oc17,od17,.func (fnOf "_law_shared" "_law_shared" (defArgs cO) (defBody cO) (defScope cO) .none kV17 dc17 pm17 an17 cd17 ct17),sl17⟩)
  (c17:codeIn K cd17 "_law_shared"=true)
  (k17:keepIn K (.ref f17)=true)
  (a18:nsIn K mainGlobals "_law_unit"=some (some (.ref f18)))
  (l18:K.lookup f18=some ⟨oc18,od18,.func (fnOf "_law_unit" "_law_unit" (defArgs dW) (defBody dW) (defScope dW) .none kV18 dc18 pm18 an18 cd18 ct18),sl18⟩)
  (c18:codeIn K cd18 "_law_unit"=true)
  (k18:keepIn K (.ref f18)=true)
  (a19:nsIn K mainGlobals "_law_deed"=some (some (.ref f19)))
  (l19:K.lookup f19=some ⟨oc19,od19,.func (fnOf "_law_deed" "_law_deed" (defArgs cS) (defBody cS) (defScope cS) .none kV19 dc19 pm19 an19 cd19 ct19),sl19⟩)
  (c19:codeIn K cd19 "_law_deed"=true)
  (k19:keepIn K (.ref f19)=true)
  (a20:nsIn K mainGlobals "_law_sizes"=some (some (.ref f20)))
  (l20:K.lookup f20=some ⟨oc20,od20,.func (fnOf "_law_sizes" "_law_sizes" (defArgs cY) (defBody cY) (defScope cY) .none kV20 dc20 pm20 an20 cd20 ct20),sl20⟩)
  (c20:codeIn K cd20 "_law_sizes"=true)
  (k20:keepIn K (.ref f20)=true)
  (a21:nsIn K mainGlobals "_law_program_by"=some (some (.ref f21)))
  (l21:K.lookup f21=some ⟨oc21,od21,.func (fnOf "_law_program_by" "_law_program_by" (defArgs bH) (defBody bH) (defScope bH) .none kV21 dc21 pm21 an21 cd21 ct21),sl21⟩)
  (c21:codeIn K cd21 "_law_program_by"=true)
  (k21:keepIn K (.ref f21)=true)
  (a22:nsIn K mainGlobals "_law_bad_deed"=some (some (.ref f22)))
  (l22:K.lookup f22=some ⟨oc22,od22,.func (fnOf "_law_bad_deed" "_law_bad_deed" (defArgs bN) (defBody bN) (defScope bN) .none kV22 dc22 pm22 an22 cd22 ct22),sl22⟩)
  (c22:codeIn K cd22 "_law_bad_deed"=true)
  (k22:keepIn K (.ref f22)=true)
  (a23:nsIn K mainGlobals "_law_figures"=some (some (.ref f23)))
  (l23:K.lookup f23=some ⟨oc23,od23,.func (fnOf "_law_figures" "_law_figures" (defArgs bU) (defBody bU) (defScope bU) .none kV23 dc23 pm23 an23 cd23 ct23),sl23⟩)
  (c23:codeIn K cd23 "_law_figures"=true)
  (k23:keepIn K (.ref f23)=true)
  (a24:nsIn K mainGlobals "_law_head_of"=some (some (.ref f24)))
  (l24:K.lookup f24=some ⟨oc24,od24,.func (fnOf "_law_head_of" "_law_head_of" (defArgs bV) (defBody bV) (defScope bV) .none kV24 dc24 pm24 an24 cd24 ct24),sl24⟩)
  (c24:codeIn K cd24 "_law_head_of"=true)
  (k24:keepIn K (.ref f24)=true)
  (a25:nsIn K mainGlobals "_law_deed_of"=some (some (.ref f25)))
  (l25:K.lookup f25=some ⟨oc25,od25,.func (fnOf "_law_deed_of" "_law_deed_of" (defArgs bR) (defBody bR) (defScope bR) .none kV25 dc25 pm25 an25 cd25 ct25),sl25⟩)
  (c25:codeIn K cd25 "_law_deed_of"=true)
  (k25:keepIn K (.ref f25)=true)
  (a26:nsIn K mainGlobals "_law_read_due"=some (some (.ref f26)))
  (l26:K.lookup f26=some ⟨oc26,od26,.func (fnOf "_law_read_due" "_law_read_due" (defArgs bT) (defBody bT) (defScope bT) .none kV26 dc26 pm26 an26 cd26 ct26),sl26⟩)
  (c26:codeIn K cd26 "_law_read_due"=true)
  (k26:keepIn K (.ref f26)=true)
  (a27:nsIn K mainGlobals "_law_read_told"=some (some (.ref f27)))
  (l27:K.lookup f27=some ⟨oc27,od27,.func (fnOf "_law_read_told" "_law_read_told" (defArgs bM) (defBody bM) (defScope bM) .none kV27 dc27 pm27 an27 cd27 ct27),sl27⟩)
  (c27:codeIn K cd27 "_law_read_told"=true)
  (k27:keepIn K (.ref f27)=true)
  (a28:nsIn K mainGlobals "_law_shown"=some (some (.ref f28)))
  (l28:K.lookup f28=some ⟨oc28,od28,.func (fnOf "_law_shown" "_law_shown" (defArgs cH) (defBody cH) (defScope cH) .none kV28 dc28 pm28 an28 cd28 ct28),sl28⟩)
  (c28:codeIn K cd28 "_law_shown"=true)
  (k28:keepIn K (.ref f28)=true)
  (a29:nsIn K mainGlobals "_law_alike"=some (some (.ref f29)))
  (l29:K.lookup f29=some ⟨oc29,od29,.func (fnOf "_law_alike" "_law_alike" (defArgs dC) (defBody dC) (defScope dC) .none kV29 dc29 pm29 an29 cd29 ct29),sl29⟩)
  (c29:codeIn K cd29 "_law_alike"=true)
  (k29:keepIn K (.ref f29)=true)
  (a30:nsIn K mainGlobals "_law_sign"=some (some (.ref f30)))
  (l30:K.lookup f30=some ⟨oc30,od30,.func (fnOf "_law_sign" "_law_sign" (defArgs dU) (defBody dU) (defScope dU) .none kV30 dc30 pm30 an30 cd30 ct30),sl30⟩)
  (c30:codeIn K cd30 "_law_sign"=true)
  (k30:keepIn K (.ref f30)=true)
  (a31:nsIn K mainGlobals "_law_right"=some (some (.ref f31)))
  (l31:K.lookup f31=some ⟨oc31,od31,.func (fnOf "_law_right" "_law_right" (defArgs dA) (defBody dA) (defScope dA) .none kV31 dc31 pm31 an31 cd31 ct31),sl31⟩)
  (c31:codeIn K cd31 "_law_right"=true)
  (k31:keepIn K (.ref f31)=true)
  (a32:nsIn K mainGlobals "law"=some (some (.ref f32)))
  (l32:K.lookup f32=some ⟨oc32,od32,.func (fnOf "law" "law" (defArgs jN) (defBody jN) (defScope jN) .none kV32 dc32 pm32 an32 cd32 ct32),sl32⟩)
  (c32:codeIn K cd32 "law"=true)
  (k32:keepIn K (.ref f32)=true)
  (aL:nsIn K mainGlobals "LentError"=some (some (.ref eL)))
  (oL:xcB K eL vb none=true)
  (rL:PySem.W.readsIn K eL (.type "type")=true)
  (gL:PySem.W.specialIn K (.ref eL) "__getattribute__"=some (some (.builtin "type.__getattribute__")))
  (iL:PySem.W.findCls K (.ref eL) (.type "type") "__init__"=some (.val (.builtin "ValueError.__init__")))
  (tL:PySem.W.tailIn K vb (.ref eL::vb)=true)
  (aBadText:nsIn K mainGlobals "BadText"=some (some (.ref eBadText)))
  (xBadText:xkB K "BadText" eBadText eL=true)
  (jBadText_:PySem.W.findIn K (.ref eBadText) "__init__"=some (some (.ref jBadText)))
  (bBadText:xcB K eBadText (.ref eL::vb) (some (.ref jBadText))=true)
  (lBadText:K.lookup jBadText=some ⟨ocBadText,odBadText,.func (fnOf "__init__" "BadText.__init__" (defArgs cV) (defBody cV) (defScope cV) .none kVBadText dcBadText pmBadText anBadText cdBadText ctBadText),slBadText⟩)
  (cBadText:codeIn K cdBadText "BadText.__init__"=true)
  (kBadText:keepIn K (.ref jBadText)=true)
  (tBadText:PySem.W.typeIn K (.ref jBadText)=some (.type "function"))
  (nBadText:PySem.W.findIn K (.ref eBadText) "row"=some none)
  (sBadText:PySem.W.findIn K (.ref eBadText) "__setattr__"=some (some (.builtin "object.__setattr__")))
  (qBadText:keepIn K (.ref eBadText)=true)
  (aNoDeed:nsIn K mainGlobals "NoDeed"=some (some (.ref eNoDeed)))
  (xNoDeed:xkB K "NoDeed" eNoDeed eL=true)
  (jNoDeed_:PySem.W.findIn K (.ref eNoDeed) "__init__"=some (some (.ref jNoDeed)))
  (bNoDeed:xcB K eNoDeed (.ref eL::vb) (some (.ref jNoDeed))=true)
  (aNoInverse:nsIn K mainGlobals "NoInverse"=some (some (.ref eNoInverse)))
  (xNoInverse:xkB K "NoInverse" eNoInverse eL=true)
  (jNoInverse_:PySem.W.findIn K (.ref eNoInverse) "__init__"=some (some (.ref jNoInverse)))
  (bNoInverse:xcB K eNoInverse (.ref eL::vb) (some (.ref jNoInverse))=true)
  (aNoMove:nsIn K mainGlobals "NoMove"=some (some (.ref eNoMove)))
  (xNoMove:xkB K "NoMove" eNoMove eL=true)
  (jNoMove_:PySem.W.findIn K (.ref eNoMove) "__init__"=some (some (.ref jNoMove)))
  (bNoMove:xcB K eNoMove (.ref eL::vb) (some (.ref jNoMove))=true)
  (aNoPaper:nsIn K mainGlobals "NoPaper"=some (some (.ref eNoPaper)))
  (xNoPaper:xkB K "NoPaper" eNoPaper eL=true)
  (jNoPaper_:PySem.W.findIn K (.ref eNoPaper) "__init__"=some (some (.ref jNoPaper)))
  (bNoPaper:xcB K eNoPaper (.ref eL::vb) (some (.ref jNoPaper))=true)
  (aNoRest:nsIn K mainGlobals "NoRest"=some (some (.ref eNoRest)))
  (xNoRest:xkB K "NoRest" eNoRest eL=true)
  (bNoRest:xcB K eNoRest (.ref eL::vb) none=true)
  (aNoRoot:nsIn K mainGlobals "NoRoot"=some (some (.ref eNoRoot)))
  (xNoRoot:xkB K "NoRoot" eNoRoot eL=true)
  (jNoRoot_:PySem.W.findIn K (.ref eNoRoot) "__init__"=some (some (.ref jNoRoot)))
  (bNoRoot:xcB K eNoRoot (.ref eL::vb) (some (.ref jNoRoot))=true)
  (aNoRow:nsIn K mainGlobals "NoRow"=some (some (.ref eNoRow)))
  (xNoRow:xkB K "NoRow" eNoRow eL=true)
  (bNoRow:xcB K eNoRow (.ref eL::vb) none=true)
  (aTooMany:nsIn K mainGlobals "TooMany"=some (some (.ref eTooMany)))
  (xTooMany:xkB K "TooMany" eTooMany eL=true)
  (jTooMany_:PySem.W.findIn K (.ref eTooMany) "__init__"=some (some (.ref jTooMany)))
  (bTooMany:xcB K eTooMany (.ref eL::vb) (some (.ref jTooMany))=true)
  (vFIGURES:nsIn K mainGlobals "FIGURES"=some (some (.str "0123456789" tFIGURES)))
  (vGREATEST_N:nsIn K mainGlobals "GREATEST_N"=some (some (.int 1000000 tGREATEST_N)))
  (vMOST_FACTORS:nsIn K mainGlobals "MOST_FACTORS"=some (some (.int 4 tMOST_FACTORS)))
  (vMOST_FIGURES:nsIn K mainGlobals "MOST_FIGURES"=some (some (.int 7 tMOST_FIGURES)))
  (vMOST_GIVENS:nsIn K mainGlobals "MOST_GIVENS"=some (some (.int 8 tMOST_GIVENS)))
  (vMOST_SHELVES:nsIn K mainGlobals "MOST_SHELVES"=some (some (.int 9 tMOST_SHELVES)))
  (z_ValueError:nsIn K mainGlobals "ValueError"=some none)
  (z_all:nsIn K mainGlobals "all"=some none)
  (z_bool:nsIn K mainGlobals "bool"=some none)
  (z_enumerate:nsIn K mainGlobals "enumerate"=some none)
  (z_int:nsIn K mainGlobals "int"=some none)
  (z_isinstance:nsIn K mainGlobals "isinstance"=some none)
  (z_len:nsIn K mainGlobals "len"=some none)
  (z_list:nsIn K mainGlobals "list"=some none)
  (z_range:nsIn K mainGlobals "range"=some none)
  (z_sorted:nsIn K mainGlobals "sorted"=some none)
  (z_str:nsIn K mainGlobals "str"=some none)
  (z_tuple:nsIn K mainGlobals "tuple"=some none)
  (z_zip:nsIn K mainGlobals "zip"=some none)
  : ∃fd:FuncData,(∀(s:Shared) (v:Value),BindsTo s fd ⟨[v],[]⟩ [("_law_script",v)])/\∀base:Heap,K.In base->base.Ns mainGlobals mg->FnOk l.prog w K mg base (CX1 l.prog w) 9 fa fd aIM (spX K 1 pB):=by
 have e:=hfa.symm.trans (aAM X G a32)
 cases e
 have T:Tx K mg ⟨f1,(fnOf "figures_end" "figures_end" (defArgs bK) (defBody bK) (defScope bK) .none kV1 dc1 pm1 an1 cd1 ct1),f2,(fnOf "number_of" "number_of" (defArgs cD) (defBody cD) (defScope cD) .none kV2 dc2 pm2 an2 cd2 ct2),f3,(fnOf "inverse" "inverse" (defArgs dB) (defBody dB) (defScope dB) .none kV3 dc3 pm3 an3 cd3 ct3),f4,(fnOf "is_deed" "is_deed" (defArgs cZ) (defBody cZ) (defScope cZ) .none kV4 dc4 pm4 an4 cd4 ct4),f5,(fnOf "are_factors" "are_factors" (defArgs bL) (defBody bL) (defScope bL) .none kV5 dc5 pm5 an5 cd5 ct5),f6,(fnOf "show" "show" (defArgs gK) (defBody gK) (defScope gK) .none kV6 dc6 pm6 an6 cd6 ct6),f7,(fnOf "show_deed" "show_deed" (defArgs bP) (defBody bP) (defScope bP) .none kV7 dc7 pm7 an7 cd7 ct7),f8,(fnOf "read" "read" (defArgs gZ) (defBody gZ) (defScope gZ) .none kV8 dc8 pm8 an8 cd8 ct8),f9,(fnOf "read_head" "read_head" (defArgs bW) (defBody bW) (defScope bW) .none kV9 dc9 pm9 an9 cd9 ct9),f10,(fnOf "read_deed" "read_deed" (defArgs cC) (defBody cC) (defScope cC) .none kV10 dc10 pm10 an10 cd10 ct10),f11,(fnOf "read_add" "read_add" (defArgs bX) (defBody bX) (defScope bX) .none kV11 dc11 pm11 an11 cd11 ct11),f12,(fnOf "number_behind" "number_behind" (defArgs bF) (defBody bF) (defScope bF) .none kV12 dc12 pm12 an12 cd12 ct12),f13,(fnOf "_law_box" "_law_box" (defArgs fF) (defBody fF) (defScope fF) .none kV13 dc13 pm13 an13 cd13 ct13),f14,(fnOf "_law_take" "_law_take" (defArgs dP) (defBody dP) (defScope dP) .none kV14 dc14 pm14 an14 cd14 ct14),f15,(fnOf "_law_n" "_law_n" (defArgs kR) (defBody kR) (defScope kR) .none kV15 dc15 pm15 an15 cd15 ct15),f16,(fnOf "_law_rest" "_law_rest" (defArgs dO) (defBody dO) (defScope dO) .none kV16 dc16 pm16 an16 cd16 ct16),f17,(fnOf "_law_shared" "_law_shared" (defArgs cO) (defBody cO) (defScope cO) .none kV17 dc17 pm17 an17 cd17 ct17),f18,(fnOf "_law_unit" "_law_unit" (defArgs dW) (defBody dW) (defScope dW) .none kV18 dc18 pm18 an18 cd18 ct18),f19,(fnOf "_law_deed" "_law_deed" (defArgs cS) (defBody cS) (defScope cS) .none kV19 dc19 pm19 an19 cd19 ct19),f20,(fnOf "_law_sizes" "_law_sizes" (defArgs cY) (defBody cY) (defScope cY) .none kV20 dc20 pm20 an20 cd20 ct20),f21,(fnOf "_law_program_by" "_law_program_by" (defArgs bH) (defBody bH) (defScope bH) .none kV21 dc21 pm21 an21 cd21 ct21),f22,(fnOf "_law_bad_deed" "_law_bad_deed" (defArgs bN) (defBody bN) (defScope bN) .none kV22 dc22 pm22 an22 cd22 ct22),f23,(fnOf "_law_figures" "_law_figures" (defArgs bU) (defBody bU) (defScope bU) .none kV23 dc23 pm23 an23 cd23 ct23),f24,(fnOf "_law_head_of" "_law_head_of" (defArgs bV) (defBody bV) (defScope bV) .none kV24 dc24 pm24 an24 cd24 ct24),f25,(fnOf "_law_deed_of" "_law_deed_of" (defArgs bR) (defBody bR) (defScope bR) .none kV25 dc25 pm25 an25 cd25 ct25),f26,(fnOf "_law_read_due" "_law_read_due" (defArgs bT) (defBody bT) (defScope bT) .none kV26 dc26 pm26 an26 cd26 ct26),f27,(fnOf "_law_read_told" "_law_read_told" (defArgs bM) (defBody bM) (defScope bM) .none kV27 dc27 pm27 an27 cd27 ct27),f28,(fnOf "_law_shown" "_law_shown" (defArgs cH) (defBody cH) (defScope cH) .none kV28 dc28 pm28 an28 cd28 ct28),f29,(fnOf "_law_alike" "_law_alike" (defArgs dC) (defBody dC) (defScope dC) .none kV29 dc29 pm29 an29 cd29 ct29),f30,(fnOf "_law_sign" "_law_sign" (defArgs dU) (defBody dU) (defScope dU) .none kV30 dc30 pm30 an30 cd30 ct30),f31,(fnOf "_law_right" "_law_right" (defArgs dA) (defBody dA) (defScope dA) .none kV31 dc31 pm31 an31 cd31 ct31),fa,(fnOf "law" "law" (defArgs jN) (defBody jN) (defScope jN) .none kV32 dc32 pm32 an32 cd32 ct32),eL,eBadText,jBadText,(fnOf "__init__" "BadText.__init__" (defArgs cV) (defBody cV) (defScope cV) .none kVBadText dcBadText pmBadText anBadText cdBadText ctBadText),eNoDeed,eNoInverse,eNoMove,eNoPaper,eNoRest,eNoRoot,eNoRow,eTooMany,tFIGURES,tGREATEST_N,tMOST_FACTORS,tMOST_FIGURES,tMOST_GIVENS,tMOST_SHELVES⟩ :=
  ⟨aM l1 c1 k1,
   (aM (st:=bK) l1 c1 k1).binds (ps:=aHT) (λ_ _ _ _ _ _=>ex2 λ_ _=>rfl),
   k1,
   aAM X G a1,
   aM l2 c2 k2,
   (aM (st:=cD) l2 c2 k2).binds (ps:=aHU) (λ_ _ _ _ _ _=>ex2 λ_ _=>rfl),
   k2,
   aAM X G a2,
   aM l3 c3 k3,
   (aM (st:=dB) l3 c3 k3).binds (ps:=["n","k"]) (λ_ _ _ _ _ _=>ex2 λ_ _=>rfl),
   k3,
   aAM X G a3,
   aM l4 c4 k4,
   (aM (st:=cZ) l4 c4 k4).binds (ps:=aHV) (λ_ _ _ _ _ _=>ex4 λ_ _ _ _=>rfl),
   k4,
   aAM X G a4,
   aM l5 c5 k5,
   (aM (st:=bL) l5 c5 k5).binds (ps:=aHW) (λ_ _ _ _ _ _=>ex2 λ_ _=>rfl),
   k5,
   aAM X G a5,
   aM l6 c6 k6,
   (aM (st:=gK) l6 c6 k6).binds (ps:=["program"]) (λ_ _ _ _ _ _=>ex1 λ_=>rfl),
   k6,
   aAM X G a6,
   aM l7 c7 k7,
   (aM (st:=bP) l7 c7 k7).binds (ps:=["deed"]) (λ_ _ _ _ _ _=>ex1 λ_=>rfl),
   k7,
   aAM X G a7,
   aM l8 c8 k8,
   (aM (st:=gZ) l8 c8 k8).binds (ps:=["text"]) (λ_ _ _ _ _ _=>ex1 λ_=>rfl),
   k8,
   aAM X G a8,
   aM l9 c9 k9,
   (aM (st:=bW) l9 c9 k9).binds (ps:=["row"]) (λ_ _ _ _ _ _=>ex1 λ_=>rfl),
   k9,
   aAM X G a9,
   aM l10 c10 k10,
   (aM (st:=cC) l10 c10 k10).binds (ps:=["row"]) (λ_ _ _ _ _ _=>ex1 λ_=>rfl),
   k10,
   aAM X G a10,
   aM l11 c11 k11,
   (aM (st:=bX) l11 c11 k11).binds (ps:=aHX) (λ_ _ _ _ _ _=>ex3 λ_ _ _=>rfl),
   k11,
   aAM X G a11,
   aM l12 c12 k12,
   (aM (st:=bF) l12 c12 k12).binds (ps:=aHY) (λ_ _ _ _ _ _=>ex2 λ_ _=>rfl),
   k12,
   aAM X G a12,
   aM l13 c13 k13,
   (aM (st:=fF) l13 c13 k13).binds (ps:=aHZ) (λ_ _ _ _ _ _=>ex2 λ_ _=>rfl),
   k13,
   aAM X G a13,
   aM l14 c14 k14,
   (aM (st:=dP) l14 c14 k14).binds (ps:=aIA) (λ_ _ _ _ _ _=>ex2 λ_ _=>rfl),
   k14,
   aAM X G a14,
   aM l15 c15 k15,
   (aM (st:=kR) l15 c15 k15).binds (ps:=aIB) (λ_ _ _ _ _ _=>ex1 λ_=>rfl),
   k15,
   aAM X G a15,
   aM l16 c16 k16,
   (aM (st:=dO) l16 c16 k16).binds (ps:=aIC) (λ_ _ _ _ _ _=>ex2 λ_ _=>rfl),
   k16,
   aAM X G a16,
   aM l17 c17 k17,
   (aM (st:=cO) l17 c17 k17).binds (ps:=aID) (λ_ _ _ _ _ _=>ex2 λ_ _=>rfl),
   k17,
   aAM X G a17,
   aM l18 c18 k18,
   (aM (st:=dW) l18 c18 k18).binds (ps:=aIC) (λ_ _ _ _ _ _=>ex2 λ_ _=>rfl),
   k18,
   aAM X G a18,
   aM l19 c19 k19,
   (aM (st:=cS) l19 c19 k19).binds (ps:=aIE) (λ_ _ _ _ _ _=>ex4 λ_ _ _ _=>rfl),
   k19,
   aAM X G a19,
   aM l20 c20 k20,
   (aM (st:=cY) l20 c20 k20).binds (ps:=aIB) (λ_ _ _ _ _ _=>ex1 λ_=>rfl),
   k20,
   aAM X G a20,
   aM l21 c21 k21,
   (aM (st:=bH) l21 c21 k21).binds (ps:=aIF) (λ_ _ _ _ _ _=>ex5 λ_ _ _ _ _=>rfl),
   k21,
   aAM X G a21,
   aM l22 c22 k22,
   (aM (st:=bN) l22 c22 k22).binds (ps:=aIG) (λ_ _ _ _ _ _=>ex4 λ_ _ _ _=>rfl),
   k22,
   aAM X G a22,
   aM l23 c23 k23,
   (aM (st:=bU) l23 c23 k23).binds (ps:=aIH) (λ_ _ _ _ _ _=>ex1 λ_=>rfl),
   k23,
   aAM X G a23,
   aM l24 c24 k24,
   (aM (st:=bV) l24 c24 k24).binds (ps:=aII) (λ_ _ _ _ _ _=>ex1 λ_=>rfl),
   k24,
   aAM X G a24,
   aM l25 c25 k25,
   (aM (st:=bR) l25 c25 k25).binds (ps:=aII) (λ_ _ _ _ _ _=>ex1 λ_=>rfl),
   k25,
   aAM X G a25,
   aM l26 c26 k26,
   (aM (st:=bT) l26 c26 k26).binds (ps:=aIJ) (λ_ _ _ _ _ _=>ex1 λ_=>rfl),
   k26,
   aAM X G a26,
   aM l27 c27 k27,
   (aM (st:=bM) l27 c27 k27).binds (ps:=aIJ) (λ_ _ _ _ _ _=>ex1 λ_=>rfl),
   k27,
   aAM X G a27,
   aM l28 c28 k28,
   (aM (st:=cH) l28 c28 k28).binds (ps:=aIK) (λ_ _ _ _ _ _=>ex1 λ_=>rfl),
   k28,
   aAM X G a28,
   aM l29 c29 k29,
   (aM (st:=dC) l29 c29 k29).binds (ps:=aIL) (λ_ _ _ _ _ _=>ex2 λ_ _=>rfl),
   k29,
   aAM X G a29,
   aM l30 c30 k30,
   (aM (st:=dU) l30 c30 k30).binds (ps:=aIB) (λ_ _ _ _ _ _=>ex1 λ_=>rfl),
   k30,
   aAM X G a30,
   aM l31 c31 k31,
   (aM (st:=dA) l31 c31 k31).binds (ps:=aIJ) (λ_ _ _ _ _ _=>ex1 λ_=>rfl),
   k31,
   aAM X G a31,
   aM l32 c32 k32,
   (aM (st:=jN) l32 c32 k32).binds (ps:=aIM) (λ_ _ _ _ _ _=>ex1 λ_=>rfl),
   k32,
   aAM X G a32,
   aL,
   aAM X G aL,
   ⟨rL,gL,iL,tL⟩,
   mC aBadText aL xBadText bBadText oL (by decide),
   aAM X G aBadText,
   aM lBadText cBadText kBadText,
   (aM (st:=cV) lBadText cBadText kBadText).binds (ps:=aIN) (λ_ _ _ _ _ _=>ex2 λ_ _=>rfl),
   tBadText,
   nBadText,
   sBadText,
   bBadText,
   qBadText,
   mC aNoDeed aL xNoDeed bNoDeed oL (by decide),
   aAM X G aNoDeed,
   mC aNoInverse aL xNoInverse bNoInverse oL (by decide),
   aAM X G aNoInverse,
   mC aNoMove aL xNoMove bNoMove oL (by decide),
   aAM X G aNoMove,
   mC aNoPaper aL xNoPaper bNoPaper oL (by decide),
   aAM X G aNoPaper,
   mC aNoRest aL xNoRest bNoRest oL (by decide),
   aAM X G aNoRest,
   mC aNoRoot aL xNoRoot bNoRoot oL (by decide),
   aAM X G aNoRoot,
   mC aNoRow aL xNoRow bNoRow oL (by decide),
   aAM X G aNoRow,
   mC aTooMany aL xTooMany bTooMany oL (by decide),
   aAM X G aTooMany,
   aAM X G vFIGURES,
   aAM X G vGREATEST_N,
   aAM X G vMOST_FACTORS,
   aAM X G vMOST_FIGURES,
   aAM X G vMOST_GIVENS,
   aAM X G vMOST_SHELVES,
   aBP X G z_ValueError,
   aBP X G z_all,
   aBP X G z_bool,
   aBP X G z_enumerate,
   aBP X G z_int,
   aBP X G z_isinstance,
   aBP X G z_len,
   aBP X G z_list,
   aBP X G z_range,
   aBP X G z_sorted,
   aBP X G z_str,
   aBP X G z_tuple,
   aBP X G z_zip⟩
 exact⟨_,λs v=>.of_eq rfl,λbase _ _=>(aLw T).mono (by lia)⟩
theorem aEr{l:PySem.W.OpenLaw}{q:Program}{d:DefRec}{K:Params->Frag}(hn:l.most=some 63)(hdf:d.params.defaults=[])
  (hY:∀(w:World) (h:Heap),YP w h->(K w.params).In h)
  (F:∀(w:World) (mg:Str->Option Value) (fa:Addr) (h:Heap),(K w.params).In h->h.Ns mainGlobals mg->mg d.name=some (.ref fa) ->
   ∃fd:FuncData,(∀(s:Shared) (u:Value),BindsTo s fd ⟨[u],[]⟩ [("_law_script",u)])/\∀base:Heap,(K w.params).In base->base.Ns mainGlobals mg->FnOk l.prog w (K w.params) mg base (CX1 l.prog w) 9 fa fd aIM (spX (K w.params) 1 pB)) :
  PySem.W.WalkO q loose XP YP l.row.toRowW d [] (λf vs=>PySem.call f vs) :=
 L2.zQ (n:=63) (k:=9) (x:="_law_script") (CX:=λw=>(CX1 l.prog w)) (sp:=λw=>(spX (K w.params) 1 pB)) hn (by decide) hdf ⟨rfl,by decide,by decide⟩ hY F (λ_ _ a ns hl hO hS=>aJe hO hS (aGl ns hl)) λ_ _ _ _ _ ⟨_,_,_,_,_,_,_,_,_,_,_,z⟩=>z
end K16
open PySem PySem.W PyProof.Rows
end
namespace PySem.W.Fast
noncomputable def tw12479715814686289027:List Stmt:=[]
theorem te12479715814686289027:tw12479715814686289027=tw12479715814686289027:=rfl
noncomputable def tw17747324047072417243:List Stmt:=[]
theorem te17747324047072417243:tw17747324047072417243=tw17747324047072417243:=rfl
noncomputable def tw16435080863987727859:List Stmt:=[]
theorem te16435080863987727859:tw16435080863987727859=tw16435080863987727859:=rfl
noncomputable def tw1780971692419911:List Stmt:=[]
theorem te1780971692419911:tw1780971692419911=tw1780971692419911:=rfl
noncomputable def tw15382929120556439707:Params->Obj:=fun _=>default
theorem te15382929120556439707:tw15382929120556439707=tw15382929120556439707:=rfl
noncomputable def tw8361093352792149038:Params->Obj:=fun _=>default
theorem te8361093352792149038:tw8361093352792149038=tw8361093352792149038:=rfl
noncomputable def tw16194578766392092487:Params->Obj:=fun _=>default
theorem te16194578766392092487:tw16194578766392092487=tw16194578766392092487:=rfl
noncomputable def tw12938174118297901637:Params->Obj:=fun _=>default
theorem te12938174118297901637:tw12938174118297901637=tw12938174118297901637:=rfl
noncomputable def tw7004742241865491136:Params->Obj:=fun _=>default
theorem te7004742241865491136:tw7004742241865491136=tw7004742241865491136:=rfl
noncomputable def tw15951749758940904421:Params->Obj:=fun _=>default
theorem te15951749758940904421:tw15951749758940904421=tw15951749758940904421:=rfl
noncomputable def tw9286764349181064692:Params->Obj:=fun _=>default
theorem te9286764349181064692:tw9286764349181064692=tw9286764349181064692:=rfl
noncomputable def tw14579926959950596584:Params->Obj:=fun _=>default
theorem te14579926959950596584:tw14579926959950596584=tw14579926959950596584:=rfl
noncomputable def tw4469757285214390301:Params->Obj:=fun _=>default
theorem te4469757285214390301:tw4469757285214390301=tw4469757285214390301:=rfl
noncomputable def tw6964976532449578126:Params->Obj:=fun _=>default
theorem te6964976532449578126:tw6964976532449578126=tw6964976532449578126:=rfl
noncomputable def tw12158041992962008524:Params->Obj:=fun _=>default
theorem te12158041992962008524:tw12158041992962008524=tw12158041992962008524:=rfl
noncomputable def tw17787266948472764471:Params->Obj:=fun _=>default
theorem te17787266948472764471:tw17787266948472764471=tw17787266948472764471:=rfl
noncomputable def tw16403971419986741141:Params->Obj:=fun _=>default
theorem te16403971419986741141:tw16403971419986741141=tw16403971419986741141:=rfl
noncomputable def tw4064881367544713593:Params->Obj:=fun _=>default
theorem te4064881367544713593:tw4064881367544713593=tw4064881367544713593:=rfl
noncomputable def tw11966397683061130262:Params->Obj:=fun _=>default
theorem te11966397683061130262:tw11966397683061130262=tw11966397683061130262:=rfl
noncomputable def tw17810755928268615364:Params->Obj:=fun _=>default
theorem te17810755928268615364:tw17810755928268615364=tw17810755928268615364:=rfl
noncomputable def tw13009081560354294913:Params->Obj:=fun _=>default
theorem te13009081560354294913:tw13009081560354294913=tw13009081560354294913:=rfl
noncomputable def tw11128826973531255718:Params->Obj:=fun _=>default
theorem te11128826973531255718:tw11128826973531255718=tw11128826973531255718:=rfl
noncomputable def tw1121765472870233351:Params->BT:=fun _=>BT.nil
theorem te1121765472870233351:tw1121765472870233351=tw1121765472870233351:=rfl
noncomputable def tw12421230351293303018:Params->Obj:=fun _=>default
theorem te12421230351293303018:tw12421230351293303018=tw12421230351293303018:=rfl
noncomputable def tw13271560758008191163:Params->Obj:=fun _=>default
theorem te13271560758008191163:tw13271560758008191163=tw13271560758008191163:=rfl
noncomputable def tw4756712625743963306:Params->Obj:=fun _=>default
theorem te4756712625743963306:tw4756712625743963306=tw4756712625743963306:=rfl
noncomputable def tw2860081301070035263:Params->Heap:=fun _=>⟨#[],default⟩
theorem te2860081301070035263:tw2860081301070035263=tw2860081301070035263:=rfl
noncomputable def tw601845594509477126:Params->Heap:=fun _=>⟨#[],default⟩
theorem te601845594509477126:tw601845594509477126=tw601845594509477126:=rfl
noncomputable def tw3259883658834550449:Params->BT:=fun _=>BT.nil
theorem te3259883658834550449:tw3259883658834550449=tw3259883658834550449:=rfl
noncomputable def tw4044599921384882978:Params->BT:=fun _=>BT.nil
theorem te4044599921384882978:tw4044599921384882978=tw4044599921384882978:=rfl
noncomputable def tw13038723861987920459:Program:=Challenge.pw_lentshelf_k16_whole_each_sign_of_a_text
theorem te13038723861987920459:tw13038723861987920459=tw13038723861987920459:=rfl
noncomputable def tw10486078772736256400:Program:=Challenge.pw_lentshelf_k16_whole_each_sign_of_a_text
theorem te10486078772736256400:Challenge.pw_lentshelf_k16_whole_each_sign_of_a_text=tw10486078772736256400:=rfl
noncomputable def tw17557851554917904124:Params->BT:=fun _=>BT.nil
theorem te17557851554917904124:tw17557851554917904124=tw17557851554917904124:=rfl
noncomputable def tw6221343983898849041:Params->BT:=fun _=>BT.nil
theorem te6221343983898849041:tw6221343983898849041=tw6221343983898849041:=rfl
noncomputable def tw3077483479309054260:Params->BT:=fun _=>BT.nil
theorem te3077483479309054260:tw3077483479309054260=tw3077483479309054260:=rfl
noncomputable def tw8750606074586049581:List Stmt:=[]
theorem te8750606074586049581:tw8750606074586049581=tw8750606074586049581:=rfl
noncomputable def tw6054155819576023234:Params->BT:=fun _=>BT.nil
theorem te6054155819576023234:tw6054155819576023234=tw6054155819576023234:=rfl
noncomputable def tw9279380863045236086:List Stmt:=[]
theorem te9279380863045236086:tw9279380863045236086=tw9279380863045236086:=rfl
noncomputable def tw17981830465663664684:Params->BT:=fun _=>BT.nil
theorem te17981830465663664684:tw17981830465663664684=tw17981830465663664684:=rfl
noncomputable def tw1814197016844152126:Params->BT:=fun _=>BT.nil
theorem te1814197016844152126:tw1814197016844152126=tw1814197016844152126:=rfl
noncomputable def tw16170896100928920894:Params->Obj:=fun _=>default
theorem te16170896100928920894:tw16170896100928920894=tw16170896100928920894:=rfl
noncomputable def tw17230802035127652325:Params->BT:=fun _=>BT.nil
theorem te17230802035127652325:tw17230802035127652325=tw17230802035127652325:=rfl
noncomputable def tw2771592143384616366:List Stmt:=[]
theorem te2771592143384616366:tw2771592143384616366=tw2771592143384616366:=rfl
noncomputable def tw6546661812155686535:Params->Obj:=fun _=>default
theorem te6546661812155686535:tw6546661812155686535=tw6546661812155686535:=rfl
noncomputable def tw3159034174681591187:Params->BT:=fun _=>BT.nil
theorem te3159034174681591187:tw3159034174681591187=tw3159034174681591187:=rfl
noncomputable def tw17203766236201596393:Params->Obj:=fun _=>default
theorem te17203766236201596393:tw17203766236201596393=tw17203766236201596393:=rfl
noncomputable def tw7199892968664156330:List Stmt:=[]
theorem te7199892968664156330:tw7199892968664156330=tw7199892968664156330:=rfl
noncomputable def tw10031829028430097714:Params->Obj:=fun _=>default
theorem te10031829028430097714:tw10031829028430097714=tw10031829028430097714:=rfl
noncomputable def tw1262468501241622508:Params->BT:=fun _=>BT.nil
theorem te1262468501241622508:tw1262468501241622508=tw1262468501241622508:=rfl
noncomputable def tw17049642439636795450:Params->Obj:=fun _=>default
theorem te17049642439636795450:tw17049642439636795450=tw17049642439636795450:=rfl
noncomputable def tw6096157766472478427:Params->Obj:=fun _=>default
theorem te6096157766472478427:tw6096157766472478427=tw6096157766472478427:=rfl
noncomputable def tw16370958968960642404:Params->Obj:=fun _=>default
theorem te16370958968960642404:tw16370958968960642404=tw16370958968960642404:=rfl
noncomputable def tw4988221810645655047:Params->Obj:=fun _=>default
theorem te4988221810645655047:tw4988221810645655047=tw4988221810645655047:=rfl
noncomputable def tw5484021186189762828:Params->Obj:=fun _=>default
theorem te5484021186189762828:tw5484021186189762828=tw5484021186189762828:=rfl
noncomputable def tw14964767445257835422:Params->Obj:=fun _=>default
theorem te14964767445257835422:tw14964767445257835422=tw14964767445257835422:=rfl
noncomputable def tw16353465231219706179:Params->Obj:=fun _=>default
theorem te16353465231219706179:tw16353465231219706179=tw16353465231219706179:=rfl
noncomputable def tw81504761403290627:Params->Obj:=fun _=>default
theorem te81504761403290627:tw81504761403290627=tw81504761403290627:=rfl
noncomputable def tw7002720029080056935:Params->Obj:=fun _=>default
theorem te7002720029080056935:tw7002720029080056935=tw7002720029080056935:=rfl
noncomputable def tw15202805072353306849:Params->Obj:=fun _=>default
theorem te15202805072353306849:tw15202805072353306849=tw15202805072353306849:=rfl
noncomputable def tw3990026388066223586:Params->Obj:=fun _=>default
theorem te3990026388066223586:tw3990026388066223586=tw3990026388066223586:=rfl
noncomputable def tw7978035193377505537:Params->Obj:=fun _=>default
theorem te7978035193377505537:tw7978035193377505537=tw7978035193377505537:=rfl
noncomputable def tw7398399349435869012:Params->Obj:=fun _=>default
theorem te7398399349435869012:tw7398399349435869012=tw7398399349435869012:=rfl
end PySem.W.Fast
set_option maxRecDepth 100000 in
set_option maxHeartbeats 0 in
theorem PySem.Challenge.cw_lentshelf_k16_whole_each_sign_of_a_text_holds : PySem.Challenge.rw_lentshelf_k16_whole_each_sign_of_a_text.Holds := by
 w_on; o_law; k_head; (case hw=>w_witness2)
 k_fill
 refine K16.aEr (l:=PySem.Challenge.rw_lentshelf_k16_whole_each_sign_of_a_text) rfl rfl (fun w h Y=>PySem.W.kIn_of Y) ?F
 case F =>
  intro w mg fa h KX G hmg
  refine' K16.aMv KX G hmg ?a1 ?l1 ?c1 ?k1 ?a2 ?l2 ?c2 ?k2 ?a3 ?l3 ?c3 ?k3 ?a4 ?l4 ?c4 ?k4 ?a5 ?l5 ?c5 ?k5 ?a6 ?l6 ?c6 ?k6 ?a7 ?l7 ?c7 ?k7 ?a8 ?l8 ?c8 ?k8 ?a9 ?l9 ?c9 ?k9 ?a10 ?l10 ?c10 ?k10 ?a11 ?l11 ?c11 ?k11 ?a12 ?l12 ?c12 ?k12 ?a13 ?l13 ?c13 ?k13 ?a14 ?l14 ?c14 ?k14 ?a15 ?l15 ?c15 ?k15 ?a16 ?l16 ?c16 ?k16 ?a17 ?l17 ?c17 ?k17 ?a18 ?l18 ?c18 ?k18 ?a19 ?l19 ?c19 ?k19 ?a20 ?l20 ?c20 ?k20 ?a21 ?l21 ?c21 ?k21 ?a22 ?l22 ?c22 ?k22 ?a23 ?l23 ?c23 ?k23 ?a24 ?l24 ?c24 ?k24 ?a25 ?l25 ?c25 ?k25 ?a26 ?l26 ?c26 ?k26 ?a27 ?l27 ?c27 ?k27 ?a28 ?l28 ?c28 ?k28 ?a29 ?l29 ?c29 ?k29 ?a30 ?l30 ?c30 ?k30 ?a31 ?l31 ?c31 ?k31 ?a32 ?l32 ?c32 ?k32 ?aL ?oL ?rL ?gL ?iL ?tL ?aBadText ?xBadText ?jBadText_ ?bBadText ?lBadText ?cBadText ?kBadText ?tBadText ?nBadText ?sBadText ?qBadText ?aNoDeed ?xNoDeed ?jNoDeed_ ?bNoDeed ?aNoInverse ?xNoInverse ?jNoInverse_ ?bNoInverse ?aNoMove ?xNoMove ?jNoMove_ ?bNoMove ?aNoPaper ?xNoPaper ?jNoPaper_ ?bNoPaper ?aNoRest ?xNoRest ?bNoRest ?aNoRoot ?xNoRoot ?jNoRoot_ ?bNoRoot ?aNoRow ?xNoRow ?bNoRow ?aTooMany ?xTooMany ?jTooMany_ ?bTooMany ?vFIGURES ?vGREATEST_N ?vMOST_FACTORS ?vMOST_FIGURES ?vMOST_GIVENS ?vMOST_SHELVES ?z_ValueError ?z_all ?z_bool ?z_enumerate ?z_int ?z_isinstance ?z_len ?z_list ?z_range ?z_sorted ?z_str ?z_tuple ?z_zip
  (case a1=>k_is)
  (case l1=>k_is)
  (case c1=>k_is)
  (case k1=>k_is)
  (case a2=>k_is)
  (case l2=>k_is)
  (case c2=>k_is)
  (case k2=>k_is)
  (case a3=>k_is)
  (case l3=>k_is)
  (case c3=>k_is)
  (case k3=>k_is)
  (case a4=>k_is)
  (case l4=>k_is)
  (case c4=>k_is)
  (case k4=>k_is)
  (case a5=>k_is)
  (case l5=>k_is)
  (case c5=>k_is)
  (case k5=>k_is)
  (case a6=>k_is)
  (case l6=>k_is)
  (case c6=>k_is)
  (case k6=>k_is)
  (case a7=>k_is)
  (case l7=>k_is)
  (case c7=>k_is)
  (case k7=>k_is)
  (case a8=>k_is)
  (case l8=>k_is)
  (case c8=>k_is)
  (case k8=>k_is)
  (case a9=>k_is)
  (case l9=>k_is)
  (case c9=>k_is)
  (case k9=>k_is)
  (case a10=>k_is)
  (case l10=>k_is)
  (case c10=>k_is)
  (case k10=>k_is)
  (case a11=>k_is)
  (case l11=>k_is)
  (case c11=>k_is)
  (case k11=>k_is)
  (case a12=>k_is)
  (case l12=>k_is)
  (case c12=>k_is)
  (case k12=>k_is)
  (case a13=>k_is)
  (case l13=>k_is)
  (case c13=>k_is)
  (case k13=>k_is)
  (case a14=>k_is)
  (case l14=>k_is)
  (case c14=>k_is)
  (case k14=>k_is)
  (case a15=>k_is)
  (case l15=>k_is)
  (case c15=>k_is)
  (case k15=>k_is)
  (case a16=>k_is)
  (case l16=>k_is)
  (case c16=>k_is)
  (case k16=>k_is)
  (case a17=>k_is)
  (case l17=>k_is)
  (case c17=>k_is)
  (case k17=>k_is)
  (case a18=>k_is)
  (case l18=>k_is)
  (case c18=>k_is)
  (case k18=>k_is)
  (case a19=>k_is)
  (case l19=>k_is)
  (case c19=>k_is)
  (case k19=>k_is)
  (case a20=>k_is)
  (case l20=>k_is)
  (case c20=>k_is)
  (case k20=>k_is)
  (case a21=>k_is)
  (case l21=>k_is)
  (case c21=>k_is)
  (case k21=>k_is)
  (case a22=>k_is)
  (case l22=>k_is)
  (case c22=>k_is)
  (case k22=>k_is)
  (case a23=>k_is)
  (case l23=>k_is)
  (case c23=>k_is)
  (case k23=>k_is)
  (case a24=>k_is)
  (case l24=>k_is)
  (case c24=>k_is)
  (case k24=>k_is)
  (case a25=>k_is)
  (case l25=>k_is)
  (case c25=>k_is)
  (case k25=>k_is)
  (case a26=>k_is)
  (case l26=>k_is)
  (case c26=>k_is)
  (case k26=>k_is)
  (case a27=>k_is)
  (case l27=>k_is)
  (case c27=>k_is)
  (case k27=>k_is)
  (case a28=>k_is)
  (case l28=>k_is)
  (case c28=>k_is)
  (case k28=>k_is)
  (case a29=>k_is)
  (case l29=>k_is)
  (case c29=>k_is)
  (case k29=>k_is)
  (case a30=>k_is)
  (case l30=>k_is)
  (case c30=>k_is)
  (case k30=>k_is)
  (case a31=>k_is)
  (case l31=>k_is)
  (case c31=>k_is)
  (case k31=>k_is)
  (case a32=>k_is)
  (case l32=>k_is)
  (case c32=>k_is)
  (case k32=>k_is)
  (case aL=>k_is)
  (case oL=>kernel_rfl)
  (case rL=>k_is)
  (case gL=>k_is)
  (case iL=>k_is)
  (case tL=>kernel_rfl)
  (case aBadText=>k_is)
  (case xBadText=>kernel_rfl)
  (case jBadText_=>k_is)
  (case bBadText=>kernel_rfl)
  (case lBadText=>k_is)
  (case cBadText=>k_is)
  (case kBadText=>k_is)
  (case tBadText=>k_is)
  (case nBadText=>k_is)
  (case sBadText=>k_is)
  (case qBadText=>k_is)
  (case aNoDeed=>k_is)
  (case xNoDeed=>kernel_rfl)
  (case jNoDeed_=>k_is)
  (case bNoDeed=>kernel_rfl)
  (case aNoInverse=>k_is)
  (case xNoInverse=>kernel_rfl)
  (case jNoInverse_=>k_is)
  (case bNoInverse=>kernel_rfl)
  (case aNoMove=>k_is)
  (case xNoMove=>kernel_rfl)
  (case jNoMove_=>k_is)
  (case bNoMove=>kernel_rfl)
  (case aNoPaper=>k_is)
  (case xNoPaper=>kernel_rfl)
  (case jNoPaper_=>k_is)
  (case bNoPaper=>kernel_rfl)
  (case aNoRest=>k_is)
  (case xNoRest=>kernel_rfl)
  (case bNoRest=>kernel_rfl)
  (case aNoRoot=>k_is)
  (case xNoRoot=>kernel_rfl)
  (case jNoRoot_=>k_is)
  (case bNoRoot=>kernel_rfl)
  (case aNoRow=>k_is)
  (case xNoRow=>kernel_rfl)
  (case bNoRow=>kernel_rfl)
  (case aTooMany=>k_is)
  (case xTooMany=>kernel_rfl)
  (case jTooMany_=>k_is)
  (case bTooMany=>kernel_rfl)
  (case vFIGURES=>k_is)
  (case vGREATEST_N=>k_is)
  (case vMOST_FACTORS=>k_is)
  (case vMOST_FIGURES=>k_is)
  (case vMOST_GIVENS=>k_is)
  (case vMOST_SHELVES=>k_is)
  (case z_ValueError=>k_is)
  (case z_all=>k_is)
  (case z_bool=>k_is)
  (case z_enumerate=>k_is)
  (case z_int=>k_is)
  (case z_isinstance=>k_is)
  (case z_len=>k_is)
  (case z_list=>k_is)
  (case z_range=>k_is)
  (case z_sorted=>k_is)
  (case z_str=>k_is)
  (case z_tuple=>k_is)
  (case z_zip=>k_is)

import PyProof.Rows.All
import Wide.All
import OpenK.AllK
import Wide.FinOn
import Lean
import PyProof.EqAt
import PyProof.EqKinds
import PyProof.TupleCall
import PySem.Challenge.RW_lentshelf_k94_whole_trees_and_sayings
set_option Elab.async false
set_option linter.all false
set_option bootstrap.genMatcherCode false
set_option maxRecDepth 100000
section
open PySem.W (Frag fnOf keepIn nsIn codeIn)
section
open PySem PySem.Spec PyProof.Rows
def aAA:=@Heap.get?_push_of_some
def aAB:=@wpAny_bind
def aAC:=@if_neg
def aAD:=@List.getElem?_eq_some_iff
def aAE:=@Heap.get?_push_size
def aAF:=@wpAny_pure
def aAG:=@if_pos
def aAH:=@Nat.le_refl
def aAI:=@List.size_toArray
def aAJ:=@Heap.lt_size
def aAK:=@PySem.W.mg_of
def aAL:=@List.length_map
def aAM:=@Option.map_eq_some_iff
def aAN:=@decide_eq_true_eq
def aAO:=@List.map_cons
def aAP:=@List.getElem?_map
def aAQ:=@List.getElem?_eq_getElem
def aAR:=@Int.emod_lt_of_pos
def aAS:=@List.getElem?_append_left
def aAT:=@Nat.lt_of_lt_of_le
def aAU:=@List.mem_cons
def aAV:=@Nat.ne_of_lt
def aAW:=@Heap.size_push
def aAX:=@List.length_append
def aAY:=@Bool.false_eq_true
def aAZ:=@Int.emod_nonneg
def aBA:=@sizeLine_eq
def aBB:=@Option.some.injEq
def aBC:=@List.mem_map
def aBD:=@wpAny_field
def aBE:=@PassesOwn.never
def aBF:=@Nat.le_trans
def aBG:=@List.mem_append_right
def aBH:=@Bool.false_ne_true
def aBI:=@List.getElem?_set_self
def aBJ:=@List.mem_of_getElem?
def aBK:=@List.getElem?_set_ne
def aBL:=@List.not_mem_nil
def aBM:=@List.pairwise_iff_getElem
def aBN:=@wpAny_holding
def aBO:=@PyProof.Rows.callWith_type1
def aBP:=@List.map_map
def aBQ:=@List.length_cons
def aBR:=@wpAny_loadPart'
def aBS:=@wpAny_setField_rec
def aBT:=@if_true
def aBU:=@wpAny_callSpecial?_slot
def aBV:=@List.map_append
def aBW:=@wpAny_call_entry
def aBX:=@Int.emod_eq_of_lt
def aBY:=@wpAny_newObj_type
def aBZ:=@List.mem_cons_of_mem
def aCA:=@PySem.W.mg_none_of
def aCB:=@decide_eq_false
def aCC:=@List.take_add_one
def aCD:=@Int.toNat_natCast
def aCE:=@List.mem_range
def aCF:=@List.sum_cons
def aCG:=@if_false
def aCH:=@wpAny_of_eq
def aCI:=@PyProof.Rows.slot_tuple_getitem
def aCJ:=@List.getElem?_append_right
def aCK:=@wpAny_pyIter_tuple
def aCL:=@List.mem_singleton
def aCM:=@List.take_of_length_le
def aCN:=@List.set_set
def aCO:=@List.mem_cons_self
def aCP:=@Nat.lt_irrefl
def aCQ:=@Function.comp_def
def aCR:=@List.lookup_cons
def aCS:=@List.length_range
def aCT:=@List.take_length
def aCU:=@or_false
def aCV:=@Bool.and_eq_true
def aCW:=@List.getElem?_eq_none
def aCX:=@PySem.boot_len
def aCY:=@wpAny_Call_Name_kw
def aCZ:=@List.drop_eq_getElem_cons
def aDA:=@Int.pow_succ
def aDB:=@Nat.pow_le_pow_right
def aDC:=@wpAny_mono
def aDD:=@List.mem_append_left
def aDE:=@wpAny_rule
def aDF:=@wpAny_pyIter_list
def aDG:=@List.replicate_succ
def aDH:=@Array.length_toList
def aDI:=@wpAny_seqItems
def aDJ:=@Option.map_eq_none_iff
def aDK:=@Obj.data_mapFields
def aDL:=@F.slot_enumerate_next
def aDM:=@List.length_replicate
def aDN:=@wpAny_passesOwn
def aDO:=@List.range_succ
def aDP:=@List.length_nil
def aDQ:=@List.mem_append
def aDR:=@F.slot_tuple_iterator_next
def aDS:=@Nat.lt_succ_of_lt
def aDT:=@List.flatten_cons
def aDU:=@List.mem_of_mem_take
def aDV:=@List.mem_iff_getElem
def aDW:=@Nat.zero_le
def aDX:=@Option.isSome_iff_exists
def aDY:=@Nat.mul_comm
def aDZ:=@Heap.SameBut.update
def aEA:=@PySem.mem_of_lookup
def aEB:=@wpAny_standAt
def aEC:=@wpAny_attempt
def aED:=@call_meets
def aEE:=@List.forIn_cons
def aEF:=@List.length_set
def aEG:=@List.nodup_cons
def aEH:=@List.append_nil
def aEI:=@List.drop_eq_nil_of_le
def aEJ:=@wpAny_truthy_bool
def aEK:=@isSubtype_type
def aEL:=@callType_new
def aEM:=@Heap.get?_update_self
def aEN:=@Nat.ne_of_gt
def aEO:=@builtinLookup_eq_fast
def aEP:=@List.getElem?_concat_length
def aEQ:=@F.args_object_init_3
def aER:=@Nat.lt_succ_self
def aES:=@F.slot_tuple_mul
def aET:=@List.all_cons
def aEU:=@List.map_congr_left
def aEV:=@Nat.mul_le_mul_left
def aEW:=@wpAny_specialOf
def aEX:=@F.slot_zip_next
def aEY:=@F.called_enumerate
def aEZ:=@PySem.F.args_tuple_add_2
def aFA:=@List.filter_append
def aFB:=@wpAny_setField
def aFC:=@PySem.F.entry_tuple_add
def aFD:=@List.append_assoc
def aFE:=@List.nodup_append
def aFF:=@of_decide_eq_true
def aFG:=@PySem.F.slot_tuple_add
def aFH:=@Nat.le_succ
def aFI:=@Int.mul_one
def aFJ:=@wpAny_pyIter_rangeiter
def aFK:=@F.typeCall_zip_2
def aFL:=@wpAny_isInstance
def aFM:=@Nat.mod_eq_of_lt
def aFN:=@List.length_take
def aFO:=@List.mem_flatten
def aFP:=@Obj.isFreed_of_fields
def aFQ:=@F.slot_range_reversed
def aFR:=@List.length_filter_le
def aFS:=@codeAny_builtin
def aFT:=@wpAny_ite_false
def aFU:=@wpAny_execs_nil
def aFV:=@codeAny_mono
def aFW:=@Int.mul_comm
def aFX:=@F.slot_int_rmul
def aFY:=@Bool.or_eq_false_iff
def aFZ:=@F.entry_zip_new
def aGA:=@typeLookup_type
def aGB:=@wpAny_updateSeq_pair
def aGC:=@List.foldl_cons
def aGD:=@F.newCall_zip_2
def aGE:=@Around.under_plainId
def aGF:=@F.args_object_init_2
def aGG:=@wpAny_typeOf
def aGH:=@List.flatten_append
def aGI:=@List.filterMap_cons
def aGJ:=@List.forIn_nil
def aGK:=@decide_eq_true
def aGL:=@wpAny_newTuple
def aGM:=@Int.natCast_nonneg
def aGN:=@assignInOrder_cons
def aGO:=@List.getElem?_take
def aGP:=@F.args_tuple_mul_2
def aGQ:=@of_decide_eq_false
def aGR:=@wpAny_onRaise
def aGS:=@F.entry_tuple_mul
def aGT:=@List.ext_getElem?
def aGU:=@List.pairwise_map
def aGV:=@wpAny_pyIter_slot
def aGW:=@typeIs_int
abbrev aGX:List Str:=["expr"]
abbrev aGY:List Str:=["n","k","e"]
abbrev aGZ:List Str:=["n","deeds"]
abbrev aHA:List Str:=["n","deed"]
abbrev aHB:List Str:=["n","expr","S","B","C"]
abbrev aHC:List Str:=["n","expr","shelf","ts"]
abbrev aHD:List Str:=["n","word","one","other"]
abbrev aHE:List Str:=["n","first","second"]
abbrev aHF:List Str:=["n","givens","expr","most"]
abbrev aHG:List Str:=["n","w","m"]
abbrev aHH:List Str:=["n","m"]
abbrev aHI:List Str:=["n","m","w","bringers","inner"]
abbrev aHJ:List Str:=["n","k","table"]
abbrev aHK:List Str:=["n","k","table","bit"]
abbrev aHL:List Str:=["k","table","bit"]
abbrev aHM:List Str:=["chosen"]
abbrev aHN:List Str:=["k","tree","values"]
abbrev aHO:List Str:=["n","k","givens","tree","most"]
abbrev aHP:List Str:=["n","k","tree"]
abbrev aHQ:List Str:=["n","k","w","tree","O","L","R"]
abbrev aHR:List Str:=["shelves","deeds"]
abbrev aHS:List Str:=["n","k","table","O","places"]
abbrev aHT:List Str:=["program","givens","contents"]
abbrev aHU:List Str:=["n","deed","givens","contents"]
abbrev aHV:List Str:=["places","numbers"]
abbrev aHW:List Str:=["saying","answers"]
abbrev aHX:List Str:=["n","saying"]
abbrev aHY:List Str:=["n","k","parts"]
abbrev aHZ:List Str:=["n","number"]
abbrev aIA:List Str:=["_law_script","_law_k"]
abbrev aIB:List Str:=["_law_box_here","_law_many"]
abbrev aIC:List Str:=["_law_box_here","_law_n"]
abbrev aID:List Str:=["_law_box_here","_law_n","_law_many"]
abbrev aIE:List Str:=["_law_box_here","_law_deep"]
abbrev aIF:List Str:=["_law_saying_here"]
abbrev aIG:List Str:=["_law_tree_here"]
abbrev aIH:List Str:=["_law_n","_law_saying_here","_law_tree_here","_law_contents","_law_numbers"]
abbrev aII:List Str:=["_law_script"]
abbrev aIJ:List Str:=["n","m","w","bringers","inner","u","row","shelf","deeds","back"]
abbrev aIK:List Str:=["n","k","table","bit","numbers","terms"]
abbrev aIL:List Str:=["n","k","givens","tree","most","many","w","O","L","R"]
abbrev aIM:List Str:=["n","k","tree","many","inner","brought"]
abbrev aIN:List Str:=["n","k","w","tree","O","L","R","first","bringers"]
abbrev aIO:List Str:=["n","k","table","O","places","deeds","shelf","terms","number","chosen"]
abbrev aIP:List Str:=["n","saying","word","one","other"]
abbrev aIQ:List Str:=["n","k","parts","many","total","part","numbers","told","i"]
abbrev aIR:List Str:=["n","row","told","left","over","i"]
abbrev aIS:List Str:=["_law_n","_law_saying_here","_law_tree_here","_law_contents","_law_numbers","_law_programs","_law_number","_law_answers","_law_due","_law_program"]
abbrev aIT:List Str:=["_law_script","_law_k","_law_box_here","_law_n","_law_saying_here","_law_tree_here","_law_deep","_law_numbers"]
abbrev aIU:List Str:=["word","S","c","gs","ts","n","u"]
abbrev aIV:List Str:=["shelf","deeds","w"]
abbrev aIW:List Str:=["chosen","number","n"]
abbrev aIX:List Str:=["places","number"]
abbrev aIY:List Str:=["_law_k","_law_box_here","_law_n"]
end
variable{xs ys items:Array PySem.Value}{us its bm:List PySem.Value}{x name qual:PySem.Str}{u u2:PySem.Value}{P prog:PySem.Program}{w:PySem.World}{h h' base:PySem.Heap}{α β:Type}{pins:List (PySem.Addr×PySem.Obj)}{s s' s₂:PySem.Shared}{t' i j k m G S:Nat}{ch fp μ μ1:List PySem.Addr}{it C l LE src z l1 l2:PySem.Addr}{N ps loose Nc:List PySem.Str}{A A':PySem.Around}{Q:PySem.Value->PySem.Shared->Prop}{t is O:List Nat}{pos pos' tpos p apos p2 pos2:PySem.Pos}{c n:Int}{K:Frag}{st:PySem.Stmt}{op:PySem.Operator}{body:List PySem.Stmt}{hi:Option Int}{mA:PySem.Str->Option PySem.Value}{fd:PySem.FuncData}{kindOf:PySem.Str->Option PySem.NameKind}{outer:List PySem.Env}{an od d:Option PySem.Addr}{osl sl:Array (Option PySem.Value)}{ns gs cs:List Int}{XP:(PySem.Str->Option PySem.Value)->PySem.Heap->Prop}{YP:PySem.World->PySem.Heap->Prop}{env:PySem.Env}{js:List (Option Nat)}{cl:List (PySem.Str×PySem.Addr)}{tn:Nat->PySem.Heap->Prop}{ad:List (Nat×Int×List Nat)}
section
open PySem PySem.Spec PyProof.Rows
namespace L2
noncomputable abbrev Key:=Sum Int Str
noncomputable def keyIs:Key->Value->Bool
 |.inl k,v=>Value.isInt k v
 |.inr x,v=>Value.isStrOf x v
noncomputable def keyH(w:World):Key->Int
 |.inl k=>hashInt k
 |.inr x=>hashStr w x
theorem dA:∀{k:Key} {v:Value},keyIs k v=true->(∃i t,k=Sum.inl i/\v=Value.int i t)\/(∃x t,k=Sum.inr x/\v=Value.str x t)
 |.inl i,v,h=>by
  obtain⟨t,e⟩:=Value.isInt_shape (k:=i) (v:=v) h
  exact .inl ⟨i,t,rfl,e⟩
 |.inr x,v,h=>by
  obtain⟨t,e⟩:=Value.isStrOf_shape (x:=x) (v:=v) h
  exact .inr ⟨x,t,rfl,e⟩
theorem aOx(a b:Int):decide ((Sum.inl a:Key)=Sum.inl b)=(a==b):=by
 by_cases e:a=b
 ·subst e;simp
 ·have h:¬(Sum.inl a:Key)=Sum.inl b:=λq=>e (Sum.inl.inj q)
  rw[aCB h]
  exact(beq_eq_false_iff_ne.mpr e).symm
theorem aMx(a b:Str):decide ((Sum.inr a:Key)=Sum.inr b)=decide (a=b):=by
 by_cases e:a=b
 ·subst e;simp
 ·have h:¬(Sum.inr a:Key)=Sum.inr b:=λq=>e (Sum.inr.inj q)
  rw[aCB h,aCB e]
theorem aNk(a:Int)(b:Str):decide ((Sum.inl a:Key)=Sum.inr b)=false:=aCB (λq=>nomatch q)
theorem aOm(a:Str)(b:Int):decide ((Sum.inr a:Key)=Sum.inl b)=false:=aCB (λq=>nomatch q)
noncomputable def mixKind(prog:Program)(w:World):PySem.KeyKind prog w Key where
 is:=keyIs
 hash:=keyH w
 inj:=λv a b ha hb=>by
  rcases dA ha with⟨i,t,rfl,rfl⟩|⟨x,t,rfl,rfl⟩
  ·rcases dA hb with⟨j,u,rfl,e⟩|⟨y,u,rfl,e⟩
   ·injection e with e1 _;rw[e1]
   ·exact nomatch e
  ·rcases dA hb with⟨j,u,rfl,e⟩|⟨y,u,rfl,e⟩
   ·exact nomatch e
   ·injection e with e1 _;rw[e1]
 byValue:=λk v h=>by
  rcases dA h with⟨i,t,rfl,rfl⟩|⟨x,t,rfl,rfl⟩ <;> rfl
 pyHash:=λhv h=>by
  rcases dA hv with⟨i,t,rfl,rfl⟩|⟨x,t,rfl,rfl⟩
  ·exact wpAny_pyHash_int h
  ·exact wpAny_pyHash_str h
 eqBool:=λhu hv h=>by
  rcases dA hu with⟨i,t,rfl,rfl⟩|⟨x,t,rfl,rfl⟩
  ·rcases dA hv with⟨j,u,rfl,rfl⟩|⟨y,u,rfl,rfl⟩
   ·rw[aOx]at h;exact wpAny_eqBool_int h
   ·rw[aNk]at h;exact SeqAt.EqAt.int_str i t y u _ _ _ _ h
  ·rcases dA hv with⟨j,u,rfl,rfl⟩|⟨y,u,rfl,rfl⟩
   ·rw[aOm]at h;exact SeqAt.EqAt.str_int x t j u _ _ _ _ h
   ·rw[aMx]at h;exact wpAny_eqBool_str h
 «strs»:=λk x t v h=>by
  rcases dA h with⟨i,u,rfl,e⟩|⟨y,u,rfl,e⟩
  ·exact nomatch e
  ·injection e with e1 _
   subst e1
   cases v <;> rfl
inductive V where
 |non|bl (b:Bool)|int (i:Int)|str (x:Str)|byt (b:Array UInt8)|flt (b:UInt64)|ref (a:Addr)|ty (n:String)
 deriving DecidableEq
noncomputable def RelV:V->Value->Prop
 |.non,u=>u=Value.none
 |.bl b,u=>u=Value.bool b
 |.int i,u=>∃t,u=Value.int i t
 |.str x,u=>∃t,u=Value.str x t
 |.byt b,u=>∃t,u=Value.bytes b t
 |.flt b,u=>∃t,u=Value.float b t
 |.ref a,u=>u=Value.ref a
 |.ty n,u=>u=Value.type n
noncomputable abbrev Vals:List V->List Value->Prop:=Paired RelV
theorem Vals.length{xs:List V}{us:List Value}(r:Vals xs us):xs.length=us.length:=Paired.length r
theorem Vals.get:∀{xs:List V} {us:List Value} {i:Nat} {x:V},Vals xs us->xs[i]?=some x->∃u,us[i]?=some u/\RelV x u
 |_,_,_,_,.nil,e=>by simp at e
 |_,_,0,_,.cons r _,e=>by simp at e;subst e;exact⟨_,rfl,r⟩
 |_,_,i+1,x,.cons _ t,e=>by
  obtain⟨u,h1,h2⟩:=Vals.get (i:=i) (x:=x) t (by simpa using e)
  exact⟨u,by simpa using h1,h2⟩
theorem Vals.set{x:V}{u:Value}(r:RelV x u):∀{xs:List V} {us:List Value} (i:Nat),Vals xs us->Vals (xs.set i x) (us.set i u)
 |_,_,_,.nil=>.nil
 |_,_,0,.cons _ t=>.cons r t
 |_,_,i+1,.cons q t=>.cons q (Vals.set r i t)
theorem Vals.append:∀{xs ys:List V} {us ws:List Value},Vals xs us->Vals ys ws->Vals (xs++ys) (us++ws)
 |_,_,_,_,.nil,s=>s
 |_,_,_,_,.cons r t,s=>.cons r (Vals.append t s)
theorem Vals.take:∀{xs:List V} {us:List Value} (n:Nat),Vals xs us->Vals (xs.take n) (us.take n)
 |_,_,0,_=>.nil
 |_,_,_+1,.nil=>.nil
 |_,_,n+1,.cons r t=>.cons r (Vals.take n t)
theorem Vals.drop:∀{xs:List V} {us:List Value} (n:Nat),Vals xs us->Vals (xs.drop n) (us.drop n)
 |_,_,0,r=>r
 |_,_,_+1,.nil=>.nil
 |_,_,n+1,.cons _ t=>Vals.drop n t
noncomputable def RelO:Option V->Option Value->Prop
 |some v,some u=>RelV v u
 |none,none=>True
 |_,_=>False
noncomputable def KV{κ:Type}:List (κ×V)->List (κ×Value)->Prop:=Paired λ(p:κ×V) (q:κ×Value)=>p.1=q.1/\RelV p.2 q.2
noncomputable def kV:Key->V
 |.inl i=>.int i
 |.inr x=>.str x
inductive HO where
 |lst (xs:List V)
 |tup (xs:List V)
 |dK (kvs:List (Key×V))|dT (kvs:List (List Key×V))
 |set (S:Int->Bool) (n:Nat)
 |ins (C dx:Addr) (fs:List (Str×V))
 |own (x:Addr)
 |xd (fs:List (Str×V))
 |met (f x:Addr)
 |rng (lo hi:Int)
 |frz (o:Obj) (u:HO)
 |tbl (ps:Array Value)
 |ext (φ:Heap->Prop)
noncomputable abbrev Hp:=Addr->Option HO
noncomputable def upd(H:Hp)(a:Addr)(o:HO):Hp:=λb=>if b=a then some o else H b
variable{H:Hp}{a:Addr}{o:HO}
theorem eT :upd H a o a=some o:=by unfold upd;rw[aAG rfl]
variable{b:Addr}
theorem bE(h:b≠a):upd H a o b=H b:=by unfold upd;rw[aAC h]
theorem dQ(h:H a=some o)(h':H b=none):a≠b:=by
 intro e;subst e;rw[h]at h';cases h'
section
variable(P:Program)(w:World)
noncomputable def ObjOk(H:Hp)(h:Heap)(a:Addr):HO->Prop
 |.lst xs=>xs.length<=sizeLine/\∃(its:List Value) (n:Nat),Vals xs its/\h.get? a=some {cls:=.type "list",data:=.seq its.toArray n}
 |.tup xs=>xs.length<=sizeLine/\∃its:List Value,Vals xs its/\IsTup h a its.toArray
 |.dK kvs=>kvs.length<=sizeLine/\(a==sysModules)=false/\∃vs,KV kvs vs/\h.DictOf (mixKind P w) a vs
 |.dT kvs=>kvs.length<=sizeLine/\(a==sysModules)=false/\∃xs:List (List Key×Addr×Value),
   Paired (λ(p:List Key×V) (q:List Key×Addr×Value)=>p.1=q.1/\H q.2.1=some (.tup (p.1.map kV))/\RelV p.2 q.2.2) kvs xs /\
   ∃o es ep,h.get? a=some o/\o.ExactDict/\o.data=.dict es ep/\es.toList=xs.map (entryOfKey (tupleKind (mixKind P w)))/\(xs.map (·.1)).Nodup
 |.set S n=>h.SetOf (intKind P w) a S n
 |.ins C dx fs=>H dx=some (.own a)/\fs.length<=1000/\dx≠a/\h.get? a=some (PySem.W.instObj C dx) /\
   ∃mA,h.Ns1 dx mA/\(∀f,RelO (fs.lookup f) (mA f))/\PySem.Within mA (fs.map (·.1))
 |.own _=>∃o,h.get? a=some o
 |.xd fs=>∃mA,h.Ns1 a mA/\∀f,RelO (fs.lookup f) (mA f)
 |.rng lo hi=>∃t u v,h.get? a=some {cls:=.type "range",data:=.fields #[.int lo t,.int hi u,.int 1 v]}
 |.frz o u=>h.get? a=some o/\ObjOk H h a u
 |.tbl ps=>h.get? a=some {cls:=.none,data:=.fields ps}
 |.met f x=>h.get? a=some (PySem.W.methodObj (.ref f) (.ref x))
 |.ext φ=>φ h/\(∃o,h.get? a=some o)/\∀h1 h2:Heap,φ h1->(∀o,h1.get? a=some o->h2.get? a=some o)->φ h2
noncomputable def HOk(H:Hp)(h:Heap):Prop:=∀a o,H a=some o->ObjOk P w H h a o
end
variable{H':Hp}
theorem ObjOk.lt(x:ObjOk P w H h a o):a < h.objs.size:=by
 cases o with
 |lst xs=>obtain⟨_,_,_,_,e⟩:=x;exact aAJ e
 |tup xs=>obtain⟨_,_,_,p⟩:=x;exact p.lt
 |dK kvs=>obtain⟨_,_,_,_,o,_,_,e,_⟩:=x;exact aAJ e
 |dT kvs=>obtain⟨_,_,_,_,o,_,_,e,_⟩:=x;exact aAJ e
 |set S n=>obtain⟨o,_,_,_,e,_⟩:=x;exact aAJ e
 |ins C dx fs=>obtain⟨_,_,_,e,_⟩:=x;exact aAJ e
 |own y=>obtain⟨_,e⟩:=x;exact aAJ e
 |xd fs=>obtain⟨_,⟨_,_,_,e,_⟩,_⟩:=x;exact aAJ e
 |rng lo hi=>obtain⟨_,_,_,e⟩:=x;exact aAJ e
 |frz ob u=>obtain⟨e,_⟩:=x;exact aAJ e
 |tbl ps=>exact aAJ (show h.get? a=some _ from x)
 |met f y=>exact aAJ (show h.get? a=some _ from x)
 |ext φ=>obtain⟨_,⟨_,e⟩,_⟩:=x;exact aAJ e
theorem Paired.mapP{α β:Type}{F G:α->β->Prop}:∀{l₁:List α} {l₂:List β},Paired F l₁ l₂->(∀a b,F a b->G a b)->Paired G l₁ l₂
 |_,_,.nil,_=>.nil
 |_,_,.cons r t,f=>.cons (f _ _ r) (Paired.mapP t f)
theorem ObjOk.stay(x:ObjOk P w H h a o)(k:∀b u,(b=a\/H b=some (.own a))->h.get? b=some u->h'.get? b=some u)
  (ho:∀b,H b=some (.own a)->H' b=some (.own a))(ht:∀b xs,H b=some (.tup xs)->H' b=some (.tup xs)):ObjOk P w H' h' a o:=by
 induction o with
 |lst xs=>obtain⟨z,its,n,r,e⟩:=x;exact⟨z,its,n,r,k _ _ (.inl rfl) e⟩
 |tup xs=>obtain⟨z,its,r,ob,e,c⟩:=x;exact⟨z,its,r,ob,k _ _ (.inl rfl) e,c⟩
 |dK kvs=>obtain⟨z,y,vs,r,ob,es,ep,e,c⟩:=x;exact⟨z,y,vs,r,ob,es,ep,k _ _ (.inl rfl) e,c⟩
 |dT kvs =>
  obtain⟨z,y,xs,r,ob,es,ep,e,c⟩:=x
  exact⟨z,y,xs,Paired.mapP r λp q z=>⟨z.1,ht _ _ z.2.1,z.2.2⟩,ob,es,ep,k _ _ (.inl rfl) e,c⟩
 |set S n=>obtain⟨ob,es,ep,t,e,c⟩:=x;exact⟨ob,es,ep,t,k _ _ (.inl rfl) e,c⟩
 |ins C dx fs =>
  obtain⟨d,z,ne,e,mA,⟨od,es,ep,e2,c⟩,r⟩:=x
  exact⟨ho _ d,z,ne,k _ _ (.inl rfl) e,mA,⟨od,es,ep,k _ _ (.inr d) e2,c⟩,r⟩
 |own y=>obtain⟨ob,e⟩:=x;exact⟨ob,k _ _ (.inl rfl) e⟩
 |xd fs=>obtain⟨mA,⟨od,es,ep,e,c⟩,r⟩:=x;exact⟨mA,⟨od,es,ep,k _ _ (.inl rfl) e,c⟩,r⟩
 |rng lo hi=>obtain⟨t,u,v,e⟩:=x;exact⟨t,u,v,k _ _ (.inl rfl) e⟩
 |frz ob u ih=>obtain⟨e,q⟩:=x;exact⟨k _ _ (.inl rfl) e,ih q⟩
 |tbl ps =>
  have e:h.get? a=some {cls:=.none,data:=.fields ps}:=x
  show h'.get? a=some {cls:=.none,data:=.fields ps}
  exact k a _ (.inl rfl) e
 |met f y =>
  have e:h.get? a=some (PySem.W.methodObj (.ref f) (.ref y)):=x
  show h'.get? a=some (PySem.W.methodObj (.ref f) (.ref y))
  exact k a _ (.inl rfl) e
 |ext φ=>obtain⟨p,⟨o,e⟩,st⟩:=x;exact⟨st _ _ p λo q=>k _ _ (.inl rfl) q,⟨o,k _ _ (.inl rfl) e⟩,st⟩
theorem HOk.lt(x:HOk P w H h)(e:H a=some o):a < h.objs.size:=(x a o e).lt
theorem HOk.fresh(x:HOk P w H h)(e:h.objs.size<=a):H a=none:=by
 cases q:H a with
 |none=>rfl
 |some u=>exact absurd (aAT (x.lt q) e) (aCP _)
theorem HOk.kept(x:HOk P w H h)(k:∀b u,h.get? b=some u->h'.get? b=some u):HOk P w H h':=λa o e =>
 (x a o e).stay (λb u _ q=>k b u q) (λ_ q=>q) λ_ _ q=>q
theorem HOk.laid(x:HOk P w H h)(k:∀b u,h.get? b=some u->h'.get? b=some u)(hp:h.objs.size<=a)(new:ObjOk P w (upd H a o) h' a o):HOk P w (upd H a o) h':=λb u e=>by
 have hn:=x.fresh hp
 by_cases hb:b=a
 ·subst hb;rw[eT]at e;cases e;exact new
 ·rw[bE hb]at e
  exact(x b u e).stay (λc v _ q=>k c v q) (λc q=>by rw[bE (dQ q hn)];exact q) λc xs q=>by rw[bE (dQ q hn)];exact q
noncomputable def Rd(H:Hp)(a:Addr)(u:HO):Prop:=H a=some u\/∃o,H a=some (.frz o u)
theorem Rd.ok{u:HO}(r:Rd H a u)(x:HOk P w H h):ObjOk P w H h a u:=by
 rcases r with r|⟨o,r⟩
 ·exact x a u r
 ·obtain⟨_,q⟩:=x a _ r
  exact q
noncomputable def Mut:Option HO->Prop
 |some (.lst _)=>True
 |some (.dK _)=>True
 |some (.dT _)=>True
 |some (.set _ _)=>True
 |some (.ins _ _ _)=>True
 |some (.ext _)=>True
 |_=>False
variable{x e:Addr}{o':HO}
theorem HOk.write(ok:HOk P w H h)(mu:Mut (H x))(he:e=x\/H e=some (.own x))(k:∀b u,b≠e->h.get? b=some u->h'.get? b=some u)(heo:∃u,h'.get? e=some u)
  (new:ObjOk P w (upd H x o') h' x o'):HOk P w (upd H x o') h':=λb u q=>by
 have nown:∀c y,H c=some (.own y)->c≠x:=λc y r z=>by subst z;rw[r]at mu;exact mu
 have ntup:∀c xs,H c=some (.tup xs)->c≠x:=λc xs r z=>by subst z;rw[r]at mu;exact mu
 by_cases hb:b=x
 ·subst hb;rw[eT]at q;cases q;exact new
 ·rw[bE hb]at q
  by_cases hbe:b=e
  ·have q':H b=some (.own x):=by
    rcases he with z|z
    ·exact absurd (hbe.trans z) hb
    ·rw[hbe];exact z
   rw[q]at q';cases q'
   obtain⟨v,hv⟩:=heo
   exact⟨v,by rw[hbe];exact hv⟩
  ·refine(ok b u q).stay (λc v hc r=>k c v ?_ r) (λc r=>by rw[bE (nown c b r)];exact r) λc xs r=>by rw[bE (ntup c xs r)];exact r
   rcases hc with rfl|hc
   ·exact hbe
   ·rintro rfl
    rcases he with z|z
    ·exact nown c b hc z
    ·rw[hc]at z;cases z;exact hb rfl
structure Un(fs ex:List Addr)(H H':Hp)(h h':Heap):Prop where
 keep:∀b o,h.get? b=some o->H b=none->b∉fs->b∉ex->h'.get? b=some o
 slot:∀b o,h.get? b=some o->H b=none->b∈fs->b∉ex->∃sl,h'.get? b=some {o with slots:=sl}
 free:∀b o,h.get? b=some o->H b=none->b∉ex->H' b=none
 there:∀b o,h.get? b=some o->b∉ex->∃o',h'.get? b=some o'
 tups:∀b xs,H b=some (.tup xs)->H' b=some (.tup xs)
 frzs:∀b o u,H b=some (.frz o u)->H' b=some (.frz o u)
 tbls:∀b ps,H b=some (.tbl ps)->∃more,H' b=some (.tbl (ps++more))
section
variable{fs fs' ex ex':List Addr}{H1 H2:Hp}{h1 h2:Heap}
theorem Un.any(u:Un fs ex H H1 h h1){ob:Obj}(q:h.get? b=some ob)(n:H b=none)(hx:b∉ex):∃sl,h1.get? b=some {ob with slots:=sl}:=by
 by_cases hb:b∈fs
 ·exact u.slot b ob q n hb hx
 ·exact⟨ob.slots,u.keep b ob q n hb hx⟩
theorem Un.trans(a:Un fs ex H H1 h h1)(b:Un fs ex H1 H2 h1 h2):Un fs ex H H2 h h2 where
 keep:=λc ob q n hc hx=>b.keep c ob (a.keep c ob q n hc hx) (a.free c ob q n hx) hc hx
 slot:=λc ob q n hc hx=>by
  obtain⟨sl,e1⟩:=a.slot c ob q n hc hx
  obtain⟨sl',e2⟩:=b.slot c _ e1 (a.free c ob q n hx) hc hx
  exact⟨sl',e2⟩
 free:=λc ob q n hx=>by
  obtain⟨o',e1⟩:=a.there c ob q hx
  exact b.free c o' e1 (a.free c ob q n hx) hx
 there:=λc ob q hx=>by
  obtain⟨o',e1⟩:=a.there c ob q hx
  exact b.there c o' e1 hx
 tups:=λc xs q=>b.tups c xs (a.tups c xs q)
 frzs:=λc ob xs q=>b.frzs c ob xs (a.frzs c ob xs q)
 tbls:=λc ps q=>by
  obtain⟨m1,e1⟩:=a.tbls c ps q
  obtain⟨m2,e2⟩:=b.tbls c _ e1
  exact⟨m1++m2,by rw[e2,Array.append_assoc]⟩
theorem Un.kept(k:∀b u,h.get? b=some u->h'.get? b=some u):Un fs ex H H h h' :=
 ⟨λb ob q _ _ _=>k b ob q,λb ob q _ _ _=>⟨ob.slots,k b ob q⟩,λ_ _ _ n _=>n,λb ob q _=>⟨ob,k b ob q⟩,λ_ _ q=>q,λ_ _ _ q=>q,λ_ ps q=>⟨#[],by rw[q];simp⟩⟩
theorem Un.refl:Un fs ex H H h h:=Un.kept λ_ _ q=>q
theorem Un.laid(k:∀b u,h.get? b=some u->h'.get? b=some u)(hp:h.objs.size<=a)(hn:H a=none):Un fs ex H (upd H a o) h h' where
 keep:=λb u q _ _ _=>k b u q
 slot:=λb u q _ _ _=>⟨u.slots,k b u q⟩
 free:=λb u q n _=>by rw[bE (aAV (aAT (aAJ q) hp))];exact n
 there:=λb u q _=>⟨u,k b u q⟩
 tups:=λb xs q=>by rw[bE (dQ q hn)];exact q
 frzs:=λb u xs q=>by rw[bE (dQ q hn)];exact q
 tbls:=λb ps q=>⟨#[],by rw[bE (dQ q hn),q];simp⟩
theorem Un.write(mu:Mut (H x))(he:e=x\/H e=some (.own x))(k:∀b u,b≠e->h.get? b=some u->h'.get? b=some u)(heo:∃u,h'.get? e=some u):Un fs ex H (upd H x o) h h':=by
 have hx:∀b,H b=none->b≠x:=λb n z=>by subst z;rw[n]at mu;exact mu
 have hb:∀b,H b=none->b≠e:=λb n z=>by
  subst z
  rcases he with r|r
  ·exact hx b n r
  ·rw[n]at r;cases r
 have hm:∀b u,H b=some u->¬Mut (some u)->b≠x:=λb u q nm z=>by subst z;rw[q]at mu;exact nm mu
 refine⟨λb u q n _ _=>k b u (hb b n) q,λb u q n _ _=>⟨u.slots,k b u (hb b n) q⟩,λb u q n _=>by rw[bE (hx b n)];exact n,λb u q _=>?_,
  λb xs q=>by rw[bE (hm b _ q λz=>z)];exact q,λb u xs q=>by rw[bE (hm b _ q λz=>z)];exact q,λb ps q=>⟨#[],by rw[bE (hm b _ q λz=>z),q];simp⟩⟩
 by_cases hbe:b=e
 ·subst hbe;exact heo
 ·exact⟨u,k b u hbe q⟩
end
noncomputable def trk(h:Heap)(H:Hp):List Addr:=(List.range h.objs.size).filter λa=>(H a).isSome
noncomputable def hidT(h:Heap)(H:Hp):Heap:=PySem.W.hideAll h (trk h H)
theorem aDb(h:Heap)(H:Hp):(hidT h H).objs.size=h.objs.size:=PySem.W.hideAll_size _ _
variable{o:Obj}
theorem aGt(e:h.get? b=some o)(n:H b=none):(hidT h H).get? b=some o :=
 PySem.W.hideAll_get _ e λhm=>by
  have q:(H b).isSome=true:=(List.mem_filter.mp hm).2
  rw[n]at q;simp at q
theorem aIy(e:(hidT h H).get? b=some o):h.get? b=some o/\H b=none:=by
 have e':h.get? b=some o:=PySem.W.of_hideAll (trk h H) e
 refine⟨e',?_⟩
 cases q:H b with
 |none=>rfl
 |some x =>
  have hm:b∈trk h H:=List.mem_filter.mpr ⟨aCE.mpr (aAJ e'),by simp[q]⟩
  have z:(hidT h H).get? b=none:=PySem.W.hideAll_none (trk h H) hm
  rw[z]at e;cases e
noncomputable def allNews(g h:Heap)(L:Addr):List (Addr×Obj):=(List.range h.objs.size).filterMap λa=>if a=L\/(g.get? a).isSome=true then none else(h.get? a).map λo=>(a,o)
noncomputable def rest(g h:Heap)(L d:Addr):List (Addr×Obj):=(allNews g h L).filter λp=>decide (p.1≠d)
structure Mod(K:Frag)(mg:Str->Option Value)(base:Heap):Prop where
 kin:K.In base
 glob:base.Ns mainGlobals mg
 blt:∃mb,base.Ns builtinsNs mb/\∀x:Str,x≠"__name__"->mb x=bootBuiltins x
 nolimit:base.NoLimit
structure Cx where
 prog:Program
 w:World
 K:Frag
 mg:Str->Option Value
 base:Heap
 A:Around
 N:List Str
 s₀:Shared
 H₀:Hp
 env:Env
 outer:List Env
 stack:List Env
 ex:List Addr
 fn:Str->Bool
 calm:Bool
 pn:List (Addr×Obj)
 xe:Value->Shared->Prop
noncomputable def frs(l:List Env):List Addr:=l.filterMap (·.frame)
noncomputable abbrev Cx.fs(X:Cx):List Addr:=frs X.outer
noncomputable def Vis(sc:Scope)(x:Str):Prop:=sc.names.lookup x=some .local\/sc.names.lookup x=some .cell\/sc.names.lookup x=some .free
noncomputable def Loc(sc:Scope)(x:Str):Prop:=sc.names.lookup x=some .local\/sc.names.lookup x=some .cell
noncomputable def Look(env:Env)(h:Heap)(m:Str->Option Value)(x:Str)(u:Value):Prop :=
 (env.kindOf x=some .local/\m x=some u)\/((env.kindOf x=some .cell\/env.kindOf x=some .free)/\∃c,env.cells.lookup x=some c/\h.IsCell c (some u))
structure Cx.Ok(X:Cx):Prop where
 mod:Mod X.K X.mg X.base
 kind:X.env.scope.kind=.function
 glob:X.env.globals=mainGlobals
 blt:X.env.builtins=builtinsNs
 above:X.s₀.heap.objs.size<=X.env.locals
 inj:∀x y c,X.env.cells.lookup x=some c->X.env.cells.lookup y=some c->x=y
 has:∀x,(X.env.kindOf x=some .cell\/X.env.kindOf x=some .free)->∃c,X.env.cells.lookup x=some c
 cab:∀x c,X.fn x=true->X.env.cells.lookup x=some c->X.s₀.heap.objs.size<=c
 hd:X.calm=true->X.A.handled=none
 frames:X.A.frames=some X.stack
 stk:X.stack=X.outer\/(X.stack=X.env::X.outer/\X.env.frame=some X.env.locals)
 exf:∀b∈X.ex,b≠X.env.locals/\∀x c,X.env.cells.lookup x=some c->c≠b
 bs:∀b o,X.base.get? b=some o->X.s₀.heap.get? b=some o/\X.H₀ b=none
 bsz:X.base.objs.size<=X.s₀.heap.objs.size
 noex:∀b o,X.base.get? b=some o->b∉X.ex
 exfs:∀b∈X.ex,b∉X.fs
 funs:X.s₀.heap.FunFrames X.base X.outer
 frf:∀b∈X.fs,X.H₀ b=none
structure Inv(X:Cx)(pins:List (Addr×Obj))(σ:List (Option V))(H:Hp)(s:Shared):Prop where
 ok:X.Ok
 os:s.os=X.s₀.os
 bare:AllBare s.gens
 base:Un X.fs X.ex X.H₀ H X.s₀.heap s.heap
 loc:∃m,s.heap.Ns X.env.locals m/\∀(i:Nat) (x:Str) (v:V),X.N[i]?=some x->σ[i]?=some (some v)->Vis X.env.scope x->∃u,RelV v u/\Look X.env s.heap m x u
 cell:∀x c,X.env.cells.lookup x=some c->∃v,s.heap.IsCell c v
 free:H X.env.locals=none
 freeC:∀x c,X.env.cells.lookup x=some c->H c=none
 pin:∀p∈X.pn++pins,s.heap.get? p.1=some p.2/\H p.1=none/\p.1≠X.env.locals/\p.1∉X.fs/\∀v,p.2.data≠.cell v
 hok:HOk X.prog X.w H s.heap
 len:σ.length=X.N.length
variable{X:Cx}{σ:List (Option V)}
theorem Cx.Ok.nofr(ok:X.Ok)(e:X.base.get? b=some o):b∉X.fs:=λhb=>by
 have:=(ok.funs.mem hb).1
 rw[e]at this;cases this
theorem Inv.bs(I:Inv X pins σ H s):∀b o,X.base.get? b=some o->s.heap.get? b=some o/\H b=none:=λb o e =>
 ⟨I.base.keep b o (I.ok.bs b o e).1 (I.ok.bs b o e).2 (I.ok.nofr e) (I.ok.noex b o e),I.base.free b o (I.ok.bs b o e).1 (I.ok.bs b o e).2 (I.ok.noex b o e)⟩
theorem Inv.bk(I:Inv X pins σ H s):∀b o,X.base.get? b=some o->s.heap.get? b=some o:=λb o e=>(I.bs b o e).1
theorem Inv.mod(I:Inv X pins σ H s):Mod X.K X.mg X.base:=I.ok.mod
theorem Inv.kIn(I:Inv X pins σ H s):X.K.In s.heap:=I.ok.mod.kin.keeps I.bk
theorem Inv.lt(I:Inv X pins σ H s):X.env.locals < s.heap.objs.size:=let⟨_,hn,_⟩:=I.loc;hn.lt
theorem Inv.sz(I:Inv X pins σ H s):X.s₀.heap.objs.size<=s.heap.objs.size:=aBF I.ok.above (Nat.le_of_lt I.lt)
theorem Inv.nofs(I:Inv X pins σ H s)(h:s.heap.objs.size<=a):a∉X.fs:=λhb=>by
 obtain⟨_,o,ho,_⟩:=I.ok.funs.mem hb
 exact absurd (aAT (aAJ ho) (aBF I.sz h)) (aCP _)
theorem Inv.cne(I:Inv X pins σ H s):∀x c,X.env.cells.lookup x=some c->c≠X.env.locals:=λx c e z=>by
 obtain⟨v,o,ho,hd⟩:=I.cell x c e
 obtain⟨m,⟨o',es,ep,ho',hd',_⟩,_⟩:=I.loc
 rw[z,ho']at ho;cases ho;rw[hd']at hd;cases hd
theorem Inv.funs(I:Inv X pins σ H s):s.heap.FunFrames X.base X.outer:=by
 have all:∀(l:List Env),(∀b∈frs l,b∈X.fs)->X.s₀.heap.FunFrames X.base l->s.heap.FunFrames X.base l:=by
  intro l
  induction l with
  |nil=>intro _ _;trivial
  |cons env r ih =>
   intro hs hl
   obtain⟨hk,⟨L,o,hf,hn,ho,hd⟩,hr⟩:=hl
   have hL:L∈X.fs:=hs L (by unfold frs;rw[aGI,hf];exact aCO)
   obtain⟨sl,e⟩:=I.base.slot L o ho (I.ok.frf L hL) hL λz=>I.ok.exfs L z hL
   exact⟨hk,⟨L,_,hf,hn,e,hd⟩,ih (λb hb=>hs b (by unfold frs;rw[aGI,hf];exact aBZ _ hb)) hr⟩
 exact all X.outer (λ_ hb=>hb) I.ok.funs
theorem Inv.stack(I:Inv X pins σ H s):s.heap.FunFrames X.base X.stack:=by
 rcases I.ok.stk with e|⟨e,hf⟩
 ·rw[e];exact I.funs
 ·rw[e]
  obtain⟨m,hn,_⟩:=I.loc
  refine .cons (by rw[I.ok.kind];decide) hf hn ?_ I.funs
  exact Heap.get?_none_of_le (aBF I.ok.bsz I.ok.above)
theorem Inv.stkSub(I:Inv X pins σ H s):∀b∈frs X.stack,b∈X.env.locals::X.fs:=λb hb=>by
 rcases I.ok.stk with e|⟨e,hf⟩
 ·rw[e]at hb;exact aBZ _ hb
 ·rw[e]at hb
  unfold frs at hb
  rw[aGI,hf]at hb
  exact hb
theorem Inv.stkFree(I:Inv X pins σ H s):∀b∈frs X.stack,H b=none:=λb hb=>by
 rcases aAU.mp (I.stkSub b hb)with e|hb
 ·rw[e];exact I.free
 ·obtain⟨_,o,ho,_⟩:=I.ok.funs.mem hb
  exact I.base.free b o ho (I.ok.frf b hb) λz=>I.ok.exfs b z hb
variable{g':Array GenState}{d':Drawn}
theorem Inv.step{ch:List Addr}(I:Inv X pins σ H s)
  (hch:∀b∈ch,(b∈X.ex\/X.s₀.heap.objs.size<=b)/\b≠X.env.locals/\(∀x c,X.env.cells.lookup x=some c->c≠b)/\∀p∈X.pn++pins,p.1≠b)
  (keep:∀b o,b≠X.env.locals->b∉X.fs->b∉ch->s.heap.get? b=some o->H b=none->h'.get? b=some o)
  (slot:∀b o,b≠X.env.locals->b∈X.fs->b∉ch->s.heap.get? b=some o->H b=none->∃sl,h'.get? b=some {o with slots:=sl})(free:∀b o,b∉ch->s.heap.get? b=some o->H b=none->H' b=none)
  (there:∀b o,b∉ch->s.heap.get? b=some o->∃o',h'.get? b=some o')
  (tups:∀b xs,H b=some (.tup xs)->H' b=some (.tup xs))(frzs:∀b o u,H b=some (.frz o u)->H' b=some (.frz o u))(tbls:∀b ps,H b=some (.tbl ps)->∃more,H' b=some (.tbl (ps++more)))
  (ns:∀m,s.heap.Ns X.env.locals m->h'.Ns X.env.locals m)(hok:HOk X.prog X.w H' h')(hg:AllBare g') :
  Inv X pins σ H' {s with heap:=h',gens:=g',drawn:=d',toks:=t'}:=by
 have neL:∀b o,X.s₀.heap.get? b=some o->b≠X.env.locals:=λb o e=>aAV (aAT (aAJ e) I.ok.above)
 have neC:∀b o,X.s₀.heap.get? b=some o->b∉X.ex->b∉ch:=λb o e hx hb=>by
  rcases(hch b hb).1 with z|z
  ·exact hx z
  ·exact absurd (aAT (aAJ e) z) (aCP _)
 have cellK:∀x c,X.env.cells.lookup x=some c->∀v,s.heap.IsCell c v->h'.IsCell c v:=λx c e v ⟨o,ho,hd⟩=>by
  have nch:c∉ch:=λz=>(hch c z).2.2.1 x c e rfl
  by_cases hc:c∈X.fs
  ·obtain⟨sl,q⟩:=slot c o (I.cne x c e) hc nch ho (I.freeC x c e)
   exact⟨_,q,hd⟩
  ·exact⟨o,keep c o (I.cne x c e) hc nch ho (I.freeC x c e),hd⟩
 refine⟨I.ok,I.os,hg,⟨λb o e n hb hx=>?_,λb o e n hb hx=>?_,λb o e n hx=>?_,λb o e hx=>?_,λb xs e=>tups b xs (I.base.tups b xs e),λb o xs e=>frzs b o xs (I.base.frzs b o xs e),λb ps e=>?_⟩,?_,λx c e=>?_,?_,λx c e=>?_,λp hp=>?_,hok,I.len⟩
 ·exact keep b o (neL b o e) hb (neC b o e hx) (I.base.keep b o e n hb hx) (I.base.free b o e n hx)
 ·obtain⟨sl,e1⟩:=I.base.slot b o e n hb hx
  obtain⟨sl',e2⟩:=slot b _ (neL b o e) hb (neC b o e hx) e1 (I.base.free b o e n hx)
  exact⟨sl',e2⟩
 ·obtain⟨o',e1⟩:=I.base.there b o e hx
  exact free b o' (neC b o e hx) e1 (I.base.free b o e n hx)
 ·obtain⟨o',e1⟩:=I.base.there b o e hx
  exact there b o' (neC b o e hx) e1
 ·obtain⟨m1,e1⟩:=I.base.tbls b ps e
  obtain⟨m2,e2⟩:=tbls b _ e1
  exact⟨m1++m2,by rw[e2,Array.append_assoc]⟩
 ·obtain⟨m,hn,hl⟩:=I.loc
  refine⟨m,ns m hn,λi x v e1 e2 e3=>?_⟩
  obtain⟨u,r,l⟩:=hl i x v e1 e2 e3
  refine⟨u,r,?_⟩
  rcases l with l|⟨k,c,e,z⟩
  ·exact .inl l
  ·exact .inr ⟨k,c,e,cellK x c e _ z⟩
 ·obtain⟨v,z⟩:=I.cell x c e
  exact⟨v,cellK x c e v z⟩
 ·obtain⟨m,⟨o,_,_,ho,_⟩,_⟩:=I.loc
  exact free _ o (λz=>(hch _ z).2.1 rfl) ho I.free
 ·obtain⟨v,o,ho,hd⟩:=I.cell x c e
  exact free c o (λz=>(hch c z).2.2.1 x c e rfl) ho (I.freeC x c e)
 ·obtain⟨e,n,ne,nf,d⟩:=I.pin p hp
  have nch:p.1∉ch:=λz=>(hch p.1 z).2.2.2 p hp rfl
  exact⟨keep p.1 p.2 ne nf nch e n,free p.1 p.2 nch e n,ne,nf,d⟩
theorem Inv.un(I:Inv X pins σ H s)(u:Un X.fs [] H H' s.heap h')(hok:HOk X.prog X.w H' h'):Inv X pins σ H' {s with heap:=h',toks:=t'}:=by
 obtain⟨m,⟨o,es,ep,ho,r⟩,_⟩:=id I.loc
 obtain⟨sl,hL⟩:=u.any ho I.free (by simp)
 exact I.step (g':=s.gens) (d':=s.drawn) (ch:=[]) (λ_ z=>nomatch z) (λb o _ hb _ e n=>u.keep b o e n hb (by simp)) (λb o _ hb _ e n=>u.slot b o e n hb (by simp)) (λb o _ e n=>u.free b o e n (by simp)) (λb o _ e=>u.there b o e (by simp)) u.tups u.frzs u.tbls (λm' hm=>by
  obtain⟨o',es',ep',ho',r'⟩:=hm
  rw[ho]at ho';cases ho'
  exact⟨_,es',ep',hL,r'⟩) hok I.bare
theorem Inv.call{ch:List Addr}(I:Inv X pins σ H s)(u:Un (frs X.stack) ch H H' s.heap h')(hok:HOk X.prog X.w H' h')(hg:AllBare g')
  (hch:∀b∈ch,(b∈X.ex\/X.s₀.heap.objs.size<=b)/\b≠X.env.locals/\(∀x c,X.env.cells.lookup x=some c->c≠b)/\∀p∈X.pn++pins,p.1≠b) :
  Inv X pins σ H' {s with heap:=h',gens:=g',drawn:=d',toks:=t'}:=by
 obtain⟨m,⟨o,es,ep,ho,r⟩,_⟩:=id I.loc
 obtain⟨sl,hL⟩:=u.any ho I.free λz=>(hch _ z).2.1 rfl
 exact I.step (ch:=ch) hch (λb o hL hb hc e n=>u.keep b o e n (λz=>(aAU.mp (I.stkSub b z)).elim hL hb) hc) (λb o _ _ hc e n=>u.any e n hc) (λb o hc e n=>u.free b o e n hc) (λb o hc e=>u.there b o e hc) u.tups u.frzs u.tbls (λm' hm=>by
  obtain⟨o',es',ep',ho',r'⟩:=hm
  rw[ho]at ho';cases ho'
  exact⟨_,es',ep',hL,r'⟩) hok hg
theorem Inv.turned(I:Inv X pins σ H s)(k:∀b o,b≠it->s.heap.get? b=some o->h'.get? b=some o)(hn:H it=none)(hL:it≠X.env.locals)
  (h1:it∈X.ex\/X.s₀.heap.objs.size<=it)(h2:∀x c,X.env.cells.lookup x=some c->c≠it)(h3:∀p∈X.pn++pins,p.1≠it):Inv X pins σ H {s with heap:=h',toks:=t'}:=by
 have nit:∀b u,H b=some u->b≠it:=λb u e z=>by rw[z,hn]at e;cases e
 refine I.step (g':=s.gens) (d':=s.drawn) (ch:=[it]) (λb hb=>?_) (λb o _ _ hc e _=>k b o (λz=>hc (by simp[z])) e) (λb o _ _ hc e _=>⟨o.slots,k b o (λz=>hc (by simp[z])) e⟩) (λ_ _ _ _ n=>n)
  (λb o hc e=>⟨o,k b o (λz=>hc (by simp[z])) e⟩) (λ_ _ e=>e) (λ_ _ _ e=>e) (λb ps e=>⟨#[],by rw[e];simp⟩) (λm hm=>?_) (λb u e=>?_) I.bare
 ·have e:b=it:=by simpa using hb
  subst e
  exact⟨h1,hL,h2,h3⟩
 ·obtain⟨o,es,ep,ho,r⟩:=hm
  exact⟨o,es,ep,k _ o (Ne.symm hL) ho,r⟩
 ·refine(I.hok b u e).stay (λc v hc q=>k c v ?_ q) (λ_ q=>q) λ_ _ q=>q
  rcases hc with z|z
  ·rw[z];exact nit b u e
  ·exact nit c _ z
theorem Inv.tok(I:Inv X pins σ H s)(t:Nat):Inv X pins σ H {s with toks:=t}:=I.un (h':=s.heap) (t':=t) Un.refl I.hok
theorem Inv.kept{t':Nat}(I:Inv X pins σ H s)(k:∀b u,s.heap.get? b=some u->h'.get? b=some u):Inv X pins σ H {s with heap:=h',toks:=t'}:=I.un (Un.kept k) (I.hok.kept k)
theorem Inv.laid{a:Addr}{o:HO}{t':Nat}(I:Inv X pins σ H s)(k:∀b u,s.heap.get? b=some u->h'.get? b=some u)(hp:s.heap.objs.size<=a)(new:ObjOk X.prog X.w (upd H a o) h' a o) :
  Inv X pins σ (upd H a o) {s with heap:=h',toks:=t'}:=I.un (Un.laid k hp (I.hok.fresh hp)) (I.hok.laid k hp new)
theorem Inv.write{x e:Addr}{o:HO}{t':Nat}(I:Inv X pins σ H s)(mu:Mut (H x))(he:e=x\/H e=some (.own x))(k:∀b u,b≠e->s.heap.get? b=some u->h'.get? b=some u)(heo:∃u,h'.get? e=some u)
  (new:ObjOk X.prog X.w (upd H x o) h' x o):Inv X pins σ (upd H x o) {s with heap:=h',toks:=t'}:=I.un (Un.write mu he k heo) (I.hok.write mu he k heo new)
theorem Inv.pins_of{pins':List (Addr×Obj)}(I:Inv X pins σ H s)(h:∀p∈pins',s.heap.get? p.1=some p.2/\H p.1=none/\p.1≠X.env.locals/\p.1∉X.fs/\∀v,p.2.data≠.cell v):Inv X pins' σ H s :=
 ⟨I.ok,I.os,I.bare,I.base,I.loc,I.cell,I.free,I.freeC,λp hp=>(aDQ.mp hp).elim (λz=>I.pin p (aDD _ z)) (h p),I.hok,I.len⟩
variable{x:Str}
theorem wW(hN:N.Nodup)(a:N[i]?=some x)(b:N[j]?=some x):i=j:=by
 obtain⟨h1,e1⟩:=aAD.mp a
 obtain⟨h2,e2⟩:=aAD.mp b
 exact(List.getElem_inj hN).mp (e1.trans e2.symm)
variable{M:Model}{E:Value->Shared->Prop}{v:V}{Q:Unit->Shared->Prop}
theorem tX(I:Inv X pins σ H s)(hN:X.N.Nodup)(hi:X.N[i]?=some x)(hx:Loc X.env.scope x)(r:RelV v u)
  (h:∀s',Inv X pins (σ.set i (some v)) H s'->(∃a,Heap.SameBut a s.heap s'.heap/\(a=X.env.locals\/X.env.cells.lookup x=some a))->Q () s')(hf:X.fn x=true\/X.env.scope.names.lookup x=some .local:=by first|exact .inl rfl|exact .inr rfl|assumption):wpAny M A (storeName X.env x u) Q E s:=by
 obtain⟨m,hn,hl⟩:=id I.loc
 have hcls:(X.env.scope.kind==.class || (X.env.scope.kind==.module&&X.env.locals != X.env.globals))=false:=by rw[I.ok.kind];rfl
 have hiσ:i < σ.length:=by rw[I.len];exact(aAD.mp hi).1
 have cne:=I.cne
 have tracked:∀{a:Addr} {h':Heap},(∃o,s.heap.get? a=some o/\H a=none)->Heap.SameBut a s.heap h'->HOk X.prog X.w H h':=λ{a h'} ha hs b ob e=>by
  obtain⟨_,_,hfree⟩:=ha
  refine(I.hok b ob e).stay (λc w' hc q=>(hs.2 c ?_).trans q) (λ_ q=>q) λ_ _ q=>q
  rintro rfl
  rcases hc with rfl|hc
  ·rw[hfree]at e;cases e
  ·rw[hfree]at hc;cases hc
 rcases hx with hk|hk
 ·refine wpAny_storeName_local hk hn (λh' hn' hs=>?_) hcls
  obtain⟨oL,_,_,hoL,_⟩:=id hn
  refine h _ ⟨I.ok,I.os,I.bare,⟨λb o e n hb hx=>?_,λb o e n hb hx=>?_,I.base.free,λb o e hx=>?_,I.base.tups,I.base.frzs,I.base.tbls⟩,⟨_,hn',λj y v' e1 e2 e3=>?_⟩,λy c e=>?_,I.free,I.freeC,λp hp=>?_,tracked ⟨oL,hoL,I.free⟩ hs,by simpa using I.len⟩ ⟨_,hs,.inl rfl⟩
  ·exact(hs.2 b (aAV (aAT (aAJ e) I.ok.above))).trans (I.base.keep b o e n hb hx)
  ·obtain⟨sl,e1⟩:=I.base.slot b o e n hb hx
   exact⟨sl,(hs.2 b (aAV (aAT (aAJ e) I.ok.above))).trans e1⟩
  ·obtain⟨o',e1⟩:=I.base.there b o e hx
   exact⟨o',(hs.2 b (aAV (aAT (aAJ e) I.ok.above))).trans e1⟩
  ·by_cases hj:j=i
   ·subst hj
    rw[hi]at e1;cases e1
    rw[aBI hiσ]at e2
    cases e2
    exact⟨u,r,.inl ⟨hk,by simp⟩⟩
   ·rw[aBK (Ne.symm hj)]at e2
    obtain⟨u',r',q⟩:=hl j y v' e1 e2 e3
    refine⟨u',r',?_⟩
    rcases q with⟨k,e⟩|⟨k,c,e,z⟩
    ·refine .inl ⟨k,?_⟩
     have:y≠x:=λe=>hj (wW hN e1 (e▸hi))
     simp[this,e]
    ·exact .inr ⟨k,c,e,z.sameBut hs (cne y c e)⟩
  ·obtain⟨w',z⟩:=I.cell y c e
   exact⟨w',z.sameBut hs (cne y c e)⟩
  ·obtain⟨e,n,ne,nf,d⟩:=I.pin p hp
   exact⟨(hs.2 p.1 ne).trans e,n,ne,nf,d⟩
 ·have hfn:X.fn x=true:=by
   rcases hf with z|z
   ·exact z
   ·rw[z]at hk;cases hk
  obtain⟨c,hc⟩:=I.ok.has x (.inl hk)
  obtain⟨w',z⟩:=I.cell x c hc
  refine wpAny_storeName_cell I.ok.kind hk hc z (λh' hc' hs=>?_)
  obtain⟨oc,hoc,hocd⟩:=id z
  refine h {s with heap:=h'} ⟨I.ok,I.os,I.bare,⟨λb o e n hb hx=>?_,λb o e n hb hx=>?_,I.base.free,λb o e hx=>?_,I.base.tups,I.base.frzs,I.base.tbls⟩,⟨m,hn.sameBut hs (Ne.symm (cne x c hc)),λj y v' e1 e2 e3=>?_⟩,λy c' e=>?_,I.free,I.freeC,λp hp=>?_,tracked ⟨oc,hoc,I.freeC x c hc⟩ hs,by simpa using I.len⟩ ⟨c,hs,.inr hc⟩
  ·exact(hs.2 b (aAV (aAT (aAJ e) (I.ok.cab x c hfn hc)))).trans (I.base.keep b o e n hb hx)
  ·obtain⟨sl,e1⟩:=I.base.slot b o e n hb hx
   exact⟨sl,(hs.2 b (aAV (aAT (aAJ e) (I.ok.cab x c hfn hc)))).trans e1⟩
  ·obtain⟨o',e1⟩:=I.base.there b o e hx
   exact⟨o',(hs.2 b (aAV (aAT (aAJ e) (I.ok.cab x c hfn hc)))).trans e1⟩
  ·by_cases hj:j=i
   ·subst hj
    rw[hi]at e1;cases e1
    rw[aBI hiσ]at e2
    cases e2
    exact⟨u,r,.inr ⟨.inl hk,c,hc,hc'⟩⟩
   ·rw[aBK (Ne.symm hj)]at e2
    obtain⟨u',r',q⟩:=hl j y v' e1 e2 e3
    refine⟨u',r',?_⟩
    rcases q with q|⟨k,c',e,z'⟩
    ·exact .inl q
    ·refine .inr ⟨k,c',e,z'.sameBut hs ?_⟩
     rintro rfl
     exact hj (wW hN e1 (I.ok.inj _ _ _ e hc▸hi))
  ·by_cases hcc:c'=c
   ·subst hcc;exact⟨_,hc'⟩
   ·obtain⟨w2,z2⟩:=I.cell y c' e
    exact⟨w2,z2.sameBut hs hcc⟩
  ·obtain⟨e,n,ne,nf,d⟩:=I.pin p hp
   refine⟨(hs.2 p.1 ?_).trans e,n,ne,nf,d⟩
   intro q
   rw[q,hoc]at e
   have q':oc=p.2:=Option.some.inj e
   exact d w' (by rw[<- q'];exact hocd)
theorem kL(I:Inv X pins σ H s)(hN:X.N.Nodup)(hi:X.N[i]?=some x)(hx:Loc X.env.scope x)(r:RelV v u)
  (h:∀s',Inv X pins (σ.set i (some v)) H s'->Q () s')(hf:X.fn x=true\/X.env.scope.names.lookup x=some .local:=by first|exact .inl rfl|exact .inr rfl|assumption):wpAny M A (storeName X.env x u) Q E s :=
 tX I hN hi hx r (λs' I' _=>h s' I') hf
theorem Inv.call'{ch:List Addr}(I:Inv X pins σ H s)(ho:s'.os=s.os)(u:Un (frs X.stack) ch H H' s.heap s'.heap)(hok:HOk X.prog X.w H' s'.heap)(hg:AllBare s'.gens)
  (hch:∀b∈ch,(b∈X.ex\/X.s₀.heap.objs.size<=b)/\b≠X.env.locals/\(∀x c,X.env.cells.lookup x=some c->c≠b)/\∀p∈X.pn++pins,p.1≠b):Inv X pins σ H' s':=by
 obtain⟨h',g',d',t',o'⟩:=s'
 have e:o'=s.os:=ho
 subst e
 exact I.call (g':=g') (t':=t') (d':=d') u hok hg hch
noncomputable abbrev XK:=Value->Option Addr->Hp->Prop
noncomputable abbrev St:=List (Option V)
noncomputable abbrev VK:=V->Hp->Prop
noncomputable abbrev TE:=St->Hp->VK->Prop
noncomputable abbrev TT:=St->Hp->(Bool->Hp->Prop)->Prop
noncomputable abbrev TA:=St->Hp->(List V->Hp->Prop)->Prop
structure Ends where
 nx:St->Hp->Prop
 rt:VK
 bk:St->Hp->Prop:=λ_ _=>False
 ct:St->Hp->Prop:=λ_ _=>False
noncomputable abbrev TS:=Ends->St->Hp->Prop
noncomputable def EP(X:Cx)(pins:List (Addr×Obj))(σ:St)(Q:VK)(u:Value)(s':Shared):Prop:=∃v H',Inv X pins σ H' s'/\RelV v u/\Q v H'
noncomputable def TP(X:Cx)(pins:List (Addr×Obj))(σ:St)(Q:Bool->Hp->Prop)(b:Bool)(s':Shared):Prop:=∃H',Inv X pins σ H' s'/\Q b H'
noncomputable def AP(X:Cx)(pins:List (Addr×Obj))(σ:St)(Q:List V->Hp->Prop)(us:List Value)(s':Shared):Prop:=∃vs H',Inv X pins σ H' s'/\Vals vs us/\Q vs H'
noncomputable def SP(X:Cx)(pins:List (Addr×Obj))(D:Ends)(f:Flow)(s':Shared):Prop :=
 match f with
 |.next=>∃σ' H',Inv X pins σ' H' s'/\D.nx σ' H'
 |.brk=>∃σ' H',Inv X pins σ' H' s'/\D.bk σ' H'
 |.cont=>∃σ' H',Inv X pins σ' H' s'/\D.ct σ' H'
 |.ret u=>∃v σ' H',Inv X pins σ' H' s'/\RelV v u/\D.rt v H'
noncomputable def PE(X:Cx)(e:Expr)(t:TE):Prop :=
 ∀(pins:List (Addr×Obj)) (s:Shared) (σ:St) (H:Hp) (Q:VK),Inv X pins σ H s->t σ H Q->wpAny (model X.prog X.w) X.A (eval e X.env) (EP X pins σ Q) X.xe s
noncomputable def PT(X:Cx)(e:Expr)(t:TT):Prop :=
 ∀(pins:List (Addr×Obj)) (s:Shared) (σ:St) (H:Hp) (Q:Bool->Hp->Prop),Inv X pins σ H s->t σ H Q->wpAny (model X.prog X.w) X.A (isTrue e X.env (eval e X.env)) (TP X pins σ Q) X.xe s
noncomputable def PW(X:Cx)(e:Expr)(t:TT):Prop :=
 ∀(whole:Sem Value) (pins:List (Addr×Obj)) (s:Shared) (σ:St) (H:Hp) (Q:Bool->Hp->Prop),Inv X pins σ H s->t σ H Q->wpAny (model X.prog X.w) X.A (isTrue e X.env whole) (TP X pins σ Q) X.xe s
variable{e:Expr}
theorem PW.pt{t:TT}(h:PW X e t):PT X e t:=h _
noncomputable def PA(X:Cx)(es:List Expr)(t:TA):Prop :=
 ∀(pos:Pos) (pins:List (Addr×Obj)) (s:Shared) (σ:St) (H:Hp) (Q:List V->Hp->Prop),Inv X pins σ H s->t σ H Q->wpAny (model X.prog X.w) X.A (spliced (backTo pos (starEach es X.env))) (AP X pins σ Q) X.xe s
noncomputable def PS(X:Cx)(st:Stmt)(t:TS):Prop :=
 ∀(pins:List (Addr×Obj)) (s:Shared) (σ:St) (H:Hp) (D:Ends),Inv X pins σ H s->t D σ H->wpAny (model X.prog X.w) X.A (exec st X.env) (SP X pins D) X.xe s
noncomputable def PSs(X:Cx)(st:List Stmt)(t:TS):Prop :=
 ∀(pins:List (Addr×Obj)) (s:Shared) (σ:St) (H:Hp) (D:Ends),Inv X pins σ H s->t D σ H->wpAny (model X.prog X.w) X.A (execs st X.env) (SP X pins D) X.xe s
theorem thn{t:Sem α}{Q Q':α->Shared->Prop}{s:Shared}(h:wpAny M A t Q E s)(hQ:∀a s,Q a s->Q' a s):wpAny M A t Q' E s:=aDC h hQ λ_ _ x=>x
section
noncomputable def tVar(i:Nat):TE:=λσ H Q=>∃v,σ[i]?=some (some v)/\Q v H
noncomputable def tC(v:V):TE:=λ_ H Q=>Q v H
theorem aNf(hN:X.N[i]?=some x)(hv:Vis X.env.scope x)(hd:(x==("__debug__":Str))=false:=by decide)(hcd:(x==("__classdict__":Str))=false:=by decide):PE X (.Name x pos) (tVar i):=by
 intro pins s σ H Q I h
 obtain⟨v,e,h⟩:=h
 obtain⟨m,hn,hl⟩:=I.loc
 obtain⟨u,r,l⟩:=hl i x v hN e hv
 have fin:EP X pins σ Q u s:=⟨v,H,I,r,h⟩
 rcases l with⟨hk,hm⟩|⟨hk,c,hc,hcell⟩
 ·exact wpAny_Name (wpAny_loadName_local I.ok.kind hk hn hm fin) hd
 ·rcases hk with hk|hk
  ·exact wpAny_Name (wpAny_loadName_cell I.ok.kind hk hc hcell fin) hd
  ·exact wpAny_Name (wpAny_loadName_free I.ok.kind hk hc hcell fin hcd) hd
theorem aFg{i j pos}:PE X (.Constant (.int i) j pos) (tC (.int i)):=λ_ _ _ H _ I h=>wpAny_Constant_int ⟨.int i,H,I.tok _,⟨_,rfl⟩,h⟩
theorem aPp{b j pos}:PE X (.Constant (.bool b) j pos) (tC (.bl b)):=λ_ _ _ H _ I h=>Constant_bool ⟨.bl b,H,I,rfl,h⟩
theorem aOh{j pos}:PE X (.Constant .none j pos) (tC .non):=λ_ _ _ H _ I h=>Constant_none ⟨.non,H,I,rfl,h⟩
theorem aMl{x j pos}:PE X (.Constant (.str x) j pos) (tC (.str x)):=λ_ _ _ H _ I h=>Calls.Constant_str ⟨.str x,H,I.tok _,⟨_,rfl⟩,h⟩
noncomputable def Gl(X:Cx)(x:Str):Prop:=X.env.kindOf x=some .globalImplicit
variable{σ:St}{Q:Value->Shared->Prop}
theorem aJs(I:Inv X pins σ H s)(hg:Gl X x)(hm:X.mg x=some u)(h:Q u s)
  (hd:(x==("__debug__":Str))=false:=by decide):wpAny (model X.prog X.w) X.A (eval (.Name x pos) X.env) Q E s :=
 Calls.Name_function_global I.ok.kind hg (Calls.loadGlobal_global (by rw[I.ok.glob];exact I.mod.glob.keeps I.bk) hm h) hd
theorem hG(I:Inv X pins σ H s)(hg:Gl X x)(hm:X.mg x=none)(hv:bootBuiltins x=some u)(h:Q u s)
  (hn:x≠"__name__":=by decide)(hd:(x==("__debug__":Str))=false:=by decide):wpAny (model X.prog X.w) X.A (eval (.Name x pos) X.env) Q E s:=by
 obtain⟨mb,h1,h2⟩:=I.mod.blt
 exact Calls.Name_function_global I.ok.kind hg (Calls.loadGlobal_builtin (by rw[I.ok.glob];exact I.mod.glob.keeps I.bk) hm (by rw[I.ok.blt];exact h1.keeps I.bk) ((h2 x hn).trans hv) h) hd
noncomputable def t2I(ta tb:TE)(k:Int->Int->Hp->Prop):St->Hp->Prop:=λσ H=>ta σ H λx H1=>tb σ H1 λy H2=>∃i j,x=.int i/\y=.int j/\k i j H2
variable{a b:Expr}{ta tb:TE}
noncomputable def tCmp(p:Int->Int->Bool)(ta tb:TE):TE:=λσ H Q=>t2I ta tb (λi j H2=>Q (.bl (p i j)) H2) σ H
noncomputable abbrev tLt:TE->TE->TE:=tCmp λi j=>decide (i < j)
noncomputable def tB(t:TE):TT:=λσ H Q=>t σ H λx H1=>∃c,x=.bl c/\Q c H1
variable{tA tB':TT}{rest:List Expr}
noncomputable def tAnd(t u:TT):TT:=λσ H Q=>t σ H λc H1=>if c=true then u σ H1 Q else Q false H1
noncomputable def tOr(t u:TT):TT:=λσ H Q=>t σ H λc H1=>if c=true then Q true H1 else u σ H1 Q
noncomputable def tNot(t:TT):TT:=λσ H Q=>t σ H λc H1=>Q (!c) H1
theorem aKg(ha:PT X a tA):PW X (.BoolOp .And [a] pos) tA:=by
 intro wh pins s σ H Q I h
 refine isTrue_and (thn (ha pins s σ H Q I h) λc s1 e=>?_)
 cases c with
 |true=>exact isTrue_and_nil e
 |false=>exact e
theorem aOw(ha:PT X a tA):PW X (.BoolOp .Or [a] pos) tA:=by
 intro wh pins s σ H Q I h
 refine isTrue_or (thn (ha pins s σ H Q I h) λc s1 e=>?_)
 cases c with
 |false=>exact isTrue_or_nil e
 |true=>exact e
theorem aOu(ha:PT X a tA)(hb:PW X (.BoolOp .And (b::rest) pos) tB'):PW X (.BoolOp .And (a::b::rest) pos) (tAnd tA tB'):=by
 intro wh pins s σ H Q I h
 refine isTrue_and (thn (ha pins s σ H _ I h) λc s1 ⟨H1,I1,q1⟩=>?_)
 cases c with
 |true=>exact hb wh pins s1 σ H1 Q I1 q1
 |false=>exact⟨H1,I1,q1⟩
theorem aQg(ha:PT X a tA)(hb:PW X (.BoolOp .Or (b::rest) pos) tB'):PW X (.BoolOp .Or (a::b::rest) pos) (tOr tA tB'):=by
 intro wh pins s σ H Q I h
 refine isTrue_or (thn (ha pins s σ H _ I h) λc s1 ⟨H1,I1,q1⟩=>?_)
 cases c with
 |true=>exact⟨H1,I1,q1⟩
 |false=>exact hb wh pins s1 σ H1 Q I1 q1
theorem aOi(ha:PT X a tA):PT X (.UnaryOp .Not a pos) (tNot tA):=by
 intro pins s σ H Q I h
 exact isTrue_not (ha pins s σ H (λc H1=>Q (!c) H1) I h)
noncomputable def tAndV(ta tb:TE):TE:=λσ H Q=>ta σ H λx H1=>∃c,x=.bl c/\if c=true then tb σ H1 Q else Q (.bl false) H1
noncomputable def tOrV(ta tb:TE):TE:=λσ H Q=>ta σ H λx H1=>∃c,x=.bl c/\if c=true then Q (.bl true) H1 else tb σ H1 Q
noncomputable def tNotV(ta:TE):TE:=λσ H Q=>ta σ H λx H1=>∃c,x=.bl c/\Q (.bl (!c)) H1
theorem aNi{op}{t:TE}(h:PE X a t):PE X (.BoolOp op [a] pos) t:=λpins s σ H Q I hw=>BoolOp_one (h pins s σ H Q I hw)
theorem aMz(ha:PE X a ta)(hb:PE X (.BoolOp .And (b::rest) pos) tb):PE X (.BoolOp .And (a::b::rest) pos) (tAndV ta tb):=by
 intro pins s σ H Q I h
 refine BoolOp_and (thn (ha pins s σ H _ I h) λv s1 ⟨x,H1,I1,r1,q1⟩=>?_)
 obtain⟨c,rfl,q1⟩:=q1
 cases r1
 refine aEJ ?_
 cases c with
 |true=>exact hb pins s1 σ H1 Q I1 q1
 |false=>exact⟨.bl false,H1,I1,rfl,q1⟩
theorem aPl(ha:PE X a ta)(hb:PE X (.BoolOp .Or (b::rest) pos) tb):PE X (.BoolOp .Or (a::b::rest) pos) (tOrV ta tb):=by
 intro pins s σ H Q I h
 refine BoolOp_or (thn (ha pins s σ H _ I h) λv s1 ⟨x,H1,I1,r1,q1⟩=>?_)
 obtain⟨c,rfl,q1⟩:=q1
 cases r1
 refine aEJ ?_
 cases c with
 |false=>exact hb pins s1 σ H1 Q I1 q1
 |true=>exact⟨.bl true,H1,I1,rfl,q1⟩
theorem aOt(ha:PE X a ta):PE X (.UnaryOp .Not a pos) (tNotV ta):=by
 intro pins s σ H Q I h
 refine UnaryOp_ (thn (ha pins s σ H _ I h) λv s1 ⟨x,H1,I1,r1,q1⟩=>?_)
 obtain⟨c,rfl,q1⟩:=q1
 cases r1
 exact not_of (aEJ ⟨.bl (!c),H1,I1,rfl,q1⟩)
noncomputable def tIf(t:TT)(ta tb:TE):TE:=λσ H Q=>t σ H λc H1=>if c=true then ta σ H1 Q else tb σ H1 Q
theorem aGp{c:Expr}(hc:PT X c tA)(ha:PE X a ta)(hb:PE X b tb):PE X (.IfExp c a b pos) (tIf tA ta tb):=by
 intro pins s σ H Q I h
 refine wpAny_IfExp (thn (hc pins s σ H _ I h) λd s1 ⟨H1,I1,q1⟩=>?_)
 cases d with
 |true=>exact ha pins s1 σ H1 Q I1 q1
 |false=>exact hb pins s1 σ H1 Q I1 q1
end
noncomputable def SqL(K:Frag)(H:Hp)(a:Addr)(xs:List V):Prop :=
 Rd H a (.lst xs) \/
  ∃(o:Obj) (its:Array Value) (n:Nat),K.lookup a=some o/\o.cls=.type "list"/\o.dict=none/\o.data=.seq its n/\its.size<=sizeLine/\Vals xs its.toList
noncomputable def SqT(K:Frag)(H:Hp)(a:Addr)(xs:List V):Prop :=
 Rd H a (.tup xs) \/
  ∃(o:Obj) (its:Array Value) (n:Nat),K.lookup a=some o/\o.cls=.type "tuple"/\o.data=.seq its n/\its.size<=sizeLine/\Vals xs its.toList
noncomputable def absV:Value->Option V
 |.none=>some .non
 |.bool b=>some (.bl b)
 |.int i _=>some (.int i)
 |.str x _=>some (.str x)
 |.bytes b _=>some (.byt b)
 |.float b _=>some (.flt b)
 |.ref a=>some (.ref a)
 |.type n=>some (.ty n)
 |_=>none
theorem RelV.abs{x:V}(r:RelV x u):absV u=some x:=by
 cases x with
 |non=>cases r;rfl
 |bl _=>cases r;rfl
 |int _=>obtain⟨t,rfl⟩:=r;rfl
 |str _=>obtain⟨t,rfl⟩:=r;rfl
 |byt _=>obtain⟨t,rfl⟩:=r;rfl
 |flt _=>obtain⟨t,rfl⟩:=r;rfl
 |ref _=>cases r;rfl
 |ty _=>cases r;rfl
theorem RelV.inj{x y:V}{u:Value}(r:RelV x u)(q:RelV y u):x=y:=Option.some.inj (r.abs.symm.trans q.abs)
theorem Vals.inj:∀{xs ys:List V} {us:List Value},Vals xs us->Vals ys us->xs=ys
 |_,_,_,.nil,.nil=>rfl
 |_,_,_,.cons r t,.cons r' t'=>by rw[r.inj r',Vals.inj t t']
variable{σ:St}{xs ys:List V}
theorem SqL.of(h:H a=some (.lst xs)):SqL K H a xs:=.inl (.inl h)
theorem SqT.of(h:H a=some (.tup xs)):SqT K H a xs:=.inl (.inl h)
theorem Inv.list(I:Inv X pins σ H s)(h:SqL X.K H a xs):∃its:List Value,Vals xs its/\PlainL s.heap a its.toArray/\xs.length<=sizeLine:=by
 rcases h with h|⟨o,its,n,hk,hc,hd,hs,hz,r⟩
 ·obtain⟨z,its,n,r,e⟩:=h.ok I.hok
  exact⟨its,r,⟨_,n,e,rfl,rfl,rfl⟩,z⟩
 ·refine⟨its.toList,r,⟨o,n,I.kIn a o hk,hc,hd,by simpa using hs⟩,?_⟩
  have e:=r.length
  simp only[aDH]at e
  lia
theorem Inv.tuple(I:Inv X pins σ H s)(h:SqT X.K H a xs):∃its:List Value,Vals xs its/\IsTup s.heap a its.toArray/\xs.length<=sizeLine:=by
 rcases h with h|⟨o,its,n,hk,hc,hs,hz,r⟩
 ·obtain⟨z,its,r,p⟩:=h.ok I.hok
  exact⟨its,r,p,z⟩
 ·refine⟨its.toList,r,⟨o,I.kIn a o hk,hc,n,by simpa using hs⟩,?_⟩
  have e:=r.length
  simp only[aDH]at e
  lia
theorem Inv.list_inj(I:Inv X pins σ H s)(h:SqL X.K H a xs)(h':SqL X.K H a ys):xs=ys:=by
 obtain⟨its,r,⟨o,n,e,_,_,d⟩,_⟩:=I.list h
 obtain⟨its',r',⟨o',n',e',_,_,d'⟩,_⟩:=I.list h'
 rw[e]at e';cases e'
 rw[d]at d'
 injection d' with d1 _
 have:its=its':=by simpa using congrArg Array.toList d1
 subst this
 exact r.inj r'
theorem Inv.tuple_inj(I:Inv X pins σ H s)(h:SqT X.K H a xs)(h':SqT X.K H a ys):xs=ys:=by
 obtain⟨its,r,⟨o,e,_,n,d⟩,_⟩:=I.tuple h
 obtain⟨its',r',⟨o',e',_,n',d'⟩,_⟩:=I.tuple h'
 rw[e]at e';cases e'
 rw[d]at d'
 injection d' with d1 _
 have:its=its':=by simpa using congrArg Array.toList d1
 subst this
 exact r.inj r'
noncomputable abbrev Cx.wish(X:Cx)(E:Value->Shared->Prop):Cx:={X with xe:=E}
noncomputable abbrev Cx.nox(X:Cx):Cx:=X.wish λ_ _=>False
theorem Cx.Ok.wish{X:Cx}(ok:X.Ok)(E:Value->Shared->Prop):(X.wish E).Ok :=
 ⟨ok.mod,ok.kind,ok.glob,ok.blt,ok.above,ok.inj,ok.has,ok.cab,ok.hd,ok.frames,ok.stk,ok.exf,ok.bs,ok.bsz,ok.noex,ok.exfs,ok.funs,ok.frf⟩
theorem Cx.Ok.unwish(ok:(X.wish E).Ok):X.Ok :=
 ⟨ok.mod,ok.kind,ok.glob,ok.blt,ok.above,ok.inj,ok.has,ok.cab,ok.hd,ok.frames,ok.stk,ok.exf,ok.bs,ok.bsz,ok.noex,ok.exfs,ok.funs,ok.frf⟩
theorem Inv.wish(I:Inv X pins σ H s)(E:Value->Shared->Prop):Inv (X.wish E) pins σ H s:=⟨I.ok.wish E,I.os,I.bare,I.base,I.loc,I.cell,I.free,I.freeC,I.pin,I.hok,I.len⟩
theorem Inv.unwish(I:Inv (X.wish E) pins σ H s):Inv X pins σ H s:=⟨I.ok.unwish,I.os,I.bare,I.base,I.loc,I.cell,I.free,I.freeC,I.pin,I.hok,I.len⟩
theorem SP.unwish{D:Ends}{f:Flow}{s':Shared}(h:SP (X.wish E) pins D f s'):SP X pins D f s':=by
 cases f with
 |next=>obtain⟨σ',H',I,q⟩:=h;exact⟨σ',H',I.unwish,q⟩
 |brk=>obtain⟨σ',H',I,q⟩:=h;exact⟨σ',H',I.unwish,q⟩
 |cont=>obtain⟨σ',H',I,q⟩:=h;exact⟨σ',H',I.unwish,q⟩
 |ret u=>obtain⟨v,σ',H',I,r,q⟩:=h;exact⟨v,σ',H',I.unwish,r,q⟩
theorem PSs.nox{st:List Stmt}{t:TS}(h:PSs X.nox st t):PSs X st t:=λpins s σ H D I hw =>
 aDC (h pins s σ H D (I.wish _) hw) (λ_ _ q=>q.unwish) λ_ _ z=>False.elim z
section
variable{rest:List Stmt}{t u:TS}{te:TE}
noncomputable def tNext:TS:=λD σ H=>D.nx σ H
noncomputable def tSeq(t u:TS):TS:=λD σ H=>t {D with nx:=u D} σ H
theorem aKq:PSs X [] tNext:=λ_ _ σ H _ I h=>aFU ⟨σ,H,I,h⟩
theorem aIf(h1:PS X st t)(h2:PSs X rest u):PSs X (st::rest) (tSeq t u):=by
 intro pins s σ H D I h
 refine wpAny_execs_cons (thn (h1 pins s σ H {D with nx:=u D} I h) λf s1 q=>?_)
 cases f with
 |next =>
  obtain⟨σ',H',I',q⟩:=q
  exact h2 pins s1 σ' H' D I' q
 |ret v=>exact q
 |brk=>exact q
 |cont=>exact q
theorem aKj(h1:PS X st t):PSs X [st] t:=by
 intro pins s σ H D I h
 refine wpAny_execs_cons (thn (h1 pins s σ H D I h) λf s1 q=>?_)
 cases f with
 |next=>exact aFU q
 |ret v=>exact q
 |brk=>exact q
 |cont=>exact q
theorem Inv.quiet(I:Inv X pins σ H s):interactive X.env=false:=by simp[interactive,I.ok.kind]
noncomputable def tDrop(te:TE):TS:=λD σ H=>te σ H λ_ H1=>D.nx σ H1
theorem aKh(he:PE X e te)(hs:swapsWith e none pos.line X.env=pure false:=by rfl):PS X (.Expr e pos) (tDrop te):=by
 intro pins s σ H D I h
 exact wpAny_Expr_any (thn (he pins s σ H _ I h) λv s1 ⟨x,H1,I1,r1,q1⟩=>⟨σ,H1,I1,q1⟩) I.quiet hs
noncomputable def tRet(te:TE):TS:=λD σ H=>te σ H D.rt
theorem aNp(he:PE X e te):PS X (.Return (some e) pos) (tRet te):=by
 intro pins s σ H D I h
 exact wpAny_Return_some (thn (he pins s σ H _ I h) λv s1 ⟨x,H1,I1,r1,q1⟩=>⟨x,σ,H1,I1,r1,q1⟩)
noncomputable def tIfS(c:TT)(t u:TS):TS:=λD σ H=>c σ H λb H1=>if b=true then t D σ H1 else u D σ H1
theorem aPw{c:Expr}{a b:List Stmt}{tc:TT}(hc:PT X c tc)(ha:PSs X a t)(hb:PSs X b u):PS X (.If c a b pos) (tIfS tc t u):=by
 intro pins s σ H D I h
 refine wpAny_If (thn (hc pins s σ H _ I h) λd s1 ⟨H1,I1,q1⟩=>?_)
 cases d with
 |true=>exact ha pins s1 σ H1 D I1 q1
 |false=>exact hb pins s1 σ H1 D I1 q1
noncomputable def tNever:TS:=λ_ _ _=>False
theorem aHa:PS X st tNever:=λ_ _ _ _ _ _ h=>h.elim
end
noncomputable abbrev TG:=V->St->Hp->(St->Hp->Prop)->Prop
noncomputable abbrev TGs:=List V->St->Hp->(St->Hp->Prop)->Prop
noncomputable def PG(X:Cx)(target:Expr)(t:TG):Prop :=
 ∀(pins:List (Addr×Obj)) (s:Shared) (σ:St) (H:Hp) (v:V) (u:Value) (Q:St->Hp->Prop),Inv X pins σ H s->RelV v u->t v σ H Q ->
  wpAny (model X.prog X.w) X.A (assign target X.env u) (λ_ s'=>∃σ' H',Inv X pins σ' H' s'/\Q σ' H') X.xe s
noncomputable def PGs(X:Cx)(ts:List Expr)(t:TGs):Prop :=
 ∀(pins:List (Addr×Obj)) (s:Shared) (σ:St) (H:Hp) (vs:List V) (us:List Value) (Q:St->Hp->Prop),Inv X pins σ H s->Vals vs us->t vs σ H Q ->
  wpAny (model X.prog X.w) X.A (assignInOrder ((assignEach ts X.env).map (·.2)) us) (λ_ s'=>∃σ' H',Inv X pins σ' H' s'/\Q σ' H') X.xe s
noncomputable abbrev TSet:=V->V->V->Hp->(Hp->Prop)->Prop
noncomputable def PSet(X:Cx)(t:TSet):Prop :=
 ∀(pins:List (Addr×Obj)) (s:Shared) (σ:St) (H:Hp) (o i v:V) (ov iv u:Value) (Q:Hp->Prop),Inv X pins σ H s->RelV o ov->RelV i iv->RelV v u->t o i v H Q ->
  wpAny (model X.prog X.w) X.A (setItem ov iv u) (λ_ s'=>∃H',Inv X pins σ H' s'/\Q H') X.xe s
noncomputable abbrev TIp:=V->V->Hp->VK->Prop
noncomputable def PIp(X:Cx)(op:Operator)(t:TIp):Prop :=
 ∀(pins:List (Addr×Obj)) (s:Shared) (σ:St) (H:Hp) (x y:V) (v u:Value) (Q:VK),Inv X pins σ H s->RelV x v->RelV y u->t x y H Q ->
  wpAny (model X.prog X.w) X.A (inplaceOp op v u) (EP X pins σ Q) X.xe s
noncomputable def gName(i:Nat):TG:=λv σ H Q=>Q (σ.set i (some v)) H
theorem aKd(hN:X.N.Nodup)(hi:X.N[i]?=some x)(hx:Loc X.env.scope x)(hf:X.fn x=true\/X.env.scope.names.lookup x=some .local:=by first|exact .inl rfl|exact .inr rfl|assumption):PG X (.Name x pos) (gName i):=by
 intro pins s σ H v u Q I r h
 exact wpAny_assign_Name (kL I hN hi hx r (λs' I'=>⟨_,H,I',h⟩) hf)
noncomputable def gNil:TGs:=λvs σ H Q=>vs=[]/\Q σ H
noncomputable def gCons(t:TG)(u:TGs):TGs:=λvs σ H Q=>∃v r,vs=v::r/\t v σ H λσ' H'=>u r σ' H' Q
theorem aJi:PGs X [] gNil:=by
 intro pins s σ H vs us Q I r h
 obtain⟨e,h⟩:=h
 subst e
 cases r
 exact assignInOrder_nil ⟨σ,H,I,h⟩
variable{es:List Expr}
theorem aIi{t:TG}{u:TGs}(h1:PG X e t)(h2:PGs X es u)
  (hs:(assignEach (e::es) X.env).map (·.2)=assign e X.env::(assignEach es X.env).map (·.2):=by rfl):PGs X (e::es) (gCons t u):=by
 intro pins s σ H vs us Q I r h
 obtain⟨v,vr,e1,h⟩:=h
 subst e1
 cases r with
 |cons r rr =>
  rw[hs]
  refine aGN (thn (h1 pins s σ H _ _ _ I r h) λ_ s1 ⟨σ1,H1,I1,q1⟩=>?_)
  exact h2 pins s1 σ1 H1 _ _ Q I1 rr q1
noncomputable def gTup(K:Frag)(n:Nat)(t:TGs):TG:=λv σ H Q=>∃a xs,v=.ref a/\SqT K H a xs/\xs.length=n/\t xs σ H Q
theorem aNe{t:TGs}{n:Nat}(hc:X.calm=true)(h:PGs X es t)
  (hn:(assignEach es X.env).length=n:=by rfl)(hst:(assignEach es X.env).findIdx? (·.1)=none:=by rfl):PG X (.Tuple es k pos) (gTup X.K n t):=by
 intro pins s σ H v u Q I r hw
 obtain⟨a,xs,e1,hq,hl,hw⟩:=hw
 subst e1
 cases r
 obtain⟨its,rv,ht,hz⟩:=I.tuple hq
 refine assign_Tuple_tuple (I.ok.hd hc) ht (by simp[hn,<- hl,rv.length]) hst λh' hx=>?_
 have I1:Inv X pins σ H {s with heap:=h'}:=I.kept (t':=s.toks) λb o e=>hx b o (aAV (aAJ e)) e
 exact h pins _ σ H xs _ Q I1 (by simpa using rv) hw
noncomputable def gSub(to ti:TE)(t:TSet):TG:=λv σ H Q=>to σ H λo H1=>ti σ H1 λi H2=>t o i v H2 λH3=>Q σ H3
theorem aMu{o i:Expr}{to ti:TE}{t:TSet}(ho:PE X o to)(hi:PE X i ti)(hs:PSet X t)
  (ha:∀v,assign (.Subscript o i pos) X.env v=(do
   let ov <- holding [v] (eval o X.env)
   let iv <- holding [v,ov] (eval i X.env)
   standAt pos
   holding [v,ov,iv] (setItem ov iv v)
   release [v,ov,iv] []):=by intro _;rfl):PG X (.Subscript o i pos) (gSub to ti t):=by
 intro pins s σ H v u Q I r h
 rw[ha]
 refine aAB (aBN (thn (ho pins s σ H _ I h) λov s1 ⟨x,H1,I1,r1,q1⟩=>?_))
 refine aAB (aBN (thn (hi pins s1 σ H1 _ I1 q1) λiv s2 ⟨y,H2,I2,r2,q2⟩=>?_))
 refine aAB (aEB (aAB (aBN (thn (hs pins s2 σ H2 x y v ov iv u _ I2 r1 r2 r q2) λ_ s3 ⟨H3,I3,q3⟩=>?_))))
 exact wpAny_release ⟨σ,H3,I3,q3⟩
noncomputable def tAsg(te:TE)(g:TG):TS:=λD σ H=>te σ H λx H1=>g x σ H1 D.nx
variable{tg:Expr}{te:TE}{g:TG}
theorem aMf(he:PE X e te)(hg:PG X tg g)(hs:swapsWithSole [tg] e pos.line X.env=pure false:=by rfl)(hw:swappedStores [tg] e X.env=pure none:=by rfl)
  (h1:(assignEach [tg] X.env).map (·.2)=[assign tg X.env]:=by rfl):PS X (.Assign [tg] e pos) (tAsg te g):=by
 intro pins s σ H D I h
 refine wpAny_Assign_stores (thn (he pins s σ H _ I h) λv s1 ⟨x,H1,I1,r1,q1⟩=>?_) hs hw
 rw[h1]
 exact thn (hg pins s1 σ H1 x v _ I1 r1 q1) λ_ s2 q=>q
theorem aNb(hN:X.N.Nodup)(hi:X.N[i]?=some x)(hx:Loc X.env.scope x)(he:PE X e te)(hs:swapsWith e (some (.Name x pos')) pos.line X.env=pure false:=by rfl)(hf:X.fn x=true\/X.env.scope.names.lookup x=some .local:=by first|exact .inl rfl|exact .inr rfl|assumption) :
  PS X (.Assign [.Name x pos'] e pos) (tAsg te (gName i)):=by
 intro pins s σ H D I h
 refine wpAny_Assign_Name (thn (he pins s σ H _ I h) λv s1 ⟨y,H1,I1,r1,q1⟩=>?_) hs
 exact kL I1 hN hi hx r1 (λs2 I2=>⟨_,H1,I2,q1⟩) hf
noncomputable def tPar(i j:Nat)(ta:TA):TS:=λD σ H=>ta σ H λvs H1=>∃v w,vs=[v,w]/\D.nx ((σ.set i (some v)).set j (some w)) H1
variable{a:Expr}{ta:TA}
theorem aOn{y:Str}{b:Expr}{px py pt:Pos}{kt k2 pt2}(hc:X.calm=true)(hN:X.N.Nodup)(hi:X.N[i]?=some x)(hj:X.N[j]?=some y)(hij:i≠j)
  (hx:X.env.scope.names.lookup x=some .local)(hy:X.env.scope.names.lookup y=some .local)(ha:PA X [a,b] ta)
  (hw:swappedStores [.Tuple [.Name x px,.Name y py] kt pt] (.Tuple [a,b] k2 pt2) X.env=pure (some [x,y]))
  (hs:swapsWithSole [.Tuple [.Name x px,.Name y py] kt pt] (.Tuple [a,b] k2 pt2) pos.line X.env=pure false:=by rfl) :
  PS X (.Assign [.Tuple [.Name x px,.Name y py] kt pt] (.Tuple [a,b] k2 pt2) pos) (tPar i j ta):=by
 intro pins s σ H D I h
 rw[exec_Assign_arm]
 refine aAB (aEB ?_)
 rw[hs]
 refine aAB (aAF ?_)
 rw[aAC (by decide)]
 refine aAB (Tuple_ (thn (ha _ pins s σ H _ I h) λus s1 ⟨vs,H1,I1,r1,q1⟩=>?_))
 obtain⟨v,w,e1,q1⟩:=q1
 subst e1
 obtain⟨u1,u2,rfl,rv,rw'⟩:∃u1 u2,us=[u1,u2]/\RelV v u1/\RelV w u2:=by
  cases r1 with
  |cons p q =>
   cases q with
   |cons p' q' =>
    cases q'
    exact⟨_,_,rfl,p,p'⟩
 refine aBY ?_ (by show 2<=sizeLine;decide)
 have I2:Inv X pins σ H1 {s1 with heap:=s1.heap.push {cls:=.type "tuple",data:=.seq [u1,u2].toArray}}:=I1.kept (t':=s1.toks) λb o e=>aAA _ e
 rw[hw]
 refine aAB (aAF ?_)
 show wpAny (model X.prog X.w) X.A (do rule "assign.swapped-stores";let items <- unpackItems (.ref s1.heap.objs.size) 2 none;assignInOrder [λv=>bindName X.env y v,λv=>bindName X.env x v] items.reverse;pure Flow.next) _ _ _
 refine aAB (aDE (aAB (unpackItems_tuple (items:=#[u1,u2]) (I.ok.hd hc) (IsTup.new s1.heap _) λh' hx'=>?_)))
 have I3:=I2.kept (h':=h') (t':=s1.toks) λb o e=>hx' b o (aAV (aAJ e)) e
 show wpAny _ _ (assignInOrder [λv=>bindName X.env y v,λv=>bindName X.env x v] [u2,u1] >>= λ_=>pure Flow.next) _ _ _
 refine aAB (aGN (wpAny_bindName (kL I3 hN hj (.inl hy) rw' (λs2 I4=>?_) (.inr hy))))
 refine aGN (wpAny_bindName (kL I4 hN hi (.inl hx) rv (λs3 I5=>assignInOrder_nil (aAF ?_)) (.inr hx)))
 rw[List.set_comm _ _ (Ne.symm hij)]at I5
 exact⟨_,H1,I5,q1⟩
noncomputable def tAug(i:Nat)(te:TE)(ti:TIp):TS:=λD σ H=>∃x,σ[i]?=some (some x)/\te σ H λy H1=>ti x y H1 λz H2=>D.nx (σ.set i (some z)) H2
theorem aOy{ti:TIp}(hN:X.N.Nodup)(hi:X.N[i]?=some x)(hx:Loc X.env.scope x)(he:PE X e te)(ho:PIp X op ti)(hf:X.fn x=true\/X.env.scope.names.lookup x=some .local:=by first|exact .inl rfl|exact .inr rfl|assumption) :
  PS X (.AugAssign (.Name x pos') op e pos) (tAug i te ti):=by
 intro pins s σ H D I h
 obtain⟨v,e1,h⟩:=h
 obtain⟨m,hn,hl⟩:=I.loc
 have vis:Vis X.env.scope x:=by rcases hx with k|k;exact .inl k;exact .inr (.inl k)
 obtain⟨u,r,l⟩:=hl i x v hi e1 vis
 refine wpAny_AugAssign_Name ?_
 have go:wpAny (model X.prog X.w) X.A (eval e X.env) (λw s₂=>wpAny (model X.prog X.w) X.A (inplaceOp op u w) (λr s₃=>wpAny (model X.prog X.w) X.A (storeName X.env x r) (λ_=>SP X pins D .next) X.xe s₃) X.xe s₂) X.xe s:=by
  refine thn (he pins s σ H _ I h) λw s1 ⟨y,H1,I1,r1,q1⟩=>?_
  refine thn (ho pins s1 σ H1 v y u w _ I1 r r1 q1) λz s2 ⟨zv,H2,I2,r2,q2⟩=>?_
  exact kL I2 hN hi hx r2 (λs3 I3=>⟨_,H2,I3,q2⟩) hf
 rcases l with⟨hk,hm⟩|⟨hk,c,hc,hcell⟩
 ·exact wpAny_loadName_local I.ok.kind hk hn hm go
 ·rcases hk with hk|hk
  ·exact wpAny_loadName_cell I.ok.kind hk hc hcell go
  ·rcases hx with k|k
   ·have:X.env.scope.names.lookup x=some .free:=hk
    rw[k]at this;cases this
   ·have:X.env.scope.names.lookup x=some .free:=hk
    rw[k]at this;cases this
noncomputable def tAugS(to ti te:TE)(tget:V->V->Hp->VK->Prop)(tip:TIp)(tset:TSet):TS:=λD σ H=>to σ H λo H1=>ti σ H1 λi H2=>tget o i H2 λx H3=>te σ H3 λy H4=>tip x y H4 λz H5=>tset o i z H5 λH6=>D.nx σ H6
noncomputable def PGet(X:Cx)(t:V->V->Hp->VK->Prop):Prop :=
 ∀(pins:List (Addr×Obj)) (s:Shared) (σ:St) (H:Hp) (o i:V) (ov iv:Value) (Q:VK),Inv X pins σ H s->RelV o ov->RelV i iv->t o i H Q ->
  wpAny (model X.prog X.w) X.A (getItem ov iv) (EP X pins σ Q) X.xe s
theorem aKa{o i:Expr}{to ti:TE}{tget:V->V->Hp->VK->Prop}{tip:TIp}{tset:TSet}(ho:PE X o to)(hi:PE X i ti)(hg:PGet X tget)(he:PE X e te)(hp:PIp X op tip)(hs:PSet X tset)
  (ha:∀ov iv new,augStore i ov iv new=(do holding [new,ov,iv] (setItem ov iv new);release [new,ov,iv] [];pure .next):=by intros;rfl):PS X (.AugAssign (.Subscript o i tpos) op e pos) (tAugS to ti te tget tip tset):=by
 intro pins s σ H D I h
 refine wpAny_AugAssign_SubscriptAny (thn (ho pins s σ H _ I h) λov s1 ⟨x1,H1,I1,r1,q1⟩=>?_) ha
 refine thn (hi pins s1 σ H1 _ I1 q1) λiv s2 ⟨x2,H2,I2,r2,q2⟩=>?_
 refine thn (hg pins s2 σ H2 x1 x2 ov iv _ I2 r1 r2 q2) λold s3 ⟨x3,H3,I3,r3,q3⟩=>?_
 refine thn (he pins s3 σ H3 _ I3 q3) λv s4 ⟨x4,H4,I4,r4,q4⟩=>?_
 refine thn (hp pins s4 σ H4 x3 x4 old v _ I4 r3 r4 q4) λnew s5 ⟨x5,H5,I5,r5,q5⟩=>?_
 exact thn (hs pins s5 σ H5 x1 x2 x5 ov iv new _ I5 r1 r2 r5 q5) λ_ s6 ⟨H6,I6,q6⟩=>⟨σ,H6,I6,q6⟩
noncomputable def ipI(f:Int->Int->Int):TIp:=λx y H Q=>∃i j,x=.int i/\y=.int j/\Q (.int (f i j)) H
theorem aNg:PIp X .Sub (ipI λi j=>i - j):=by
 intro pins s σ H x y v u Q I r1 r2 h
 obtain⟨i,j,e1,e2,q⟩:=h
 subst e1;subst e2
 obtain⟨t,rfl⟩:=r1
 obtain⟨t',rfl⟩:=r2
 exact isub_int ⟨.int _,H,I.tok _,⟨_,rfl⟩,q⟩
noncomputable def tWhile(c:TT)(tb:TS):TS:=λD σ H=>∃W:Nat->St->Hp->Prop,(∃m,W m σ H)/\∀m σ H,W m σ H ->
 c σ H λb H1=>if b=true then ∃N:St->Hp->Prop,(∀σ' H',N σ' H'->∃m',m' < m/\W m' σ' H')/\tb {D with nx:=N,ct:=N,bk:=D.nx} σ H1 else D.nx σ H1
variable{c:Expr}{tb:TS}
theorem aGx{tc:TT}(hp:PassesOwn (model X.prog X.w) X.A X.env X.xe)(hc:PT X c tc)(hb:PSs X body tb):PS X (.While c body [] pos) (tWhile tc tb):=by
 intro pins s σ H D I h
 obtain⟨W,⟨m0,w0⟩,turn⟩:=h
 refine wpAny_While (codeAny_whileLoop (λn s'=>∃σ' H',Inv X pins σ' H' s'/\W n σ' H') ?_ m0 ⟨σ,H,I,w0⟩)
 rintro n s1 ⟨σ1,H1,I1,w1⟩
 refine aDN hp (thn (hc pins s1 σ1 H1 _ I1 (turn n σ1 H1 w1)) λb s2 ⟨H2,I2,q2⟩=>?_)
 cases b with
 |true =>
  obtain⟨N,hN,q2⟩:=q2
  rw[aAG rfl]
  refine aDN hp (thn (hb pins s2 σ1 H2 _ I2 q2) λf s3 q3=>?_)
  cases f with
  |next =>
   obtain⟨σ3,H3,I3,n3⟩:=q3
   obtain⟨m',hm,w3⟩:=hN σ3 H3 n3
   exact⟨m',hm,σ3,H3,I3,w3⟩
  |cont =>
   obtain⟨σ3,H3,I3,n3⟩:=q3
   obtain⟨m',hm,w3⟩:=hN σ3 H3 n3
   exact⟨m',hm,σ3,H3,I3,w3⟩
  |brk=>exact q3
  |ret v=>exact q3
 |false =>
  rw[aAC aBH]
  exact aFU ⟨σ1,H2,I2,q2⟩
structure It where
 go:Nat->Hp->Prop
 yld:Nat->Hp->V->Hp->Prop
 stop:Nat->Hp->Prop
noncomputable def FpOk(X:Cx)(pins:List (Addr×Obj))(H:Hp)(b:Addr):Prop :=
 H b=none/\b≠X.env.locals/\b∉X.fs/\(b∈X.ex\/X.s₀.heap.objs.size<=b)/\(∀x c,X.env.cells.lookup x=some c->c≠b)/\∀p∈X.pn++pins,p.1≠b
theorem Inv.fpOk(I:Inv X pins σ H s)(hb:s.heap.objs.size<=b)(hn:H' b=none):FpOk X pins H' b:=by
 refine⟨hn,aEN (aAT I.lt hb),I.nofs hb,.inr (aBF I.sz hb),λx c e z=>?_,λp hp z=>?_⟩
 ·obtain⟨v,q⟩:=I.cell x c e
  exact absurd (aAT q.lt (by rw[z];exact hb)) (aCP _)
 ·exact absurd (aAT (aAJ (I.pin p hp).1) (by rw[z];exact hb)) (aCP _)
structure Turn(P:Program)(w:World)(K:Frag)(tg:Expr)(J:It)(fp:List Addr)(it:Addr)(tn:Nat->Heap->Prop):Prop where
 mem:it∈fp
 obj:∀i h,tn i h->∀b∈fp,∃o,h.get? b=some o/\∀v,o.data≠.cell v
 keep:∀i h h',tn i h->(∀b∈fp,∀o,h.get? b=some o->h'.get? b=some o)->tn i h'
 item:∀(X:Cx),X.prog=P->X.w=w->X.K=K->X.calm=true->∀(i:Nat) (pins:List (Addr×Obj)) (s:Shared) (σ:St) (H:Hp) (E:Value->Shared->Prop),Inv X pins σ H s->(∀b∈fp,FpOk X pins H b)->tn i s.heap->J.go i H ->
  wpAny (model P w) X.A (pyNext (.ref it)) (λr s1=>∃u,r=some u /\
   wpAny (model P w) X.A (letOwnedTupleGo tg (.ref it) u) (λ_ s2=>∃x H',Inv X pins σ H' s2/\RelV x u/\J.yld i H x H'/\tn (i+1) s2.heap/\∀b∈fp,H' b=none) E s1) E s
 done:∀(X:Cx),X.prog=P->X.w=w->X.K=K->X.calm=true->∀(i:Nat) (pins:List (Addr×Obj)) (s:Shared) (σ:St) (H:Hp) (E:Value->Shared->Prop),Inv X pins σ H s->(∀b∈fp,FpOk X pins H b)->tn i s.heap->J.stop i H ->
  wpAny (model P w) X.A (pyNext (.ref it)) (λr s1=>r=none/\Inv X pins σ H s1) E s
 self:∀(A:Around) (i:Nat) (s:Shared) (Q:Value->Shared->Prop) (E:Value->Shared->Prop),tn i s.heap->Q (.ref it) s->wpAny (model P w) A (pyIter (.ref it)) Q E s
noncomputable abbrev TI:=St->Hp->(It->Hp->Prop)->Prop
noncomputable def PIE(X:Cx)(pins:List (Addr×Obj))(σ:St)(tg:Expr)(R:It->Hp->Prop)(itv:Value)(s2:Shared):Prop :=
 ∃(it:Addr) (fp:List Addr) (tn:Nat->Heap->Prop) (J:It) (H':Hp),itv=.ref it/\Inv X pins σ H' s2/\Turn X.prog X.w X.K tg J fp it tn/\tn 0 s2.heap/\(∀b∈fp,FpOk X pins H' b)/\R J H'
noncomputable def PI(X:Cx)(tg iter:Expr)(wi:TI):Prop :=
 ∀(pins:List (Addr×Obj)) (s:Shared) (σ:St) (H:Hp) (R:It->Hp->Prop),Inv X pins σ H s->wi σ H R ->
  wpAny (model X.prog X.w) X.A (eval iter X.env) (λv s1=>wpAny (model X.prog X.w) X.A (pyIter v) (PIE X pins σ tg R) X.xe s1) X.xe s
theorem tJ{n:String}{vs:Array Value}(ho:s.heap.get? it=some o)(hc:o.cls=.type n)(hd:o.data=.fields vs)
  (hn:["enumerate","zip","dict_itemiterator","dict_reverseitemiterator","odict_iterator","itertools.zip_longest","itertools.pairwise"].contains n=false)(hQ:Q () s):wpAny M A (letOwnedTupleGo tg (.ref it) u) Q E s:=by
 unfold letOwnedTupleGo
 cases tg <;> first
  |exact aAF hQ
  |(cases u <;> first
    |exact aAF hQ
    |(refine aAB (wpAny_load ho ?_)
      rw[hc,hd]
      show wpAny M A (if(["enumerate","zip","dict_itemiterator","dict_reverseitemiterator","odict_iterator","itertools.zip_longest","itertools.pairwise"].contains n&&vs[0]?==some (rawInt _))=true then _ else _) Q E s
      rw[aAC (by intro h;rw[hn,Bool.false_and]at h;cases h)]
      exact aAF hQ))
noncomputable def Itl(K:Frag)(a:Addr):It :=
 ⟨λi H=>∃xs x,SqL K H a xs/\xs[i]?=some x,λi H x H'=>H'=H/\∀xs,SqL K H a xs->xs[i]?=some x,λi H=>∃xs,SqL K H a xs/\xs.length<=i⟩
noncomputable def Itt(K:Frag)(a:Addr):It :=
 ⟨λi H=>∃xs x,SqT K H a xs/\xs[i]?=some x,λi H x H'=>H'=H/\∀xs,SqT K H a xs->xs[i]?=some x,λi H=>∃xs,SqT K H a xs/\xs.length<=i⟩
noncomputable def Itr(lo:Int)(n:Nat):It:=⟨λi _=>i < n,λi H x H'=>H'=H/\x=.int (lo+i),λi _=>n<=i⟩
theorem aCk(a it:Addr):Turn P w K tg (Itl K a) [it] it (λi h=>h.IsListIter it a i)where
 mem:=by simp
 obj:=λi h st b hb=>by
  have e:b=it:=by simpa using hb
  subst e
  obtain⟨o,e,c,d⟩:=st
  exact⟨o,e,λv z=>by rw[d]at z;cases z⟩
 keep:=λi h h' st k=>st.at λo e=>k it (by simp) o e
 item:=by
  intro X hP hw hK hc i pins s σ H E I hf st hg
  subst hP hw hK
  obtain⟨xs,x,hq,hx⟩:=hg
  obtain⟨its,rv,p,hz⟩:=I.list hq
  obtain⟨u,hu,ru⟩:=rv.get hx
  obtain⟨f0,f1,f2,f3,f4,f5⟩:=hf it (by simp)
  refine wpAny_pyNext_list_item st p.isList (x:=u) (by simpa using hu) λh' st' sb=>?_
  have I1:Inv X pins σ H {s with heap:=h'}:=I.turned (t':=s.toks) (λb o hb e=>(sb.2 b hb).trans e) f0 f1 f3 f4 f5
  obtain⟨o,e,c,d⟩:=id st'
  exact⟨u,rfl,tJ (s:={s with heap:=h'}) e c d (by decide) ⟨x,H,I1,ru,⟨rfl,λys hy=>by rw[I.list_inj hy hq];exact hx⟩,st',λb hb=>(hf b hb).1⟩⟩
 done:=by
  intro X hP hw hK hc i pins s σ H E I hf st hg
  subst hP hw hK
  obtain⟨xs,hq,hx⟩:=hg
  obtain⟨its,rv,p,hz⟩:=I.list hq
  obtain⟨f0,f1,f2,f3,f4,f5⟩:=hf it (by simp)
  have hl:=rv.length
  exact wpAny_pyNext_list_end (I.ok.hd hc) st p.isList (by simp;lia) λh' eb=>⟨rfl,I.turned (t':=s.toks) (λb o hb e=>eb b o hb e) f0 f1 f3 f4 f5⟩
 self:=λ_ _ _ _ _ st h=>wpAny_pyIter_listiter st h
theorem yR(a it:Addr):Turn P w K tg (Itt K a) [it] it (λi h=>h.IsTupleIter it a i)where
 mem:=by simp
 obj:=λi h st b hb=>by
  have e:b=it:=by simpa using hb
  subst e
  obtain⟨o,e,c,d⟩:=st
  exact⟨o,e,λv z=>by rw[d]at z;cases z⟩
 keep:=λi h h' st k=>st.at λo e=>k it (by simp) o e
 item:=by
  intro X hP hw hK hc i pins s σ H E I hf st hg
  subst hP hw hK
  obtain⟨xs,x,hq,hx⟩:=hg
  obtain⟨its,rv,p,hz⟩:=I.tuple hq
  obtain⟨u,hu,ru⟩:=rv.get hx
  obtain⟨f0,f1,f2,f3,f4,f5⟩:=hf it (by simp)
  refine wpAny_pyNext_tuple_item st (show s.heap.IsTuple a its.toArray from p) (x:=u) (by simpa using hu) λh' st' sb=>?_
  have I1:Inv X pins σ H {s with heap:=h'}:=I.turned (t':=s.toks) (λb o hb e=>(sb.2 b hb).trans e) f0 f1 f3 f4 f5
  obtain⟨o,e,c,d⟩:=id st'
  exact⟨u,rfl,tJ (s:={s with heap:=h'}) e c d (by decide) ⟨x,H,I1,ru,⟨rfl,λys hy=>by rw[I.tuple_inj hy hq];exact hx⟩,st',λb hb=>(hf b hb).1⟩⟩
 done:=by
  intro X hP hw hK hc i pins s σ H E I hf st hg
  subst hP hw hK
  obtain⟨xs,hq,hx⟩:=hg
  obtain⟨its,rv,p,hz⟩:=I.tuple hq
  obtain⟨f0,f1,f2,f3,f4,f5⟩:=hf it (by simp)
  have hl:=rv.length
  exact wpAny_pyNext_tuple_end (I.ok.hd hc) st (show s.heap.IsTuple a its.toArray from p) (by simp;lia) λh' eb=>⟨rfl,I.turned (t':=s.toks) (λb o hb e=>eb b o hb e) f0 f1 f3 f4 f5⟩
 self:=λ_ _ _ _ _ st h=>wpAny_pyIter_tupleiter st h
theorem yS(it:Addr)(lo:Int)(n:Nat):Turn P w K tg (Itr lo n) [it] it (λi h=>IsRangeIter h it (lo+(i:Nat)*1) ((n:Int) - (i:Nat)) 1)where
 mem:=by simp
 obj:=λi h st b hb=>by
  have e:b=it:=by simpa using hb
  subst e
  exact⟨_,st,λv z=>by
   have z':Data.fields _=Data.cell v:=z
   cases z'⟩
 keep:=λi h h' st k=>k it (by simp) _ st
 item:=by
  intro X hP hw hK hc i pins s σ H E I hf st hg
  subst hP hw hK
  obtain⟨f0,f1,f2,f3,f4,f5⟩:=hf it (by simp)
  have W:=Walks.range (prog:=X.prog) (w:=X.w) (I.ok.hd hc) it lo 1 n
  refine W.item i s _ _ hg st λv h' tk hv st' kk=>?_
  obtain⟨t,rfl⟩:=hv
  have I1:Inv X pins σ H {s with heap:=h',toks:=tk}:=I.turned (λb o hb e=>kk b o (by simpa using hb) e) f0 f1 f3 f4 f5
  refine⟨_,rfl,tJ (s:={s with heap:=h',toks:=tk}) (n:="range_iterator") st' rfl rfl (by decide) ⟨.int (lo+i),H,I1,⟨t,?_⟩,⟨rfl,rfl⟩,st',λb hb=>(hf b hb).1⟩⟩
  rw[aFI]
 done:=by
  intro X hP hw hK hc i pins s σ H E I hf st hg
  subst hP hw hK
  obtain⟨f0,f1,f2,f3,f4,f5⟩:=hf it (by simp)
  exact wpAny_pyNext_range_end (I.ok.hd hc) st (by have:n<=i:=hg;lia) λh' eb=>⟨rfl,I.turned (t':=s.toks) (λb o hb e=>eb b o hb e) f0 f1 f3 f4 f5⟩
 self:=λ_ _ _ _ _ st h=>aFJ st h
theorem xH{R:It->Hp->Prop}{lo hi:Int}{t u v:Tok}{tk:Nat}(I:Inv X pins σ H s)(h1 : -(2 ^ 62)<=lo)(h2:lo < 2 ^ 62)(h3 : -(2 ^ 62)<=hi)(h4:hi < 2 ^ 62)
  (q:R (Itr lo (hi - lo).toNat) H):wpAny (model X.prog X.w) X.A (pyIter (.ref s.heap.objs.size)) (PIE X pins σ tg R) E {s with heap:=s.heap.push {cls:=.type "range",data:=.fields #[.int lo t,.int hi u,.int 1 v]},toks:=tk}:=by
 refine wpAny_pyIter_range (IsRange.new ..) (small_one h1 h2 h3 h4) ?_
 have I1:Inv X pins σ H {s with heap:=s.heap.push {cls:=.type "range",data:=.fields #[.int lo t,.int hi u,.int 1 v]},toks:=tk}:=I.kept λb o e=>aAA _ e
 refine⟨(s.heap.push {cls:=.type "range",data:=.fields #[.int lo t,.int hi u,.int 1 v]}).objs.size,[(s.heap.push {cls:=.type "range",data:=.fields #[.int lo t,.int hi u,.int 1 v]}).objs.size],_,_,H,rfl,
  I1.kept (t':=tk) λb o e=>aAA _ e,yS _ lo (hi - lo).toNat,?_,λb hb=>?_,q⟩
 ·have e1:lo+((0:Nat):Int)*1=lo:=by simp
  have e2:(((hi - lo).toNat:Nat):Int) - ((0:Nat):Int)=Builtin.Range.rangeSize lo hi 1:=by rw[rangeSize_one];split <;> lia
  show IsRangeIter _ _ (lo+((0:Nat):Int)*1) ((((hi - lo).toNat:Nat):Int) - ((0:Nat):Int)) 1
  rw[e1,e2]
  exact aAE _ rfl
 ·have e:b=(s.heap.push {cls:=.type "range",data:=.fields #[.int lo t,.int hi u,.int 1 v]}).objs.size:=by simpa using hb
  subst e
  exact I1.fpOk (aAH _) (I1.hok.fresh (aAH _))
noncomputable def iRng1(ta:TA):TI:=λσ H R=>ta σ H λvs H1=>∃j:Int,vs=[.int j] /\ -(2 ^ 62)<=j/\j < 2 ^ 62/\R (Itr 0 j.toNat) H1
noncomputable def iRng2(ta:TA):TI:=λσ H R=>ta σ H λvs H1=>∃i j:Int,vs=[.int i,.int j]/\(-(2 ^ 62)<=i/\i < 2 ^ 62 /\ -(2 ^ 62)<=j/\j < 2 ^ 62)/\R (Itr i (j - i).toNat) H1
theorem aCn(hg:Gl X "range")(hm:X.mg "range"=none)(ha:PA X [a] ta)(hs:starEach [a] X.env=[(false,eval a X.env)]:=by rfl):PI X tg (.Call (.Name "range" p) [a] [] pos) (iRng1 ta):=by
 intro pins s σ H R I h
 refine Call_ (hG I hg hm boot_range (aBO (thn (ha pos pins s σ H _ I h) λus s1 ⟨vs,H1,I1,r1,q1⟩=>?_) hs rfl))
 obtain⟨j,e,q1,q2,q⟩:=q1
 subst e
 cases r1 with
 |cons r rr =>
  cases rr
  obtain⟨t,rfl⟩:=r
  exact call_range_1 (xH I1 (by lia) (by lia) q1 q2 (by simpa using q))
theorem aCv{b:Expr}(hg:Gl X "range")(hm:X.mg "range"=none)(ha:PA X [a,b] ta)(hs:starEach [a,b] X.env=[(false,eval a X.env),(false,eval b X.env)]:=by rfl)(hs2:starEach [b] X.env=[(false,eval b X.env)]:=by rfl) :
  PI X tg (.Call (.Name "range" p) [a,b] [] pos) (iRng2 ta):=by
 intro pins s σ H R I h
 refine Call_ (hG I hg hm boot_range (aBO (thn (ha pos pins s σ H _ I h) λus s1 ⟨vs,H1,I1,r1,q1⟩=>?_) (by rw[hs,hs2]) (by rw[hs2];rfl)))
 obtain⟨i,j,e,⟨q1,q2,q3,q4⟩,q⟩:=q1
 subst e
 cases r1 with
 |cons r rr =>
  cases rr with
  |cons r' rr =>
   cases rr
   obtain⟨t,rfl⟩:=r
   obtain⟨t',rfl⟩:=r'
   exact call_range_2 (xH I1 q1 q2 q3 q4 q)
noncomputable def tFor(wi:TI)(g:TG)(tb:TS):TS:=λD σ H=>wi σ H λJ H1=>∃W:Nat->Nat->St->Hp->Prop,(∃m,W 0 m σ H1)/\∀i m σ H,W i m σ H ->
 (J.stop i H/\D.nx σ H)\/(J.go i H/\∃N:St->Hp->Prop,(∀σ' H',N σ' H'->∃m',m' < m/\W (i+1) m' σ' H')/\∀x H',J.yld i H x H'->g x σ H' λσ2 H2=>tb {D with nx:=N,ct:=N,bk:=D.nx} σ2 H2)
noncomputable def pinsAt(fp:List Addr)(h:Heap):List (Addr×Obj):=fp.filterMap λb=>(h.get? b).map λo=>(b,o)
theorem jW(hb:b∈fp)(e:h.get? b=some o):(b,o)∈pinsAt fp h:=List.mem_filterMap.mpr ⟨b,hb,by rw[e];rfl⟩
theorem aCu{p:Addr×Obj}(hp:p∈pinsAt fp h):p.1∈fp/\h.get? p.1=some p.2:=by
 obtain⟨b,hb,e⟩:=List.mem_filterMap.mp hp
 cases q:h.get? b with
 |none=>rw[q]at e;cases e
 |some o =>
  rw[q]at e
  have e':(b,o)=p:=Option.some.inj e
  subst e'
  exact⟨hb,q⟩
theorem Inv.pinned{fp:List Addr}(I:Inv X pins σ H s)(hf:∀b∈fp,FpOk X pins H b)(ho:∀b∈fp,∃o,s.heap.get? b=some o/\∀v,o.data≠.cell v):Inv X (pins++pinsAt fp s.heap) σ H s :=
 I.pins_of λp hp=>(aDQ.mp hp).elim (λz=>I.pin p (aBG _ z)) λz=>by
  obtain⟨hb,e⟩:=aCu z
  obtain⟨f0,f1,f2,_⟩:=hf p.1 hb
  obtain⟨o,e',d⟩:=ho p.1 hb
  rw[e]at e';cases e'
  exact⟨e,f0,f1,f2,d⟩
theorem Inv.unpinned{pl:List (Addr×Obj)}(I:Inv X (pins++pl) σ H s):Inv X pins σ H s:=I.pins_of λp hp=>I.pin p (aBG _ (aDD _ hp))
theorem aMo{iter:Expr}{wi:TI}(hp:PassesOwn (model X.prog X.w) X.A X.env X.xe)(hc:X.calm=true)(hi:PI X tg iter wi)(hg:PG X tg g)(hb:PSs X body tb)
  (hs:∀x,foldedSetIterable iter X.env x=pure x:=by intro _;rfl):PS X (.For tg iter body [] pos) (tFor wi g tb):=by
 intro pins s σ H D I h
 refine wpAny_For (thn (hi pins s σ H _ I h) λv s1 h1=>thn h1 λitv s2 h2=>?_) hs
 obtain⟨it,fp,tn,J,H2,e,I2,T,st2,f2,W,⟨m0,w0⟩,turn⟩:=h2
 subst e
 have stat:∀{H':Hp},(∀b∈fp,H' b=none)->∀b∈fp,FpOk X pins H' b:=λhn b hb=>⟨hn b hb,(f2 b hb).2⟩
 refine codeAny_forLoop_any (λn s'=>∃i σ' H',Inv X pins σ' H' s'/\tn i s'.heap/\(∀b∈fp,H' b=none)/\W i n σ' H') ?_ m0 ⟨0,σ,H2,I2,st2,λb hb=>(f2 b hb).1,w0⟩
 rintro n s3 ⟨i,σ3,H3,I3,st3,fr3,w3⟩
 rcases turn i n σ3 H3 w3 with⟨stop,qn⟩|⟨go,N,hN,step⟩
 ·refine aDN hp (thn (T.done X rfl rfl rfl hc i pins s3 σ3 H3 X.xe I3 (stat fr3) st3 stop) λr s4 ⟨hr,I4⟩=>?_)
  subst hr
  exact aFU ⟨σ3,H3,I4,qn⟩
 ·refine aDN hp (thn (T.item X rfl rfl rfl hc i pins s3 σ3 H3 X.xe I3 (stat fr3) st3 go) λr s4 ⟨u,hr,h4⟩=>?_)
  subst hr
  refine aDN hp (thn h4 λ_ s5 ⟨x,H5,I5,r5,y5,st5,fr5⟩=>?_)
  have I5':=I5.pinned (stat fr5) (T.obj _ _ st5)
  refine aDN hp (thn (hg _ s5 σ3 H5 x u _ I5' r5 (step x H5 y5)) λ_ s6 ⟨σ6,H6,I6,q6⟩=>?_)
  refine aDN hp (thn (hb _ s6 σ6 H6 _ I6 q6) λf s7 q7=>?_)
  have again:∀{σ7:St} {H7:Hp},Inv X (pins++pinsAt fp s5.heap) σ7 H7 s7->N σ7 H7->∃m,m < n/\∃i σ' H',Inv X pins σ' H' s7/\tn i s7.heap/\(∀b∈fp,H' b=none)/\W i m σ' H':=λ{σ7 H7} I7 n7=>by
   obtain⟨m',hm,w7⟩:=hN σ7 H7 n7
   refine⟨m',hm,i+1,σ7,H7,I7.unpinned,T.keep _ _ _ st5 λb hb o e=>(I7.pin (b,o) (aBG _ (aBG _ (jW hb e)))).1,λb hb=>?_,w7⟩
   obtain⟨o,e,d⟩:=T.obj _ _ st5 b hb
   exact(I7.pin (b,o) (aBG _ (aBG _ (jW hb e)))).2.1
  cases f with
  |next=>obtain⟨σ7,H7,I7,n7⟩:=q7;exact again I7 n7
  |cont=>obtain⟨σ7,H7,I7,n7⟩:=q7;exact again I7 n7
  |brk=>obtain⟨σ7,H7,I7,q7⟩:=q7;exact⟨σ7,H7,I7.unpinned,q7⟩
  |ret v=>obtain⟨x7,σ7,H7,I7,r7,q7⟩:=q7;exact⟨x7,σ7,H7,I7.unpinned,r7,q7⟩
noncomputable abbrev R2:=V->V->Hp->VK->Prop
noncomputable def OpR(X:Cx)(f:Value->Value->Sem Value)(r:R2):Prop :=
 ∀(pins:List (Addr×Obj)) (s:Shared) (σ:St) (H:Hp) (x y:V) (v u:Value) (Q:VK),Inv X pins σ H s->RelV x v->RelV y u->r x y H Q ->
  wpAny (model X.prog X.w) X.A (f v u) (EP X pins σ Q) X.xe s
noncomputable def UnR(X:Cx)(f:Value->Sem Value)(r:V->Hp->VK->Prop):Prop :=
 ∀(pins:List (Addr×Obj)) (s:Shared) (σ:St) (H:Hp) (x:V) (v:Value) (Q:VK),Inv X pins σ H s->RelV x v->r x H Q ->
  wpAny (model X.prog X.w) X.A (f v) (EP X pins σ Q) X.xe s
noncomputable def CallR(X:Cx)(f:Value)(r:List V->Hp->VK->Prop):Prop :=
 ∀(pins:List (Addr×Obj)) (s:Shared) (σ:St) (H:Hp) (xs:List V) (us:List Value) (Q:VK),Inv X pins σ H s->Vals xs us->r xs H Q ->
  wpAny (model X.prog X.w) X.A (call f us) (EP X pins σ Q) X.xe s
noncomputable def TruR(X:Cx)(r:V->Hp->(Bool->Hp->Prop)->Prop):Prop :=
 ∀(pins:List (Addr×Obj)) (s:Shared) (σ:St) (H:Hp) (x:V) (v:Value) (Q:Bool->Hp->Prop),Inv X pins σ H s->RelV x v->r x H Q ->
  wpAny (model X.prog X.w) X.A (truthy v) (TP X pins σ Q) X.xe s
noncomputable def tOp(r:R2)(ta tb:TE):TE:=λσ H Q=>ta σ H λx H1=>tb σ H1 λy H2=>r x y H2 Q
noncomputable def tUn(r:V->Hp->VK->Prop)(ta:TE):TE:=λσ H Q=>ta σ H λx H1=>r x H1 Q
noncomputable def rI(C:Int->Int->Prop)(g:Int->Int->V):R2:=λx y H Q=>∃i j,x=.int i/\y=.int j/\C i j/\Q (g i j) H
noncomputable def rI0(g:Int->Int->V):R2:=λx y H Q=>∃i j,x=.int i/\y=.int j/\Q (g i j) H
noncomputable def rU(g:Int->V):V->Hp->VK->Prop:=λx H Q=>∃i,x=.int i/\Q (g i) H
variable{b:Expr}{ta tb tc:TE}{f:Value->Value->Sem Value}
theorem binT(ha:PE X a ta)(hb:PE X b tb){R:V->V->Hp->Prop}(I:Inv X pins σ H s)
  (h:ta σ H λx H1=>tb σ H1 λy H2=>R x y H2){Q:Value->Shared->Prop}
  (hf:∀v u s2 x y H2,Inv X pins σ H2 s2->RelV x v->RelV y u->R x y H2->wpAny (model X.prog X.w) X.A (f v u) Q X.xe s2) :
  wpAny (model X.prog X.w) X.A (eval a X.env) (λv s₁=>wpAny (model X.prog X.w) X.A (eval b X.env) (λu s₂=>wpAny (model X.prog X.w) X.A (f v u) Q X.xe s₂) X.xe s₁) X.xe s:=by
 refine thn (ha pins s σ H _ I h) λv s1 ⟨x,H1,I1,r1,q1⟩=>?_
 refine thn (hb pins s1 σ H1 _ I1 q1) λu s2 ⟨y,H2,I2,r2,q2⟩=>?_
 exact hf v u s2 x y H2 I2 r1 r2 q2
theorem aQe{r:R2}(ho:OpR X (binaryOp op) r)(ha:PE X a ta)(hb:PE X b tb):PE X (.BinOp a op b pos) (tOp r ta tb):=by
 intro pins s σ H Q I h
 exact wpAny_BinOp (binT ha hb I h λv u s2 x y H2 I2 rx ry q=>ho pins s2 σ H2 x y v u Q I2 rx ry q)
theorem aPr{op:UnaryOp}{r:V->Hp->VK->Prop}(ho:UnR X (unaryOp op) r)(ha:PE X a ta):PE X (.UnaryOp op a pos) (tUn r ta):=by
 intro pins s σ H Q I h
 exact UnaryOp_ (thn (ha pins s σ H _ I h) λv s1 ⟨x,H1,I1,r1,q1⟩=>ho pins s1 σ H1 x v Q I1 r1 q1)
variable{g:Int->Int->Int}
theorem opI{C:Int->Int->Prop}
  (rule:∀(i j:Int) (t u:Tok) (s:Shared) (Q:Value->Shared->Prop) (E:Value->Shared->Prop),C i j->Q (.int (g i j) s.toks) {s with toks:=s.toks+1}->wpAny (model X.prog X.w) X.A (f (.int i t) (.int j u)) Q E s) :
  OpR X f (rI C λi j=>.int (g i j)):=by
 intro pins s σ H x y v u Q I rx ry h
 obtain⟨i,j,rfl,rfl,hc,q⟩:=h
 obtain⟨t,rfl⟩:=rx
 obtain⟨t',rfl⟩:=ry
 exact rule i j t t' s _ _ hc ⟨.int (g i j),H,I.tok _,⟨_,rfl⟩,q⟩
theorem opI0 
  (rule:∀(i j:Int) (t u:Tok) (s:Shared) (Q:Value->Shared->Prop) (E:Value->Shared->Prop),Q (.int (g i j) s.toks) {s with toks:=s.toks+1}->wpAny (model X.prog X.w) X.A (f (.int i t) (.int j u)) Q E s) :
  OpR X f (rI0 λi j=>.int (g i j)):=by
 intro pins s σ H x y v u Q I rx ry h
 obtain⟨i,j,rfl,rfl,q⟩:=h
 obtain⟨t,rfl⟩:=rx
 obtain⟨t',rfl⟩:=ry
 exact rule i j t t' s _ _ ⟨.int (g i j),H,I.tok _,⟨_,rfl⟩,q⟩
theorem opB0{g:Int->Int->Bool}
  (rule:∀(i j:Int) (t u:Tok) (s:Shared) (Q:Value->Shared->Prop) (E:Value->Shared->Prop),Q (.bool (g i j)) s->wpAny (model X.prog X.w) X.A (f (.int i t) (.int j u)) Q E s) :
  OpR X f (rI0 λi j=>.bl (g i j)):=by
 intro pins s σ H x y v u Q I rx ry h
 obtain⟨i,j,rfl,rfl,q⟩:=h
 obtain⟨t,rfl⟩:=rx
 obtain⟨t',rfl⟩:=ry
 exact rule i j t t' s _ _ ⟨.bl (g i j),H,I,rfl,q⟩
noncomputable def CPow(i j:Int):Prop:=0<=j/\j<=1000000/\i.natAbs < 2 ^ 64
noncomputable def CMul(i j:Int):Prop:=(-(2 ^ 64) < i/\i < 2 ^ 64)\/(-(2 ^ 64) < j/\j < 2 ^ 64)
theorem CMul.ok{i j:Int}(h:CMul i j):IntMulOk i j:=by
 rcases h with⟨h1,h2⟩|⟨h1,h2⟩
 ·exact .of_left (intBits_le_64 h1 h2)
 ·exact .of_right (intBits_le_64 h1 h2)
theorem aAd(k:Nat):(0:Int)<=2 ^ k:=by
 rw[two_pow_cast]
 exact aGM _
theorem aMk:OpR X (binaryOp .Add) (rI0 λi j=>.int (i+j)):=opI0 λ_ _ _ _ _ _ _ q=>add_int q
theorem aNl:OpR X (binaryOp .Sub) (rI0 λi j=>.int (i - j)):=opI0 λ_ _ _ _ _ _ _ q=>sub_int q
theorem aPc:OpR X (binaryOp .Mod) (rI (λ_ j=>0 < j) λi j=>.int (i % j)):=opI λi j _ _ _ _ _ hc q=>by
 have h1:(0:Int) < j:=hc
 exact mod_int' (by lia) (by rw[Int.fmod_eq_emod_of_nonneg i (by lia)];exact q)
theorem aMj:OpR X (binaryOp .Pow) (rI CPow λi j=>.int (i ^ j.toNat)):=opI λ_ _ _ _ _ _ _ hc q=>pow_int_small hc.1 hc.2.1 hc.2.2 q
theorem aOj:OpR X (binaryOp .RShift) (rI (λ_ j=>0<=j) λi j=>.int (i / 2 ^ j.toNat)):=opI λi j _ _ _ _ _ hc q =>
 rshift_int hc (by rw[Int.fdiv_eq_ediv_of_nonneg i (aAd _)];exact q)
theorem aOr:OpR X (binaryOp .BitAnd) (rI0 λi j=>.int (Builtin.bitAnd i j)):=opI0 λ_ _ _ _ _ _ _ q=>and_int q
theorem unI{f:Value->Sem Value}{g:Int->Int}
  (rule:∀(i:Int) (t:Tok) (s:Shared) (Q:Value->Shared->Prop) (E:Value->Shared->Prop),Q (.int (g i) s.toks) {s with toks:=s.toks+1}->wpAny (model X.prog X.w) X.A (f (.int i t)) Q E s) :
  UnR X f (rU λi=>.int (g i)):=by
 intro pins s σ H x v Q I rx h
 obtain⟨i,rfl,q⟩:=h
 obtain⟨t,rfl⟩:=rx
 exact rule i t s _ _ ⟨.int (g i),H,I.tok _,⟨_,rfl⟩,q⟩
theorem aNh:UnR X (unaryOp .USub) (rU λi=>.int (-i)):=unI λ_ _ _ _ _ q=>neg_int q
theorem aOe{Q:VK}{k k':Bool}(I:Inv X pins σ H s)(q:Q (.bl k) H)(e:k=k'):EP X pins σ Q (.bool k') s:=by
 subst e
 exact⟨.bl k,H,I,rfl,q⟩
theorem aQf:OpR X (compareOp .Lt) (rI0 λi j=>.bl (decide (i < j))):=opB0 λ_ _ _ _ _ _ _ q=>lt_int q
theorem aQc:OpR X (compareOp .Gt) (rI0 λi j=>.bl (decide (j < i))):=opB0 λ_ _ _ _ _ _ _ q=>gt_int q
theorem aPn:OpR X (compareOp .GtE) (rI0 λi j=>.bl (decide (j<=i))):=opB0 λ_ _ _ _ _ _ _ q=>ge_int q
theorem aNt:OpR X (compareOp .Is) (λx y H Q=>y=.non/\Q (.bl (decide (x=.non))) H):=by
 intro pins s σ H x y v u Q I rx ry h
 obtain⟨rfl,q⟩:=h
 cases ry
 refine is_none_gen (aOe I q ?_)
 cases x <;> first
  |(cases rx;rfl)
  |(obtain⟨t,rfl⟩:=rx;rfl)
variable{op:CmpOp}
theorem nomark(b:Expr)(h:op≠.In:=by decide)(h2:op≠.NotIn:=by decide):behindInMarks op b=false:=by
 have e1:(op==CmpOp.In)=false:=by cases op <;> first|rfl|exact absurd rfl h
 have e2:(op==CmpOp.NotIn)=false:=by cases op <;> first|rfl|exact absurd rfl h2
 cases b <;> simp[behindInMarks,e1,e2]
variable{r:R2}
theorem aJd(ho:OpR X (compareOp op) r)(ha:PE X a ta)(hb:PE X b tb)(hm:behindInMarks op b=false):PE X (.Compare a [op] [b] pos) (tOp r ta tb):=by
 intro pins s σ H Q I h
 exact wpAny_Compare1 (binT ha hb I h λv u s2 x y H2 I2 rx ry q=>ho pins s2 σ H2 x y v u Q I2 rx ry q) hm
noncomputable def tTest(t:TE):TT:=λσ H Q=>t σ H λx H'=>∃k,x=.bl k/\Q k H'
theorem aJy(ho:OpR X (compareOp op) r)(ha:PE X a ta)(hb:PE X b tb)(hm:behindInMarks op b=false):PT X (.Compare a [op] [b] pos) (tTest (tOp r ta tb)):=by
 intro pins s σ H Q I h
 refine wpAny_isTrue_Compare1 (thn (ha pins s σ H _ I h) λv s1 ⟨x,H1,I1,r1,q1⟩=>thn (hb pins s1 σ H1 _ I1 q1) λu s2 ⟨y,H2,I2,r2,q2⟩ =>
  thn (ho pins s2 σ H2 x y v u _ I2 r1 r2 q2) λc s3 ⟨z,H3,I3,r3,k,e,q3⟩=>?_) hm
 subst e
 cases r3
 exact aEJ ⟨H3,I3,q3⟩
noncomputable def TruV(K:Frag)(x:V)(H:Hp)(k:Bool):Prop :=
 match x with
 |.non=>k=false
 |.bl b=>k=b
 |.int i=>k=(i != 0)
 |.str y=>y.length<=sizeLine/\k=((y.length:Int) != 0)
 |.byt y=>y.size<=sizeLine/\k=((y.size:Int) != 0)
 |.ref p=>(∃xs,SqL K H p xs/\k=!xs.isEmpty)\/(∃xs,SqT K H p xs/\k=!xs.isEmpty)\/∃kvs,H p=some (.dK kvs)/\k=!kvs.isEmpty
 |_=>False
theorem zV{κ:Type}{kvs:List (κ×V)}{vs:List (κ×Value)}(r:KV kvs vs):(!vs.isEmpty)=!kvs.isEmpty:=by
 cases r <;> rfl
theorem rO(r:Vals xs its):(!its.toArray.isEmpty)=!xs.isEmpty:=by
 cases r <;> simp
theorem line63:(sizeLine:Nat) < 2 ^ 63:=by rw[aBA];decide
theorem aNn:TruR X (λx H Q=>∃k,TruV X.K x H k/\Q k H):=by
 intro pins s σ H x v Q I rx h
 obtain⟨k,e,q⟩:=h
 have hl:=line63
 have hs:sizeLine=16777216:=aBA
 cases x with
 |non =>
  cases rx
  have e':k=false:=e
  subst e'
  exact truthy_none ⟨H,I,q⟩
 |bl b =>
  cases rx
  have e':k=b:=e
  subst e'
  exact aEJ ⟨H,I,q⟩
 |int i =>
  obtain⟨t,rfl⟩:=rx
  have e':k=(i != 0):=e
  subst e'
  exact PySem.P.truthy_int ⟨H,I,q⟩
 |str y =>
  obtain⟨t,rfl⟩:=rx
  obtain⟨hy,e'⟩:y.length<=sizeLine/\k=((y.length:Int) != 0):=e
  subst e'
  exact PySem.P.truthy_str (by lia) ⟨H,I.tok _,q⟩
 |byt y =>
  obtain⟨t,rfl⟩:=rx
  obtain⟨hy,e'⟩:y.size<=sizeLine/\k=((y.size:Int) != 0):=e
  subst e'
  exact PySem.W.truthy_bytes (by lia) ⟨H,I.tok _,q⟩
 |ref p =>
  cases rx
  have e':(∃xs,SqL X.K H p xs/\k=!xs.isEmpty)\/(∃xs,SqT X.K H p xs/\k=!xs.isEmpty)\/∃kvs,H p=some (.dK kvs)/\k=!kvs.isEmpty:=e
  rcases e' with⟨xs,hx,e'⟩|⟨xs,hx,e'⟩|⟨kvs,hx,e'⟩
  ·subst e'
   obtain⟨its,r,pl,hz⟩:=I.list hx
   have hlen:=r.length
   exact wpAny_truthy_list pl.isList (by simp only[aAI];lia) ⟨H,I.tok _,by rw[rO r];exact q⟩
  ·subst e'
   obtain⟨its,r,pl,hz⟩:=I.tuple hx
   have hlen:=r.length
   exact truthy_tuple pl (by simp only[aAI];lia) ⟨H,I.tok _,by rw[rO r];exact q⟩
  ·subst e'
   obtain⟨hz,hS,vs,r,m⟩:kvs.length<=sizeLine/\(p==sysModules)=false/\∃vs,KV kvs vs/\s.heap.DictOf (mixKind X.prog X.w) p vs:=I.hok p _ hx
   have hlen:kvs.length=vs.length:=Paired.length r
   exact wpAny_truthy_dict hS m (by lia) ⟨H,I.tok _,by rw[zV r];exact q⟩
 |_=>exact(show False from e).elim
theorem aGo(ha:PE X a ta)(he:∀whole,isTrue a X.env whole=(do let v <- whole;standAt a.pos;holding [v] (truthy v))) :
  PT X a (λσ H Q=>ta σ H λx H'=>∃k,TruV X.K x H' k/\Q k H'):=by
 intro pins s σ H Q I h
 exact isTrue_plain (thn (ha pins s σ H _ I h) λv s1 ⟨x,H1,I1,r1,q1⟩=>aNn pins s1 σ H1 x v Q I1 r1 q1) (he _)
theorem aAf:OpR X (binaryOp .Add) (λx y H Q=>∃i j,x=.str i/\y=.str j/\i.length+j.length<=sizeLine/\Q (.str (i++j)) H):=by
 intro pins s σ H x y v u Q I rx ry h
 obtain⟨i,j,rfl,rfl,hz,q⟩:=h
 obtain⟨t,rfl⟩:=rx
 obtain⟨t',rfl⟩:=ry
 exact add_str (λt' tk=>⟨.str (i++j),H,I.tok _,⟨_,rfl⟩,q⟩) hz
variable{x:V}
theorem vals1(r:Vals [x] us):∃u,us=[u]/\RelV x u:=by
 cases r with
 |cons r1 r2=>cases r2;exact⟨_,rfl,r1⟩
theorem vals2{y:V}(r:Vals [x,y] us):∃u w',us=[u,w']/\RelV x u/\RelV y w':=by
 cases r with
 |cons r1 r2 =>
  cases r2 with
  |cons r3 r4=>cases r4;exact⟨_,_,rfl,r1,r3⟩
theorem aDe(hc:X.calm=true):CallR X (.builtin "max") (λxs H Q=>∃i j,xs=[.int i,.int j]/\Q (.int (if j > i then j else i)) H):=by
 intro pins s σ H xs us Q I r h
 obtain⟨i,j,rfl,q⟩:=h
 obtain⟨u,w',rfl,⟨t,rfl⟩,⟨t',rfl⟩⟩:=vals2 r
 refine max_two_ints (I.ok.hd hc) λh' tk k=>⟨_,H,I.kept k,?_,q⟩
 by_cases hj:j > i
 ·rw[aAG hj,aAG hj];exact⟨_,rfl⟩
 ·rw[aAC hj,aAC hj];exact⟨_,rfl⟩
theorem aDi(hc:X.calm=true):CallR X (.builtin "min") (λxs H Q=>∃i j,xs=[.int i,.int j]/\Q (.int (if j < i then j else i)) H):=by
 intro pins s σ H xs us Q I r h
 obtain⟨i,j,rfl,q⟩:=h
 obtain⟨u,w',rfl,⟨t,rfl⟩,⟨t',rfl⟩⟩:=vals2 r
 refine min_two_ints (I.ok.hd hc) λh' tk k=>⟨_,H,I.kept k,?_,q⟩
 by_cases hj:j < i
 ·rw[aAG hj,aAG hj];exact⟨_,rfl⟩
 ·rw[aAC hj,aAC hj];exact⟨_,rfl⟩
theorem aDd:CallR X (.type "int") (λxs H Q=>(∃i,xs=[.int i]/\Q (.int i) H)\/∃k,xs=[.bl k]/\Q (.int (if k then 1 else 0)) H):=by
 intro pins s σ H xs us Q I r h
 rcases h with⟨i,rfl,q⟩|⟨k,rfl,q⟩
 ·obtain⟨u,rfl,t,rfl⟩:=vals1 r
  exact call_int_int ⟨.int i,H,I,⟨_,rfl⟩,q⟩
 ·obtain⟨u,rfl,r1⟩:=vals1 r
  cases r1
  exact call_int_bool ⟨.int (if k then 1 else 0),H,I.tok _,⟨_,rfl⟩,q⟩
structure ObjM(h:Heap)(x dx C:Addr)(mA:Str->Option Value):Prop where
 obj:h.get? x=some (PySem.W.instObj C dx)
 ns:h.Ns1 dx mA
 ne:dx≠x
variable{K:Frag}{x dx f:Addr}{v:Value}
section
variable{a:Addr}{fs fs':List (Str×V)}
end
structure Cls(K:Frag)(C:Addr):Prop where
 pg:PySem.W.plainGet K C Str.empty=true
 hd:PySem.W.hasDictIn K C=true
 po:PySem.W.plainOver K C=true
 sa:PySem.W.findIn K (.ref C) "__setattr__"=some (some (.builtin "object.__setattr__"))
structure Con(K:Frag)(C:Addr)(f:Str)(v:V)(u:Value):Prop where
 at_:PySem.W.findIn K (.ref C) f=some (some u)
 rel:RelV v u
 get:PySem.W.specialIn K u "__get__"=some none
 cp:PySem.W.copiedNames.contains f=false
structure Meth(K:Frag)(C:Addr)(m:Str)(f:Addr):Prop where
 at_:PySem.W.findIn K (.ref C) m=some (some (.ref f))
 fn:PySem.W.isFn K (.ref f)=true
 kp:keepIn K (.ref f)=true
section
variable{a:Addr}{fs:List (Str×V)}{f:Str}{v:V}
end
variable{o value:Expr}{f:Str}{tv:TE}{Q:Value->Shared->Prop}{c:Value}{b:Bool}
inductive TyOf(K:Frag)(H:Hp):V->Value->Prop where
 |non:TyOf K H .non (.type "NoneType")
 |bl (x:Bool):TyOf K H (.bl x) (.type "bool")
 |int (i:Int):TyOf K H (.int i) (.type "int")
 |str (x:Str):TyOf K H (.str x) (.type "str")
 |flt (x:UInt64):TyOf K H (.flt x) (.type "float")
 |lst {a:Addr} {xs:List V} (e:H a=some (.lst xs)):TyOf K H (.ref a) (.type "list")
 |frz {a:Addr} {o:Obj} {xs:List V} (e:H a=some (.frz o (.lst xs))):TyOf K H (.ref a) (.type "list")
 |tup {a:Addr} {xs:List V} (e:H a=some (.tup xs)):TyOf K H (.ref a) (.type "tuple")
 |dK {a:Addr} {kvs:List (Key×V)} (e:H a=some (.dK kvs)):TyOf K H (.ref a) (.type "dict")
 |dT {a:Addr} {kvs:List (List Key×V)} (e:H a=some (.dT kvs)):TyOf K H (.ref a) (.type "dict")
 |ins {a C dx:Addr} {fs:List (Str×V)} (e:H a=some (.ins C dx fs)) (cl:Cls K C) (ha:PySem.W.findIn K (.ref C) "__class__"=some (some (.builtin "object.__class__")))
   (hn:PySem.W.specialIn K (.builtin "object.__class__") "__get__"=some (some (.builtin "getset_descriptor.__get__"))) (htk:PySem.W.takesIn K (.builtin "object.__class__")=some true)
   (hm:PySem.W.mroIn K C (.type "object")=some true):TyOf K H (.ref a) (.ref C)
structure Room(k:Nat)(A:Around):Prop where
 hd:A.handled=none
 dp:A.depth+3*k+5 < recursionLimit
 un:A.units+16*k+200 < cLine
theorem Room.mono(r:Room k A)(h:j<=k):Room j A:=⟨r.hd,by have:=r.dp;lia,by have:=r.un;lia⟩
theorem Room.deeper{k:Nat}{A:Around}(r:Room (k+1) A)(env:Env):Room k (A.deeper env) :=
 ⟨r.hd,by have:=r.dp;show A.depth+1+3*k+5 < _;lia,by have:=r.un;show A.units+3+16*k+200 < _;lia⟩
theorem Room.depth{k:Nat}{A:Around}(r:Room k A):A.depth < recursionLimit:=by have:=r.dp;lia
noncomputable def tNil:TA:=λ_ H Q=>Q [] H
noncomputable def tCons(ta:TE)(tr:TA):TA:=λσ H Q=>ta σ H λx H1=>tr σ H1 λxs H2=>Q (x::xs) H2
variable{t:TA}
theorem fE:PA X [] tNil:=λ_ _ _ _ H Q I h=>Calls.spliced_nil ⟨[],H,I,.nil,h⟩
theorem cM(ha:PE X e te)(hr:PA X es t)(hs:starEach (e::es) X.env=(false,eval e X.env)::starEach es X.env:=by rfl):PA X (e::es) (tCons te t):=by
 intro pos pins s σ H Q I h
 rw[hs]
 show wpAny _ _ (spliced ((false,eval e X.env)::backTo pos (starEach es X.env))) _ _ s
 refine Calls.spliced_cons (thn (ha pins s σ H _ I h) λu s1 ⟨x,H1,I1,r1,q1⟩=>?_)
 exact thn (hr pos pins s1 σ H1 _ I1 q1) λus s2 ⟨xs,H2,I2,r2,q2⟩=>⟨x::xs,H2,I2,.cons r1 r2,q2⟩
noncomputable def tTup(t:TA):TE:=λσ H Q=>t σ H λxs H1=>xs.length<=sizeLine/\∀p,H1 p=none->Q (.ref p) (upd H1 p (.tup xs))
noncomputable def tLst(t:TA):TE:=λσ H Q=>t σ H λxs H1=>xs.length<=sizeLine/\∀p,H1 p=none->Q (.ref p) (upd H1 p (.lst xs))
theorem aMw{x1}(h:PA X es t):PE X (.Tuple es x1 pos) (tTup t):=by
 intro pins s σ H Q I hq
 refine wpAny_Tuple_spliced (thn (h pos pins s σ H _ I hq) λus s1 ⟨xs,H1,I1,r,z,q⟩=>⟨by rw[<- r.length];exact z,?_⟩)
 have hf:H1 s1.heap.objs.size=none:=I1.hok.fresh (aAH _)
 refine⟨.ref s1.heap.objs.size,upd H1 s1.heap.objs.size (.tup xs),I1.laid (t':=s1.toks) (λb u e=>aAA _ e) (aAH _) ?_,rfl,q _ hf⟩
 exact⟨z,us,r,⟨_,aAE _ rfl,rfl,_,rfl⟩⟩
theorem aAg(h:PA X es t):PE X (.List es pos) (tLst t):=by
 intro pins s σ H Q I hq
 refine wpAny_List_spliced (thn (h pos pins s σ H _ I hq) λus s1 ⟨xs,H1,I1,r,z,q⟩=>⟨by rw[<- r.length];exact z,?_⟩)
 have hf:H1 s1.heap.objs.size=none:=I1.hok.fresh (aAH _)
 refine⟨.ref s1.heap.objs.size,upd H1 s1.heap.objs.size (.lst xs),I1.laid (t':=s1.toks) (λb u e=>aAA _ e) (aAH _) ?_,rfl,q _ hf⟩
 exact⟨z,us,0,r,aAE _ rfl⟩
noncomputable abbrev Sp:=List V->Hp->VK->XK->Prop
noncomputable abbrev CXT:=List Env->Hp->Shared->XK->Value->Shared->Prop
structure Env0(P:Program)(w:World)(K:Frag)(mg:Str->Option Value)(base:Heap)(A:Around)(outer:List Env)(s:Shared)(H:Hp):Prop where
 frames:A.frames=some outer
 mod:Mod K mg base
 bs:∀b o,base.get? b=some o->s.heap.get? b=some o/\H b=none
 bsz:base.objs.size<=s.heap.objs.size
 funs:s.heap.FunFrames base outer
 frf:∀b∈frs outer,H b=none
 hok:HOk P w H s.heap
 bare:AllBare s.gens
noncomputable def CE(outer:List Env)(P:Program)(w:World)(H:Hp)(s:Shared)(Q:VK)(u:Value)(s':Shared):Prop :=
 ∃v H',s'.os=s.os/\AllBare s'.gens/\Un (frs outer) [] H H' s.heap s'.heap/\HOk P w H' s'.heap/\RelV v u/\Q v H'
noncomputable def CR(CX:CXT)(outer:List Env)(P:Program)(w:World)(H:Hp)(s:Shared)(Q:VK)(E:XK)(r:Result)(s':Shared):Prop :=
 match r with
 |.ok (.ret u)=>CE outer P w H s Q u s'
 |.ok _=>False
 |.error e=>CX outer H s E e s'
structure FnOk(P:Program)(w:World)(K:Frag)(mg:Str->Option Value)(base:Heap)(CX:CXT)(k:Nat)(f:Addr)(fd:FuncData)(ps:List Str)(sp:Sp):Prop where
 len:∀vs H Q E,sp vs H Q E->vs.length=ps.length
 run:∀(A:Around) (outer:List Env) (s:Shared) (H:Hp) (args:Args) (us:List Value) (vs:List V) (Q:VK) (E:XK),Room k A->Env0 P w K mg base A outer s H->BindsTo s fd args (ps.zip us)->Vals vs us->sp vs H Q E ->
  codeAny (model P w) A (.call (.ref f) args) (CR CX outer P w H s Q E) s
theorem FnOk.mono{P:Program}{w:World}{K:Frag}{mg:Str->Option Value}{base:Heap}{CX:CXT}{j k:Nat}{f:Addr}{fd:FuncData}{ps:List Str}{sp:Sp}(F:FnOk P w K mg base CX j f fd ps sp)(h:j<=k) :
  FnOk P w K mg base CX k f fd ps sp:=⟨F.len,λA outer s H args us vs Q E hr=>F.run A outer s H args us vs Q E (hr.mono h)⟩
theorem Inv.env0(I:Inv X pins σ H s):Env0 X.prog X.w X.K X.mg X.base X.A X.stack s H :=
 ⟨I.ok.frames,I.ok.mod,I.bs,aBF I.ok.bsz I.sz,I.stack,I.stkFree,I.hok,I.bare⟩
variable{Q:VK}
theorem Inv.after(I:Inv X pins σ H s)(h:CE X.stack X.prog X.w H s Q u s'):EP X pins σ Q u s':=by
 obtain⟨v,H',os,bare,un,hok,r,q⟩:=h
 obtain⟨hh,g,d,t,os'⟩:=s'
 obtain rfl:os'=s.os:=os
 exact⟨v,H',I.call (h':=hh) (g':=g) (d':=d) (t':=t) (ch:=[]) un hok bare (λb z=>absurd z (by simp)),r,q⟩
noncomputable def tCall(sp:Sp)(dvs:List V)(E:XK)(t:TA):TE:=λσ H Q=>t σ H λvs H1=>sp (vs++dvs) H1 Q E
noncomputable def Binds(K:Frag)(fd:FuncData)(ps:List Str)(ds:List Value):Prop :=
 ∀(s:Shared) (us:List Value),K.In s.heap->(us++ds).length=ps.length->BindsTo s fd ⟨us,[]⟩ (ps.zip (us++ds))
theorem Binds.all(h:∀us:List Value,us.length=ps.length->bindArgs fd ⟨us,[]⟩=pure (ps.zip us)):Binds K fd ps []:=λs us _ hl=>by
 rw[aEH]at hl ⊢
 exact .of_eq (h us hl)
noncomputable def Passes(CX:CXT)(X:Cx)(E:XK):Prop:=∀(pins:List (Addr×Obj)) (σ:St) (H:Hp) (s:Shared) (e:Value) (s':Shared),Inv X pins σ H s->CX X.stack H s E e s'->X.xe e s'
variable{CX:CXT}{k:Nat}{f:Addr}{sp:Sp}{dvs:List V}{ds:List Value}{E:XK}{x m:Str}{vs:List V}
theorem aNc(F:FnOk X.prog X.w X.K X.mg X.base CX k f fd ps sp)(hr:Room k X.A)(hb:Binds X.K fd ps ds)(hd:Vals dvs ds)(hx:Passes CX X E)
  (I:Inv X pins σ H s)(r:Vals vs us)(h:sp (vs++dvs) H Q E):wpAny (model X.prog X.w) X.A (call (.ref f) us) (EP X pins σ Q) X.xe s:=by
 have r2:Vals (vs++dvs) (us++ds):=r.append hd
 have hl:(us++ds).length=ps.length:=by rw[<- r2.length];exact F.len _ _ _ _ h
 refine wpAny_call (aFV (F.run X.A X.stack s H ⟨us,[]⟩ (us++ds) (vs++dvs) Q E hr I.env0 (hb s us I.kIn hl) r2 h) λr s' hq=>?_)
 cases r with
 |error e=>exact hx pins σ H s e s' I hq
 |ok fl =>
  cases fl with
  |ret u=>exact I.after hq
  |next=>exact False.elim hq
  |brk=>exact False.elim hq
  |cont=>exact False.elim hq
theorem aAv(F:FnOk X.prog X.w X.K X.mg X.base CX k f fd ps sp)(hr:Room k X.A)(hg:Gl X x)(hm:X.mg x=some (.ref f))(hk:keepIn X.K (.ref f)=true)(hb:Binds X.K fd ps ds)(hd:Vals dvs ds)(hx:Passes CX X E)
  (ha:PA X (e::es) t)(hdb:(x==("__debug__":Str))=false:=by decide)(he:starEach (e::es) X.env=(false,eval e X.env)::starEach es X.env:=by rfl)(hpl:(backTo pos (starEach es X.env)).any (·.1)=false:=by rfl) :
  PE X (.Call (.Name x p) (e::es) [] pos) (tCall sp dvs E t):=by
 intro pins s σ H Q I h
 refine aCY (aJs I hg hm ?_ hdb)
 refine PySem.W.callWith_K (h₀:=X.base) I.ok.mod.kin hk (thn (ha pos pins s σ H _ I h) λus s1 ⟨vs,H1,I1,r,q⟩=>⟨I1.kIn,?_⟩) he hpl
 exact aNc F hr hb hd hx I1 r q
structure Mk(K:Frag)(C f:Addr):Prop where
 makes:PySem.W.makesIn K C=true
 init:PySem.W.findIn K (.ref C) "__init__"=some (some (.ref f))
 fn:PySem.W.isFn K (.ref f)=true
 kp:keepIn K (.ref C)=true
noncomputable def PK(X:Cx)(kws:List Keyword)(t:TA):Prop :=
 ∀(pos:Pos) (pins:List (Addr×Obj)) (s:Shared) (σ:St) (H:Hp) (Q:List V->Hp->Prop),Inv X pins σ H s->t σ H Q->wpAny (model X.prog X.w) X.A (evalAll ((backToKw pos (keywordEach kws X.env)).map (·.2))) (AP X pins σ Q) X.xe s
variable{k:Nat}{ks:List Str}{kpos:Pos}{kws:List Keyword}{tk:TA}{nm:Option Str}
theorem aMd:PK X [] tNil:=λ_ _ _ _ H Q I h=>wpAny_evalAll_nil ⟨[],H,I,.nil,h⟩
theorem aJw(ha:PE X e te)(hr:PK X kws t):PK X (⟨nm,e,kpos⟩::kws) (tCons te t):=by
 intro pos pins s σ H Q I h
 show wpAny _ _ (evalAll ((do let v <- eval e X.env;standAt pos;pure v)::(backToKw pos (keywordEach kws X.env)).map (·.2))) _ _ s
 refine wpAny_evalAll_cons (aAB (thn (ha pins s σ H _ I h) λu s1 ⟨x,H1,I1,r1,q1⟩=>aAB (aEB (aAF ?_))))
 exact thn (hr pos pins s1 σ H1 _ I1 q1) λus s2 ⟨xs,H2,I2,r2,q2⟩=>⟨x::xs,H2,I2,.cons r1 r2,q2⟩
structure KBinds(K:Frag)(fd:FuncData)(ps ks:List Str)(g:List Value->List Value->List Value)(gV:List V->List V->List V):Prop where
 to:∀(s:Shared) (us ws:List Value),K.In s.heap->(g us ws).length=ps.length->BindsTo s fd ⟨us,ks.zip ws⟩ (ps.zip (g us ws))
 rel:∀{vs:List V} {us:List Value} {zs:List V} {ws:List Value},Vals vs us->Vals zs ws->Vals (gV vs zs) (g us ws)
variable{g:List Value->List Value->List Value}{gV:List V->List V->List V}
structure FnScope(N P:List Str)(sc:Scope):Prop where
 kind:sc.kind=.function
 co:sc.isCoroutine=false
 gen:sc.isGenerator=false
 nd:N.Nodup
 pre:N.take P.length=P
 par:∀x∈P,sc.names.lookup x=some .local\/sc.names.lookup x=some .cell
 nofree:∀y∈sc.names,y.2≠.free
theorem uA{kindOf:Str->Option NameKind}{x:Str}:∀{binds:List (Str×Value)} {m:Str->Option Value},(∀v,(x,v)∉binds)->bindL kindOf binds m x=m x
 |[],_,_=>rfl
 |(n,v)::r,m,h=>by
  unfold bindL
  rw[uA λw hw=>h w (aBZ _ hw)]
  split
  ·have:x≠n:=by rintro rfl;exact h v aCO
   simp[this]
  ·rfl
theorem tW{kindOf:Str->Option NameKind}{x:Str}:∀{binds:List (Str×Value)} {m:Str->Option Value},(∀v,(x,v)∉binds)->bindC kindOf binds m x=m x
 |[],_,_=>rfl
 |(n,v)::r,m,h=>by
  unfold bindC
  rw[tW λw hw=>h w (aBZ _ hw)]
  split
  ·rfl
  ·have:x≠n:=by rintro rfl;exact h v aCO
   simp[this]
theorem tS{kindOf:Str->Option NameKind}{x:Str}{v:Value}:∀{P:List Str} {vs:List Value} {i:Nat} {m:Str->Option Value},P.Nodup->P[i]?=some x->vs[i]?=some v->kindOf x=some .local ->
  bindL kindOf (P.zip vs) m x=some v
 |[],_,_,_,_,h,_,_=>by simp at h
 |_::_,[],_,_,_,_,h,_=>by simp at h
 |p::P,w::vs,0,m,nd,h1,h2,hk=>by
  simp at h1 h2;subst h1;subst h2
  show bindL kindOf ((p,w)::P.zip vs) m p=_
  unfold bindL
  rw[uA λv hv=>(aEG.mp nd).1 (List.of_mem_zip hv).1,aAG hk]
  simp
 |p::P,w::vs,i+1,m,nd,h1,h2,hk=>by
  show bindL kindOf ((p,w)::P.zip vs) m x=_
  unfold bindL
  exact tS (i:=i) (aEG.mp nd).2 (by simpa using h1) (by simpa using h2) hk
theorem uE{kindOf:Str->Option NameKind}{x:Str}{v:Value}:∀{P:List Str} {vs:List Value} {i:Nat} {m:Str->Option Value},P.Nodup->P[i]?=some x->vs[i]?=some v->kindOf x≠some .local ->
  bindC kindOf (P.zip vs) m x=some v
 |[],_,_,_,_,h,_,_=>by simp at h
 |_::_,[],_,_,_,_,h,_=>by simp at h
 |p::P,w::vs,0,m,nd,h1,h2,hk=>by
  simp at h1 h2;subst h1;subst h2
  show bindC kindOf ((p,w)::P.zip vs) m p=_
  unfold bindC
  rw[tW λv hv=>(aEG.mp nd).1 (List.of_mem_zip hv).1,aAC hk]
  simp
 |p::P,w::vs,i+1,m,nd,h1,h2,hk=>by
  show bindC kindOf ((p,w)::P.zip vs) m x=_
  unfold bindC
  exact uE (i:=i) (aEG.mp nd).2 (by simpa using h1) (by simpa using h2) hk
noncomputable def start(N:List Str)(vs:List V):St:=vs.map some++List.replicate (N.length - vs.length) none
noncomputable def cxOf(CX:CXT)(P:Program)(w:World)(K:Frag)(mg:Str->Option Value)(base:Heap)(N:List Str)(qual:Str)(scope:Scope)(f:Addr)(cd:Value)(A:Around)(outer:List Env)(s:Shared)(H:Hp)(E:XK):Cx where
 prog:=P
 w:=w
 K:=K
 mg:=mg
 base:=base
 A:=A.deeper (envOfC qual scope s.heap.objs.size f cd)
 N:=N
 s₀:=s
 H₀:=H
 env:=envOfC qual scope s.heap.objs.size f cd
 outer:=outer
 stack:=envOfC qual scope s.heap.objs.size f cd::outer
 ex:=[]
 calm:=true
 fn:=λ_=>true
 pn:=[]
 xe:=λe s'=>wpAny (model P w) (A.deeper (envOfC qual scope s.heap.objs.size f cd)) (leaving (envOfC qual scope s.heap.objs.size f cd) e) (λ_ s''=>CX outer H s E e s'') (λe' s''=>CX outer H s E e' s'') s'
theorem yC{sc:Scope}{n:Nat}(h:sc.names.lookup x=some .cell):∃c,(cellsFrom n sc.names []).lookup x=some c:=by
 have q:=PySem.W.cellsFrom_some sc.names n [] (.inl h)
 exact aDX.mp q
variable{mg:Str->Option Value}{scope:Scope}
theorem aCi{cd:Value}{s1:Shared} 
  (S:FnScope N ps scope)(hd:A.handled=none)(e0:Env0 P w K mg base A outer s H)(hl:vs.length=ps.length)(r:Vals vs us)
  (x:InCallC s s.heap.objs.size (bindL (envOfC qual scope s.heap.objs.size f cd).kindOf (ps.zip us) λ_=>none) (cellsFrom (s.heap.objs.size+1) scope.names []) (bindC (envOfC qual scope s.heap.objs.size f cd).kindOf (ps.zip us) λ_=>none) s1) :
  Inv (cxOf CX P w K mg base N qual scope f cd A outer s H E) [] (start N vs) H s1:=by
 have hpl:ps.length<=N.length:=by have:=congrArg List.length S.pre;rw[aFN]at this;lia
 obtain⟨h1,tk,rfl,hk⟩:=x.done
 have noA:∀b:Addr,b∉(cxOf CX P w K mg base N qual scope f cd A outer s H E).ex:=λb z=>absurd (show b∈([]:List Addr)from z) (by simp)
 refine⟨⟨e0.mod,S.kind,rfl,rfl,aAH _,λy z c h1 h2=>?_,λy hy=>?_,λy c _ h=>?_,λ_=>hd,Around.frames_deeper e0.frames,.inr ⟨rfl,rfl⟩,λb z=>absurd z (noA b),e0.bs,e0.bsz,λb _ _=>noA b,λb z=>absurd z (noA b),e0.funs,e0.frf⟩,
  rfl,e0.bare,Un.kept hk,⟨_,x.toInCall.ns,λi y v h1 h2 h3=>?_⟩,λy c h=>⟨_,x.cell y c h⟩,e0.hok.fresh (aAH _),λy c h=>?_,λp hp=>absurd (show p∈([]:List (Addr×Obj))from hp) (by simp),e0.hok.kept hk,?_⟩
 ·exact name_of_addr x.apart (aEA h1) (aEA h2)
 ·have hy:scope.names.lookup y=some .cell\/scope.names.lookup y=some .free:=hy
  rcases hy with hy|hy
  ·exact yC hy
  ·exact absurd rfl (S.nofree _ (aEA hy))
 ·exact Nat.le_of_lt (x.above y c (aEA h))
 ·have hi:i < vs.length:=by
   unfold start at h2
   by_cases hi:i < vs.length
   ·exact hi
   ·rw[aCJ (by simpa using hi)]at h2
    rw[List.getElem?_replicate]at h2
    split at h2 <;> cases h2
  have ha:vs[i]?=some v:=by
   unfold start at h2
   rw[aAS (by simpa using hi),aAP]at h2
   cases e:vs[i]? with
   |none=>rw[e]at h2;cases h2
   |some a=>rw[e]at h2;cases h2;rfl
  obtain⟨u,hu,rv⟩:=r.get ha
  have hp:ps[i]?=some y:=by
   rw[<- S.pre,List.getElem?_take_of_lt (by lia)];exact h1
  have ndP:ps.Nodup:=by rw[<- S.pre];exact S.nd.sublist (List.take_sublist _ _)
  refine⟨u,rv,?_⟩
  rcases S.par y (aBJ hp)with k|k
  ·exact .inl ⟨k,tS ndP hp hu k⟩
  ·obtain⟨c,e⟩:=yC (n:=s.heap.objs.size+1) k
   refine .inr ⟨.inl k,c,e,?_⟩
   have q:=x.cell y c e
   rw[uE ndP hp hu (by show scope.names.lookup y≠_;rw[k];decide)]at q
   exact q
 ·exact e0.hok.fresh (Nat.le_of_lt (x.above y c (aEA h)))
 ·unfold start
  show _=N.length
  rw[aAX,aAL,aDM]
  lia
theorem aLj{params:Arguments}{dV kV doc pm cdv ct oc:Value}
  (lk:K.lookup f=some ⟨oc,od,.func (fnOf name qual params body scope dV kV doc pm an cdv ct),osl⟩)(hcd:codeIn K cdv qual=true)(S:FnScope N ps scope)
  (len:∀vs H Q E,sp vs H Q E->vs.length=ps.length)
  (hbody:∀(A:Around) (outer:List Env) (s:Shared) (H:Hp) (vs:List V) (Q:VK) (E:XK),Room k (A.deeper (envOfC qual scope s.heap.objs.size f cdv))->sp vs H Q E ->
   ∃t,PSs (cxOf CX P w K mg base N qual scope f cdv A outer s H E) body t/\t {nx:=λ_ H'=>Q .non H',rt:=Q} (start N vs) H) :
  FnOk P w K mg base CX (k+1) f (fnOf name qual params body scope dV kV doc pm an cdv ct) ps sp:=by
 refine⟨len,λA outer s H args us vs Q E hr e0 hb r hsp=>?_⟩
 have hl:=len _ _ _ _ hsp
 have KX:K.In s.heap:=e0.mod.kin.keeps λb o e=>(e0.bs b o e).1
 have lim:s.heap.NoLimit:=e0.mod.nolimit.keeps λb o e=>(e0.bs b o e).1
 have hkind:∀y∈ps.zip us,scope.names.lookup y.1=some .local\/(scope.names.lookup y.1=some .cell/\((cellsFrom (s.heap.objs.size+1) scope.names []).lookup y.1).isSome=true):=λ⟨n,v⟩ hy=>by
  rcases S.par n (List.of_mem_zip hy).1 with q|q
  ·exact .inl q
  ·exact .inr ⟨q,PySem.W.cellsFrom_some _ _ _ (.inl q)⟩
 refine codeAny_call_function hr.depth (KX _ _ lk) rfl S.co S.gen rfl (PySem.W.codeRec_of KX hcd) (hb _ _ _ _ ?_)
 refine wpAny_newFunctionEnv_cells S.kind hkind λenv he s1 x=>?_
 subst he
 refine⟨lim.keeps x.toInCall.keep,codeAny_func ?_⟩
 obtain⟨t,ht,hq⟩:=hbody A outer s H vs Q E (hr.deeper _) hsp
 have I:Inv (cxOf CX P w K mg base N qual scope f cdv A outer s H E) [] (start N vs) H s1:=aCi S hr.hd e0 hl r x
 refine aDC (ht [] s1 (start N vs) H _ I hq) (λfl s' hs=>?_) λe s' hs=>hs
 have fin:∀{σ':St} {H':Hp} {v:V} {u:Value},Inv (cxOf CX P w K mg base N qual scope f cdv A outer s H E) [] σ' H' s'->RelV v u->Q v H'->CE outer P w H s Q u s' :=
  λ{σ' H' v u} J rv q=>⟨v,H',J.os,J.bare,J.base,J.hok,rv,q⟩
 cases fl with
 |ret u =>
  obtain⟨v,σ',H',J,rv,q⟩:=hs
  exact fin J rv q
 |next =>
  obtain⟨σ',H',J,q⟩:=hs
  exact fin (v:=V.non) (u:=Value.none) J rfl q
 |brk =>
  obtain⟨_,_,_,q⟩:=hs
  exact False.elim q
 |cont =>
  obtain⟨_,_,_,q⟩:=hs
  exact False.elim q
variable{id T:String}{r:List V->Hp->VK->Prop}
noncomputable def tCB(r:List V->Hp->VK->Prop)(t:TA):TE:=λσ H Q=>t σ H λvs H1=>r vs H1 Q
theorem aFw(hc:CallR X (.builtin id) r)(hg:Gl X x)(hm:X.mg x=none)(hv:bootBuiltins x=some (.builtin id))(ha:PA X (e::es) t)(hn:x≠"__name__":=by decide)(hdb:(x==("__debug__":Str))=false:=by decide)
  (he:starEach (e::es) X.env=(false,eval e X.env)::starEach es X.env:=by rfl)(hpl:(backTo pos (starEach es X.env)).any (·.1)=false:=by rfl):PE X (.Call (.Name x p) (e::es) [] pos) (tCB r t):=by
 intro pins s σ H Q I h
 refine aCY (hG I hg hm hv ?_ hn hdb)
 exact PyProof.Rows.callWith_builtin1 (thn (ha pos pins s σ H _ I h) λus s1 ⟨vs,H1,I1,r1,q1⟩=>hc pins s1 σ H1 vs us Q I1 r1 q1) he hpl
theorem lG(hc:CallR X (.type T) r)(hg:Gl X x)(hm:X.mg x=none)(hv:bootBuiltins x=some (.type T))(ha:PA X (e::es) t)(hn:x≠"__name__":=by decide)(hdb:(x==("__debug__":Str))=false:=by decide)
  (he:starEach (e::es) X.env=(false,eval e X.env)::starEach es X.env:=by rfl)(hpl:(backTo pos (starEach es X.env)).any (·.1)=false:=by rfl):PE X (.Call (.Name x p) (e::es) [] pos) (tCB r t):=by
 intro pins s σ H Q I h
 refine aCY (hG I hg hm hv ?_ hn hdb)
 exact aBO (thn (ha pos pins s σ H _ I h) λus s1 ⟨vs,H1,I1,r1,q1⟩=>hc pins s1 σ H1 vs us Q I1 r1 q1) he hpl
end L2
end
variable{H H' H1 H2:L2.Hp}{X:L2.Cx}{v:L2.V}{ta tb te to:L2.TE}{vs:List L2.V}{R:PySem.Addr->L2.Hp->Prop}{r:L2.V->Option Int->Option Int->L2.Hp->L2.VK->Prop}{CX:L2.CXT}{sp:L2.Sp}
section
open PySem PySem.Spec PyProof.Rows
end
namespace HT
open PySem PyProof.Rows
noncomputable def lexLt:List Int->List Int->Bool
 |[],[]=>false
 |[],_::_=>true
 |_::_,[]=>false
 |x::xs,y::ys=>if x=y then lexLt xs ys else decide (x < y)
theorem zB(x y:Int)(xs ys:List Int):lexLt (x::xs) (y::ys)=if x=y then lexLt xs ys else decide (x < y):=rfl
theorem sZ:lexLt [] []=false:=rfl
theorem qB(y:Int)(ys:List Int):lexLt [] (y::ys)=true:=rfl
theorem sG(x:Int)(xs:List Int):lexLt (x::xs) []=false:=rfl
theorem aHl(A:Around)(s:Shared)(a:Int)(t:Tok)(c:Int)(u:Tok):∃e,SeqAt.EqAt A s (.int a t) (.int c u) e/\(e=true ↔ a=c) :=
 ⟨(a==c),SeqAt.EqAt.int_int a t c u,by simp⟩
theorem rcLt_int(A:Around)(s:Shared)(a:Int)(t:Tok)(c:Int)(u:Tok)(prog:Program)(w:World)(E:Value->Shared->Prop)(Q:Value->Shared->Prop)(h:Q (.bool (decide (a < c))) s) :
  wpAny (model prog w) A (richCompare .Lt (.int a t) (.int c u)) Q E s :=
 (PyProof.Rows.lt_int h:wpAny (model prog w) A (compareOp .Lt (.int a t) (.int c u)) Q E s)
section
open PySem.SeqAt
open PySem.AutoSeq1 (wpAny_loadPart')
open PySem.MeetsSeq PySem.MeetsSeq2 PySem.MeetsSeq3
theorem sY(l b:Addr)(items items2:Array Value)(n n2:Nat)(dd dd2:Option Addr)(sl sl2:Array (Option Value))(ns ms:List Int)(hi:IntsAre items.toList ns)(hj:IntsAre items2.toList ms) :
  Meets (Builtin.«tuple.__lt__» ⟨[.ref l,.ref b],[]⟩)
   (λ_ R s=>s.heap.get? l=some {cls:=.type "tuple",dict:=dd,data:=.seq items n,slots:=sl}/\s.heap.get? b=some {cls:=.type "tuple",dict:=dd2,data:=.seq items2 n2,slots:=sl2} /\
    R (.ok (.ret (.bool (lexLt ns ms)))) s) :=
 .of_wp λprog w A R s h=>by
  obtain⟨hp,g,d,tk,os⟩:=s;obtain⟨hl,hb,h⟩:=h
  have f2:=AutoSeq1.sub_tuple_tuple
  have z1:items.size=ns.length:=by rw[<- hi.length];simp
  have z2:items2.size=ms.length:=by rw[<- hj.length];simp
  wp_walk using aBR hl,aBR hb,wpAny_forIn_list _ (λrest b s'=>b.1=none/\s'=⟨hp,g,d,tk,os⟩/\∃(vs ws:List Value) (ns' ms':List Int),rest=vs.zip ws /\
   IntsAre vs ns'/\IntsAre ws ms'/\ns'.length+items2.size=ms'.length+items.size/\R (.ok (.ret (.bool (lexLt ns' ms')))) ⟨hp,g,d,tk,os⟩) _
  case turn =>
   rintro⟨y,x⟩ rest b s' ⟨hb',rfl,vs,ws,ns',ms',hz,hvi,hwi,hlen,hR⟩
   cases hvi with
   |nil=>rw[List.zip_nil_left]at hz;cases hz
   |cons a t hvi' =>
    cases hwi with
    |nil=>rw[List.zip_nil_right]at hz;cases hz
    |cons c u hwi' =>
     rw[List.zip_cons_cons]at hz
     injection hz with hyx hrest
     injection hyx with hy hx
     subst hy hx
     rw[zB]at hR
     simp only[aBQ]at hlen
     obtain⟨e,he,hiff⟩:=aHl A.in1 ⟨hp,g,d,tk,os⟩ a t c u
     refine aAB (he prog w _ _ ?_)
     cases e with
     |true =>
      rw[aAG (hiff.mp rfl)]at hR
      wp_walk
      exact⟨rfl,rfl,_,_,_,_,hrest,hvi',hwi',by lia,hR⟩
     |false =>
      rw[aAC (λq=>absurd (hiff.mpr q) aBH)]at hR
      have hri:=rcLt_int A.in1 ⟨hp,g,d,tk,os⟩ a t c u prog w
      wp_walk using hri
      exact⟨_,rfl,by simpa using hR⟩
  case fin =>
   rintro⟨b1,b2⟩ s' ⟨hb',rfl,vs,ws,ns',ms',hz,hvi,hwi,hlen,hR⟩
   simp only at hb'
   subst hb'
   have hv:lexLt ns' ms'=decide (items.size < items2.size):=by
    cases hvi with
    |nil =>
     cases hwi with
     |nil =>
      simp only[aDP]at hlen
      rw[sZ]
      exact(aCB (by lia)).symm
     |cons c u hw =>
      simp only[aDP,aBQ]at hlen
      rw[qB]
      exact(aGK (by lia)).symm
    |cons a t hv =>
     cases hwi with
     |nil =>
      simp only[aDP,aBQ]at hlen
      rw[sG]
      exact(aCB (by lia)).symm
     |cons c u hw =>
      rw[List.zip_cons_cons]at hz
      cases hz
   rw[hv]at hR
   wp_walk
   exact⟨_,rfl,by simpa[Builtin.Tuple.tupleCompareSizes]using hR⟩
  case h =>
   exact⟨rfl,rfl,items.toList,items2.toList,ns,ms,rfl,hi,hj,by lia,h⟩
end
variable{E:Value->Shared->Prop}
theorem lt_tupInts{b:Addr}{items2:Array Value}{ms:List Int}(hl:IsTup s.heap l items)(hb:IsTup s.heap b items2)(hi:IntsAre items.toList ns)(hj:IntsAre items2.toList ms)
  (hu:A.units < cLine)(h:Q (.bool (lexLt ns ms)) s):wpAny (model prog w) A (compareOp .Lt (.ref l) (.ref b)) Q E s:=by
 obtain⟨⟨cls,dd,data,sl⟩,ho,hc,n,hd⟩:=id hl
 obtain⟨⟨cls2,dd2,data2,sl2⟩,ho2,hc2,n2,hd2⟩:=id hb
 simp only at hc hd hc2 hd2
 subst hc hd hc2 hd2
 exact richCompare_meets_room (op:=.Lt) ⟨_,ho,rfl⟩ ⟨_,ho2,rfl⟩ PySem.F.slot_tuple_lt PySem.F.entry_tuple_lt (PySem.F.args_tuple_lt_2 _ _) (sY l b items items2 n n2 dd dd2 sl sl2 ns ms hi hj)
  ⟨ho,ho2,show Value.bool (lexLt ns ms)≠Value.notImplemented/\Q (.bool (lexLt ns ms)) s from⟨(λx=>nomatch x),h⟩⟩ hu
theorem cat_tup{t b:Addr}{vs ws:List Value}(ht:IsTup s.heap t vs.toArray)(hb:IsTup s.heap b ws.toArray)(hv:vs≠[])
  (h1:ws=[]->Q (.ref t) s)(h2:ws≠[]->Q (.ref s.heap.objs.size) {s with heap:=s.heap.push {cls:=.type "tuple",data:=.seq (vs++ws).toArray}})
  (hsz:vs.length+ws.length<=sizeLine):wpAny (model prog w) A (binaryOp .Add (.ref t) (.ref b)) Q E s:=by
 obtain⟨⟨cls,dd,data,sl⟩,ho,hc,n,hd⟩:=id ht
 obtain⟨⟨cls2,dd2,data2,sl2⟩,ho2,hc2,n2,hd2⟩:=id hb
 simp only at hc hd hc2 hd2
 subst hc hd hc2 hd2
 have e:vs.toArray++ws.toArray=(vs++ws).toArray:=by simp
 by_cases hw:ws=[]
 ·exact concat_meets ⟨_,ho,rfl⟩ ⟨_,ho2,rfl⟩ noFill_tuple_add seq_tuple_add aFG aFC (aEZ _ _)
   (tuple_addW1 t b vs.toArray ws.toArray n n2 dd dd2 sl sl2 (by simpa using hv) (by simp[hw])) ⟨ho,ho2,h1 hw⟩
 ·refine concat_meets ⟨_,ho,rfl⟩ ⟨_,ho2,rfl⟩ noFill_tuple_add seq_tuple_add aFG aFC (aEZ _ _)
   (tuple_addW2 t b vs.toArray ws.toArray n n2 dd dd2 sl sl2 (by simpa using hv) (by simpa using hw) (by rw[aAI,aAI];exact hsz)) ⟨ho,ho2,?_⟩
  rw[e]
  exact h2 hw
noncomputable def sIx(n d:Nat):Option Int->Nat
 |none=>d
 |some v=>if v < 0 then(v+(n:Int)).toNat else min v.toNat n
theorem aPb(n d:Nat)(hd:d<=n)(o:Option Int):sIx n d o<=n:=by
 cases o with
 |none=>exact hd
 |some v =>
  show(if v < 0 then(v+(n:Int)).toNat else min v.toNat n)<=n
  by_cases hv:v < 0
  ·rw[aAG hv];lia
  ·rw[aAC hv];exact Nat.min_le_right _ _
theorem aAx(v:Int)(n d:Nat):(if v < 0 then max (v+(n:Int)) 0 else min v (n:Int))=((sIx n d (some v):Nat):Int):=by
 show(if v < 0 then max (v+(n:Int)) 0 else min v (n:Int))=(((if v < 0 then(v+(n:Int)).toNat else min v.toNat n):Nat):Int)
 by_cases hv:v < 0
 ·simp only[aAG hv];lia
 ·simp only[aAC hv];lia
theorem zG(lo hi:Option Int)(n:Nat):Builtin.Slice.sliceAdjust lo hi 1 (n:Int)=(((sIx n 0 lo:Nat):Int),((sIx n n hi:Nat):Int)):=by
 have h1:¬((1:Int) < 0):=by lia
 unfold Builtin.Slice.sliceAdjust
 simp only[h1,aCG]
 refine Prod.ext ?_ ?_
 ·cases lo with
  |none=>rfl
  |some v=>exact aAx v n 0
 ·cases hi with
  |none=>rfl
  |some v=>exact aAx v n n
theorem yQ(i j:Nat):Builtin.Slice.slicePlaces (i:Int) (j:Int) 1=j - i:=by
 unfold Builtin.Slice.slicePlaces
 have h1:(1:Int) > 0:=by lia
 simp only[h1,aBT,Int.ediv_one]
 split <;> lia
theorem qR{v:Value}{o:Option Int}{Q:Option Int->Shared->Prop}(p:IsPart v o)(h:Q o s):wpAny (model prog w) A (Builtin.Slice.slicePartIndex v) Q E s:=by
 cases p with
 |none=>exact slicePart_none h
 |int i t=>exact slicePart_int h
variable{sl:Addr}
theorem iY{vl vu:Value}{lo:Option Int}{n:Nat}{Q:Int×Int×Nat->Shared->Prop}(hs:s.heap.IsSliceOf sl vl vu .none)(pl:IsPart vl lo)(pu:IsPart vu hi)
  (h:Q (((sIx n 0 lo:Nat):Int),1,sIx n n hi - sIx n 0 lo) s):wpAny (model prog w) A (Builtin.Slice.sliceApplied (.ref sl) (pure (n:Int))) Q E s:=by
 obtain⟨os,hos,hcs,hds⟩:=id hs
 unfold Builtin.Slice.sliceApplied Builtin.Slice.sliceFields
 refine aAB (aAB (aBD hos hds (x:=vl) rfl (aAB (aBD hos hds (x:=vu) rfl (aAB (aBD hos hds (x:=.none) rfl (aAF ?_)))))))
 refine aAB (slicePart_none ?_)
 show wpAny _ _ (if((1:Int)==0)=true then _ else _) _ _ s
 rw[aAC (by decide)]
 refine aAB (qR pl (aAB (qR pu (aAB (aAF ?_)))))
 show wpAny _ _ (match Builtin.Slice.sliceAdjust lo hi 1 (n:Int)with|(lo,hi)=>pure (lo,(1:Int),Builtin.Slice.slicePlaces lo hi 1)) _ _ s
 rw[zG lo hi n]
 show wpAny _ _ (pure (((sIx n 0 lo:Nat):Int),(1:Int),Builtin.Slice.slicePlaces ((sIx n 0 lo:Nat):Int) ((sIx n n hi:Nat):Int) 1)) _ _ s
 rw[yQ]
 exact aAF h
theorem aIg(xs:Array Value)(i k:Nat):((List.range k).filterMap λ(m:Nat)=>xs[((i:Int)+(m:Int)*1).toNat]?).toArray=((xs.toList.drop i).take k).toArray:=by
 have e:(λ(m:Nat)=>xs[((i:Int)+(m:Int)*1).toNat]?)=λm=>xs[i+m]?:=by
  funext m
  have:((i:Int)+(m:Int)*1).toNat=i+m:=by lia
  rw[this]
 rw[e]
 have:=pick_run xs i k
 rw[List.filterMap_map]at this
 have e2:((λx=>xs[x]?) ∘ λx=>i+x)=λm=>xs[i+m]?:=rfl
 rw[e2]at this
 rw[this]
theorem getItem_tuple_cut{t:Addr}{vl vu:Value}{lo:Option Int}(ht:IsTup s.heap t items)(hs:s.heap.IsSliceOf sl vl vu .none)(pl:IsPart vl lo)(pu:IsPart vu hi)
  (hw:¬(sIx items.size 0 lo=0/\sIx items.size items.size hi=items.size))
  (h:Q (.ref s.heap.objs.size) {s with heap:=s.heap.push {cls:=.type "tuple",data:=.seq ((items.toList.drop (sIx items.size 0 lo)).take (sIx items.size items.size hi - sIx items.size 0 lo)).toArray}})
  (hsz:items.size<=sizeLine):wpAny (model prog w) A (getItem (.ref t) (.ref sl)) Q E s:=by
 have htake:sizeOk (.seq ((items.toList.drop (sIx items.size 0 lo)).take (sIx items.size items.size hi - sIx items.size 0 lo)).toArray):=by
  show((items.toList.drop (sIx items.size 0 lo)).take (sIx items.size items.size hi - sIx items.size 0 lo)).toArray.size<=sizeLine
  rw[aAI,aFN,List.length_drop,aDH]
  lia
 have hj:sIx items.size items.size hi<=items.size:=aPb _ _ (aAH _) hi
 obtain⟨os,hos,hcs,hds⟩:=id hs
 have hTs:s.TypeIs (.ref sl) "slice":=⟨os,hos,hcs⟩
 unfold getItem
 try with_reducible refine aBN ?_
 first|refine aAB (aAF ?_)|skip
 refine aAB (wpAny_sequenceKey ht.typeIs (by decide) ?_)
 refine aAB (aBU (name:=Str.ofString "__getitem__") ht.typeIs aCI
  (aBW aCI ht.typeIs entry_tuple_getitem ?_ (args_tuple_getitem _ _)))
 show wpAny _ _ (Builtin.Tuple.tupleItemsOf (.ref t) >>= _) _ _ s
 refine aAB (tupleItemsOf_ ht ?_)
 refine aAB (aGG hTs ?_)
 rw[aAG (by decide)]
 refine aAB (iY hs pl pu ?_)
 have hno:¬((((sIx items.size 0 lo:Nat):Int)==0&&(1:Int)==1&&(sIx items.size items.size hi - sIx items.size 0 lo)==items.size)=true):=by
  intro q
  rw[aCV,aCV]at q
  have q1:((sIx items.size 0 lo:Nat):Int)=0:=eq_of_beq q.1.1
  have q2:sIx items.size items.size hi - sIx items.size 0 lo=items.size:=eq_of_beq q.2
  exact hw ⟨by lia,by lia⟩
 show wpAny _ _ (if(((sIx items.size 0 lo:Nat):Int)==0&&(1:Int)==1&&(sIx items.size items.size hi - sIx items.size 0 lo)==items.size)=true then _ else _) _ _ s
 rw[aAC hno,aIg]
 first
  |exact aAB (m:=Builtin.Tuple.tupleExact _) (aBY (aAF ⟨_,rfl,aAF h⟩) htake)
  |exact aAB (m:=Builtin.Tuple.tupleExact _) (aBY (aAB (aAF (aAF ⟨_,rfl,aAF h⟩))) htake)
  |exact aAB (aAB (m:=Builtin.Tuple.tupleExact _) (aBY (aAF (aAF ⟨_,rfl,aAF h⟩)) htake))
  |exact aAB (aAB (m:=Builtin.Tuple.tupleExact _) (aBY (aAF ⟨_,rfl,aAF h⟩) htake))
end HT
section
open PySem PySem.Spec PyProof.Rows
namespace L2
noncomputable abbrev TO:=St->Hp->(Option Int->Hp->Prop)->Prop
noncomputable def PO(X:Cx)(e:Option Expr)(t:TO):Prop :=
 ∀(pins:List (Addr×Obj)) (s:Shared) (σ:St) (H:Hp) (Q:Option Int->Hp->Prop),Inv X pins σ H s->t σ H Q ->
  wpAny (model X.prog X.w) X.A (evalPart e X.env) (λu s'=>∃o H',Inv X pins σ H' s'/\IsPart u o/\Q o H') X.xe s
noncomputable def tNoPart:TO:=λ_ H Q=>Q none H
noncomputable def tPart(t:TE):TO:=λσ H Q=>t σ H λx H1=>∃i,x=.int i/\Q (some i) H1
variable{e:Expr}{lo hi:Option Expr}{tl th:TO}
theorem aKw:PO X none tNoPart:=by
 intro pins s σ H Q I h
 rw[evalPart_none]
 exact aAF ⟨none,H,I,.none,h⟩
theorem aKu(h:PE X e te):PO X (some e) (tPart te):=by
 intro pins s σ H Q I hw
 rw[evalPart_some]
 refine thn (h pins s σ H _ I hw) λu s1 ⟨x,H1,I1,r1,q1⟩=>?_
 obtain⟨i,rfl,q⟩:=q1
 obtain⟨t,rfl⟩:=r1
 exact⟨some i,H1,I1,.int i t,q⟩
noncomputable def SlR(X:Cx)(r:V->Option Int->Option Int->Hp->VK->Prop):Prop :=
 ∀(pins:List (Addr×Obj)) (s:Shared) (σ:St) (H:Hp) (x:V) (v vl vu:Value) (lo hi:Option Int) (sl:Addr) (Q:VK),Inv X pins σ H s->RelV x v->s.heap.IsSliceOf sl vl vu .none->IsPart vl lo->IsPart vu hi->r x lo hi H Q ->
  ∃T id,typeLookup (.type T) "__getitem__"=pure (some (.builtin id))/\s.TypeIs v T/\wpAny (model X.prog X.w) X.A (getItem v (.ref sl)) (EP X pins σ Q) X.xe s
theorem SlR.or{r':V->Option Int->Option Int->Hp->VK->Prop}(h:SlR X r)(h':SlR X r'):SlR X (λx lo hi H Q=>r x lo hi H Q\/r' x lo hi H Q):=by
 intro pins s σ H x v vl vu lo hi sl Q I rx hs pl pu q
 rcases q with q|q
 ·exact h pins s σ H x v vl vu lo hi sl Q I rx hs pl pu q
 ·exact h' pins s σ H x v vl vu lo hi sl Q I rx hs pl pu q
noncomputable def tSl(r:V->Option Int->Option Int->Hp->VK->Prop)(te:TE)(tl th:TO):TE:=λσ H Q=>te σ H λx H1=>tl σ H1 λl H2=>th σ H2 λu H3=>r x l u H3 Q
theorem aFo(hr:SlR X r)(he:PE X e te)(hl:PO X lo tl)(hu:PO X hi th):PE X (.Subscript e (.Slice lo hi none p2) pos) (tSl r te tl th):=by
 intro pins s σ H Q I h
 refine Subscript_ (thn (he pins s σ H _ I h) λv s1 ⟨x,H1,I1,r1,q1⟩=>?_)
 refine wpAny_Slice (thn (hl pins s1 σ H1 _ I1 q1) λvl s2 ⟨l,H2,I2,pl,q2⟩=>thn (hu pins s2 σ H2 _ I2 q2) λvu s3 ⟨u,H3,I3,pu,q3⟩=>?_)
 rw[evalPart_none]
 refine aAF ?_
 have I4:Inv X pins σ H3 {s3 with heap:=s3.heap.push {cls:=.type "slice",data:=.fields #[vl,vu,.none]}}:=I3.kept (t':=s3.toks) λb ob q=>aAA _ q
 obtain⟨T,id,hT,ht,hg⟩:=hr pins {s3 with heap:=s3.heap.push {cls:=.type "slice",data:=.fields #[vl,vu,.none]}} σ H3 x v vl vu l u s3.heap.objs.size Q I4 r1 (Heap.IsSliceOf.new ..) pl pu q3
 show wpAny (model X.prog X.w) X.A (subscriptTail e (.Slice lo hi none p2) v (.ref s3.heap.objs.size)) (EP X pins σ Q) X.xe {s3 with heap:=s3.heap.push {cls:=.type "slice",data:=.fields #[vl,vu,.none]}}
 exact tail_any (ops:=[.ref s3.heap.objs.size,v]) ht hT hg (by with_unfolding_all rfl)
noncomputable def cutV(xs:List V)(lo hi:Option Int):List V:=(xs.drop (HT.sIx xs.length 0 lo)).take (HT.sIx xs.length xs.length hi - HT.sIx xs.length 0 lo)
theorem oW(xs:List V)(lo hi:Option Int):(cutV xs lo hi).length<=xs.length:=by
 unfold cutV
 rw[aFN,List.length_drop]
 lia
noncomputable def rSlT(K:Frag):V->Option Int->Option Int->Hp->VK->Prop:=λx lo hi H Q=>∃a xs,x=.ref a/\SqT K H a xs /\
 ¬(HT.sIx xs.length 0 lo=0/\HT.sIx xs.length xs.length hi=xs.length)/\∀p,H p=none->Q (.ref p) (upd H p (.tup (cutV xs lo hi)))
theorem aMm:SlR X (rSlT X.K):=by
 intro pins s σ H x v vl vu lo hi sl Q I rx hs pl pu h
 obtain⟨a,xs,rfl,hx,hw,q⟩:=h
 cases rx
 obtain⟨its,r,ht,hz⟩:=I.tuple hx
 have hlen:its.toArray.size=xs.length:=by rw[aAI];exact r.length.symm
 refine⟨"tuple",_,aCI.lookup,ht.typeIs,?_⟩
 refine HT.getItem_tuple_cut ht hs pl pu (by rw[hlen];exact hw) ?_ (by rw[hlen];exact hz)
 rw[hlen]
 refine⟨.ref s.heap.objs.size,_,I.laid (t':=s.toks) (o:=.tup (cutV xs lo hi)) (λb ob q=>aAA _ q) (aAH _) ?_,rfl,q _ (I.hok.fresh (aAH _))⟩
 exact⟨aBF (oW xs lo hi) hz,_,(r.drop (HT.sIx xs.length 0 lo)).take (HT.sIx xs.length xs.length hi - HT.sIx xs.length 0 lo),IsTup.new _ _⟩
noncomputable def rCatT(K:Frag):R2:=λx y H Q=>∃a b xs ys,x=.ref a/\y=.ref b/\SqT K H a xs/\SqT K H b ys/\xs≠[]/\xs.length+ys.length<=sizeLine /\
 (ys=[]->Q (.ref a) H)/\(ys≠[]->∀p,H p=none->Q (.ref p) (upd H p (.tup (xs++ys))))
variable{xs:List V}
theorem Vals.nil_iff(r:Vals xs us):us=[] ↔ xs=[]:=by
 cases r with
 |nil=>simp
 |cons _ _=>simp
theorem aJa:OpR X (binaryOp .Add) (rCatT X.K):=by
 intro pins s σ H x y v u Q I rx ry h
 obtain⟨a,b,xs,ys,rfl,rfl,ha,hb,hx,hz,q1,q2⟩:=h
 cases rx
 cases ry
 obtain⟨its,r1,p1,_⟩:=I.tuple ha
 obtain⟨its2,r2,p2,_⟩:=I.tuple hb
 refine HT.cat_tup p1 p2 (λz=>hx (r1.nil_iff.mp z)) (λz=>⟨.ref a,H,I,rfl,q1 (r2.nil_iff.mp z)⟩) (λz=>?_) (by rw[<- r1.length,<- r2.length];exact hz)
 refine⟨.ref s.heap.objs.size,_,I.laid (t':=s.toks) (o:=.tup (xs++ys)) (λb ob q=>aAA _ q) (aAH _) ?_,rfl,q2 (λw=>z (r2.nil_iff.mpr w)) _ (I.hok.fresh (aAH _))⟩
 exact⟨by rw[aAX];exact hz,_,r1.append r2,IsTup.new _ _⟩
noncomputable def ixN(n:Nat)(i:Int):Option Nat:=if 0<=i then(if i < n then some i.toNat else none)else if -(n:Int)<=i then some (i+n).toNat else none
noncomputable def atI(xs:List α)(i:Int):Option α:=(ixN xs.length i).bind λj=>xs[j]?
variable{n:Nat}{i:Int}
theorem aCa(h:ixN n i=some j):seqIndex? i n=some j/\j < n /\ -(n:Int)<=i/\i < n:=by
 unfold ixN at h
 by_cases h0:0<=i
 ·rw[aAG h0]at h
  by_cases h1:i < n
  ·rw[aAG h1]at h
   have e:i.toNat=j:=Option.some.inj h
   exact⟨by rw[seqIndex_of h0 h1,e],by lia,by lia,h1⟩
  ·rw[aAC h1]at h;cases h
 ·rw[aAC h0]at h
  by_cases h1 : -(n:Int)<=i
  ·rw[aAG h1]at h
   have e:(i+n).toNat=j:=Option.some.inj h
   exact⟨by rw[seqIndex_neg (by lia) h1,e],by lia,h1,by lia⟩
  ·rw[aAC h1]at h;cases h
theorem uX{xs:List α}{v:α}(h:atI xs i=some v):∃j,seqIndex? i xs.length=some j/\xs[j]?=some v/\j < xs.length /\ -(xs.length:Int)<=i/\i < xs.length:=by
 unfold atI at h
 cases e:ixN xs.length i with
 |none=>rw[e]at h;cases h
 |some j =>
  rw[e]at h
  obtain⟨h1,h2,h3,h4⟩:=aCa e
  exact⟨j,h1,h,h2,h3,h4⟩
noncomputable def PlainIx(b:Expr):Prop:=∀o i,subscripted b false o i=operate [o,i] (getItem o i)
noncomputable def IxR(X:Cx)(r:R2):Prop :=
 ∀(value slice:Expr) (pins:List (Addr×Obj)) (s:Shared) (σ:St) (H:Hp) (x y:V) (v u:Value) (Q:VK),Inv X pins σ H s->RelV x v->RelV y u->r x y H Q ->
  subscripted slice false v u=operate [v,u] (getItem v u)->wpAny (model X.prog X.w) X.A (subscriptTail value slice v u) (EP X pins σ Q) X.xe s
noncomputable def MtR(X:Cx)(id:String)(r:V->List V->Hp->VK->Prop):Prop :=
 ∀(pins:List (Addr×Obj)) (s:Shared) (σ:St) (H:Hp) (x:V) (xs:List V) (v:Value) (us:List Value) (Q:VK),Inv X pins σ H s->RelV x v->Vals xs us->r x xs H Q ->
  wpAny (model X.prog X.w) X.A (call (.builtin id) (v::us)) (EP X pins σ Q) X.xe s
variable{a b:Expr}{r:R2}
theorem IxR.or{r':R2}(h:IxR X r)(h':IxR X r'):IxR X (λx y H Q=>r x y H Q\/r' x y H Q):=by
 intro value slice pins s σ H x y v u Q I rx ry q hs
 rcases q with q|q
 ·exact h value slice pins s σ H x y v u Q I rx ry q hs
 ·exact h' value slice pins s σ H x y v u Q I rx ry q hs
theorem aPs(hr:IxR X r)(ha:PE X a ta)(hb:PE X b tb)(hs:PlainIx b):PE X (.Subscript a b pos) (tOp r ta tb):=by
 intro pins s σ H Q I h
 exact Subscript_ (binT ha hb I h λv u s2 x y H2 I2 rx ry q=>hr a b pins s2 σ H2 x y v u Q I2 rx ry q (hs _ _))
noncomputable def rIxL(K:Frag):R2:=λx y H Q=>∃p xs i v,x=.ref p/\y=.int i/\SqL K H p xs/\atI xs i=some v/\Q v H
noncomputable def rIxT(K:Frag):R2:=λx y H Q=>∃p xs i v,x=.ref p/\y=.int i/\SqT K H p xs/\atI xs i=some v/\Q v H
noncomputable def rIxS:R2:=λx y H Q=>∃z i c,x=.str z/\y=.int i/\z.length<=sizeLine/\atI z.cps.toList i=some c/\Q (.str ⟨#[c]⟩) H
theorem aKr:IxR X (rIxL X.K):=by
 intro value slice pins s σ H x y v u Q I rx ry h hs
 obtain⟨p,xs,i,z,rfl,rfl,hq,he,q⟩:=h
 cases rx
 obtain⟨t,rfl⟩:=ry
 obtain⟨its,r,pl,hz⟩:=I.list hq
 obtain⟨j,h1,h2,h3,h4,h5⟩:=uX he
 obtain⟨w,ew,rw'⟩:=r.get h2
 have hl:=r.length
 have hn:=line63
 have fin:EP X pins σ Q w s:=⟨z,H,I,rw',q⟩
 by_cases h0:0<=i
 ·have hj:i.toNat=j:=by
   rw[seqIndex_of h0 h5]at h1
   exact Option.some.inj h1
  exact item_listR pl.isList h0 (by lia) (by rw[hj];simpa using ew) fin hs
 ·have hj:(i+(its.toArray.size:Int)).toNat=j:=by
   rw[seqIndex_neg (by lia) h4]at h1
   rw[aAI,<- hl]
   exact Option.some.inj h1
  exact subscriptTail_builtinR (x:=w) pl.isList.typeIs slot_list_getitem.lookup
   (wpAny_getItem_list_neg (Q:=λr s'=>r=w/\EP X pins σ Q r s') pl.isList (by lia) (by rw[aAI] <;> lia) (by lia) (by rw[hj];simpa using ew) ⟨rfl,fin⟩) hs
theorem aNy:IxR X (rIxT X.K):=by
 intro value slice pins s σ H x y v u Q I rx ry h hs
 obtain⟨p,xs,i,z,rfl,rfl,hq,he,q⟩:=h
 cases rx
 obtain⟨t,rfl⟩:=ry
 obtain⟨its,r,pl,hz⟩:=I.tuple hq
 obtain⟨j,h1,h2,h3,h4,h5⟩:=uX he
 obtain⟨w,ew,rw'⟩:=r.get h2
 have hl:=r.length
 have hn:=line63
 have fin:EP X pins σ Q w s:=⟨z,H,I,rw',q⟩
 exact subscriptTail_builtinR (x:=w) pl.typeIs slot_tuple_getitem.lookup
  (getItem_tuple (j:=j) (Q:=λr s'=>r=w/\EP X pins σ Q r s') pl (by lia) (by lia) (by rw[aAI,<- hl];exact h1) (by simpa using ew) ⟨rfl,fin⟩) hs
theorem aOd:IxR X rIxS:=by
 intro value slice pins s σ H x y v u Q I rx ry h hs
 obtain⟨z,i,c,rfl,rfl,hz,he,q⟩:=h
 obtain⟨t,rfl⟩:=rx
 obtain⟨t',rfl⟩:=ry
 obtain⟨j,h1,h2,h3,h4,h5⟩:=uX he
 have hl:z.cps.toList.length=z.length:=by simp[Str.length]
 rw[hl]at h1 h4 h5
 have hn:=line63
 exact tail_any (typeIs_str s z t) slot_str_getitem.lookup (getItem_str (c:=c) (by
  have e1:decide (i < -(2 ^ 63:Int))=false:=aCB (by lia)
  have e2:decide (i>=2 ^ 63)=false:=aCB (by lia)
  rw[e1,e2,Bool.or_false]) (by rw[h1];simpa using h2) ⟨.str ⟨#[c]⟩,H,I.tok _,⟨_,rfl⟩,q⟩) hs
noncomputable def rIx(K:Frag):R2:=λx y H Q=>rIxL K x y H Q\/rIxT K x y H Q\/rIxS x y H Q
theorem aMn:IxR X (rIx X.K):=aKr.or (aNy.or aOd)
theorem yZ(its:List Value)(n j:Nat)(u:Value):Obj.mapSeq (·.setIfInBounds j u) {cls:=.type "list",data:=.seq its.toArray n}={cls:=.type "list",data:=.seq (its.set j u).toArray n}:=by
 simp[Obj.mapSeq]
theorem Inv.lst{pins:List (Addr×Obj)}{σ:St}{H:Hp}{s:Shared}{p:Addr}{xs:List V}(I:Inv X pins σ H s)(h:H p=some (.lst xs)) :
  ∃(its:List Value) (n:Nat),Vals xs its/\s.heap.get? p=some {cls:=.type "list",data:=.seq its.toArray n}/\xs.length<=sizeLine:=by
 obtain⟨z,its,n,r,e⟩:=I.hok p _ h
 exact⟨its,n,r,e,z⟩
variable{σ:St}
theorem Inv.lstUpd{p:Addr}{ys:List V}{its':List Value}{n':Nat}{f:Obj->Obj}(I:Inv X pins σ H s)(h:H p=some (.lst xs))
  (ho:s.heap.get? p=some {cls:=.type "list",data:=.seq its.toArray n})(hf:f {cls:=.type "list",data:=.seq its.toArray n}={cls:=.type "list",data:=.seq its'.toArray n'})(r:Vals ys its')(hz:ys.length<=sizeLine)(t:Nat) :
  Inv X pins σ (upd H p (.lst ys)) {s with heap:=s.heap.update p f,toks:=t}:=by
 have e:(s.heap.update p f).get? p=some {cls:=.type "list",data:=.seq its'.toArray n'}:=by
  rw[aEM f ho (by rw[hf] <;> rfl),hf]
 refine I.write (x:=p) (e:=p) (by rw[h];trivial) (.inl rfl) (λb u hb q=>(Heap.get?_update_other _ _ (Ne.symm hb)).trans q) ⟨_,e⟩ ?_
 exact⟨hz,its',n',r,e⟩
noncomputable def rSetL:V->V->V->Hp->(Hp->Prop)->Prop:=λo i v H Q=>∃p xs k j,o=.ref p/\i=.int k/\H p=some (.lst xs)/\ixN xs.length k=some j/\Q (upd H p (.lst (xs.set j v)))
theorem xT:PSet X rSetL:=by
 intro pins s σ H o i v ov iv u Q I ro ri rv h
 obtain⟨p,xs,k,j,rfl,rfl,hp,hj,q⟩:=h
 cases ro
 obtain⟨t,rfl⟩:=ri
 obtain⟨its,n,r,ho,hz⟩:=I.lst hp
 obtain⟨h1,h2,h3,h4⟩:=aCa hj
 have hl:=r.length
 have hn:=line63
 have I':Inv X pins σ (upd H p (.lst (xs.set j v))) {s with heap:=s.heap.update p (Obj.mapSeq (·.setIfInBounds j u))} :=
  I.lstUpd hp ho (yZ its n j u) (r.set rv j) (by rw[aEF];exact hz) s.toks
 by_cases h0:0<=k
 ·have hk:k.toNat=j:=by
   rw[seqIndex_of h0 h4]at h1
   exact Option.some.inj h1
  exact PySem.W.ki_setAt ho h0 (by lia) (by rw[aAI,<- hl];exact h4) (by rw[hk];exact⟨_,I',q⟩)
 ·have hk:(k+(its.toArray.size:Int)).toNat=j:=by
   rw[seqIndex_neg (by lia) h3]at h1
   rw[aAI,<- hl]
   exact Option.some.inj h1
  exact PySem.W.ki_setBack ho (by lia) (by rw[aAI,<- hl];exact h3) (by lia) (by rw[hk];exact⟨_,I',q⟩)
theorem vY(lo hi:Option Int)(n:Nat):(sliceBounds lo hi none n).1=((HT.sIx n 0 lo:Nat):Int)/\(sliceBounds lo hi none n).2.1=((HT.sIx n n hi:Nat):Int)/\(sliceBounds lo hi none n).2.2=1:=by
 refine⟨?_,?_,rfl⟩
 ·cases lo with
  |none=>simp[sliceBounds,HT.sIx]
  |some i =>
   simp only[sliceBounds,HT.sIx,Option.getD_none,show(1:Int) > 0 by decide,aBT]
   by_cases h:i < 0
   ·simp only[h,aBT] <;> lia
   ·simp only[h,aCG] <;> lia
 ·cases hi with
  |none=>simp[sliceBounds,HT.sIx]
  |some i =>
   simp only[sliceBounds,HT.sIx,Option.getD_none,show(1:Int) > 0 by decide,aBT]
   by_cases h:i < 0
   ·simp only[h,aBT] <;> lia
   ·simp only[h,aCG] <;> lia
theorem sM(its:List Value)(lo hi:Option Int):slicePick its.toArray lo hi none=((its.drop (HT.sIx its.length 0 lo)).take (HT.sIx its.length its.length hi - HT.sIx its.length 0 lo)).toArray:=by
 obtain⟨h1,h2,h3⟩:=vY lo hi its.toArray.size
 unfold slicePick
 rw[h1,h2,h3]
 simp only[sliceRange_one,pick_run,aAI] <;> rfl
noncomputable def rSlL(K:Frag):V->Option Int->Option Int->Hp->VK->Prop:=λx lo hi H Q=>∃a xs,x=.ref a/\SqL K H a xs/\∀p,H p=none->Q (.ref p) (upd H p (.lst (cutV xs lo hi)))
theorem aIv:SlR X (rSlL X.K):=by
 intro pins s σ H x v vl vu lo hi sl Q I rx hs pl pu h
 obtain⟨a,xs,rfl,hx,q⟩:=h
 cases rx
 obtain⟨its,r,ht,hz⟩:=I.list hx
 have hlen:=r.length
 refine⟨"list",_,slot_list_getitem.lookup,ht.isList.typeIs,?_⟩
 refine wpAny_getItem_list_slice ht.isList hs pl pu .none (by simp) ?_ (by rw[aAI] <;> lia)
 rw[sM,<- hlen]
 refine⟨.ref s.heap.objs.size,_,I.laid (t':=s.toks) (o:=.lst (cutV xs lo hi)) (λb ob q=>aAA _ q) (aAH _) ?_,rfl,q _ (I.hok.fresh (aAH _))⟩
 exact⟨aBF (oW xs lo hi) hz,_,0,(r.drop (HT.sIx xs.length 0 lo)).take (HT.sIx xs.length xs.length hi - HT.sIx xs.length 0 lo),aAE _ rfl⟩
noncomputable def flatV:V->Bool
 |.non=>true
 |.bl _=>true
 |.int _=>true
 |.str _=>true
 |_=>false
noncomputable def eqV:V->V->Bool
 |.non,.non=>true
 |.bl a,.bl b=>a==b
 |.bl a,.int b=>(if a then 1 else 0)==b
 |.int a,.bl b=>a==(if b then 1 else 0)
 |.int a,.int b=>a==b
 |.str a,.str b=>a==b
 |_,_=>false
variable{x:V}{v:Value}
theorem aFy{y:V}(ry:RelV y u)(rx:RelV x v)(fy:flatV y=true)(fx:flatV x=true):SeqAt.EqAt A s u v (eqV y x):=by
 cases y with
 |non =>
  cases ry
  cases x with
  |non=>cases rx;exact SeqAt.EqAt.same _
  |bl b=>cases rx;exact SeqAt.EqAt.none_bool b
  |int b=>obtain⟨t,rfl⟩:=rx;exact SeqAt.EqAt.none_int b t
  |str b=>obtain⟨t,rfl⟩:=rx;exact SeqAt.EqAt.none_str b t
  |_=>exact absurd (show false=true from fx) aBH
 |bl a =>
  cases ry
  cases x with
  |non=>cases rx;exact SeqAt.EqAt.bool_none a
  |bl b=>cases rx;exact SeqAt.EqAt.bool_bool a b
  |int b=>obtain⟨t,rfl⟩:=rx;exact SeqAt.EqAt.bool_int a b t
  |str b=>obtain⟨t,rfl⟩:=rx;exact SeqAt.EqAt.bool_str a b t
  |_=>exact absurd (show false=true from fx) aBH
 |int a =>
  obtain⟨t',rfl⟩:=ry
  cases x with
  |non=>cases rx;exact SeqAt.EqAt.int_none a t'
  |bl b=>cases rx;exact SeqAt.EqAt.int_bool a t' b
  |int b=>obtain⟨t,rfl⟩:=rx;exact SeqAt.EqAt.int_int a t' b t
  |str b=>obtain⟨t,rfl⟩:=rx;exact SeqAt.EqAt.int_str a t' b t
  |_=>exact absurd (show false=true from fx) aBH
 |str a =>
  obtain⟨t',rfl⟩:=ry
  cases x with
  |non=>cases rx;exact SeqAt.EqAt.str_none a t'
  |bl b=>cases rx;exact SeqAt.EqAt.str_bool a t' b
  |int b=>obtain⟨t,rfl⟩:=rx;exact SeqAt.EqAt.str_int a t' b t
  |str b=>obtain⟨t,rfl⟩:=rx;exact SeqAt.EqAt.str_str a t' b t
  |_=>exact absurd (show false=true from fx) aBH
 |_=>exact absurd (show false=true from fy) aBH
noncomputable def eqU(x:V)(u:Value):Bool:=match u with
 |.none=>eqV .non x
 |.bool b=>eqV (.bl b) x
 |.int i _=>eqV (.int i) x
 |.str z _=>eqV (.str z) x
 |_=>false
theorem aFd{y:V}(r:RelV y u)(f:flatV y=true):eqU x u=eqV y x:=by
 cases y with
 |non=>cases r;rfl
 |bl b=>cases r;rfl
 |int i=>obtain⟨t,rfl⟩:=r;rfl
 |str z=>obtain⟨t,rfl⟩:=r;rfl
 |_=>exact absurd (show false=true from f) aBH
theorem vF{x:V}:∀{xs:List V} {us:List Value},Vals xs us->xs.all flatV=true->us.any (eqU x)=xs.any λy=>eqV y x
 |_,_,.nil,_=>rfl
 |y::xs,u::us,.cons r t,f=>by
  rw[aET,aCV]at f
  rw[List.any_cons,List.any_cons,aFd r f.1,vF t f.2]
theorem qM{A:Around}{s:Shared}{x:V}{v:Value}(rx:RelV x v)(fx:flatV x=true):∀{xs:List V} {us:List Value},Vals xs us->xs.all flatV=true->∀u∈us,SeqAt.EqAt A s u v (eqU x u)
 |_,_,.nil,_=>λu hu=>by cases hu
 |y::xs,u::us,.cons r t,f=>λu' hu=>by
  rw[aET,aCV]at f
  rcases aAU.mp hu with rfl|hu
  ·rw[aFd r f.1];exact aFy r rx f.1 fx
  ·exact qM rx fx t f.2 u' hu
noncomputable def inV(x:V)(xs:List V):Bool:=xs.any λy=>eqV y x
noncomputable def rIn(K:Frag)(neg:Bool):R2:=λx y H Q=>∃p xs,y=.ref p/\(SqL K H p xs\/SqT K H p xs)/\flatV x=true/\xs.all flatV=true/\Q (.bl (if neg then !inV x xs else inV x xs)) H
theorem aDa:OpR X (compareOp .In) (rIn X.K false):=by
 intro pins s σ H x y v u Q I rx ry h
 obtain⟨p,xs,rfl,hq,fx,fs,q⟩:=h
 cases ry
 rcases hq with hq|hq
 ·obtain⟨its,r,pl,hz⟩:=I.list hq
  refine SeqAt.in_listAt (eqU x) pl.isList (λw hw=>qM rx fx r fs w (by simpa using hw)) ⟨.bl _,H,I,rfl,?_⟩
  rw[show its.toArray.any (eqU x)=its.any (eqU x) by simp,vF r fs]
  exact q
 ·obtain⟨its,r,pl,hz⟩:=I.tuple hq
  refine SeqAt.in_tupleAt (eqU x) pl (λw hw=>qM rx fx r fs w (by simpa using hw)) ⟨.bl _,H,I,rfl,?_⟩
  rw[show its.toArray.any (eqU x)=its.any (eqU x) by simp,vF r fs]
  exact q
theorem uT:CallR X (.builtin "len") (λxs H Q=>∃p ys,xs=[.ref p]/\(SqL X.K H p ys\/SqT X.K H p ys)/\Q (.int ys.length) H):=by
 intro pins s σ H xs us Q I r h
 obtain⟨p,ys,rfl,hq,q⟩:=h
 obtain⟨u,rfl,rx⟩:=vals1 r
 cases rx
 have hn:=line63
 rcases hq with hq|hq
 ·obtain⟨its,r',pl,hz⟩:=I.list hq
  have hlen:=r'.length
  exact Calls.call_len_list pl.isList (by simp only[aAI] <;> lia) ⟨.int ys.length,H,I.tok _,⟨s.toks+1,by rw[aAI,hlen]⟩,q⟩
 ·obtain⟨its,r',pl,hz⟩:=I.tuple hq
  have hlen:=r'.length
  exact len_tuple pl (by simp only[aAI] <;> lia) ⟨.int ys.length,H,I.tok _,⟨s.toks+1,by rw[aAI,hlen]⟩,q⟩
theorem vA:CallR X (.builtin "len") (λxs H Q=>∃z,xs=[.str z]/\z.length<=sizeLine/\Q (.int z.length) H):=by
 intro pins s σ H xs us Q I r h
 obtain⟨z,rfl,hz,q⟩:=h
 obtain⟨u,rfl,t,rfl⟩:=vals1 r
 have hn:=line63
 exact len_str (by lia) ⟨.int z.length,H,I.tok _,⟨_,rfl⟩,q⟩
theorem CallR.or{f:Value}{r r':List V->Hp->VK->Prop}(h:CallR X f r)(h':CallR X f r'):CallR X f (λxs H Q=>r xs H Q\/r' xs H Q):=by
 intro pins s σ H xs us Q I rs q
 rcases q with q|q
 ·exact h pins s σ H xs us Q I rs q
 ·exact h' pins s σ H xs us Q I rs q
theorem wB:CallR X (.type "list") (λxs H Q=>∃p ys,xs=[.ref p]/\(SqL X.K H p ys\/SqT X.K H p ys)/\∀l,H l=none->Q (.ref l) (upd H l (.lst ys))):=by
 intro pins s σ H xs us Q I r h
 obtain⟨p,ys,rfl,hq,q⟩:=h
 obtain⟨u,rfl,rx⟩:=vals1 r
 cases rx
 have fin:∀(its:List Value),Vals ys its->ys.length<=sizeLine->∀(h':Heap) (c':Nat),(∀b o',s.heap.get? b=some o'->h'.get? b=some o') ->
   h'.get? s.heap.objs.size=some {cls:=.type "list",dict:=none,data:=.seq its.toArray c',slots:=#[]}->EP X pins σ Q (.ref s.heap.objs.size) {s with heap:=h'}:=λits r' hz h' c' kp e =>
  ⟨.ref s.heap.objs.size,_,I.laid (t':=s.toks) kp (aAH _) (show ObjOk X.prog X.w _ h' _ (.lst ys)from⟨hz,its,c',r',e⟩),rfl,q _ (I.hok.fresh (aAH _))⟩
 rcases hq with hq|hq
 ·obtain⟨its,r',pl,hz⟩:=I.list hq
  have hlen:=r'.length
  obtain⟨o,ho,hc,n,hd⟩:=pl.isList
  exact call_list_seq p (.inl rfl) ho hc hd (λh' c' kp e=>fin its r' hz h' c' kp e) (by simp only[aAI] <;> lia)
 ·obtain⟨its,r',pl,hz⟩:=I.tuple hq
  have hlen:=r'.length
  obtain⟨o,ho,hc,n,hd⟩:=pl
  exact call_list_seq p (.inr rfl) ho hc hd (λh' c' kp e=>fin its r' hz h' c' kp e) (by simp only[aAI] <;> lia)
theorem sP:CallR X (.type "tuple") (λxs H Q=>∃p ys,xs=[.ref p]/\((SqL X.K H p ys/\∀l,H l=none->Q (.ref l) (upd H l (.tup ys)))\/(SqT X.K H p ys/\Q (.ref p) H))):=by
 intro pins s σ H xs us Q I r h
 obtain⟨p,ys,rfl,h⟩:=h
 obtain⟨u,rfl,rx⟩:=vals1 r
 cases rx
 rcases h with⟨hq,q⟩|⟨hq,q⟩
 ·obtain⟨its,r',pl,hz⟩:=I.list hq
  have hlen:=r'.length
  refine call_tuple_list pl.isList (λh' kp=>?_) (by simp only[aAI] <;> lia)
  have I1:Inv X pins σ H {s with heap:=h'}:=I.kept (t':=s.toks) kp
  have I2:Inv X pins σ (upd H h'.objs.size (.tup ys)) {s with heap:=h'.push {cls:=.type "tuple",data:=.seq its.toArray}} :=
   I1.laid (t':=s.toks) (λb o e=>aAA _ e) (aAH _) (show ObjOk X.prog X.w _ _ _ (.tup ys)from⟨hz,its,r',IsTup.new _ _⟩)
  exact⟨.ref h'.objs.size,_,I2,rfl,q _ (I1.hok.fresh (aAH _))⟩
 ·obtain⟨its,r',pl,hz⟩:=I.tuple hq
  exact call_tuple_same pl ⟨.ref p,H,I,rfl,q⟩
noncomputable def tyV(K:Frag)(T:String)(x:V)(H:Hp):Prop:=match x with
 |.str _=>T="str"
 |.int _=>T="int"
 |.ref p=>(T="list"/\∃xs,SqL K H p xs)\/(T="tuple"/\∃o,K.lookup p=some o/\o.cls=.type "tuple"/\o.dict=none) \/
   (T="dict"/\((∃kvs,H p=some (.dK kvs))\/∃kvs,H p=some (.dT kvs)))\/(T="set"/\∃S n,H p=some (.set S n))
 |_=>False
variable{T:String}
theorem aHq(I:Inv X pins σ H s)(r:RelV x v)(ty:tyV X.K T x H) :
  s.TypeIs v T/\∀a,v=.ref a->∃ob,s.heap.get? a=some ob/\ob.dict=none:=by
 cases x with
 |str z =>
  obtain⟨t,rfl⟩:=r
  cases(show T="str"from ty)
  exact⟨typeIs_str s z t,λ_ e=>nomatch e⟩
 |int i =>
  obtain⟨t,rfl⟩:=r
  cases(show T="int"from ty)
  exact⟨aGW s i t,λ_ e=>nomatch e⟩
 |ref p =>
  cases r
  rcases ty with⟨rfl,xs,hq⟩|⟨rfl,o,hk,hc,hd⟩|⟨rfl,hk⟩|⟨rfl,S,n,hk⟩
  ·obtain⟨its,_,pl,_⟩:=I.list hq
   refine⟨pl.isList.typeIs,λa e=>?_⟩
   cases e
   obtain⟨o,n,e,c,hd,_⟩:=pl
   exact⟨o,e,hd⟩
  ·refine⟨⟨o,I.kIn p o hk,hc⟩,λa e=>?_⟩
   cases e
   exact⟨o,I.kIn _ o hk,hd⟩
  ·have z:∃o,s.heap.get? p=some o/\o.ExactDict:=by
    rcases hk with⟨kvs,hk⟩|⟨kvs,hk⟩
    ·obtain⟨_,_,_,_,o,_,_,e,ex,_⟩:=I.hok p _ hk
     exact⟨o,e,ex⟩
    ·obtain⟨_,_,_,_,o,_,_,e,ex,_⟩:=I.hok p _ hk
     exact⟨o,e,ex⟩
   obtain⟨o,e,ex⟩:=z
   refine⟨⟨o,e,ex.1⟩,λa e2=>?_⟩
   cases e2
   exact⟨o,e,ex.2.1⟩
  ·obtain⟨o,_,_,_,e,ex,_⟩:=I.hok p _ hk
   refine⟨⟨o,e,ex.1⟩,λa e2=>?_⟩
   cases e2
   exact⟨o,e,ex.2.1⟩
 |_=>exact False.elim ty
noncomputable def tBM0(K:Frag)(T:String)(r:V->List V->Hp->VK->Prop)(to:TE):TE:=λσ H Q=>to σ H λx H1=>tyV K T x H1/\r x [] H1 Q
noncomputable def tBM(K:Frag)(T:String)(r:V->List V->Hp->VK->Prop)(to:TE)(t:TA):TE:=λσ H Q=>to σ H λx H1=>tyV K T x H1/\t σ H1 λxs H2=>r x xs H2 Q
variable{o:Expr}{es:List Expr}{t:TA}{cpos:Pos}{id:String}{r:V->List V->Hp->VK->Prop}
theorem aOq(pa:PlainAttrs T)(slot:Slot T name id)(hty:typeOf (.builtin id)=pure (.type "method_descriptor"))(hm:MtR X id r)(ho:PE X o to)
  (hbase:attributeBase o name X.env (eval o X.env)=eval o X.env:=by rfl)(hline:(apos.endLine==cpos.line)=true:=by rfl):PE X (.Call (.Attribute o name apos) [] [] cpos) (tBM0 X.K T r to):=by
 intro pins s σ H Q I h
 refine wpAny_Call_method0_late hbase hline (thn (ho pins s σ H _ I h) λv s1 ⟨x,H1,I1,r1,ty,q1⟩=>?_)
 obtain⟨h1,h2⟩:=aHq I1 r1 ty
 exact⟨T,id,pa,slot,hty,h1,h2,Calls.callWith_builtin rfl (PySem.evalArgs_none (hm pins s1 σ H1 x [] v [] Q I1 r1 .nil q1))⟩
theorem aPy(pa:PlainAttrs T)(slot:Slot T name id)(hty:typeOf (.builtin id)=pure (.type "method_descriptor"))(hm:MtR X id r)(ho:PE X o to)(ha:PA X (e::es) t)
  (hbase:attributeBase o name X.env (eval o X.env)=eval o X.env:=by rfl)
  (hfew:((backTo cpos (starEach (e::es) X.env)).all (λx=>!x.1)&&(backToKw cpos (keywordEach [] X.env)).all (λx=>x.1.isSome)
   && decide ((e::es).length+([]:List Keyword).length+(if([]:List Keyword).isEmpty then 0 else 1) < 30))=true:=by rfl)
  (hline:(apos.endLine==cpos.line)=true:=by rfl)(hs:starEach (e::es) X.env=(false,eval e X.env)::starEach es X.env:=by rfl)(hplain:(backTo cpos (starEach es X.env)).any (·.1)=false:=by rfl) :
  PE X (.Call (.Attribute o name apos) (e::es) [] cpos) (tBM X.K T r to t):=by
 intro pins s σ H Q I h
 refine wpAny_Call_method_late hbase hfew hline rfl (thn (ho pins s σ H _ I h) λv s1 ⟨x,H1,I1,r1,ty,q1⟩=>?_)
 obtain⟨h1,h2⟩:=aHq I1 r1 ty
 refine⟨T,id,pa,slot,hty,h1,h2,?_⟩
 have hA:=ha cpos pins s1 σ H1 _ I1 q1
 rw[hs]at hA ⊢
 refine Calls.callWith_builtin (by show(false || (backTo cpos (starEach es X.env)).any (·.1))=false;rw[hplain] <;> rfl) (Calls.evalArgs_plain ?_)
 exact thn hA λus s2 ⟨vs,H2,I2,r2,q2⟩=>hm pins s2 σ H2 x vs v us Q I2 r1 r2 q2
noncomputable def MtM(X:Cx)(id:String)(r:V->List V->Hp->VK->Prop):Prop :=
 ∀(pins:List (Addr×Obj)) (s:Shared) (σ:St) (H:Hp) (x:V) (xs:List V) (v:Value) (us:List Value) (Q:VK),Inv X pins σ H s->RelV x v->Vals xs us->r x xs H Q ->
  wpAny (model X.prog X.w) X.A (call (.builtin id) (v::us)) (EP X pins σ Q) X.xe s
theorem Vals.one:∀{x:V} {us:List Value},Vals [x] us->∃u,us=[u]/\RelV x u
 |_,_,.cons r .nil=>⟨_,rfl,r⟩
theorem Vals.two:∀{x y:V} {us:List Value},Vals [x,y] us->∃u v,us=[u,v]/\RelV x u/\RelV y v
 |_,_,_,.cons r (.cons q .nil)=>⟨_,_,rfl,r,q⟩
theorem Vals.zero:∀{us:List Value},Vals [] us->us=[]
 |_,.nil=>rfl
theorem Vals.rep{xs:List V}{us:List Value}(h:Vals xs us):∀k:Nat,Vals (List.replicate k xs).flatten (List.replicate k us).flatten
 |0=>.nil
 |k+1=>by
  rw[aDG,aDG,aDT,aDT]
  exact Vals.append h (Vals.rep h k)
theorem oQ(its:List Value):∀(k:Nat) (acc:List Value),
  List.foldl (λx1 x2=>x1++x2) acc.toArray (List.replicate k its.toArray)=(acc++(List.replicate k its).flatten).toArray
 |0,acc=>by simp
 |k+1,acc=>by
  have e:acc.toArray++its.toArray=(acc++its).toArray:=by simp
  have e2:(acc++its)++(List.replicate k its).flatten=acc++(List.replicate (k+1) its).flatten:=by
   rw[aDG,aDT,aFD]
  rw[<- e2,<- oQ its k (acc++its),<- e,aDG,aGC]
variable{b:Addr}{ys zs:List V}
theorem Inv.lset{its':List Value}{f:Array Value->Array Value}(I:Inv X pins σ H s)(hH:H l=some (.lst xs))
  (e:s.heap.get? l=some {cls:=.type "list",data:=.seq its.toArray n})(hf:f its.toArray=its'.toArray)(hv:Vals ys its')(hz:ys.length<=sizeLine) :
  Inv X pins σ (upd H l (.lst ys)) {s with heap:=s.heap.update l (Obj.mapSeq f),toks:=t'}:=by
 have q:=PySem.IsL.update e f
 rw[hf]at q
 refine I.write (x:=l) (e:=l) (by rw[hH];exact trivial) (.inl rfl) (λb' u hb hu=>(Heap.get?_update_other s.heap (Obj.mapSeq f) (Ne.symm hb)).trans hu) ⟨_,q⟩ ?_
 exact⟨hz,its',_,hv,q⟩
theorem Inv.lnew(I:Inv X pins σ H s)(hv:Vals ys its)(hz:ys.length<=sizeLine) :
  Inv X pins σ (upd H s.heap.objs.size (.lst ys)) {s with heap:=s.heap.push {cls:=.type "list",data:=.seq its.toArray},toks:=t'} :=
 I.laid (λ_ _ q=>aAA _ q) (aAH _) ⟨hz,its,0,hv,aAE _ rfl⟩
theorem Inv.fresh(I:Inv X pins σ H s):H s.heap.objs.size=none:=I.hok.fresh (aAH _)
theorem Inv.lstM(I:Inv X pins σ H s)(hH:H l=some (.lst xs)):xs.length<=sizeLine/\∃(its:List Value) (n:Nat),Vals xs its/\xs.length=its.length/\s.heap.get? l=some {cls:=.type "list",data:=.seq its.toArray n}:=by
 obtain⟨z,its,n,r,e⟩:=I.hok l _ hH
 exact⟨z,its,n,r,r.length,e⟩
theorem notLongL(h:n<=sizeLine):Builtin.List.listTooLong n=false:=by
 unfold Builtin.List.listTooLong
 exact aCB (by lia)
noncomputable def rAppend:V->List V->Hp->VK->Prop:=λx vs H Q=>∃l xs y,x=.ref l/\vs=[y]/\H l=some (.lst xs)/\xs.length < sizeLine/\Q .non (upd H l (.lst (xs++[y])))
theorem uJ:MtM X "list.append" rAppend:=by
 intro pins s σ H x vs v us Q I rx rv h
 obtain⟨l,xs,y,rfl,rfl,hH,hz,q⟩:=h
 cases rx
 obtain⟨u,rfl,ru⟩:=rv.one
 obtain⟨z,its,n,r,hl,e⟩:=I.lstM hH
 refine aED F.slot_list_append ⟨_,e,rfl⟩ F.entry_list_append (F.args_list_append_2 _ _) (PySem.list_append l its.toArray n u (by rw[aAI];lia)) ⟨e,?_⟩
 refine⟨.non,_,I.lset (its':=its++[u]) hH e (by simp) (r.append (.cons ru .nil)) ?_,rfl,q⟩
 rw[aAX,List.length_singleton]
 lia
noncomputable def rCat:R2:=λx y H Q=>∃l b xs zs,x=.ref l/\y=.ref b/\H l=some (.lst xs)/\H b=some (.lst zs)/\xs.length+zs.length<=sizeLine/\∀p,H p=none->Q (.ref p) (upd H p (.lst (xs++zs)))
theorem aIa:OpR X (binaryOp .Add) rCat:=by
 intro pins s σ H x y v u Q I rx ry h
 obtain⟨l,b,xs,zs,rfl,rfl,hH,hB,hz,q⟩:=h
 cases rx
 cases ry
 obtain⟨z,its,n,r,hl,e⟩:=I.lstM hH
 obtain⟨z2,its2,n2,r2,hl2,e2⟩:=I.lstM hB
 refine PySem.P.add_list e e2 ?_ (by rw[aAI,aAI];lia)
 have ea:its.toArray++its2.toArray=(its++its2).toArray:=by simp
 rw[ea]
 exact⟨.ref _,_,I.lnew (t':=s.toks) (r.append r2) (by rw[aAX];lia),rfl,q _ I.fresh⟩
noncomputable def rRep:R2:=λx y H Q=>∃l k xs,x=.ref l/\y=.int k/\H l=some (.lst xs) /\ -(2 ^ 63)<=k/\k < 2 ^ 63/\xs.length*k.toNat<=sizeLine /\
 ∀p,H p=none->Q (.ref p) (upd H p (.lst (List.replicate k.toNat xs).flatten))
theorem wA(xs:List α)(k:Nat):(List.replicate k xs).flatten.length=k*xs.length:=by
 induction k with
 |zero=>simp
 |succ k ih=>rw[aDG,aDT,aAX,ih,Nat.succ_mul,Nat.add_comm]
theorem aPe:OpR X (binaryOp .Mult) rRep:=by
 intro pins s σ H x y v u Q I rx ry h
 obtain⟨l,k,xs,rfl,rfl,hH,h1,h2,hz,q⟩:=h
 cases rx
 obtain⟨t,rfl⟩:=ry
 obtain⟨z,its,n,r,hl,e⟩:=I.lstM hH
 have hlen:its.toArray.size*k.toNat<=sizeLine:=by rw[aAI,<- hl];exact hz
 have hcap:¬its.toArray.size*k.toNat > (2 ^ 63 - 1) / 8:=by
  have:(sizeLine:Nat)<=(2 ^ 63 - 1) / 8:=by decide
  lia
 have hfit:¬(!Builtin.List.listFitsIndex k)=true:=by
  rw[fitsIndex_both h1 h2]
  exact aBH
 have hlong:¬Builtin.List.listTooLong (its.toArray.size*k.toNat)=true:=by
  rw[notLongL hlen]
  exact aBH
 have hnew:List.foldl (λx1 x2=>x1++x2) #[] (List.replicate (if its.toArray.isEmpty=true then 0 else k.toNat) its.toArray)=(List.replicate k.toNat its).flatten.toArray:=by
  have f0:∀m:Nat,List.foldl (λx1 x2=>x1++x2) #[] (List.replicate m its.toArray)=(List.replicate m its).flatten.toArray:=λm=>by
   have:=oQ its m []
   rw[List.nil_append]at this
   exact this
  rw[f0]
  cases its with
  |nil=>simp
  |cons a r'=>rw[aAC (by simp)]
 refine wpAny_binaryOp_repeat_ref (T:="list") (U:="int") (by decide) ⟨_,e,rfl⟩ (λs'=>aGW s' k t) noFill_list_mul F.fills_int_mul aFX repeat_list F.slot_int_index.lookup
  (aED aFX (aGW s k t) F.entry_int_rmul (F.args_int_rmul_2 _ _) (int___rmul___int_list k t l its.toArray n)
   ⟨e,rfl,⟨_,e,rfl⟩,aED F.slot_list_mul ⟨_,e,rfl⟩ F.entry_list_mul (F.args_list_mul_2 _ _) (AutoListH.list___mul___list_int_3 l its.toArray n k t hfit hcap hlong) ⟨e,?_⟩⟩)
 rw[hnew]
 exact⟨.ref _,_,I.lnew (t':=s.toks) (r.rep k.toNat) (by rw[wA,aDY];exact hz),rfl,q _ I.fresh⟩
variable{E:Value->Shared->Prop}
end L2
end
namespace Att
open PySem PySem.W PySem.Calls PyProof.Rows
variable{P:Params}
theorem pE :∀(ns:List Int) (vs:List Value),WellAll P h vs (ns.map WData.int)->IntsAre vs ns:=by
 intro ns
 induction ns with
 |nil =>
  intro vs w
  rw[List.map_nil]at w
  cases w
  exact .nil
 |cons n ns ih =>
  intro vs w
  rw[aAO]at w
  cases w with
  |cons a b =>
   cases a
   exact .cons _ _ (ih _ b)
variable{l:OpenLaw}{n:Nat}
theorem aDs(hn:l.most=some n){args:List WData}{vals:List Value}
  (hpre:l.row.toRowW.claim.pre args=true)(hwl:WellAll P h vals args) :
  ∃a vs ns,vals=[Value.ref a]/\args=[WData.list (ns.map WData.int)]/\h.get? a=some {cls:=.type "list",data:=.seq vs.toArray}/\IntsAre vs ns/\ns.length<=n:=by
 have hsh:WShape.hasAll [] args [.list .int]=true:=(pre_splitW hpre).1
 have hc:l.pre.holds [] {args:=args}=true:=(pre_splitW hpre).2
 obtain⟨d,r,rfl,h1,h2⟩:=hasAllW_cons hsh
 obtain rfl:=hasAllW_nil h2
 obtain⟨xs,rfl,h3⟩:=hasW_list h1
 obtain⟨ns,rfl⟩:=items_int h3
 have hlen:ns.length<=n:=by
  unfold OpenLaw.pre at hc
  have h4:(WTm.not (.lt (.lit (.int (n:Int))) (.len (.arg 0)))).holds [] {args:=[.list (ns.map .int)]}=true:=by
   have h4:=(holds_andW hc).1
   rw[hn]at h4
   exact h4
  have h5:=condW_of h4 (w_not (w_lt w_lit (w_len_list (w_arg rfl))))
  rw[aAL]at h5
  refine Nat.le_of_not_lt λq=>?_
  have q':(n:Int) < ((ns.length:Nat):Int):=by lia
  first
   |(rw[aGK q']at h5;exact absurd h5 (by decide))
   |(simp at h5;lia)
 cases hwl with
 |cons w1 w2 =>
  cases w2
  cases w1 with
  |list ho hall=>exact⟨_,_,ns,rfl,rfl,ho,pE ns _ hall,hlen⟩
theorem aDy(l:OpenLaw)(args:List WData):l.row.toRowW.claim.post args (.bool true) args=true :=
 postW_of (r:=l.row.toRowW) (X:=(true==true))
  (show WShape.has [] (.bool true) .bool=true by first|rfl|decide|simp[WShape.has,WShape.arms,WShape.armsAll])
  (show(WTm.eq .res (.lit (.bool true))).value [] {args:=args,res:=some (.bool true),after:=args}=some (.bool (true==true))from w_eq_bool (w_res rfl) w_lit) rfl
theorem attach_call{q:Program}{d:DefRec}
  (hn:l.most=some n)(hdf:d.params.defaults=[])
  (call:∀(w:World) (s₀ s₁:Shared) (mg mb:Str->Option Value) (fa:Addr) (o:Obj) (pm cd doc:Value) (a:Addr) (vs:List Value) (ns:List Int),
   Ground q loose [] XP w s₀ mg mb s₁.heap->YP w s₁.heap ->
   s₁.heap.get? fa=some o->o.data=.func (docDef d.name d.params d.body d.scope pm cd doc)->s₁.heap.CodeRec cd d.name->mg d.name=some (.ref fa) ->
   s₁.heap.get? a=some {cls:=.type "list",data:=.seq vs.toArray}->IntsAre vs ns->ns.length<=n->s₁.gens=#[] ->
   codeAny (model l.prog w) callerA (.call (.ref fa) ⟨[.ref a],[]⟩) (λr s'=>r=.ok (.ret (.bool true))/\OldK s₁.heap s'.heap/\s'.os=s₁.os/\AllBare s'.gens) s₁) :
  WalkO q loose XP YP l.row.toRowW d [] (λf vs=>PySem.call f vs):=by
 intro w s₀ s₁ mg mb G Y fa o pm cd doc dV kV ho hd hcd hD hmg hg args vals as hpre hlay hrd hwl hlo
 obtain rfl:dV=.none:=Dflts.none hD hdf
 obtain rfl:kV=.none:=Dflts.noKw hD
 obtain⟨a,vs,ns,rfl,rfl,hobj,hints,hlen⟩:=aDs hn hpre hwl
 refine enter_call (aFV (call w s₀ s₁ mg mb fa o pm cd doc a vs ns G Y ho (fd_plain hd) hcd hmg hobj hints hlen hg) λr s' hq=>?_)
 obtain⟨rfl,h2,h3,h4⟩:=hq
 exact⟨.inl ⟨.bool true,.bool true,[],rfl,λ_=>rfl,.bool true,aDy l _,λ_=>⟨List.Pairwise.nil,λ_ hm=>(nomatch hm)⟩⟩,h2,h3,h4⟩
variable{E:Value->Shared->Prop}{K:Frag}
noncomputable def ledger(h:Heap)(L d:Addr):List (Addr×Obj):=(List.range h.objs.size).filterMap λa=>if a=L\/a=d then none else(h.get? a).map λo=>(a,o)
end Att
section
open PySem PySem.Spec PyProof.Rows
namespace L2
theorem tY:∀{vs:List Value} {ns:List Int},IntsAre vs ns->Vals (ns.map V.int) vs
 |_,_,.nil=>.nil
 |_,_,.cons n t h=>.cons ⟨t,rfl⟩ (tY h)
noncomputable def Only(H:Hp):Prop:=∀b,H b=none\/∃o xs,H b=some (.frz o (.lst xs))
variable{a:Addr}
theorem aGa{mg mb:Str->Option Value}{fa:Addr}{x:Str}{s₁:Shared}{vs:List Value}
  (KX:K.In s₁.heap)(hns:s₁.heap.Ns mainGlobals mg)(hb:s₁.heap.Ns builtinsNs mb)(hbb:∀x:Str,x≠"__name__"->mb x=bootBuiltins x)(hlim:s₁.heap.NoLimit)(hg:s₁.gens=#[])
  (ha:s₁.heap.get? a=some {cls:=.type "list",data:=.seq vs.toArray})(hi:IntsAre vs ns)(hl:ns.length<=sizeLine)(hr:Room k callerA)
  (F:∀base:Heap,K.In base->base.Ns mainGlobals mg->FnOk P w K mg base CX k fa fd [x] sp)(hbind:∀(s:Shared) (u:Value),BindsTo s fd ⟨[u],[]⟩ [(x,u)])
  (hsp:∀H:Hp,Only H->SqL K H a (ns.map V.int)->sp [.ref a] H (λv _=>v=.bl true) λ_ _ _=>False)
  (hCX:∀H e s',CX [] H s₁ (λ_ _ _=>False) e s'->False) :
  codeAny (model P w) callerA (.call (.ref fa) ⟨[.ref a],[]⟩) (λr s'=>r=.ok (.ret (.bool true))/\OldK s₁.heap s'.heap/\s'.os=s₁.os/\AllBare s'.gens) s₁:=by
 have rv:=tY hi
 have lenV:=hi.length
 have core:∀H:Hp,Only H->SqL K H a (ns.map V.int)->HOk P w H s₁.heap->(∀b,H b≠none->b=a)->(H a≠none->K.lookup a=none) ->
   codeAny (model P w) callerA (.call (.ref fa) ⟨[.ref a],[]⟩) (λr s'=>r=.ok (.ret (.bool true))/\OldK s₁.heap s'.heap/\s'.os=s₁.os/\AllBare s'.gens) s₁:=by
  intro H hO hS hok hA hK
  have base_of:∀{b:Addr} {o:Obj},s₁.heap.get? b=some o->H b=none->(hidT s₁.heap H).get? b=some o:=λe n=>aGt e n
  have noA:∀{b:Addr} {o:Obj} {es:Array DictEntry} {ep:Nat},s₁.heap.get? b=some o->o.data=.dict es ep->H b=none:=λ{b o es ep} e d=>by
   cases q:H b with
   |none=>rfl
   |some u =>
    have e':b=a:=hA b (by rw[q];simp)
    subst e'
    rw[ha]at e;cases e
    have d':Data.seq vs.toArray _=Data.dict es ep:=d
    cases d'
  have nsK:∀{b:Addr} {m:Str->Option Value},s₁.heap.Ns b m->(hidT s₁.heap H).Ns b m:=λ{b m} ⟨o,es,ep,e,d,r⟩=>⟨o,es,ep,base_of e (noA e d),d,r⟩
  have hKb:K.In (hidT s₁.heap H):=λb o e=>base_of (KX b o e) (by
   cases q:H b with
   |none=>rfl
   |some u =>
    have e':b=a:=hA b (by rw[q];simp)
    subst e'
    rw[hK (by rw[q];simp)]at e;cases e)
  have hM:Mod K mg (hidT s₁.heap H):=⟨hKb,nsK hns,⟨mb,nsK hb,hbb⟩,let⟨mc,h1,h2⟩:=hlim;⟨mc,nsK h1,h2⟩⟩
  have e0:Env0 P w K mg (hidT s₁.heap H) callerA [] s₁ H:=⟨rfl,hM,λb o e=>aIy e,Nat.le_of_eq (aDb _ _),trivial,λb hb=>absurd (show b∈([]:List Addr)from hb) (by simp),hok,.of_eq hg⟩
  refine aFV ((F _ hKb (nsK hns)).run callerA [] s₁ H ⟨[.ref a],[]⟩ [.ref a] [.ref a] _ _ hr e0 (hbind s₁ (.ref a)) (.cons rfl .nil) (hsp H hO hS)) λr s' h=>?_
  cases r with
  |error e=>exact(hCX H e s' h).elim
  |ok fl =>
   cases fl with
   |next=>exact False.elim h
   |brk=>exact False.elim h
   |cont=>exact False.elim h
   |ret u =>
    obtain⟨v,H',os,bare,un,hok',r',q⟩:=h
    have q':v=.bl true:=q
    subst q'
    obtain rfl:u=Value.bool true:=r'
    refine⟨rfl,OldK.of_keep λb o e=>?_,os,bare⟩
    cases q:H b with
    |none=>exact un.keep b o e q (by intro z;exact absurd (show b∈([]:List Addr)from z) (by simp)) (by simp)
    |some u =>
     rcases hO b with z|⟨ob,xs,z⟩
     ·rw[q]at z;cases z
     ·have z2:=un.frzs b ob _ z
      obtain⟨e1,_⟩:=hok b _ z
      obtain⟨e2,_⟩:=hok' b _ z2
      rw[e]at e1;cases e1
      exact e2
 cases hk:K.lookup a with
 |some o =>
  have e:=KX a o hk
  rw[ha]at e
  cases e
  refine core (λ_=>none) (λ_=>.inl rfl) (.inr ⟨_,vs.toArray,_,hk,rfl,rfl,rfl,by rw[aAI,lenV];exact hl,by simpa using rv⟩) (λb u z=>by have z':(none:Option HO)=some u:=z;cases z') (λb z=>absurd rfl z) λz=>absurd rfl z
 |none =>
  refine core (λb=>if b=a then some (.frz {cls:=.type "list",data:=.seq vs.toArray} (.lst (ns.map V.int)))else none) (λb=>?_) (.inl (.inr ⟨{cls:=.type "list",data:=.seq vs.toArray},aAG rfl⟩)) (λb u z=>?_) (λb z=>?_) λ_=>hk
  ·by_cases hb:b=a
   ·exact .inr ⟨_,_,aAG hb⟩
   ·exact .inl (aAC hb)
  ·by_cases hb:b=a
   ·have z':=(aAG hb).symm.trans z
    cases z'
    subst hb
    exact⟨ha,by rw[aAL];exact hl,vs,_,rv,ha⟩
   ·have z':=(aAC hb).symm.trans z
    cases z'
  ·by_cases hb:b=a
   ·exact hb
   ·exact absurd (aAC hb) z
noncomputable abbrev KOf(_:K.In h):Frag:=K
theorem aCb{l:PySem.W.OpenLaw}{n:Nat}{q:Program}{d:DefRec}{K:Params->Frag}{CX:World->CXT}{sp:World->Sp}
  (hn:l.most=some n)(hn2:n<=sizeLine)(hdf:d.params.defaults=[])(hr:Room k callerA)
  (hY:∀(w:World) (h:Heap),YP w h->(K w.params).In h)
  (F:∀(w:World) (mg:Str->Option Value) (fa:Addr) (h:Heap),(K w.params).In h->h.Ns mainGlobals mg->mg d.name=some (.ref fa) ->
   ∃fd:FuncData,(∀(s:Shared) (u:Value),BindsTo s fd ⟨[u],[]⟩ [(x,u)]) /\
    ∀base:Heap,(K w.params).In base->base.Ns mainGlobals mg->FnOk l.prog w (K w.params) mg base (CX w) k fa fd [x] (sp w))
  (hsp:∀(w:World) (H:Hp) (a:Addr) (ns:List Int),ns.length<=n->Only H->SqL (K w.params) H a (ns.map V.int)->sp w [.ref a] H (λv _=>v=.bl true) λ_ _ _=>False)
  (hCX:∀(w:World) (H:Hp) (s:Shared) (e:Value) (s':Shared),CX w [] H s (λ_ _ _=>False) e s'->False) :
  PySem.W.WalkO q loose XP YP l.row.toRowW d [] (λf vs=>PySem.call f vs):=by
 refine Att.attach_call hn hdf λw s₀ s₁ mg mb fa o pm cd doc a vs ns G Y ho hd hcd hmg hobj hints hlen hg=>?_
 have KX:=hY w _ Y
 obtain⟨fd,hb,hF⟩:=F w mg fa _ KX G.T.g hmg
 exact aGa KX G.T.g G.T.b G.T.builtins G.T.nolimit hg hobj hints (aBF hlen hn2) hr hF hb (λH hO hS=>hsp w H a ns hlen hO hS) λH e s'=>hCX w H s₁ e s'
noncomputable def defArgs(s:Stmt):Arguments:=match s with
 |.FunctionDef _ a _ _ _ _ _ _ _ _=>a
 |_=>{posonlyargs:=[],args:=[],vararg:=none,kwonlyargs:=[],kw_defaults:=[],kwarg:=none,defaults:=[]}
noncomputable def defBody(s:Stmt):List Stmt:=match s with
 |.FunctionDef _ _ b _ _ _ _ _ _ _=>b
 |_=>[]
noncomputable def defScope(s:Stmt):Scope:=match s with
 |.FunctionDef _ _ _ _ _ _ sc _ _ _=>sc
 |_=>{kind:=.function,names:=[],isGenerator:=false,isCoroutine:=false}
noncomputable abbrev CX0:CXT:=λ_ _ _ _ _ _=>False
noncomputable abbrev E0:XK:=λ_ _ _=>False
theorem pass0:Passes CX0 X E0:=λ_ _ _ _ _ _ _ h=>h.elim
structure Fun(K:Frag)(x qual:Str)(st:Stmt)(f:Addr)(fd:FuncData):Prop where
 ex:∃(oc:Value) (od:Option Addr) (kV doc pm:Value) (an:Option Addr) (cdv ct:Value) (osl:Array (Option Value)),
  fd=fnOf x qual (defArgs st) (defBody st) (defScope st) .none kV doc pm an cdv ct/\K.lookup f=some ⟨oc,od,.func fd,osl⟩/\codeIn K cdv qual=true
 kp:keepIn K (.ref f)=true
variable{K:Frag}{mg:Str->Option Value}{f:Addr}
theorem Fun.ok(F:Fun K x qual st f fd)(S:FnScope N ps (defScope st))(len:∀vs H Q E,sp vs H Q E->vs.length=ps.length)
  (hbody:∀(cdv:Value) (A:Around) (outer:List Env) (s:Shared) (H:Hp) (vs:List V) (Q:VK) (E:XK),Room k (A.deeper (envOfC qual (defScope st) s.heap.objs.size f cdv))->sp vs H Q E ->
   ∃t,PSs (cxOf CX0 P w K mg base N qual (defScope st) f cdv A outer s H E).nox (defBody st) t/\t {nx:=λ_ H'=>Q .non H',rt:=Q} (start N vs) H):FnOk P w K mg base CX0 (k+1) f fd ps sp:=by
 obtain⟨oc,od,kV,doc,pm,an,cdv,ct,osl,rfl,lk,hcd⟩:=F.ex
 refine aLj lk hcd S len λA outer s H vs Q E hr hsp=>?_
 obtain⟨t,h,q⟩:=hbody cdv A outer s H vs Q E hr hsp
 exact⟨t,h.nox,q⟩
theorem Fun.binds(F:Fun K x qual st f fd)
  (h:∀(kV doc pm:Value) (an:Option Addr) (cdv ct:Value) (us:List Value),us.length=ps.length->bindArgs (fnOf x qual (defArgs st) (defBody st) (defScope st) .none kV doc pm an cdv ct) ⟨us,[]⟩=pure (ps.zip us)):Binds K fd ps []:=by
 obtain⟨oc,od,kV,doc,pm,an,cdv,ct,osl,rfl,lk,hcd⟩:=F.ex
 exact .all (h kV doc pm an cdv ct)
theorem aH{oc:Value}{kV doc pm cdv ct:Value}(l:K.lookup f=some ⟨oc,od,.func (fnOf x qual (defArgs st) (defBody st) (defScope st) .none kV doc pm an cdv ct),osl⟩)
  (c:codeIn K cdv qual=true)(k:keepIn K (.ref f)=true):Fun K x qual st f (fnOf x qual (defArgs st) (defBody st) (defScope st) .none kV doc pm an cdv ct):=⟨⟨oc,od,kV,doc,pm,an,cdv,ct,osl,rfl,l,c⟩,k⟩
noncomputable def Same(H H':Hp):Prop:=∀b o,H b=some o->H' b=some o
theorem Same.trans(a:Same H H1)(b:Same H1 H2):Same H H2:=λc o h=>b c o (a c o h)
theorem Same.free(e:Same H H')(h:H' l=Option.none):H l=Option.none:=by
 cases q:H l with
 |none=>rfl
 |some o =>
  rw[e l o q]at h
  cases h
theorem Same.seq{xs:List V}(e:Same H H')(h:SqL K H a xs):SqL K H' a xs:=by
 rcases h with(h|⟨o,h⟩)|h
 ·exact .inl (.inl (e _ _ h))
 ·exact .inl (.inr ⟨o,e _ _ h⟩)
 ·exact .inr h
end L2
set_option maxHeartbeats 4000000
namespace L2
variable{tg:Expr}
noncomputable def CDivW(_ j:Int):Prop:=0 < j/\j < 18446744073709551616
variable{n:Nat}
theorem aDc(h:n < 18446744073709551616):n.log2 < 9000:=by
 by_cases h0:n=0
 ·subst h0;decide
 ·have:n.log2 < 64:=(Nat.log2_lt h0).2 (by simpa using h)
  lia
theorem aGc:OpR X (binaryOp .FloorDiv) (rI CDivW λi j=>.int (i / j)):=opI λi j _ _ _ _ _ hc q=>by
 have h1:(0:Int) < j:=hc.1
 have h2:j < 18446744073709551616:=hc.2
 exact floordiv_int (by lia) (by rw[Int.fdiv_eq_ediv_of_nonneg i (by lia)];exact q) (.inl (PyProof.noPylong_of_log2 (aDc (by lia))))
noncomputable def Itv(K:Frag)(a:Addr)(xs:List V):It :=
 ⟨λi H=>SqL K H a xs/\i < xs.length,λi H x H'=>H'=H/\xs[xs.length - 1 - i]?=some x,λi _=>xs.length<=i⟩
theorem aEg(a it:Addr)(xs:List V):Turn P w K tg (Itv K a xs) [it] it (λi h=>i<=xs.length/\h.IsRevIter it a ((xs.length:Int) - 1 - (i:Int)))where
 mem:=by simp
 obj:=λi h st b hb=>by
  have e:b=it:=by simpa using hb
  subst e
  obtain⟨o,e,c,d⟩:=st.2
  exact⟨o,e,λv z=>by rw[d]at z;cases z⟩
 keep:=λi h h' st k=>⟨st.1,st.2.at λo e=>k it (by simp) o e⟩
 item:=by
  intro X hP hw hK hc i pins s σ H E I hf st hg
  subst hP hw hK
  obtain⟨hq,hx⟩:=hg
  obtain⟨its,rv,p,hz⟩:=I.list hq
  have hlt:xs.length - 1 - i < xs.length:=by lia
  have hx':xs[xs.length - 1 - i]?=some xs[xs.length - 1 - i]:=aAQ hlt
  obtain⟨u,hu,ru⟩:=rv.get hx'
  obtain⟨f0,f1,f2,f3,f4,f5⟩:=hf it (by simp)
  have st2:=st.2
  have e1:(xs.length:Int) - 1 - (i:Int)=((xs.length - 1 - i:Nat):Int):=by lia
  rw[e1]at st2
  refine wpAny_pyNext_rev_item st2 p.isList (x:=u) (by simpa using hu) λh' st' sb=>?_
  have I1:Inv X pins σ H {s with heap:=h'}:=I.turned (t':=s.toks) (λb o hb e=>(sb.2 b hb).trans e) f0 f1 f3 f4 f5
  have e2:((xs.length - 1 - i:Nat):Int) - 1=(xs.length:Int) - 1 - ((i+1:Nat):Int):=by lia
  rw[e2]at st'
  obtain⟨o,e,c,d⟩:=id st'
  exact⟨u,rfl,tJ (s:={s with heap:=h'}) e c d (by decide) ⟨_,H,I1,ru,⟨rfl,hx'⟩,⟨hx,st'⟩,λb hb=>(hf b hb).1⟩⟩
 done:=by
  intro X hP hw hK hc i pins s σ H E I hf st hg
  subst hP hw hK
  have hx:xs.length<=i:=hg
  obtain⟨f0,f1,f2,f3,f4,f5⟩:=hf it (by simp)
  have st2:=st.2
  have h1:=st.1
  have e1:(xs.length:Int) - 1 - (i:Int) = -1:=by lia
  rw[e1]at st2
  exact wpAny_pyNext_rev_end (I.ok.hd hc) st2 λh' eb=>⟨rfl,I.turned (t':=s.toks) (λb o hb e=>eb b o hb e) f0 f1 f3 f4 f5⟩
 self:=λ_ _ _ _ _ st h=>wpAny_pyIter_revIter st.2 h
theorem wI:bootBuiltins "reversed"=some (.type "reversed"):=by first|rfl|kernel_rfl
inductive IntsE:List Expr->List Int->Prop where
 |nil:IntsE [] []
 |cons {i:Int} {j:Nat} {p:Pos} {r:List Expr} {ns:List Int} (h:IntsE r ns):IntsE (.Constant (.int i) j p::r) (i::ns)
theorem aJe{es:List Expr}(h:IntsE es ns):PA X es (λ_ H Q=>Q (ns.map V.int) H):=by
 induction h with
 |nil=>exact fE
 |cons h ih=>exact cM aFg ih
structure JE(X:Cx)(e:Expr)(t:TE):Prop where
 h:PE X e t
structure JS(X:Cx)(st:Stmt)(t:TS):Prop where
 h:PS X st t
structure JSs(X:Cx)(sts:List Stmt)(t:TS):Prop where
 h:PSs X sts t
theorem kM{env:Env}{f:Str×NameKind->List (Str×Addr)->Sem (ForInStep (List (Str×Addr)))}
  (hf:∀y acc c,y.2=NameKind.free->env.cells.lookup y.1=some c->f y acc=pure (.yield ((y.1,c)::acc)))(hf':∀y acc,y.2≠NameKind.free->f y acc=pure (.yield acc)) :
  ∀(names:List (Str×NameKind)) (acc:List (Str×Addr)),(∀y∈names,y.2=NameKind.free->∃c,env.cells.lookup y.1=some c)->(∀x c,acc.lookup x=some c->env.cells.lookup x=some c) ->
   ∃cl,forIn names acc f=(pure cl:Sem (List (Str×Addr)))/\(∀x c,cl.lookup x=some c->env.cells.lookup x=some c)/\(∀y∈names,y.2=NameKind.free->∃c,cl.lookup y.1=some c)/\(∀x c,acc.lookup x=some c->∃c',cl.lookup x=some c')
 |[],acc,_,ha=>⟨acc,rfl,ha,(λ_ h=>nomatch h),λx c h=>⟨c,h⟩⟩
 |y::r,acc,hn,ha=>by
  by_cases hy:y.2=NameKind.free
  ·obtain⟨c,hc⟩:=hn y aCO hy
   have ha':∀x d,((y.1,c)::acc).lookup x=some d->env.cells.lookup x=some d:=λx d h=>by
    rw[aCR]at h
    cases e:x==y.1 with
    |true =>
     rw[e]at h
     have:x=y.1:=by simpa using e
     subst this
     cases h
     exact hc
    |false=>rw[e]at h;exact ha x d h
   obtain⟨cl,h1,h2,h3,h4⟩:=kM hf hf' r _ (λz hz=>hn z (aBZ _ hz)) ha'
   have hyl:∃c',cl.lookup y.1=some c':=h4 y.1 c (by rw[aCR];simp)
   refine⟨cl,?_,h2,λz hz hzf=>?_,λx d hx=>?_⟩
   ·rw[aEE,hf y acc c hy hc]
    exact h1
   ·rcases aAU.mp hz with rfl|hz
    ·exact hyl
    ·exact h3 z hz hzf
   ·by_cases e:x=y.1
    ·rw[e];exact hyl
    ·have e':(x==y.1)=false:=by simpa using e
     exact h4 x d (by rw[aCR,e'];exact hx)
  ·obtain⟨cl,h1,h2,h3,h4⟩:=kM hf hf' r acc (λz hz=>hn z (aBZ _ hz)) ha
   refine⟨cl,?_,h2,λz hz hzf=>?_,h4⟩
   ·rw[aEE,hf' y acc hy]
    exact h1
   ·rcases aAU.mp hz with rfl|hz
    ·exact absurd hzf hy
    ·exact h3 z hz hzf
theorem lZ{scope:Scope}(h:∀y∈scope.names,y.2=NameKind.free->∃c,env.cells.lookup y.1=some c) :
  ∃cl,closureFor scope env=pure cl/\(∀x c,cl.lookup x=some c->env.cells.lookup x=some c)/\(∀y∈scope.names,y.2=NameKind.free->∃c,cl.lookup y.1=some c):=by
 obtain⟨cl,h1,h2,h3,_⟩:=kM (env:=env) (f:=λx cs=>match x with
   |(name,kind)=>if(kind==NameKind.free)=true then do
     let a <- cellOf env name
     pure (ForInStep.yield ((name,a)::cs))
     else pure (ForInStep.yield cs)) (λy acc c hy hc=>by
    obtain⟨n,k⟩:=y
    simp only at hy hc
    subst hy
    simp only[beq_self_eq_true,aBT,cellOf,hc]
    rfl) (λy acc hy=>by
    obtain⟨n,k⟩:=y
    simp only at hy
    have:(k==NameKind.free)=false:=by simpa using hy
    simp only[this,aAY,aCG]) scope.names [] h (λ_ _ z=>by simp at z)
 refine⟨cl,?_,h2,h3⟩
 show(forIn scope.names [] _ >>= λcs=>pure cs)=pure cl
 exact(congrArg (· >>= λcs=>(pure cs:Sem (List (Str×Addr)))) h1).trans rfl
theorem gP{env:Env}(hk:env.scope.kind=.function):∀{names:List (Str×NameKind)} {x:Str},names.lookup x=some .free->env.kindOf x=some .cell ->
  (names.map λ(n,k)=>if(k==NameKind.free&&env.scope.kind==.function&&env.kindOf n==some .cell)then(n,NameKind.cell)else(n,k)).lookup x=some .cell
 |[],_,h,_=>by simp at h
 |(n,k)::r,x,h,hx=>by
  rw[aAO]
  rw[aCR]at h
  cases e:x==n with
  |true =>
   rw[e]at h
   have:x=n:=by simpa using e
   subst this
   cases h
   simp[hk,hx,aCR]
  |false =>
   rw[e]at h
   have ih:=gP hk h hx
   simp only
   split <;> (rw[aCR,e];exact ih)
theorem fQ{env:Env}:∀{names:List (Str×NameKind)} {x:Str} {k':NameKind},
  (names.map λ(n,k)=>if(k==NameKind.free&&env.scope.kind==.function&&env.kindOf n==some .cell)then(n,NameKind.cell)else(n,k)).lookup x=some k'->k'=.cell\/k'=.free ->
  ∃k,(x,k)∈names/\(k=.cell\/k=.free)
 |[],_,_,h,_=>by simp at h
 |(n,k)::r,x,k',h,hk=>by
  rw[aAO]at h
  simp only at h
  cases e:x==n with
  |true =>
   have:x=n:=by simpa using e
   subst this
   refine⟨k,aCO,?_⟩
   split at h
   ·rename_i hc
    simp only[aCV]at hc
    exact .inr (by simpa using hc.1.1)
   ·rw[aCR,e]at h
    cases h
    exact hk
  |false =>
   have h':(r.map λ(n,k)=>if(k==NameKind.free&&env.scope.kind==.function&&env.kindOf n==some .cell)then(n,NameKind.cell)else(n,k)).lookup x=some k':=by
    split at h <;> (rw[aCR,e]at h;exact h)
   obtain⟨k1,h1,h2⟩:=fQ h' hk
   exact⟨k1,aBZ _ h1,h2⟩
noncomputable def compCx(X:Cx)(Nc:List Str)(scope:Scope)(cl:List (Str×Addr))(C:Addr)(fp:List Addr)(pins:List (Addr×Obj))(s₂:Shared)(H₂:Hp):Cx where
 prog:=X.prog
 w:=X.w
 K:=X.K
 mg:=X.mg
 base:=X.base
 A:=X.A
 N:=Nc
 s₀:=s₂
 H₀:=H₂
 env:=compEnvC scope cl C X.env
 outer:=X.stack
 stack:=X.stack
 ex:=fp
 fn:=λ_=>false
 calm:=true
 pn:=X.pn++pins
 xe:=λ_ _=>False
structure CompOk(N0:List Str)(sc0:Scope)(scope:Scope)(Nc:List Str)(js:List (Option Nat)):Prop where
 kind:scope.kind=.function
 nocell:∀y∈scope.names,y.2≠.cell
 names:∀y∈scope.names,y.2=.local->scope.names.lookup y.1=some .local
 free:∀y∈scope.names,y.2=.free->sc0.names.lookup y.1=some .cell
 len:js.length=Nc.length
 slots:∀p∈Nc.zip js,∀j∈p.2,N0[j]?=some p.1/\scope.names.lookup p.1=some .free/\sc0.names.lookup p.1=some .cell
noncomputable def outσ(js:List (Option Nat))(σ:St):St:=js.map λo=>o.bind λj=>(σ[j]?).join
variable{σ:St}{H₂:Hp}{scope:Scope}{js:List (Option Nat)}
theorem aJm(I:Inv X pins σ H₂ s₂)(hc:X.calm=true)(T:CompOk X.N X.env.scope scope Nc js)(hcl:∀x c,cl.lookup x=some c->X.env.cells.lookup x=some c)(hfr:∀y∈scope.names,y.2=.free->∃c,cl.lookup y.1=some c)
  (hC:s₂.heap.objs.size<=C)(hf:∀b∈fp,FpOk X pins H₂ b)(ho:∀b∈fp,∃o,s₂.heap.get? b=some o):(compCx X Nc scope cl C fp pins s₂ H₂).Ok where
 mod:=I.ok.mod
 kind:=T.kind
 glob:=I.ok.glob
 blt:=I.ok.blt
 above:=hC
 inj:=λx y c h1 h2=>I.ok.inj x y c (hcl x c h1) (hcl y c h2)
 has:=λx hx=>by
  have hx':∃k',(relabel scope X.env).names.lookup x=some k'/\(k'=.cell\/k'=.free):=by
   rcases hx with h|h
   ·exact⟨_,h,.inl rfl⟩
   ·exact⟨_,h,.inr rfl⟩
  obtain⟨k',h1,h2⟩:=hx'
  obtain⟨k,h3,h4⟩:=fQ h1 h2
  rcases h4 with rfl|rfl
  ·exact absurd rfl (T.nocell _ h3)
  ·exact hfr _ h3 rfl
 cab:=λx c h=>by cases h
 hd:=λ_=>I.ok.hd hc
 frames:=I.ok.frames
 stk:=.inl rfl
 exf:=λb hb=>by
  obtain⟨f0,f1,f2,f3,f4,f5⟩:=hf b hb
  obtain⟨o,e⟩:=ho b hb
  exact⟨aAV (aAT (aAJ e) hC),λx c h=>f4 x c (hcl x c h)⟩
 bs:=λb o e=>I.bs b o e
 bsz:=aBF I.ok.bsz I.sz
 noex:=λb o e hb=>by
  obtain⟨f0,f1,f2,f3,f4,f5⟩:=hf b hb
  rcases f3 with z|z
  ·exact I.ok.noex b o e z
  ·exact absurd (aAT (aAJ (I.ok.bs b o e).1) z) (aCP _)
 exfs:=λb hb z=>by
  obtain⟨f0,f1,f2,f3,f4,f5⟩:=hf b hb
  rcases aAU.mp (I.stkSub b z)with q|q
  ·exact f1 q
  ·exact f2 q
 funs:=I.stack
 frf:=I.stkFree
theorem aAe(I:Inv X pins σ H₂ s₂)(hc:X.calm=true)(T:CompOk X.N X.env.scope scope Nc js)(hcl:∀x c,cl.lookup x=some c->X.env.cells.lookup x=some c)(hfr:∀y∈scope.names,y.2=.free->∃c,cl.lookup y.1=some c)
  (hf:∀b∈fp,FpOk X pins H₂ b)(ho:∀b∈fp,∃o,s₂.heap.get? b=some o){h₁:Heap}{m:Str->Option Value}{tk:Nat}(hC:C=s₂.heap.objs.size+1)(old:∀b u,s₂.heap.get? b=some u->h₁.get? b=some u)
  (hns:h₁.Ns C m)(hD:h₁.get? s₂.heap.objs.size=some {cls:=.type "list",data:=.seq #[] n}) :
  Inv (compCx X Nc scope cl C fp pins s₂ H₂) [] (outσ js σ) (upd H₂ s₂.heap.objs.size (.lst [])) {s₂ with heap:=h₁,toks:=tk}:=by
 have lt:∀b o,s₂.heap.get? b=some o->b < s₂.heap.objs.size:=λb o e=>aAJ e
 have hle:s₂.heap.objs.size<=C:=by rw[hC];exact aFH _
 have cellc:∀x c,cl.lookup x=some c->c < s₂.heap.objs.size:=λx c h=>by
  obtain⟨v,o,e,_⟩:=I.cell x c (hcl x c h)
  exact lt c o e
 have new:ObjOk X.prog X.w (upd H₂ s₂.heap.objs.size (.lst [])) h₁ s₂.heap.objs.size (.lst []):=⟨aDW _,[],n,.nil,hD⟩
 refine⟨aJm I hc T hcl hfr hle hf ho,rfl,I.bare,?_,⟨m,hns,λi x v e1 e2 e3=>?_⟩,λx c h=>?_,?_,λx c h=>?_,λp hp=>?_,I.hok.laid old (aAH _) new,?_⟩
 ·exact Un.laid old (aAH _) (I.hok.fresh (aAH _))
 ·have e1:Nc[i]?=some x:=e1
  have e2':∃j,js[i]?=some (some j)/\σ[j]?=some (some v):=by
   unfold outσ at e2
   rw[aAP]at e2
   cases hj:js[i]? with
   |none=>rw[hj]at e2;cases e2
   |some o =>
    rw[hj]at e2
    cases o with
    |none=>cases e2
    |some j =>
     refine⟨j,rfl,?_⟩
     have e2:(σ[j]?).join=some v:=Option.some.inj e2
     cases hq:σ[j]? with
     |none=>rw[hq]at e2;cases e2
     |some o=>rw[hq]at e2;exact congrArg some e2
  obtain⟨j,hj,hv⟩:=e2'
  have hz:(x,some j)∈Nc.zip js:=by
   refine aBJ (i:=i) ?_
   rw[List.getElem?_zip_eq_some]
   exact⟨e1,hj⟩
  obtain⟨t1,t2,t3⟩:=T.slots _ hz j rfl
  obtain⟨m0,hn0,hl0⟩:=I.loc
  obtain⟨u,ru,lk⟩:=hl0 j x v t1 hv (.inr (.inl t3))
  refine⟨u,ru,.inr ⟨.inl (gP I.ok.kind t2 t3),?_⟩⟩
  rcases lk with⟨k,_⟩|⟨_,c,hcc,hcell⟩
  ·have k:X.env.scope.names.lookup x=some .local:=k
   rw[t3]at k;cases k
  ·have hm:(x,NameKind.free)∈scope.names:=by
    have:∀(l:List (Str×NameKind)),l.lookup x=some .free->(x,NameKind.free)∈l:=λl=>by
     induction l with
     |nil=>intro h;simp at h
     |cons y r ih =>
      obtain⟨n',k'⟩:=y
      intro h
      rw[aCR]at h
      cases e:x==n' with
      |true =>
       rw[e]at h
       have:x=n':=by simpa using e
       subst this
       cases h
       exact aCO
      |false=>rw[e]at h;exact aBZ _ (ih h)
    exact this _ t2
   obtain⟨c',hc'⟩:=hfr _ hm rfl
   have hc'':=hcl x c' hc'
   rw[hcc]at hc''
   cases hc''
   obtain⟨o,ho,hd⟩:=hcell
   exact⟨c,hc',o,old c o ho,hd⟩
 ·obtain⟨v,o,e,d⟩:=I.cell x c (hcl x c h)
  exact⟨v,o,old c o e,d⟩
 ·show upd H₂ _ _ C=none
  rw[bE (by rw[hC];exact aEN (aER _))]
  exact I.hok.fresh hle
 ·show upd H₂ _ _ c=none
  rw[bE (aAV (cellc x c h))]
  exact I.freeC x c (hcl x c h)
 ·have hp:p∈X.pn++pins:=by
   have hp:p∈(X.pn++pins)++[]:=hp
   rwa[aEH]at hp
  obtain⟨e,n0,ne,nf,d⟩:=I.pin p hp
  have hlt:=lt _ _ e
  refine⟨old _ _ e,?_,?_,λz=>?_,d⟩
  ·show upd H₂ _ _ p.1=none
   rw[bE (aAV hlt)];exact n0
  ·show p.1≠C
   exact aAV (aAT hlt hle)
  ·rcases aAU.mp (I.stkSub _ z)with q|q
   ·exact ne q
   ·exact nf q
 ·show(outσ js σ).length=Nc.length
  unfold outσ
  rw[aAL]
  exact T.len
noncomputable def tTurns(J:It)(g:TG)(ti:TT)(te:TE)(D:Addr)(σ0:St)(H0:Hp)(Q:Hp->Prop):Prop :=
 ∃W:Nat->Nat->St->Hp->Prop,(∃m,W 0 m σ0 H0)/\∀i m σ' H',W i m σ' H' ->
  (J.stop i H'/\Q H')\/(J.go i H'/\∃Nn:St->Hp->Prop,(∀σ'' H'',Nn σ'' H''->∃m',m' < m/\W (i+1) m' σ'' H'') /\
   ∀x H'',J.yld i H' x H''->g x σ' H'' λσ2 H2=>ti σ2 H2 λok H3=>if ok=true then te σ2 H3 λy H4=>∃ys,H4 D=some (.lst ys)/\ys.length < sizeLine/\Nn σ2 (upd H4 D (.lst (ys++[y])))else Nn σ2 H3)
noncomputable def tComp(js:List (Option Nat))(wi:TI)(g:TG)(ti:TT)(te:TE):TE:=λσ H Q=>wi σ H λJ H1=>∀D,H1 D=none->tTurns J g ti te D (outσ js σ) (upd H1 D (.lst [])) λH'=>Q (.ref D) H'
noncomputable def PIf(X:Cx)(ifs:List Expr)(ti:TT):Prop :=
 ∀(pins:List (Addr×Obj)) (s:Shared) (σ:St) (H:Hp) (Q:Bool->Hp->Prop),Inv X pins σ H s->ti σ H Q ->
  wpAny (model X.prog X.w) X.A (forIn ifs true λc r=>if r=true then do let ok <- isTrue c X.env (eval c X.env);pure (ForInStep.yield ok)else pure (ForInStep.yield r)) (TP X pins σ Q) X.xe s
noncomputable def tYes:TT:=λ_ H Q=>Q true H
theorem aJk:PIf X [] tYes:=λ_ _ _ H _ I h=>wpAny_tests_nil ⟨H,I,h⟩
theorem aIo{c:Expr}{tc:TT}(h:PT X c tc):PIf X [c] tc:=λpins s σ H Q I hq=>wpAny_tests_one (h pins s σ H Q I hq)
variable{E:Value->Shared->Prop}
theorem thnE{t:Sem α}{Q Q':α->Shared->Prop}{M:Model}{E0:Value->Shared->Prop}{s:Shared}(hE:∀e s,¬E0 e s)(h:wpAny M A t Q E0 s)(hQ:∀a s,Q a s->Q' a s):wpAny M A t Q' E s:=aDC h hQ λe s z=>(hE e s z).elim
variable{ifs:List Expr}{J:It}{g:TG}{ti:TT}{D:Addr}{σ0:St}{H0:Hp}{Q:Hp->Prop}
theorem aEa{Y:Cx}{iter elt:Expr}{fp:List Addr}{R:Result->Shared->Prop}{s:Shared}
  (hc:Y.calm=true)(hx:∀e s,¬Y.xe e s)(T:Turn Y.prog Y.w Y.K tg J fp it tn)(hg:PG Y tg g)(hi:PIf Y ifs ti)(he:PE Y elt te)
  (stat:∀H',(∀b∈fp,H' b=none)->∀b∈fp,FpOk Y [] H' b)(I0:Inv Y [] σ0 H0 s)(st0:tn 0 s.heap)(fr0:∀b∈fp,H0 b=none)(h:tTurns J g ti te D σ0 H0 Q)
  (hR:∀σ' H' s',Inv Y [] σ' H' s'->Q H'->R (.ok .next) s') :
  codeAny (model Y.prog Y.w) Y.A (.compLoop (.ListComp elt [⟨tg,iter,ifs,0⟩] scope pos) 0 (.ref it) (.ref D) Y.env) R s:=by
 obtain⟨W,⟨m0,w0⟩,turn⟩:=h
 refine codeAny_loop rfl (λn s'=>∃i σ' H',Inv Y [] σ' H' s'/\tn i s'.heap/\(∀b∈fp,H' b=none)/\W i n σ' H') (λn s' hI=>?_) m0 ⟨0,σ0,H0,I0,st0,fr0,w0⟩
 show wpAny _ Y.A ((compTurn (.ListComp elt [⟨tg,iter,ifs,0⟩] scope pos) 0 (.ref it) (.ref D) Y.env).onRaise (λx=>do noteFrame x Y.env;theTreesLotGoes x)) _ _ s'
 refine wpAny_noted ?_
 rw[compTurn_list]
 obtain⟨i,σ3,H3,I3,st3,fr3,w3⟩:=hI
 refine aAB (aEB (aAB ?_))
 rcases turn i n σ3 H3 w3 with⟨stop,qn⟩|⟨go,Nn,hN,step⟩
 ·refine aDC (T.done Y rfl rfl rfl hc i [] s' σ3 H3 _ I3 (stat H3 fr3) st3 stop) (λr s4 ⟨hr,I4⟩=>?_) (λ_ _ h=>h)
  subst hr
  exact aAF (hR σ3 H3 s4 I4 qn)
 ·refine aDC (T.item Y rfl rfl rfl hc i [] s' σ3 H3 _ I3 (stat H3 fr3) st3 go) (λr s4 ⟨u,hr,h4⟩=>?_) (λ_ _ h=>h)
  subst hr
  refine aAB (aDC h4 (λ_ s5 ⟨x,H5,I5,r5,y5,st5,fr5⟩=>?_) λ_ _ h=>h)
  have I5':=I5.pinned (stat H5 fr5) (T.obj _ _ st5)
  refine aAB (thnE hx (hg _ s5 σ3 H5 x u _ I5' r5 (step x H5 y5)) λ_ s6 ⟨σ6,H6,I6,q6⟩=>?_)
  refine aAB (thnE hx (hi _ s6 σ6 H6 _ I6 q6) λok s7 ⟨H7,I7,q7⟩=>?_)
  have again:∀{σ7:St} {H7:Hp} {s7:Shared},Inv Y ([]++pinsAt fp s5.heap) σ7 H7 s7->Nn σ7 H7->∃m,m < n/\∃i σ' H',Inv Y [] σ' H' s7/\tn i s7.heap/\(∀b∈fp,H' b=none)/\W i m σ' H':=λ{σ7 H7 s7} I7 n7=>by
   obtain⟨m',hm,w7⟩:=hN σ7 H7 n7
   refine⟨m',hm,i+1,σ7,H7,I7.unpinned,T.keep _ _ _ st5 λb hb o e=>(I7.pin (b,o) (aBG _ (aBG _ (jW hb e)))).1,λb hb=>?_,w7⟩
   obtain⟨o,e,d⟩:=T.obj _ _ st5 b hb
   exact(I7.pin (b,o) (aBG _ (aBG _ (jW hb e)))).2.1
  cases ok with
  |false=>exact aAF ⟨rfl,again I7 q7⟩
  |true =>
   refine aAB (aAB (thnE hx (he _ s7 σ6 H7 _ I7 q7) λy s8 ⟨yv,H8,I8,r8,ys,hD,hz,n8⟩=>aAB ?_))
   refine thnE hx (uJ _ s8 σ6 H8 (.ref D) [yv] (.ref D) [y] (λ_ H9=>Nn σ6 H9) I8 rfl (.cons r8 .nil) ⟨D,ys,yv,rfl,rfl,hD,hz,n8⟩) λ_ s9 ⟨_,H9,I9,_,q9⟩=>?_
   exact aAF (aAF ⟨rfl,again I9 q9⟩)
variable{iter elt:Expr}{js:List (Option Nat)}{wi:TI}
structure CompEnd(X:Cx)(pins:List (Addr×Obj))(σ:St)(H':Hp)(C:Addr)(s':Shared):Prop where
 inv:Inv X pins σ H' s'
 ns:∃m,s'.heap.Ns C m
 no:H' C=none
 ne:C≠X.env.locals
 ge:X.s₀.heap.objs.size<=C
 nc:∀x c,X.env.cells.lookup x=some c->c≠C
 np:∀p∈X.pn++pins,p.1≠C
theorem CompEnd.go{σ':St}{t:Shared}(e:CompEnd X pins σ H' C s')(I:Inv X pins σ' H' t)(hs:Heap.SameBut C t.heap h'):Inv X pins σ' H' {t with heap:=h'} :=
 I.turned (t':=t.toks) (it:=C) (λb o hb q=>(hs.2 b hb).trans q) e.no e.ne (.inr e.ge) e.nc e.np
theorem rT{pins:List (Addr×Obj)}{H₂:Hp}{s₂:Shared}{fp:List Addr}{cl:List (Str×Addr)}{RR:Value->Addr->Result->Shared->Prop}{Q':Addr->Hp->Prop}
  (hc:X.calm=true)(T:CompOk X.N X.env.scope scope Nc js)(hcl:∀x c,cl.lookup x=some c->X.env.cells.lookup x=some c)(hfr:∀y∈scope.names,y.2=.free->∃c,cl.lookup y.1=some c)
  (hg:∀cl C fp pins s₂ H₂,PG (compCx X Nc scope cl C fp pins s₂ H₂) tg g)(hi:∀cl C fp pins s₂ H₂,PIf (compCx X Nc scope cl C fp pins s₂ H₂) ifs ti)(he:∀cl C fp pins s₂ H₂,PE (compCx X Nc scope cl C fp pins s₂ H₂) elt te)
  (I2:Inv X pins σ H₂ s₂)(Tn:Turn X.prog X.w X.K tg J fp it tn)(st2:tn 0 s₂.heap)(f2:∀b∈fp,FpOk X pins H₂ b)
  (q:∀D,H₂ D=none->tTurns J g ti te D (outσ js σ) (upd H₂ D (.lst [])) (Q' D))
  (hRR:∀D C H' s',CompEnd X pins σ H' C s'->Q' D H'->RR (.ref D) C (.ok .next) s') :
  wpAny (model X.prog X.w) X.A (newList []) (λacc s₃=>wpAny (model X.prog X.w) X.A (newFunctionEnv scope X.env.globals cl [] X.env.qual none .none (some X.env)) (λcenv s₄ =>
   codeAny (model X.prog X.w) X.A (.compStart (.ListComp elt [⟨tg,iter,ifs,0⟩] scope pos) 0 (.ref it) acc {cenv with scope:=relabel scope X.env}) (RR acc cenv.locals) s₄) E s₃) E s₂:=by
 refine aBY (wpAny_newFunctionEnv T.nocell (by intro y hy;simp at hy) (λh₁ hns₁ hsb₁=>?_) T.kind)
 dsimp only at hns₁ hsb₁ ⊢
 generalize hH2:s₂.heap.push {cls:=.type "list",dict:=none,data:=.seq ([]:List Value).toArray}=Hx at hns₁ hsb₁ ⊢
 have hC:Hx.objs.size=s₂.heap.objs.size+1:=by rw[<- hH2,aAW]
 have below:∀b,b < s₂.heap.objs.size->b≠Hx.objs.size:=λb hb=>by rw[hC];exact aAV (aDS hb)
 have old:∀b o,s₂.heap.get? b=some o->h₁.get? b=some o:=λb o e=>hsb₁.extBut b o (below b (aAJ e)) (aAA _ (hH2▸aAA _ e))
 have hD:h₁.get? s₂.heap.objs.size=some {cls:=.type "list",data:=.seq #[]}:=hsb₁.extBut _ _ (by rw[hC];exact aAV (aER _)) (aAA _ (hH2▸aAE _ rfl))
 have ho:∀b∈fp,∃o,s₂.heap.get? b=some o:=λb hb=>let⟨o,e,_⟩:=Tn.obj _ _ st2 b hb;⟨o,e⟩
 have hDn:H₂ s₂.heap.objs.size=none:=I2.hok.fresh (aAH _)
 have hle:s₂.heap.objs.size<=Hx.objs.size:=by rw[hC];exact aFH _
 have st1:tn 0 h₁:=Tn.keep _ _ _ st2 λb _ o e=>old b o e
 have fr1:∀b∈fp,upd H₂ s₂.heap.objs.size (.lst []) b=none:=λb hb=>by
  obtain⟨o,e⟩:=ho b hb
  rw[bE (aAV (aAJ e))]
  exact(f2 b hb).1
 have stat:∀H',(∀b∈fp,H' b=none)->∀b∈fp,FpOk (compCx X Nc scope cl Hx.objs.size fp pins s₂ H₂) [] H' b:=λH' hn b hb=>by
  obtain⟨g0,g1,g2,g3,g4,g5⟩:=f2 b hb
  obtain⟨o,e⟩:=ho b hb
  refine⟨hn b hb,below b (aAJ e),λz=>?_,.inl hb,λx c h=>g4 x c (hcl x c h),λp hp=>g5 p ?_⟩
  ·rcases aAU.mp (I2.stkSub b z)with y|y
   ·exact g1 y
   ·exact g2 y
  ·have hp:p∈(X.pn++pins)++[]:=hp
   rwa[aEH]at hp
 have loop:∀tk,codeAny (model X.prog X.w) X.A (.compLoop (.ListComp elt [⟨tg,iter,ifs,0⟩] scope pos) 0 (.ref it) (.ref s₂.heap.objs.size) (compEnvC scope cl Hx.objs.size X.env)) (RR (.ref s₂.heap.objs.size) Hx.objs.size) {s₂ with heap:=h₁,toks:=tk}:=λtk=>by
  refine aEa (Y:=compCx X Nc scope cl Hx.objs.size fp pins s₂ H₂) rfl (λ_ _ z=>z) Tn (hg _ _ _ _ _ _) (hi _ _ _ _ _ _) (he _ _ _ _ _ _) stat
   (aAe (tk:=tk) I2 hc T hcl hfr f2 ho hC old hns₁ hD) st1 fr1 (q _ hDn) λσ' H' s' I' qQ=>?_
  obtain⟨m,hm,_⟩:=I'.loc
  refine hRR _ _ H' s' ⟨?_,⟨m,hm⟩,I'.free,aEN (aAT I2.lt hle),aBF I2.sz hle,λx c h=>?_,λp hp=>?_⟩ qQ
  ·exact I2.call' (ch:=fp) I'.os I'.base I'.hok I'.bare λb hb=>let⟨g0,g1,g2,g3,g4,g5⟩:=f2 b hb;⟨g3,g1,g4,g5⟩
  ·obtain⟨v,o,e,_⟩:=I2.cell x c h
   exact below c (aAJ e)
  ·exact below _ (aAJ (I2.pin p hp).1)
 exact codeAny_compStart_list (loop _) (Tn.self _ _ _ _ _ st1 (loop _))
theorem aJj(hc:X.calm=true)(T:CompOk X.N X.env.scope scope Nc js)(hit:PI X tg iter wi)
  (hg:∀cl C fp pins s₂ H₂,PG (compCx X Nc scope cl C fp pins s₂ H₂) tg g)(hi:∀cl C fp pins s₂ H₂,PIf (compCx X Nc scope cl C fp pins s₂ H₂) ifs ti)(he:∀cl C fp pins s₂ H₂,PE (compCx X Nc scope cl C fp pins s₂ H₂) elt te)
  (hs:∀x,foldedSetIterable iter X.env x=pure x:=by intro _;rfl):PE X (.ListComp elt [⟨tg,iter,ifs,0⟩] scope pos) (tComp js wi g ti te):=by
 intro pins s σ H Q I h
 rw[eval_ListComp]
 obtain⟨cl,hcl0,hcl,hfr⟩:=lZ (scope:=scope) (env:=X.env) (λy hy hf=>I.ok.has y.1 (.inl (T.free y hy hf)))
 refine wpAny_comprehension_free (use:=none) rfl hs hcl0 T.kind T.names (thn (hit pins s σ H _ I h) λxv s1 h1=>thn h1 λitv s2 h2=>?_)
 obtain⟨it,fp,tn,J,H2,e,I2,Tn,st2,f2,q⟩:=h2
 subst e
 refine rT (RR:=λacc C=>compPost (model X.prog X.w) X.A X.xe none (EP X pins σ Q) acc C) hc T hcl hfr hg hi he I2 Tn st2 f2 q λD C H' s' ce qD=>?_
 obtain⟨m,hm⟩:=ce.ns
 exact⟨m,hm,λh' hs'=>⟨.ref D,H',ce.go ce.inv hs',rfl,qD⟩⟩
theorem aJh{y:Str}{py spos:Pos}(hN:X.N.Nodup)(hyi:X.N[i]?=some y)(hy:X.env.scope.names.lookup y=some .local)(hc:X.calm=true)(T:CompOk X.N X.env.scope scope Nc js)(hit:PI X tg iter wi)
  (hg:∀cl C fp pins s₂ H₂,PG (compCx X Nc scope cl C fp pins s₂ H₂) tg g)(hi:∀cl C fp pins s₂ H₂,PIf (compCx X Nc scope cl C fp pins s₂ H₂) ifs ti)(he:∀cl C fp pins s₂ H₂,PE (compCx X Nc scope cl C fp pins s₂ H₂) elt te)
  (hsw:swapsWith (.ListComp elt [⟨tg,iter,ifs,0⟩] scope pos) (some (.Name y py)) spos.line X.env=pure true:=by rfl)
  (hs:∀x,foldedSetIterable iter X.env x=pure x:=by intro _;rfl):PS X (.Assign [.Name y py] (.ListComp elt [⟨tg,iter,ifs,0⟩] scope pos) spos) (tAsg (tComp js wi g ti te) (gName i)):=by
 intro pins s σ H D0 I h
 rw[exec_Assign_Name_used _ _ _ _ hsw]
 obtain⟨cl,hcl0,hcl,hfr⟩:=lZ (scope:=scope) (env:=X.env) (λy hy hf=>I.ok.has y.1 (.inl (T.free y hy hf)))
 refine aAB (aEB (aAB ?_))
 show wpAny _ X.A (do let _ <- comprehension (.ListComp elt [⟨tg,iter,ifs,0⟩] scope pos) scope X.env _ (newList []) false (eval iter X.env) (some (assign (.Name y py) X.env))) _ _ s
 refine aAB (aDC (wpAny_comprehension_free (use:=some (assign (.Name y py) X.env)) (Q:=λ_ s'=>SP X pins D0 .next s') rfl hs hcl0 T.kind T.names
  (thn (hit pins s σ H _ I h) λxv s1 h1=>thn h1 λitv s2 h2=>?_)) (λ_ s' hq=>aAF (aAF hq)) λ_ _ e=>e)
 obtain⟨it,fp,tn,J,H2,e,I2,Tn,st2,f2,q⟩:=h2
 subst e
 refine rT (RR:=λacc C=>compPost (model X.prog X.w) X.A X.xe (some (assign (.Name y py) X.env)) (λ_ s'=>SP X pins D0 .next s') acc C) hc T hcl hfr hg hi he I2 Tn st2 f2 q λD C H' s' ce qD=>?_
 obtain⟨m,hm⟩:=ce.ns
 show wpAny _ _ (assign (.Name y py) X.env (.ref D)) _ _ _
 refine wpAny_assign_Name (tX (v:=.ref D) ce.inv hN hyi (.inl hy) rfl (λs'' I'' ⟨a,sb,ha⟩=>?_) (.inr hy))
 have hCa:C≠a:=by
  rcases ha with rfl|ha
  ·exact ce.ne
  ·exact λz=>ce.nc y a ha z.symm
 exact⟨m,hm.sameBut sb hCa,λh' hs'=>⟨_,H',ce.go I'' hs',qD⟩⟩
noncomputable def compOkB(N0:List Str)(sc0 scope:Scope)(Nc:List Str)(js:List (Option Nat)):Bool :=
 decide (scope.kind=.function)&&scope.names.all (λy=>y.2 != .cell)&&scope.names.all (λy=>y.2 != .local || scope.names.lookup y.1==some .local)&&scope.names.all (λy=>y.2 != .free || sc0.names.lookup y.1==some .cell) &&
  (js.length==Nc.length)&&(Nc.zip js).all (λp=>match p.2 with|none=>true|some j=>N0[j]?==some p.1&&scope.names.lookup p.1==some .free&&sc0.names.lookup p.1==some .cell)
theorem CompOk.of{N0:List Str}{sc0:Scope}(h:compOkB N0 sc0 scope Nc js=true):CompOk N0 sc0 scope Nc js:=by
 unfold compOkB at h
 simp only[aCV,List.all_eq_true,beq_iff_eq,aAN]at h
 obtain⟨⟨⟨⟨⟨h1,h2⟩,h3⟩,h4⟩,h5⟩,h6⟩:=h
 refine⟨h1,λy hy=>by simpa using h2 y hy,λy hy e=>?_,λy hy e=>?_,h5,λp hp j hj=>?_⟩
 ·have:=h3 y hy
  simpa[e]using this
 ·have:=h4 y hy
  simpa[e]using this
 ·have:=h6 p hp
  have hj:p.2=some j:=hj
  rw[hj]at this
  simpa[and_assoc]using this
variable{a b:Expr}{rest:List Expr}
theorem kQ(r:Addr)(a b c:Int)(t u v:Tok)
  (hc0:¬(!(Builtin.Range.rangeFitsLong a&&Builtin.Range.rangeFitsLong b&&Builtin.Range.rangeFitsLong c&&Builtin.Range.rangeFitsLong (-c)&&Builtin.Range.rangeFitsLong (a - c)&&Builtin.Range.rangeFitsLong (Builtin.Range.rangeSize a b c)))=true) :
  Meets (Builtin.«range.__reversed__» ⟨[.ref r],[]⟩) (λ_ R s=>s.heap.get? r=some {cls:=.type "range",dict:=none,data:=.fields #[.int a t,.int b u,.int c v],slots:=#[]} /\
   R (.ok (.ret (Value.ref s.heap.objs.size))) {s with heap:=s.heap.push {cls:=Value.type "range_iterator",data:=Data.fields #[rawInt (a+(Builtin.Range.rangeSize a b c - 1)*c),rawInt (Builtin.Range.rangeSize a b c),rawInt (-c)]},toks:=s.toks}) :=
 .of_wp λprog w A R s h=>by
  obtain⟨hp,g,d,tk,os⟩:=s
  obtain⟨hl,h⟩:=h
  have e:(Builtin.Range.rangeFitsLong a&&Builtin.Range.rangeFitsLong b&&Builtin.Range.rangeFitsLong c&&Builtin.Range.rangeFitsLong (-c)&&Builtin.Range.rangeFitsLong (a - c)&&Builtin.Range.rangeFitsLong (Builtin.Range.rangeSize a b c))=true:=by
   cases z:(Builtin.Range.rangeFitsLong a&&Builtin.Range.rangeFitsLong b&&Builtin.Range.rangeFitsLong c&&Builtin.Range.rangeFitsLong (-c)&&Builtin.Range.rangeFitsLong (a - c)&&Builtin.Range.rangeFitsLong (Builtin.Range.rangeSize a b c))with
   |true=>rfl
   |false=>rw[z]at hc0;exact absurd rfl hc0
  wp_walk
  simp only[e,aBT]
  exact⟨_,rfl,h⟩
theorem pB:isSubtype (.type "range_iterator") (.type "reversed")=pure false:=by rw[aEK];kernel_rfl
theorem fits62{a:Int}(h1 : -(2 ^ 62)<=a)(h2:a < 2 ^ 62):Builtin.Range.rangeFitsLong a=true:=by
 unfold Builtin.Range.rangeFitsLong
 simp only[aCV,aAN]
 lia
variable{n:Int}
theorem aGf(h0:0<=n):Builtin.Range.rangeSize 0 n 1=n:=by
 unfold Builtin.Range.rangeSize
 rw[aAG (by decide)]
 split
 ·lia
 ·lia
variable{r:Addr}{t u v:Tok}{Q:Value->Shared->Prop}
theorem lU(hl:s.heap.get? r=some {cls:=.type "range",data:=.fields #[.int 0 t,.int n u,.int 1 v]})(h0:0<=n)(h1:n < 2 ^ 62)
  (h:Q (.ref s.heap.objs.size) {s with heap:=s.heap.push {cls:=.type "range_iterator",data:=.fields #[rawInt (n - 1),rawInt n,rawInt (-1)]}}):wpAny (model prog w) A (call (.builtin "range.__reversed__") [.ref r]) Q E s:=by
 have hT:s.TypeIs (.ref r) "range":=⟨_,hl,rfl⟩
 have hf:(Builtin.Range.rangeFitsLong 0&&Builtin.Range.rangeFitsLong n&&Builtin.Range.rangeFitsLong 1&&Builtin.Range.rangeFitsLong (-1)&&Builtin.Range.rangeFitsLong (0 - 1)&&Builtin.Range.rangeFitsLong (Builtin.Range.rangeSize 0 n 1))=true:=by
  rw[aGf h0,fits62 (a:=0) (by decide) (by decide),fits62 (a:=n) (by lia) h1,fits62 (a:=1) (by decide) (by decide),fits62 (a := -1) (by decide) (by decide),fits62 (a:=0 - 1) (by decide) (by decide)]
  all_goals rfl
 refine aED aFQ hT F.entry_range_reversed (F.args_range_reversed_1 _) (kQ r 0 n 1 t u v (by rw[hf];simp)) ⟨hl,?_⟩
 rw[aGf h0,show(0:Int)+(n - 1)*1=n - 1 by lia]
 exact h
theorem mJ{Q₁:Value->Shared->Prop}(hl:s.heap.get? r=some {cls:=.type "range",data:=.fields #[.int 0 t,.int n u,.int 1 v]})(h0:0<=n)(h1:n < 2 ^ 62)
  (h:Q₁ (.ref s.heap.objs.size) {s with heap:=s.heap.push {cls:=.type "range_iterator",data:=.fields #[rawInt (n - 1),rawInt n,rawInt (-1)]}}) :
  codeAny (model prog w) A (.call (.builtin "reversed.__new__") ⟨[.type "reversed",.ref r],[]⟩) (wants Q₁ E) s:=by
 have hT:s.TypeIs (.ref r) "range":=⟨_,hl,rfl⟩
 refine codeAny_of_tree ?_
 show wpAny _ A.in1 (do checkBuiltinCall "reversed.__new__" ⟨[.type "reversed",.ref r],[]⟩;again (.builtin "reversed.__new__" ⟨[.type "reversed",.ref r],[]⟩)) _ _ s
 refine aAB (aCH (F.newCall_reversed_1 _) (aAF ⟨plainId_quiet F.plain_reversed_new _,aFS F.entry_reversed_new ?_⟩))
 rw[aGE F.plain_reversed_new _]
 unfold Builtin.«reversed.__new__»
 refine aAB (aCH (newClass_reversed _) ?_)
 try dsimp only
 refine aAB (aCH (a:=()) (by first|rfl|kernel_rfl) ?_)
 refine aAB (aCH (a:=()) (by first|rfl|kernel_rfl) ?_)
 try dsimp only
 refine aAB (aEW hT aFQ.lookup ?_)
 try dsimp only
 refine aAB (aCH (aFQ.bind _) ?_)
 try dsimp only
 first
 |rw[aAC (show ¬((Value.builtin "range.__reversed__"==Value.none)=true)from aBH)]
 |(show wpAny _ _ (if(Value.builtin "range.__reversed__"==Value.none)=true then _ else _) _ _ _;rw[aAC (show ¬((Value.builtin "range.__reversed__"==Value.none)=true)from aBH)])
 refine aAB (aDE ?_)
 refine aAB (m:=runValue (.call (.builtin "range.__reversed__") ⟨[.ref r],[]⟩)) (show wpAny _ _ (call (.builtin "range.__reversed__") [.ref r]) _ _ _ from lU hl h0 h1 ?_)
 first
 |exact aAF h
 |exact aAB (aAF (aAF h))
theorem lV(hl:s.heap.get? r=some {cls:=.type "range",data:=.fields #[.int 0 t,.int n u,.int 1 v]})(h0:0<=n)(h1:n < 2 ^ 62)
  (h:Q (.ref s.heap.objs.size) {s with heap:=s.heap.push {cls:=.type "range_iterator",data:=.fields #[rawInt (n - 1),rawInt n,rawInt (-1)]}}):wpAny (model prog w) A (call (.type "reversed") [.ref r]) Q E s:=by
 refine callType_other (U:="range_iterator") (Q₁:=λobj s₁=>obj=.ref s.heap.objs.size/\s₁={s with heap:=s.heap.push {cls:=.type "range_iterator",data:=.fields #[rawInt (n - 1),rawInt n,rawInt (-1)]}}) (by decide +kernel) F.create_reversed ⟨_,_,F.mro_reversed⟩ F.made_reversed pB (F.typeCall_reversed_1 _) (mJ hl h0 h1 ⟨rfl,rfl⟩) ?_
 rintro obj s₁ ⟨rfl,rfl⟩
 exact⟨⟨_,aAE _ rfl,rfl⟩,h⟩
theorem yJ:CallR X (.type "range") (λxs H Q=>∃j,xs=[.int j]/\∀p,H p=none->Q (.ref p) (upd H p (.rng 0 j))):=by
 intro pins s σ H xs us Q I r h
 obtain⟨j,e,q⟩:=h
 subst e
 obtain⟨u,rfl,r1⟩:=vals1 r
 obtain⟨t,rfl⟩:=r1
 refine call_range_1 ⟨.ref s.heap.objs.size,upd H s.heap.objs.size (.rng 0 j),?_,rfl,q _ (I.hok.fresh (aAH _))⟩
 exact I.laid (λb u e=>aAA _ e) (aAH _) ⟨_,_,_,aAE _ rfl⟩
noncomputable def Itd(n:Nat):It:=⟨λi _=>i < n,λi H x H'=>H'=H/\x=.int ((n:Int) - 1 - i),λi _=>n<=i⟩
theorem aDo(it:Addr)(n:Nat):Turn P w K tg (Itd n) [it] it (λi h=>IsRangeIter h it ((n:Int) - 1+(i:Nat)*(-1)) ((n:Int) - (i:Nat)) (-1))where
 mem:=by simp
 obj:=λi h st b hb=>by
  have e:b=it:=by simpa using hb
  subst e
  exact⟨_,st,λv z=>by
   have z':Data.fields _=Data.cell v:=z
   cases z'⟩
 keep:=λi h h' st k=>k it (by simp) _ st
 item:=by
  intro X hP hw hK hc i pins s σ H E I hf st hg
  subst hP hw hK
  obtain⟨f0,f1,f2,f3,f4,f5⟩:=hf it (by simp)
  have W:=Walks.range (prog:=X.prog) (w:=X.w) (I.ok.hd hc) it ((n:Int) - 1) (-1) n
  refine W.item i s _ _ hg st λv h' tk hv st' kk=>?_
  obtain⟨t,rfl⟩:=hv
  have I1:Inv X pins σ H {s with heap:=h',toks:=tk}:=I.turned (λb o hb e=>kk b o (by simpa using hb) e) f0 f1 f3 f4 f5
  refine⟨_,rfl,tJ (s:={s with heap:=h',toks:=tk}) (n:="range_iterator") st' rfl rfl (by decide) ⟨.int ((n:Int) - 1 - i),H,I1,⟨t,?_⟩,⟨rfl,rfl⟩,st',λb hb=>(hf b hb).1⟩⟩
  rw[show(n:Int) - 1+(i:Int) * -1=(n:Int) - 1 - i by lia]
 done:=by
  intro X hP hw hK hc i pins s σ H E I hf st hg
  subst hP hw hK
  obtain⟨f0,f1,f2,f3,f4,f5⟩:=hf it (by simp)
  exact wpAny_pyNext_range_end (I.ok.hd hc) st (by have:n<=i:=hg;lia) λh' eb=>⟨rfl,I.turned (t':=s.toks) (λb o hb e=>eb b o hb e) f0 f1 f3 f4 f5⟩
 self:=λ_ _ _ _ _ st h=>aFJ st h
noncomputable def iRevR(ta:TA):TI:=λσ H R=>ta σ H λvs H1=>∃a j,vs=[.ref a]/\H1 a=some (.rng 0 j)/\0<=j/\j < 2 ^ 62/\R (Itd j.toNat) H1
theorem aIq{ta:TA}(hg:Gl X "reversed")(hm:X.mg "reversed"=none)(ha:PA X [a] ta)(hs:starEach [a] X.env=[(false,eval a X.env)]:=by rfl):PI X tg (.Call (.Name "reversed" p) [a] [] pos) (iRevR ta):=by
 intro pins s σ H R I h
 refine Call_ (hG I hg hm wI (aBO (thn (ha pos pins s σ H _ I h) λus s1 ⟨vs,H1,I1,r1,q1⟩=>?_) hs rfl))
 obtain⟨b,j,e,hq,j0,j1,q⟩:=q1
 subst e
 cases r1 with
 |cons r rr =>
  cases rr
  cases r
  obtain⟨t,u,v,ho⟩:=(show ObjOk X.prog X.w H1 s1.heap b (.rng 0 j)from I1.hok b _ hq)
  have I2:Inv X pins σ H1 {s1 with heap:=s1.heap.push {cls:=.type "range_iterator",data:=.fields #[rawInt (j - 1),rawInt j,rawInt (-1)]}}:=I1.kept (t':=s1.toks) λb o e=>aAA _ e
  refine lV ho j0 j1 (aFJ (aAE _ rfl) ?_)
  refine⟨s1.heap.objs.size,[s1.heap.objs.size],_,_,H1,rfl,I2,aDo _ j.toNat,?_,λc hb=>?_,q⟩
  ·show IsRangeIter _ _ (((j.toNat:Nat):Int) - 1+((0:Nat):Int)*(-1)) (((j.toNat:Nat):Int) - ((0:Nat):Int)) (-1)
   rw[show((j.toNat:Nat):Int) - 1+((0:Nat):Int)*(-1)=j - 1 by lia,show((j.toNat:Nat):Int) - ((0:Nat):Int)=j by lia]
   exact aAE _ rfl
  ·have e:c=s1.heap.objs.size:=by simpa using hb
   subst e
   exact I1.fpOk (aAH _) (I1.hok.fresh (aAH _))
variable{rest:List Stmt}{t u:TS}
theorem qP:bootBuiltins "int"=some (.type "int"):=by decide +kernel
theorem aNa:bootBuiltins "max"=some (.builtin "max"):=by decide +kernel
theorem aOf:bootBuiltins "min"=some (.builtin "min"):=by decide +kernel
theorem dR:bootBuiltins "tuple"=some (.type "tuple"):=by decide +kernel
theorem aKb:bootBuiltins "list"=some (.type "list"):=by decide +kernel
theorem aMr:bootBuiltins "zip"=some (.type "zip"):=by decide +kernel
theorem nH:bootBuiltins "enumerate"=some (.type "enumerate"):=by decide +kernel
theorem uH:bootBuiltins "sorted"=some (.builtin "sorted"):=by decide +kernel
theorem aPf:bootBuiltins "sum"=some (.builtin "sum"):=by decide +kernel
end L2
end
namespace L2
open PySem
noncomputable def SB(l:Addr)(H H':Hp):Prop:=∀x o,x≠l->H x=some o->H' x=some o
theorem SB.trans(s:SB l H H1)(t:SB l H1 H2):SB l H H2:=λx u n e=>t x u n (s x u n e)
open PySem.Spec PyProof.Rows
end L2
namespace Com
open PySem L2
structure IW(n k high low past now:Int):Prop where
 h0:0<=high
 hb:high<=1000000
 l0:0<=low
 lb:low<=1000000
 g:Int.gcd high low=Int.gcd n (k % n)
 d1:n ∣ k*past - high
 d2:n ∣ k*now - low
structure PV(n k e told square left:Int):Prop where
 t0:0<=told
 t1:told < n
 s0:0<=square
 s1:square < n
 l0:0<=left
 eq:told*square ^ left.toNat % n=k ^ e.toNat % n
noncomputable def bitsN:List Int->Nat
 |[]=>0
 |b::r=>b.toNat+2*bitsN r
structure DG(e0 e:Int)(ds:List Int):Prop where
 nn:0<=e
 bit:∀d∈ds,d=0\/d=1
 len:∃m:Nat,e.toNat < 2 ^ m/\ds.length+m=62
 val:∀r,bitsN r=e.toNat->bitsN (ds++r)=e0.toNat
noncomputable def BoxAt(H:Hp)(b:Addr):Prop:=∃c s t:Int,H b=some (.lst [.int c,.int s,.int t])
noncomputable def Keep(b:Addr)(H H':Hp):Prop:=(∀a o,a≠b->H a=some o->H' a=some o)/\BoxAt H' b
theorem Keep.trans{b:Addr}(x:Keep b H H1)(y:Keep b H1 H2):Keep b H H2:=⟨λa o n e=>y.1 a o n (x.1 a o n e),y.2⟩
end Com
section
open PySem PySem.Spec PyProof.Rows
namespace L2
variable{K:Frag}{W:World}{Ar:Around}{Ex:Value->Shared->Prop}{hp:Heap}{gn:Array GenState}{dr:Drawn}{tk:Nat}{oz:OsState}{nm qn:Str}{N:Addr}{bs bmB:List Value}{hdct:Bool}{sn:List Str}{sub:List Value}{ab:Bool}{col:Option Bool}{dd:Option Addr}{k0 k1 k2 k3 k5:Option Value}{B newId initId:String}
noncomputable def XRec(P:Addr->Prop)(H:Hp)(h:Heap)(e C:Addr)(d:Option Addr):Prop :=
 ∃vs sl,h.get? e=some ⟨.ref C,d,.fields vs,sl⟩/\1 < vs.size /\
  (vs[1]?=some .none\/∃T cT dT ts sT,vs[1]?=some (.ref T)/\P T/\H T=none/\h.get? T=some ⟨cT,dT,.fields ts,sT⟩/\3 < ts.size)
variable{M:Model}{E:Value->Shared->Prop}{L e:Addr}{P:Addr->Prop}{Q:Unit->Shared->Prop}
noncomputable def XO(e C:Addr)(d:Option Addr):HO:=.ext λh=>∃vs sl,h.get? e=some ⟨.ref C,d,.fields vs,sl⟩
variable{P:Program}
theorem XO.ok{vs:Array Value}(q:h.get? e=some ⟨.ref C,d,.fields vs,sl⟩):ObjOk P w H h e (XO e C d) :=
 ⟨⟨vs,sl,q⟩,⟨_,q⟩,λh1 h2 ⟨vs,sl,z⟩ k=>⟨vs,sl,k _ z⟩⟩
theorem XO.at(x:HOk P w H h)(q:H e=some (XO e C d)):∃vs sl,h.get? e=some ⟨.ref C,d,.fields vs,sl⟩:=(x e _ q).1
noncomputable def Free(X:Cx)(pins:List (Addr×Obj))(T:Addr):Prop:=X.s₀.heap.objs.size<=T/\T≠X.env.locals/\(∀x c,X.env.cells.lookup x=some c->c≠T)/\∀p∈X.pn++pins,p.1≠T
variable{σ:List (Option V)}
noncomputable def XE(X:Cx)(pins:List (Addr×Obj))(σ:List (Option V))(R:Addr->Hp->Prop)(ev:Value)(s':Shared):Prop :=
 ∃a H' C d,ev=.ref a/\Inv X pins σ H' s'/\XRec (Free X pins) H' s'.heap a C d/\H' a=some (XO a C d)/\R a H'
structure Xz(X:Cx)(R:Addr->Hp->Prop):Prop where
 go:∀pins σ ev s',XE X pins σ R ev s'->X.xe ev s'
end L2
namespace L2
open PySem.W PySem.Calls Builtin Builtin.ObjectAttr
noncomputable abbrev vb:List Value:=[.type "ValueError",.type "Exception",.type "BaseException",.type "object"]
variable{E:Value->Shared->Prop}{K:Frag}{x:Addr}{vs:Array Value}{cd:ClassData}{v:Value}{K:Frag}{dx:Addr}
noncomputable def xcB(K:Frag)(C:Addr)(bm0:List Value)(ini:Option Value):Bool:=match K.lookup C with
 |some ⟨.type "type",_,.cls cd,sl⟩=>(match cd.mro,sl.toList with
  |.ref C'::bm,[_,_,_,_,some (.builtin n),_]=>C'==C&&bm==bm0&&n=="ValueError.__new__"&&!cd.hasDel&&nsOkIn K cd.ns&&nsIn K cd.ns "__init__"==some ini
  |_,_=>false)
 |_=>false
structure Xc(K:Frag)(c:Str)(C LE:Addr):Prop where
 nm:nsIn K mainGlobals c=some (some (.ref C))
 cd:∃cd,clsIn K C=some cd/\cd.name=c/\cd.mro=.ref C::.ref LE::vb
 le:∃cl,clsIn K LE=some cl/\cl.name="LentError"
 leN:nsIn K mainGlobals "LentError"=some (some (.ref LE))
 ne:c≠"LentError"
 hd:hasDictIn K C=true
 ga:findIn K (.ref C) "__getattribute__"=some (some (.builtin "BaseException.__getattribute__"))
 gh:findIn K (.ref C) "__getattr__"=some none
 cl:findIn K (.ref C) "__class__"=some (some (.builtin "object.__class__"))
 ob:∃ini,xcB K C (.ref LE::vb) ini=true
 leO:xcB K LE vb none=true
structure XcO(h:Heap)(C:Addr)(bm:List Value)(ini:Option Value):Prop where
 ex:∃nm q N bs hdct sn sub ab col dd k0 k1 k2 k3 k5,h.get? C=some (excClassObj nm q C N bs bm hdct sn sub ab col dd k0 k1 k2 k3 k5 "ValueError.__new__")/\∃mN,h.Ns N mN/\mN "__init__"=ini
variable{M:Model}{ini:Option Value}{Q:Flow->Shared->Prop}
noncomputable def XN(e C:Addr)(d:Option Addr):HO:=.ext λh=>∃vs sl t0,h.get? e=some ⟨.ref C,d,.fields vs,sl⟩/\vs[1]?=some .none/\vs[0]?=some (.ref t0)
variable{e a:Addr}{o:HO}
theorem XN.ok{t0:Addr}(q:h.get? e=some ⟨.ref C,d,.fields vs,sl⟩)(q1:vs[1]?=some .none)(q0:vs[0]?=some (.ref t0)):ObjOk P w H h e (XN e C d) :=
 ⟨⟨vs,sl,t0,q,q1,q0⟩,⟨_,q⟩,λh1 h2 ⟨vs,sl,t0,z,z'⟩ k=>⟨vs,sl,t0,k _ z,z'⟩⟩
theorem XN.at(x:HOk P w H h)(q:H e=some (XN e C d)):∃vs sl t0,h.get? e=some ⟨.ref C,d,.fields vs,sl⟩/\vs[1]?=some .none/\vs[0]?=some (.ref t0):=(x e _ q).1
variable{σ:List (Option V)}
structure LeF(K:Frag)(LE:Addr):Prop where
 rd:readsIn K LE (.type "type")=true
 ga:specialIn K (.ref LE) "__getattribute__"=some (some (.builtin "type.__getattribute__"))
 ini:findCls K (.ref LE) (.type "type") "__init__"=some (.val (.builtin "ValueError.__init__"))
 tl:tailIn K vb (.ref LE::vb)=true
variable{fI:Addr}{e1 e2 o v:Expr}{t:TA}{tv:TE}{p1 ap cp:Pos}{f:Str}{k:Nat}{E:XK}{x:Str}{e:Expr}{es:List Expr}{σ:St}{Q:VK}{vs:List V}{E:Value->Shared->Prop}{g:Array GenState}{dr:Drawn}{t:Nat}{os:OsState}{D e:Addr}{oe:Obj}{bmD:List Value}{iniD:Option Value}{Q:Bool->Shared->Prop}
noncomputable def PEx(X:Cx)(e:Expr)(t:St->Hp->VK->(Addr->Hp->Prop)->Prop):Prop :=
 ∀(pins:List (Addr×Obj)) (s:Shared) (σ:St) (H:Hp) (Q:VK) (R:Addr->Hp->Prop),Inv X pins σ H s->t σ H Q R->wpAny (model X.prog X.w) X.A (eval e X.env) (EP X pins σ Q) (XE X pins σ R) s
noncomputable def PBx(X:Cx)(b:List Stmt)(t:Ends->(Addr->Hp->Prop)->St->Hp->Prop):Prop :=
 ∀(pins:List (Addr×Obj)) (s:Shared) (σ:St) (H:Hp) (D:Ends) (R:Addr->Hp->Prop),Inv X pins σ H s->t D R σ H->wpAny (model X.prog X.w) X.A (execs b X.env) (SP X pins D) (XE X pins σ R) s
structure XM(K:Frag)(C D:Addr):Prop where
 c:∃bm ini,xcB K C bm ini=true/\(Value.ref C::bm).contains (.ref D)=true
 d:∃bm ini,xcB K D bm ini=true/\bm.contains (.type "BaseException")=true
variable{b₀:Stmt}{suite:List Stmt}{cn:Str}{Dc:Addr}{np hpos:Pos}{tb:Ends->(Addr->Hp->Prop)->St->Hp->Prop}{ts:TS}{K:Frag}{x:Addr}{c:Str}
noncomputable def clV:V->Option Value
 |.ref a=>some (.ref a)
 |.ty n=>some (.type n)
 |_=>none
variable{σ:List (Option V)}
end L2
namespace EV
open L2
noncomputable abbrev St:=L2.St
inductive D where
 |non|bl (b:Bool)|int (i:Int)|str (x:Str)|tup (xs:List D)|lst (xs:List D)|fz (xs:List D)
 |exn (c f:Str) (xs:List D)
inductive W where
 |d (x:D)|ref (i:Nat)
noncomputable abbrev Lc:=List (Option W)
noncomputable abbrev Mm:=List (List D)
noncomputable abbrev Exn:=D
inductive Oc(α:Type)where
 |ok (a:α) (M:Mm)|ex (x:Exn) (M:Mm)|bad
noncomputable def Oc.bind(o:Oc α)(k:α->Mm->Oc β):Oc β:=match o with
 |.ok a M=>k a M
 |.ex x M=>.ex x M
 |.bad=>.bad
@[simp]theorem gQ(a:α)(M:Mm)(k:α->Mm->Oc β):(Oc.ok a M).bind k=k a M:=rfl
@[simp]theorem aQl(x:Exn)(M:Mm)(k:α->Mm->Oc β):(Oc.ex x M:Oc α).bind k=.ex x M:=rfl
@[simp]theorem aPz(k:α->Mm->Oc β):(Oc.bad:Oc α).bind k=.bad:=rfl
section
variable(K:Frag)(μ:List Addr)(H:Hp)
noncomputable def FzL(a:Addr)(vs:List V):Prop:=(∃o,H a=some (.frz o (.lst vs))) \/
 ∃(o:Obj) (its:Array Value) (n:Nat),K.lookup a=some o/\o.cls=.type "list"/\o.dict=none/\o.data=.seq its n/\its.size<=sizeLine/\Vals vs its.toList
noncomputable def XFl(C:Addr)(f:Str)(d:Option Addr)(vs:List V):Prop:=(d=none/\vs=[])\/∃dx u,d=some dx/\vs=[u]/\H dx=some (.xd [(f,u)])/\PySem.W.findIn K (.ref C) f=some none
mutual
noncomputable def Rp:D->V->Prop
 |.non,v=>v=.non
 |.bl b,v=>v=.bl b
 |.int i,v=>v=.int i
 |.str x,v=>v=.str x
 |.tup ds,v=>∃a vs,v=.ref a/\H a=some (.tup vs)/\Rps ds vs
 |.lst ds,v=>∃a vs,v=.ref a/\H a=some (.lst vs)/\a∉μ/\Rps ds vs
 |.fz ds,v=>∃a vs,v=.ref a/\FzL K H a vs/\Rps ds vs
 |.exn c f ds,v=>∃a vs C LE d,v=.ref a/\H a=some (XO a C d)/\Xc K c C LE/\XFl K H C f d vs/\Rps ds vs
noncomputable def Rps:List D->List V->Prop
 |[],vs=>vs=[]
 |d::ds,vs=>∃v r,vs=v::r/\Rp d v/\Rps ds r
end
noncomputable def Rw:W->V->Prop
 |.d x,v=>Rp K μ H x v
 |.ref i,v=>∃a,μ[i]?=some a/\v=.ref a
noncomputable def Rws:List W->List V->Prop
 |[],vs=>vs=[]
 |d::ds,vs=>∃v r,vs=v::r/\Rw K μ H d v/\Rws ds r
structure HR(M:Mm):Prop where
 len:μ.length=M.length
 nd:μ.Nodup
 ent:∀(i:Nat) (a:Addr) (ds:List D),μ[i]?=some a->M[i]?=some ds->∃vs,H a=some (.lst vs)/\Rps K μ H ds vs
structure LR(L:Lc)(σ:St):Prop where
 len:L.length=σ.length
 ent:∀(i:Nat) (w:W),L[i]?=some (some w)->∃v,σ[i]?=some (some v)/\Rw K μ H w v
end
structure Ext(μ:List Addr)(H:Hp)(μ':List Addr)(H':Hp):Prop where
 keep:∀a o,a∉μ->H a=some o->H' a=some o
 new:∀a,a∈μ'->a∈μ\/H a=none
 pre:∀(i:Nat) (a:Addr),μ[i]?=some a->μ'[i]?=some a
variable{K:Frag}{μ2:List Addr}{M:Mm}{a:Addr}
theorem FzL.sq(h:FzL K H a vs):SqL K H a vs:=by
 rcases h with⟨o,h⟩|h
 ·exact .inl (.inr ⟨o,h⟩)
 ·exact .inr h
theorem Ext.refl:Ext μ H μ H:=⟨λ_ _ _ h=>h,λ_ h=>.inl h,λ_ _ h=>h⟩
variable{o:HO}
theorem Ext.out(e:Ext μ H μ1 H1)(h:H a=some o)(n:a∉μ):a∉μ1:=λz=>by
 rcases e.new a z with z|z
 ·exact n z
 ·rw[h]at z;cases z
theorem Ext.trans(e:Ext μ H μ1 H1)(f:Ext μ1 H1 μ2 H2):Ext μ H μ2 H2 where
 keep:=λa o n h=>f.keep a o (e.out h n) (e.keep a o n h)
 new:=λa h=>by
  rcases f.new a h with h|h
  ·exact e.new a h
  ·by_cases n:a∈μ
   ·exact .inl n
   ·cases q:H a with
    |none=>exact .inr rfl
    |some o=>rw[e.keep a o n q]at h;cases h
 pre:=λi a h=>f.pre i a (e.pre i a h)
noncomputable def Lsts(μ:List Addr)(H:Hp):Prop:=∀a∈μ,∃vs,H a=some (.lst vs)
theorem HR.lsts(h:HR K μ H M):Lsts μ H:=λa ha=>by
 obtain⟨i,hi,e⟩:=aDV.mp ha
 have hM:i < M.length:=h.len▸hi
 obtain⟨vs,q,_⟩:=h.ent i a M[i] (by rw[aAQ hi,e]) (by simp[hM])
 exact⟨vs,q⟩
theorem Rd.ext{u:HO}(hu:∀vs,u≠.lst vs)(l:Lsts μ H)(e:Ext μ H μ1 H1)(h:Rd H a u):Rd H1 a u:=by
 rcases h with h|⟨o,h⟩
 ·exact .inl (e.keep a _ (λz=>by obtain⟨vs,q⟩:=l a z;rw[h]at q;cases q;exact hu _ rfl) h)
 ·exact .inr ⟨o,e.keep a _ (λz=>by obtain⟨vs,q⟩:=l a z;rw[h]at q;cases q) h⟩
theorem SqT.ext{a:Addr}{vs:List V}(l:Lsts μ H)(e:Ext μ H μ1 H1)(h:SqT K H a vs):SqT K H1 a vs:=by
 rcases h with h|h
 ·exact .inl (Rd.ext (λ_ z=>by cases z) l e h)
 ·exact .inr h
theorem FzL.ext(l:Lsts μ H)(e:Ext μ H μ1 H1)(h:FzL K H a vs):FzL K H1 a vs:=by
 rcases h with⟨o,h⟩|h
 ·exact .inl ⟨o,e.keep a _ (λz=>by obtain⟨vs,q⟩:=l a z;rw[h]at q;cases q) h⟩
 ·exact .inr h
theorem XFl.ext{f:Str}(l:Lsts μ H)(e:Ext μ H μ1 H1)(h:XFl K H C f d vs):XFl K H1 C f d vs:=by
 rcases h with h|⟨dx,u,h1,h2,h3,h4⟩
 ·exact .inl h
 ·exact .inr ⟨dx,u,h1,h2,e.keep dx _ (λz=>by obtain⟨vs,q⟩:=l dx z;rw[h3]at q;cases q) h3,h4⟩
mutual
theorem Rp.ext(l:Lsts μ H)(e:Ext μ H μ1 H1):∀(d:D) (v:V),Rp K μ H d v->Rp K μ1 H1 d v
 |.non,v,h=>by simpa[Rp]using h
 |.bl b,v,h=>by simpa[Rp]using h
 |.int b,v,h=>by simpa[Rp]using h
 |.str b,v,h=>by simpa[Rp]using h
 |.tup ds,v,h=>by
  simp only[Rp]at h ⊢
  obtain⟨a,vs,e1,e2,e3⟩:=h
  exact⟨a,vs,e1,e.keep _ _ (λz=>by obtain⟨us,q⟩:=l a z;rw[e2]at q;cases q) e2,Rps.ext l e ds vs e3⟩
 |.lst ds,v,h=>by
  simp only[Rp]at h ⊢
  obtain⟨a,vs,e1,e2,n,e3⟩:=h
  exact⟨a,vs,e1,e.keep _ _ n e2,e.out e2 n,Rps.ext l e ds vs e3⟩
 |.fz ds,v,h=>by
  simp only[Rp]at h ⊢
  obtain⟨a,vs,e1,e2,e3⟩:=h
  exact⟨a,vs,e1,FzL.ext l e e2,Rps.ext l e ds vs e3⟩
 |.exn c f ds,v,h=>by
  simp only[Rp]at h ⊢
  obtain⟨a,vs,C,LE,d,e1,e2,e3,e4,e5⟩:=h
  exact⟨a,vs,C,LE,d,e1,e.keep _ _ (λz=>by obtain⟨us,q⟩:=l a z;rw[e2]at q;cases q) e2,e3,XFl.ext l e e4,Rps.ext l e ds vs e5⟩
theorem Rps.ext(l:Lsts μ H)(e:Ext μ H μ1 H1):∀(ds:List D) (vs:List V),Rps K μ H ds vs->Rps K μ1 H1 ds vs
 |[],vs,h=>by simpa[Rps]using h
 |d::ds,vs,h=>by
  simp only[Rps]at h ⊢
  obtain⟨v,r,e1,e2,e3⟩:=h
  exact⟨v,r,e1,Rp.ext l e d v e2,Rps.ext l e ds r e3⟩
end
theorem Rw.ext(l:Lsts μ H)(e:Ext μ H μ1 H1){w:W}{v:V}(h:Rw K μ H w v):Rw K μ1 H1 w v:=by
 cases w with
 |d x=>exact Rp.ext l e x v h
 |ref i=>obtain⟨a,h1,h2⟩:=h;exact⟨a,e.pre i a h1,h2⟩
theorem Rws.ext(l:Lsts μ H)(e:Ext μ H μ1 H1):∀{ws:List W} {vs:List V},Rws K μ H ws vs->Rws K μ1 H1 ws vs
 |[],_,h=>h
 |_::_,_,⟨v,r,e1,e2,e3⟩=>⟨v,r,e1,Rw.ext l e e2,Rws.ext l e e3⟩
theorem LR.ext(l:Lsts μ H)(e:Ext μ H μ1 H1){L:Lc}{σ:St}(h:LR K μ H L σ):LR K μ1 H1 L σ :=
 ⟨h.len,λi w q=>let⟨v,q1,q2⟩:=h.ent i w q;⟨v,q1,Rw.ext l e q2⟩⟩
theorem Rps.length:∀{ds:List D} {vs:List V},Rps K μ H ds vs->ds.length=vs.length
 |[],_,h=>by simp only[Rps]at h;subst h;rfl
 |_::_,_,h=>by simp only[Rps]at h;obtain⟨v,r,e1,_,e3⟩:=h;subst e1;simp[Rps.length e3]
theorem Rps.get:∀{ds:List D} {vs:List V} {i:Nat} {d:D},Rps K μ H ds vs->ds[i]?=some d->∃v,vs[i]?=some v/\Rp K μ H d v
 |[],_,_,_,_,q=>by simp at q
 |_::_,_,0,_,h,q=>by simp only[Rps]at h;obtain⟨v,r,e1,e2,e3⟩:=h;simp at q;subst q e1;exact⟨v,rfl,e2⟩
 |_::_,_,i+1,_,h,q=>by
  simp only[Rps]at h;obtain⟨v,r,e1,e2,e3⟩:=h;subst e1
  obtain⟨u,q1,q2⟩:=Rps.get (i:=i) e3 (by simpa using q)
  exact⟨u,by simpa using q1,q2⟩
theorem Rps.nil:Rps K μ H [] []:=by simp[Rps]
theorem Rps.cons{d:D}{ds:List D}(h:Rp K μ H d v)(t:Rps K μ H ds vs):Rps K μ H (d::ds) (v::vs):=by simp only[Rps];exact⟨v,vs,rfl,h,t⟩
theorem Rps.append:∀{ds es:List D} {vs us:List V},Rps K μ H ds vs->Rps K μ H es us->Rps K μ H (ds++es) (vs++us)
 |[],_,_,_,h,t=>by simp only[Rps]at h;subst h;exact t
 |_::_,_,_,_,h,t=>by simp only[Rps]at h;obtain⟨v,r,e1,e2,e3⟩:=h;subst e1;exact .cons e2 (Rps.append e3 t)
theorem Rps.drop:∀{ds:List D} {vs:List V} (n:Nat),Rps K μ H ds vs->Rps K μ H (ds.drop n) (vs.drop n)
 |_,_,0,h=>by simpa using h
 |[],_,n+1,h=>by simp only[Rps]at h;subst h;exact .nil
 |_::_,_,n+1,h=>by simp only[Rps]at h;obtain⟨v,r,e1,e2,e3⟩:=h;subst e1;simpa using Rps.drop n e3
theorem Rps.take:∀{ds:List D} {vs:List V} (n:Nat),Rps K μ H ds vs->Rps K μ H (ds.take n) (vs.take n)
 |_,_,0,h=>by simpa using Rps.nil
 |[],_,n+1,h=>by simp only[Rps]at h;subst h;exact .nil
 |_::_,_,n+1,h=>by simp only[Rps]at h;obtain⟨v,r,e1,e2,e3⟩:=h;subst e1;simpa using Rps.cons e2 (Rps.take n e3)
theorem Rps.set{d:D}{v:V}(q:Rp K μ H d v):∀{ds:List D} {vs:List V} (n:Nat),Rps K μ H ds vs->Rps K μ H (ds.set n d) (vs.set n v)
 |[],_,n,h=>by simp only[Rps]at h;subst h;simpa using Rps.nil
 |_::_,_,0,h=>by simp only[Rps]at h;obtain⟨u,r,e1,e2,e3⟩:=h;subst e1;simpa using Rps.cons q e3
 |_::_,_,n+1,h=>by simp only[Rps]at h;obtain⟨u,r,e1,e2,e3⟩:=h;subst e1;simpa using Rps.cons e2 (Rps.set q n e3)
theorem Rps.reverse{ds:List D}:∀{vs:List V},Rps K μ H ds vs->Rps K μ H ds.reverse vs.reverse:=by
 induction ds with
 |nil=>intro vs h;simp only[Rps]at h;subst h;exact .nil
 |cons d ds ih=>intro vs h;simp only[Rps]at h;obtain⟨u,r,e1,e2,e3⟩:=h;subst e1;simpa using(ih e3).append (.cons e2 .nil)
theorem Rps.rep{ds:List D}{vs:List V}(h:Rps K μ H ds vs):∀k:Nat,Rps K μ H (List.replicate k ds).flatten (List.replicate k vs).flatten
 |0=>by simpa using Rps.nil
 |k+1=>by simpa[aDG]using h.append (h.rep k)
theorem Rps.ints:Rps K μ H (ns.map D.int) (ns.map V.int):=by
 induction ns with
 |nil=>exact .nil
 |cons n r ih=>exact .cons (by simp[Rp]) ih
theorem Rws.length:∀{ws:List W} {vs:List V},Rws K μ H ws vs->ws.length=vs.length
 |[],_,h=>by cases h;rfl
 |_::_,_,⟨v,r,e1,_,e3⟩=>by subst e1;simp[Rws.length e3]
theorem Rws.get:∀{ws:List W} {vs:List V} {i:Nat} {w:W},Rws K μ H ws vs->ws[i]?=some w->∃v,vs[i]?=some v/\Rw K μ H w v
 |[],_,_,_,_,q=>by simp at q
 |_::_,_,0,_,⟨v,r,e1,e2,e3⟩,q=>by simp at q;subst q e1;exact⟨v,rfl,e2⟩
 |_::_,_,i+1,_,⟨v,r,e1,e2,e3⟩,q=>by
  subst e1
  obtain⟨u,q1,q2⟩:=Rws.get (i:=i) e3 (by simpa using q)
  exact⟨u,by simpa using q1,q2⟩
variable{p:Addr}
theorem HR.out(h:HR K μ H M)(hp:H p=none):p∉μ:=λz=>by
 obtain⟨vs,q⟩:=h.lsts p z
 rw[hp]at q;cases q
theorem iI(h:HR K μ H M)(hp:H p=none):Ext μ H μ (upd H p o) :=
 ⟨λa u n q=>by rw[bE (dQ q hp)];exact q,λa q=>.inl q,λ_ _ q=>q⟩
theorem HR.lay(h:HR K μ H M)(hp:H p=none):HR K μ (upd H p o) M where
 len:=h.len
 nd:=h.nd
 ent:=λi a ds q1 q2=>by
  obtain⟨vs,q3,q4⟩:=h.ent i a ds q1 q2
  exact⟨vs,by rw[bE (dQ q3 hp)];exact q3,Rps.ext h.lsts (iI h hp) _ _ q4⟩
theorem vV(h:HR K μ H M)(hp:H p=none):Ext μ H (μ++[p]) (upd H p (.lst vs))where
 keep:=λa u n q=>by rw[bE (dQ q hp)];exact q
 new:=λa q=>by
  rcases aDQ.mp q with q|q
  ·exact .inl q
  ·rw[aCL]at q;subst q;exact .inr hp
 pre:=λi a q=>by
  rw[aAS (aAD.mp q).1];exact q
theorem HR.new(h:HR K μ H M){ds:List D}(hp:H p=none)(r:Rps K μ H ds vs):HR K (μ++[p]) (upd H p (.lst vs)) (M++[ds])where
 len:=by simp[h.len]
 nd:=aFE.mpr ⟨h.nd,by simp,λa ha b hb=>by rw[aCL]at hb;subst hb;rintro rfl;exact h.out hp ha⟩
 ent:=λi a es q1 q2=>by
  have x:=vV (vs:=vs) h hp
  by_cases hi:i < μ.length
  ·rw[aAS hi]at q1
   rw[aAS (by rw[<- h.len];exact hi)]at q2
   obtain⟨us,q3,q4⟩:=h.ent i a es q1 q2
   exact⟨us,by rw[bE (dQ q3 hp)];exact q3,Rps.ext h.lsts x _ _ q4⟩
  ·have:i=μ.length:=by
    have:=(aAD.mp q1).1
    simp at this;lia
   subst this
   rw[aCJ (aAH _)]at q1
   rw[h.len,aCJ (aAH _)]at q2
   simp at q1 q2
   subst q1 q2
   exact⟨vs,eT,Rps.ext h.lsts x _ _ r⟩
theorem eY(q:μ[i]?=some a):Ext μ H μ (upd H a o) :=
 ⟨λb u n q'=>by rw[bE (λz=>n (by subst z;exact aBJ q))];exact q',λa q=>.inl q,λ_ _ q=>q⟩
theorem HR.set(h:HR K μ H M){i:Nat}{a:Addr}{ds:List D}{vs:List V}(q:μ[i]?=some a)(r:Rps K μ H ds vs):HR K μ (upd H a (.lst vs)) (M.set i ds)where
 len:=by simp[h.len]
 nd:=h.nd
 ent:=λj b es q1 q2=>by
  have x:=eY (H:=H) (o:=.lst vs) q
  by_cases hj:i=j
  ·subst hj
   rw[q]at q1;cases q1
   have hlt:i < M.length:=by rw[<- h.len];exact(aAD.mp q).1
   rw[aBI hlt]at q2;cases q2
   exact⟨vs,eT,Rps.ext h.lsts x _ _ r⟩
  ·rw[aBK hj]at q2
   obtain⟨us,q3,q4⟩:=h.ent j b es q1 q2
   have hb:b≠a:=by
    rintro rfl
    have h1:=(aAD.mp q).1
    have h2:=(aAD.mp q1).1
    have e1:=(aAD.mp q).2
    have e2:=(aAD.mp q1).2
    have pw:=aBM.mp h.nd
    rcases Nat.lt_or_gt_of_ne hj with l|l
    ·exact pw i j h1 h2 l (e1.trans e2.symm)
    ·exact pw j i h2 h1 l (e2.trans e1.symm)
   exact⟨us,by rw[bE hb];exact q3,Rps.ext h.lsts x _ _ q4⟩
theorem HR.at(h:HR K μ H M){ds:List D}(q:M[i]?=some ds):∃a vs,μ[i]?=some a/\H a=some (.lst vs)/\Rps K μ H ds vs:=by
 have hlt:i < μ.length:=by rw[h.len];exact(aAD.mp q).1
 obtain⟨vs,q1,q2⟩:=h.ent i μ[i] ds (by simp[hlt]) q
 exact⟨μ[i],vs,by simp[hlt],q1,q2⟩
structure Zt where
 z:Exn->Mm->List Addr->Hp->Prop
 mono:∀{x M μ H μ' H':_},Ext μ H μ' H'->z x M μ H->z x M μ' H'
noncomputable def Z0:Zt:=⟨λ_ _ _ _=>False,λ_ h=>h⟩
noncomputable def Pst(K:Frag)(Z:Zt)(μ:List Addr)(H:Hp)(o:Oc α)(Q:List Addr->Hp->Mm->α->Prop):Prop:=match o with
 |.ok a M'=>∀μ' H',Ext μ H μ' H'->HR K μ' H' M'->Q μ' H' M' a
 |.ex x M'=>Z.z x M' μ H
 |.bad=>False
variable{α β:Type}{K:Frag}{Z:Zt}{o:Oc α}{Q Q':List Addr->Hp->Mm->α->Prop}
theorem Pst.mono(e:Ext μ H μ1 H1)(h:Pst K Z μ H o Q):Pst K Z μ1 H1 o Q:=by
 cases o with
 |ok a M=>exact λμ' H' e' hr=>h μ' H' (e.trans e') hr
 |ex x M=>exact Z.mono e h
 |bad=>exact h
theorem Pst.imp(h:Pst K Z μ H o Q)(f:∀μ' H' M' a,Ext μ H μ' H'->HR K μ' H' M'->o=.ok a M'->Q μ' H' M' a->Q' μ' H' M' a):Pst K Z μ H o Q':=by
 cases o with
 |ok a M=>exact λμ' H' e' hr=>f μ' H' M a e' hr rfl (h μ' H' e' hr)
 |ex x M=>exact h
 |bad=>exact h
theorem Pst.bind{k:α->Mm->Oc β}{R:List Addr->Hp->Mm->β->Prop}(h:Pst K Z μ H (o.bind k) R):Pst K Z μ H o (λμ' H' M' a=>Pst K Z μ' H' (k a M') R):=by
 cases o with
 |ok a M=>exact λμ' H' e' hr=>Pst.mono e' h
 |ex x M=>exact h
 |bad=>exact h
noncomputable abbrev FE:=Lc->Mm->Oc W
noncomputable abbrev FT:=Lc->Mm->Oc Bool
noncomputable abbrev FA:=Lc->Mm->Oc (List W)
inductive Out where
 |nx (L:Lc)|bk (L:Lc)|ct (L:Lc)|rt (w:W)
noncomputable abbrev FS:=Lc->Mm->Oc Out
noncomputable abbrev FG:=W->Lc->Mm->Oc Lc
noncomputable abbrev FGs:=List D->Lc->Mm->Oc Lc
noncomputable abbrev Fn:=List W->Mm->Oc W
section
variable(K:Frag)(Z:Zt)
noncomputable def lift(f:FE):TE:=λσ H Q=>∃μ M L,HR K μ H M/\LR K μ H L σ/\Pst K Z μ H (f L M) λμ' H' _ w=>∀v,Rw K μ' H' w v->Q v H'
noncomputable def liftT(f:FT):TT:=λσ H Q=>∃μ M L,HR K μ H M/\LR K μ H L σ/\Pst K Z μ H (f L M) λμ' H' M' b=>Q b H'
noncomputable def liftA(f:FA):TA:=λσ H Q=>∃μ M L,HR K μ H M/\LR K μ H L σ/\Pst K Z μ H (f L M) λμ' H' _ ws=>∀vs,Rws K μ' H' ws vs->Q vs H'
end
section
variable(X:Cx)(K:Frag)(Z:Zt)
noncomputable abbrev Sk(K:Frag)(E:Ends)(μ':List Addr)(H':Hp)(_:Mm)(o:Out):Prop:=match o with
 |.nx L'=>∀σ',LR K μ' H' L' σ'->E.nx σ' H'
 |.bk L'=>∀σ',LR K μ' H' L' σ'->E.bk σ' H'
 |.ct L'=>∀σ',LR K μ' H' L' σ'->E.ct σ' H'
 |.rt w=>∀v,Rw K μ' H' w v->E.rt v H'
noncomputable def liftS(F:FS):TS:=λE σ H=>∃μ M L,HR K μ H M/\LR K μ H L σ/\Pst K Z μ H (F L M) (Sk K E)
noncomputable def liftG(g:FG):TG:=λv σ H Q=>∃μ M L w,HR K μ H M/\LR K μ H L σ/\Rw K μ H w v/\Pst K Z μ H (g w L M) λμ' H' _ L'=>∀σ',LR K μ' H' L' σ'->Q σ' H'
noncomputable def liftGs(g:FGs):TGs:=λvs σ H Q=>∃μ M L ds,HR K μ H M/\LR K μ H L σ/\Rps K μ H ds vs/\Pst K Z μ H (g ds L M) λμ' H' _ L'=>∀σ',LR K μ' H' L' σ'->Q σ' H'
structure Ev(e:Expr)(f:FE):Prop where
 k:X.K=K
 h:PE X e (lift K Z f)
structure Et(e:Expr)(f:FT):Prop where
 k:X.K=K
 h:PT X e (liftT K Z f)
structure Ew(e:Expr)(f:FT):Prop where
 k:X.K=K
 h:PW X e (liftT K Z f)
structure Ea(es:List Expr)(f:FA):Prop where
 k:X.K=K
 h:PA X es (liftA K Z f)
structure Es(st:Stmt)(F:FS):Prop where
 k:X.K=K
 h:PS X st (liftS K Z F)
structure Ess(st:List Stmt)(F:FS):Prop where
 k:X.K=K
 h:PSs X st (liftS K Z F)
structure Eg(tg:Expr)(g:FG):Prop where
 k:X.K=K
 h:PG X tg (liftG K Z g)
structure Egs(tg:List Expr)(g:FGs):Prop where
 k:X.K=K
 h:PGs X tg (liftGs K Z g)
end
variable{K:Frag}{e a b:Expr}{es:List Expr}{f fa fb fc:FE}{t ta tb:FT}{fs:FA}
theorem cqE{t t':TE}(h:PE X e t)(i:∀σ H Q,t' σ H Q->t σ H Q):PE X e t':=λpins s σ H Q I q=>h pins s σ H Q I (i _ _ _ q)
theorem cqT{t t':TT}(h:PT X e t)(i:∀σ H Q,t' σ H Q->t σ H Q):PT X e t':=λpins s σ H Q I q=>h pins s σ H Q I (i _ _ _ q)
theorem cqW{t t':TT}(h:PW X e t)(i:∀σ H Q,t' σ H Q->t σ H Q):PW X e t':=λwh pins s σ H Q I q=>h wh pins s σ H Q I (i _ _ _ q)
theorem cqA{t t':TA}(h:PA X es t)(i:∀σ H Q,t' σ H Q->t σ H Q):PA X es t':=λp pins s σ H Q I q=>h p pins s σ H Q I (i _ _ _ q)
theorem cqS{t t':TS}(h:PS X st t)(i:∀E σ H,t' E σ H->t E σ H):PS X st t':=λpins s σ H E I q=>h pins s σ H E I (i _ _ _ q)
theorem cqSs{st:List Stmt}{t t':TS}(h:PSs X st t)(i:∀E σ H,t' E σ H->t E σ H):PSs X st t':=λpins s σ H E I q=>h pins s σ H E I (i _ _ _ q)
theorem cqG{t t':TG}(h:PG X e t)(i:∀v σ H Q,t' v σ H Q->t v σ H Q):PG X e t':=λpins s σ H v u Q I r q=>h pins s σ H v u Q I r (i _ _ _ _ q)
theorem cqGs{t t':TGs}(h:PGs X es t)(i:∀v σ H Q,t' v σ H Q->t v σ H Q):PGs X es t':=λpins s σ H v u Q I r q=>h pins s σ H v u Q I r (i _ _ _ _ q)
noncomputable def eV(i:Nat):FE:=λL M=>match L[i]? with
 |some (some w)=>.ok w M
 |_=>.bad
noncomputable def eC(d:D):FE:=λ_ M=>.ok (.d d) M
theorem aB(i:Nat)(hN:X.N[i]?=some x:=by rfl)(hk:X.K=K:=by rfl)(hv:Vis X.env.scope x:=by first|exact Or.inl rfl|exact Or.inr (Or.inl rfl)|exact Or.inr (Or.inr rfl))
  (hd:(x==("__debug__":Str))=false:=by decide)(hcd:(x==("__classdict__":Str))=false:=by decide):Ev X K Z (.Name x pos) (eV i) :=
 ⟨hk,cqE (aNf hN hv hd hcd) λσ H Q ⟨μ,M,L,hr,lr,p⟩=>by
  unfold eV at p
  cases q:L[i]? with
  |none=>rw[q]at p;exact p.elim
  |some o =>
   cases o with
   |none=>rw[q]at p;exact p.elim
   |some w =>
    rw[q]at p
    obtain⟨v,q1,q2⟩:=lr.ent i w q
    exact⟨v,q1,p μ H .refl hr v q2⟩⟩
theorem aIw{d:D}(hd:∀K μ H,Rp K μ H d v)(hk:X.K=K)(h:PE X e (tC v)):Ev X K Z e (eC d) :=
 ⟨hk,cqE h λσ H Q ⟨μ,M,L,hr,lr,p⟩=>p μ H .refl hr v (hd K μ H)⟩
theorem aC{i:Int}(hk:X.K=K:=by rfl):Ev X K Z (.Constant (.int i) j pos) (eC (.int i)):=aIw (λ_ _ _=>by simp[Rp]) hk aFg
theorem oR{i:Bool}(hk:X.K=K:=by rfl):Ev X K Z (.Constant (.bool i) j pos) (eC (.bl i)):=aIw (λ_ _ _=>by simp[Rp]) hk aPp
theorem qT(hk:X.K=K:=by rfl):Ev X K Z (.Constant .none j pos) (eC .non):=aIw (λ_ _ _=>by simp[Rp]) hk aOh
theorem aP(hk:X.K=K:=by rfl):Ev X K Z (.Constant (.str x) j pos) (eC (.str x)):=aIw (λ_ _ _=>by simp[Rp]) hk aMl
noncomputable def e1(g:W->Mm->Oc W)(f:FE):FE:=λL M=>(f L M).bind g
noncomputable def e2(g:W->W->Mm->Oc W)(f1 f2:FE):FE:=λL M=>(f1 L M).bind λx M1=>(f2 L M1).bind λy M2=>g x y M2
noncomputable abbrev Wk(K:Frag)(Q:VK):List Addr->Hp->Mm->W->Prop:=λμ' H' _ w=>∀v,Rw K μ' H' w v->Q v H'
noncomputable def Op2(K:Frag)(Z:Zt)(r:R2)(g:W->W->Mm->Oc W):Prop :=
 ∀(μ:List Addr) (H:Hp) (M:Mm) (x y:W) (v u:V) (Q:VK),HR K μ H M->Rw K μ H x v->Rw K μ H y u->Pst K Z μ H (g x y M) (Wk K Q)->r v u H Q
noncomputable def OpG(X:Cx)(K:Frag)(Z:Zt)(f:Value->Value->Sem Value)(g:W->W->Mm->Oc W):Prop:=X.K=K->∃r,OpR X f r/\Op2 K Z r g
variable{r:R2}
theorem lift2{g:W->W->Mm->Oc W}(hg:Op2 K Z r g):∀σ H Q,lift K Z (e2 g fa fb) σ H Q->tOp r (lift K Z fa) (lift K Z fb) σ H Q:=by
 rintro σ H Q ⟨μ,M,L,hr,lr,p⟩
 refine⟨μ,M,L,hr,lr,p.bind.imp λμ1 H1 M1 x e1 hr1 _ p1 v rx=>?_⟩
 refine⟨μ1,M1,L,hr1,lr.ext hr.lsts e1,p1.bind.imp λμ2 H2 M2 y e2 hr2 _ p2 u ry=>?_⟩
 exact hg μ2 H2 M2 x y v u Q hr2 (rx.ext hr1.lsts e2) ry p2
theorem aI{g:W->W->Mm->Oc W}(ho:OpG X K Z (binaryOp op) g)(ha:Ev X K Z a fa)(hb:Ev X K Z b fb):Ev X K Z (.BinOp a op b pos) (e2 g fa fb):=by
 obtain⟨r,h1,h2⟩:=ho ha.k
 exact⟨ha.k,cqE (aQe h1 ha.h hb.h) (lift2 h2)⟩
variable{op:CmpOp}
theorem oE{g:W->W->Mm->Oc W}(ho:OpG X K Z (compareOp op) g)(ha:Ev X K Z a fa)(hb:Ev X K Z b fb)(hm:behindInMarks op b=false):Ev X K Z (.Compare a [op] [b] pos) (e2 g fa fb):=by
 obtain⟨r,h1,h2⟩:=ho ha.k
 exact⟨ha.k,cqE (aJd h1 ha.h hb.h hm) (lift2 h2)⟩
noncomputable def tB(f:FE):FT:=λL M=>(f L M).bind λw M1=>match w with
 |.d (.bl b)=>.ok b M1
 |_=>.bad
theorem aS{g:W->W->Mm->Oc W}(ho:OpG X K Z (compareOp op) g)(ha:Ev X K Z a fa)(hb:Ev X K Z b fb)(hm:behindInMarks op b=false):Et X K Z (.Compare a [op] [b] pos) (tB (e2 g fa fb)):=by
 obtain⟨r,h1,h2⟩:=ho ha.k
 refine⟨ha.k,cqT (aJy h1 ha.h hb.h hm) ?_⟩
 rintro σ H Q ⟨μ,M,L,hr,lr,p⟩
 refine lift2 h2 σ H _ ⟨μ,M,L,hr,lr,p.bind.imp λμ1 H1 M1 x e1 hr1 _ p1 v rx=>?_⟩
 cases x with
 |d y=>cases y with
  |bl c=>exact⟨c,by simpa[Rw,Rp]using rx,p1 μ1 H1 .refl hr1⟩
  |_=>exact p1.elim
 |ref i=>exact p1.elim
noncomputable def tru(M:Mm):W->Option Bool
 |.d .non=>some false
 |.d (.bl b)=>some b
 |.d (.int i)=>some (i != 0)
 |.d (.str x)=>if x.length<=16777216 then some (x.length != 0)else none
 |.d (.tup xs)=>some (!xs.isEmpty)
 |.d (.lst xs)=>some (!xs.isEmpty)
 |.d (.fz xs)=>some (!xs.isEmpty)
 |.d (.exn _ _ _)=>none
 |.ref i=>(M[i]?).map λxs=>!xs.isEmpty
noncomputable def tV(f:FE):FT:=λL M=>(f L M).bind λw M1=>match tru M1 w with
 |some b=>.ok b M1
 |none=>.bad
theorem emp{ds:List D}(r:Rps K μ H ds vs):(!ds.isEmpty)=!vs.isEmpty:=by
 have:=r.length
 cases ds <;> cases vs <;> simp_all
theorem aPv{w:W}{b:Bool}(hr:HR K μ H M)(r:Rw K μ H w v)(h:tru M w=some b):TruV K v H b:=by
 cases w with
 |ref i =>
  obtain⟨a,q,rfl⟩:=r
  simp only[tru,aAM]at h
  obtain⟨xs,h1,rfl⟩:=h
  obtain⟨a',vs,q1,q2,q3⟩:=hr.at h1
  rw[q]at q1;cases q1
  exact .inl ⟨vs,SqL.of q2,emp q3⟩
 |d x =>
  cases x with
  |non=>simp only[Rw,Rp]at r;subst r;simp only[tru,aBB]at h;exact h.symm
  |bl c=>simp only[Rw,Rp]at r;subst r;simp only[tru,aBB]at h;exact h.symm
  |int i=>simp only[Rw,Rp]at r;subst r;simp only[tru,aBB]at h;exact h.symm
  |str z =>
   simp only[Rw,Rp]at r;subst r
   simp only[tru]at h
   split at h
   ·rename_i hz
    cases h
    refine⟨by rw[aBA];exact hz,?_⟩
    rw[Bool.eq_iff_iff];simp
   ·cases h
  |tup xs=>simp only[Rw,Rp]at r;obtain⟨a,vs,rfl,q1,q2⟩:=r;simp only[tru,aBB]at h;subst h;exact .inr (.inl ⟨vs,SqT.of q1,emp q2⟩)
  |lst xs=>simp only[Rw,Rp]at r;obtain⟨a,vs,rfl,q1,_,q2⟩:=r;simp only[tru,aBB]at h;subst h;exact .inl ⟨vs,SqL.of q1,emp q2⟩
  |fz xs=>simp only[Rw,Rp]at r;obtain⟨a,vs,rfl,q1,q2⟩:=r;simp only[tru,aBB]at h;subst h;exact .inl ⟨vs,q1.sq,emp q2⟩
  |exn c f xs=>simp[tru]at h
theorem oI(ha:Ev X K Z a f)(he:∀whole,isTrue a X.env whole=(do let v <- whole;standAt a.pos;holding [v] (truthy v)):=by intro _;rfl):Et X K Z a (tV f):=by
 refine⟨ha.k,cqT (aGo ha.h he) ?_⟩
 rintro σ H Q ⟨μ,M,L,hr,lr,p⟩
 refine⟨μ,M,L,hr,lr,p.bind.imp λμ1 H1 M1 x e1 hr1 _ p1 v rx=>?_⟩
 cases q:tru M1 x with
 |none=>rw[q]at p1;exact p1.elim
 |some k=>rw[q]at p1;exact⟨k,by rw[ha.k];exact aPv hr1 rx q,p1 μ1 H1 .refl hr1⟩
noncomputable def tNot(t:FT):FT:=λL M=>(t L M).bind λb M1=>.ok (!b) M1
noncomputable def tAnd(t u:FT):FT:=λL M=>(t L M).bind λb M1=>if b=true then u L M1 else .ok false M1
noncomputable def tOr(t u:FT):FT:=λL M=>(t L M).bind λb M1=>if b=true then .ok true M1 else u L M1
theorem aPd(ha:Et X K Z a ta):Et X K Z (.UnaryOp .Not a pos) (tNot ta):=by
 refine⟨ha.k,cqT (aOi ha.h) ?_⟩
 rintro σ H Q ⟨μ,M,L,hr,lr,p⟩
 exact⟨μ,M,L,hr,lr,p.bind.imp λμ1 H1 M1 x e1 hr1 _ p1=>p1 μ1 H1 .refl hr1⟩
variable{rest:List Expr}
theorem aCf(ha:Et X K Z a ta):Ew X K Z (.BoolOp .And [a] pos) ta:=⟨ha.k,aKg ha.h⟩
theorem aOc(ha:Et X K Z a ta):Ew X K Z (.BoolOp .Or [a] pos) ta:=⟨ha.k,aOw ha.h⟩
theorem aHx(ha:Et X K Z a ta)(hb:Ew X K Z (.BoolOp .And (b::rest) pos) tb):Ew X K Z (.BoolOp .And (a::b::rest) pos) (tAnd ta tb):=by
 refine⟨ha.k,cqW (aOu ha.h hb.h) ?_⟩
 rintro σ H Q ⟨μ,M,L,hr,lr,p⟩
 refine⟨μ,M,L,hr,lr,p.bind.imp λμ1 H1 M1 x e1 hr1 _ p1=>?_⟩
 cases x with
 |true=>exact⟨μ1,M1,L,hr1,lr.ext hr.lsts e1,p1⟩
 |false=>exact p1 μ1 H1 .refl hr1
theorem aQi(ha:Et X K Z a ta)(hb:Ew X K Z (.BoolOp .Or (b::rest) pos) tb):Ew X K Z (.BoolOp .Or (a::b::rest) pos) (tOr ta tb):=by
 refine⟨ha.k,cqW (aQg ha.h hb.h) ?_⟩
 rintro σ H Q ⟨μ,M,L,hr,lr,p⟩
 refine⟨μ,M,L,hr,lr,p.bind.imp λμ1 H1 M1 x e1 hr1 _ p1=>?_⟩
 cases x with
 |true=>exact p1 μ1 H1 .refl hr1
 |false=>exact⟨μ1,M1,L,hr1,lr.ext hr.lsts e1,p1⟩
theorem aNu(h:Ew X K Z a ta):Et X K Z a ta:=⟨h.k,h.h.pt⟩
noncomputable def lv(M:Mm):W->Option (List D)
 |.d (.lst xs)=>some xs
 |.ref i=>M[i]?
 |_=>none
noncomputable def lr(M:Mm):W->Option (List D)
 |.d (.fz xs)=>some xs
 |w=>lv M w
noncomputable def sv(M:Mm):W->Option (List D)
 |.d (.tup xs)=>some xs
 |w=>lr M w
noncomputable def okD(d:D)(M:Mm):Oc W:=.ok (.d d) M
@[simp]theorem aQn(d:D)(M:Mm):okD d M=.ok (.d d) M:=rfl
variable{K:Frag}{F:Value->Value->Sem Value}
theorem OpR.or{r':R2}(h:OpR X F r)(h':OpR X F r'):OpR X F (λx y H Q=>r x y H Q\/r' x y H Q):=by
 intro pins s σ H x y v u Q I rx ry q
 rcases q with q|q
 ·exact h pins s σ H x y v u Q I rx ry q
 ·exact h' pins s σ H x y v u Q I rx ry q
theorem qX{w:W}{ds:List D}(hr:HR K μ H M)(r:Rw K μ H w v)(h:lv M w=some ds):∃a vs,v=.ref a/\H a=some (.lst vs)/\Rps K μ H ds vs:=by
 cases w with
 |ref i =>
  obtain⟨a,q,rfl⟩:=r
  obtain⟨a',vs,q1,q2,q3⟩:=hr.at h
  rw[q]at q1;cases q1
  exact⟨a,vs,rfl,q2,q3⟩
 |d x =>
  cases x with
  |lst xs=>simp only[lv,aBB]at h;subst h;simp only[Rw,Rp]at r;obtain⟨a,vs,e,q1,_,q2⟩:=r;exact⟨a,vs,e,q1,q2⟩
  |_=>simp[lv]at h
theorem xL{w:W}{ds:List D}(hr:HR K μ H M)(r:Rw K μ H w v)(h:lr M w=some ds):∃a vs,v=.ref a/\SqL K H a vs/\Rps K μ H ds vs:=by
 by_cases hf:∃xs,w=.d (.fz xs)
 ·obtain⟨xs,rfl⟩:=hf
  simp only[lr,aBB]at h;subst h
  simp only[Rw,Rp]at r;obtain⟨a,vs,e,q1,q2⟩:=r
  exact⟨a,vs,e,q1.sq,q2⟩
 ·have:lr M w=lv M w:=by
   cases w with
   |ref i=>rfl
   |d x=>cases x <;> first|rfl|exact(hf ⟨_,rfl⟩).elim
  rw[this]at h
  obtain⟨a,vs,e,q1,q2⟩:=qX hr r h
  exact⟨a,vs,e,SqL.of q1,q2⟩
theorem wD{w:W}{ds:List D}(hr:HR K μ H M)(r:Rw K μ H w v)(h:sv M w=some ds):∃a vs,v=.ref a/\(SqL K H a vs\/SqT K H a vs)/\Rps K μ H ds vs:=by
 by_cases hf:∃xs,w=.d (.tup xs)
 ·obtain⟨xs,rfl⟩:=hf
  simp only[sv,aBB]at h;subst h
  simp only[Rw,Rp]at r;obtain⟨a,vs,e,q1,q2⟩:=r
  exact⟨a,vs,e,.inr (SqT.of q1),q2⟩
 ·have:sv M w=lr M w:=by
   cases w with
   |ref i=>rfl
   |d x=>cases x <;> first|rfl|exact(hf ⟨_,rfl⟩).elim
  rw[this]at h
  obtain⟨a,vs,e,q1,q2⟩:=xL hr r h
  exact⟨a,vs,e,.inl q1,q2⟩
variable{Q:VK}
theorem lC{ds:List D}(hr:HR K μ H M)(r:Rps K μ H ds vs)(p:Pst K Z μ H (okD (.tup ds) M) (Wk K Q)):∀q,H q=none->Q (.ref q) (upd H q (.tup vs)):=λq hq =>
 p μ _ (iI hr hq) (hr.lay hq) (.ref q) (by simp only[Rw,Rp];exact⟨q,vs,rfl,eT,Rps.ext hr.lsts (iI hr hq) _ _ r⟩)
theorem iD{ds:List D}(hr:HR K μ H M)(r:Rps K μ H ds vs)(p:Pst K Z μ H (okD (.lst ds) M) (Wk K Q)):∀q,H q=none->Q (.ref q) (upd H q (.lst vs)):=λq hq =>
 p μ _ (iI hr hq) (hr.lay hq) (.ref q) (by simp only[Rw,Rp];exact⟨q,vs,rfl,eT,hr.out hq,Rps.ext hr.lsts (iI hr hq) _ _ r⟩)
theorem vC{ds:List D}(hr:HR K μ H M)(r:Rps K μ H ds vs)(p:Pst K Z μ H (.ok (.ref M.length) (M++[ds])) (Wk K Q)):∀q,H q=none->Q (.ref q) (upd H q (.lst vs)):=λq hq =>
 p _ _ (vV hr hq) (hr.new hq r) (.ref q) ⟨q,by rw[<- hr.len];simp,rfl⟩
noncomputable def rCatA(K:Frag):R2:=λx y H Q=>∃a b xs ys,x=.ref a/\y=.ref b/\SqT K H a xs/\SqT K H b ys/\xs.length+ys.length<=sizeLine /\
 (xs=[]->Q (.ref b) H)/\(ys=[]->Q (.ref a) H)/\(∀p,H p=none->Q (.ref p) (upd H p (.tup (xs++ys))))
theorem aKm:OpR X (binaryOp .Add) (rCatA X.K):=by
 intro pins s σ H x y v u Q I rx ry h
 obtain⟨a,b,xs,ys,rfl,rfl,ha,hb,hz,q0,q1,q2⟩:=h
 by_cases hx:xs=[]
 ·subst hx
  cases rx
  cases ry
  obtain⟨its,r1,p1,_⟩:=I.tuple ha
  obtain⟨its2,r2,p2,_⟩:=I.tuple hb
  have hv:its=[]:=r1.nil_iff.mpr rfl
  subst hv
  obtain⟨⟨cls,dd,data,sl⟩,ho,hc,n,hd⟩:=id p1
  obtain⟨⟨cls2,dd2,data2,sl2⟩,ho2,hc2,n2,hd2⟩:=id p2
  simp only at hc hd hc2 hd2
  subst hc hd hc2 hd2
  exact concat_meets ⟨_,ho,rfl⟩ ⟨_,ho2,rfl⟩ noFill_tuple_add seq_tuple_add aFG aFC (aEZ _ _)
   (tuple_addW0 a b _ its2.toArray n n2 dd dd2 sl sl2 (by simp)) ⟨ho,ho2,⟨.ref b,H,I,rfl,q0 rfl⟩⟩
 ·exact aJa pins s σ H _ _ v u Q I rx ry ⟨a,b,xs,ys,rfl,rfl,ha,hb,hx,hz,q1,λ_=>q2⟩
noncomputable def pAdd(x y:W)(M:Mm):Oc W:=match x,y with
 |.d (.int i),.d (.int j)=>.ok (.d (.int (i+j))) M
 |.d (.tup xs),.d (.tup ys)=>if xs.length+ys.length<=16777216 then .ok (.d (.tup (xs++ys))) M else .bad
 |.d (.str i),.d (.str j)=>if i.length+j.length<=16777216 then .ok (.d (.str (i++j))) M else .bad
 |x,y=>match lv M x,lv M y with
  |some xs,some ys=>if xs.length+ys.length<=16777216 then .ok (.d (.lst (xs++ys))) M else .bad
  |_,_=>.bad
variable{u:V}
theorem zR{x y:W}(hr:HR K μ H M)(rx:Rw K μ H x v)(ry:Rw K μ H y u)(p:Pst K Z μ H (match lv M x,lv M y with
  |some xs,some ys=>if xs.length+ys.length<=16777216 then .ok (.d (.lst (xs++ys))) M else .bad
  |_,_=>.bad) (Wk K Q)):rCat v u H Q:=by
 cases q1:lv M x with
 |none=>rw[q1]at p;exact p.elim
 |some xs =>
  cases q2:lv M y with
  |none=>rw[q1,q2]at p;exact p.elim
  |some ys =>
   rw[q1,q2]at p
   simp only at p
   split at p
   ·rename_i hz
    obtain⟨a,vs,rfl,h1,r1⟩:=qX hr rx q1
    obtain⟨b,us,rfl,h2,r2⟩:=qX hr ry q2
    exact⟨a,b,vs,us,rfl,rfl,h1,h2,by rw[<- r1.length,<- r2.length,aBA];exact hz,iD hr (r1.append r2) p⟩
   ·exact p.elim
theorem opAdd:OpG X K Z (binaryOp .Add) pAdd:=λhk=>by
 refine⟨_,OpR.or (OpR.or aMk (hk▸aKm)) (OpR.or aIa aAf),?_⟩
 intro μ H M x y v u Q hr rx ry p
 have gen:=λp=>zR (Q:=Q) (K:=K) (Z:=Z) hr rx ry p
 cases x with
 |ref i=>exact .inr (.inl (gen p))
 |d x =>
  cases y with
  |ref j=>exact .inr (.inl (gen (by cases x <;> exact p)))
  |d y =>
   cases x <;> cases y <;> first
    |exact .inr (.inl (gen p))
    |skip
   ·simp only[Rw,Rp]at rx ry;exact .inl (.inl ⟨_,_,rx,ry,p μ H .refl hr _ (by simp[Rw,Rp])⟩)
   ·simp only[Rw,Rp]at rx ry
    simp only[pAdd]at p
    split at p
    ·rename_i hz
     exact .inr (.inr ⟨_,_,rx,ry,by rw[aBA];exact hz,p μ H .refl hr _ (by simp[Rw,Rp])⟩)
    ·exact p.elim
   ·rename_i xs ys
    have rx':=rx
    have ry':=ry
    simp only[Rw,Rp]at rx ry
    obtain⟨a,vs,rfl,h1,r1⟩:=rx
    obtain⟨b,us,rfl,h2,r2⟩:=ry
    simp only[pAdd]at p
    split at p
    ·rename_i hz
     refine .inl (.inr ⟨a,b,vs,us,rfl,rfl,SqT.of h1,SqT.of h2,by rw[<- r1.length,<- r2.length,aBA];exact hz,λe=>?_,λe=>?_,lC hr (r1.append r2) p⟩)
     ·subst e
      have:xs=[]:=by have:=r1.length;simpa using this
      subst this
      exact p μ H .refl hr _ (by simpa using ry')
     ·subst e
      have:ys=[]:=by have:=r2.length;simpa using this
      subst this
      exact p μ H .refl hr _ (by simpa using rx')
    ·exact p.elim
noncomputable def pI(c:Int->Int->Bool)(g:Int->Int->D)(x y:W)(M:Mm):Oc W:=match x,y with
 |.d (.int i),.d (.int j)=>if c i j=true then .ok (.d (g i j)) M else .bad
 |_,_=>.bad
variable{gv:Int->Int->V}
theorem opI{C:Int->Int->Prop}{c:Int->Int->Bool}{g:Int->Int->D}(h:OpR X F (rI C gv))(hc:∀i j,c i j=true->C i j)(hg:∀K μ H i j,Rp K μ H (g i j) (gv i j)) :
  OpG X K Z F (pI c g):=λhk=>⟨_,h,by
 intro μ H M x y v u Q hr rx ry p
 cases x with
 |ref i=>exact p.elim
 |d x=>cases y with
  |ref j=>cases x <;> exact p.elim
  |d y=>cases x <;> cases y <;> first
   |exact p.elim
   |(simp only[Rw,Rp]at rx ry
     simp only[pI]at p
     split at p
     ·rename_i hz;exact⟨_,_,rx,ry,hc _ _ hz,p μ H .refl hr _ (hg K μ H _ _)⟩
     ·exact p.elim)⟩
theorem opI0{g:Int->Int->D}(h:OpR X F (rI0 gv))(hg:∀K μ H i j,Rp K μ H (g i j) (gv i j)):OpG X K Z F (pI (λ_ _=>true) g):=λhk=>⟨_,h,by
 intro μ H M x y v u Q hr rx ry p
 cases x with
 |ref i=>exact p.elim
 |d x=>cases y with
  |ref j=>cases x <;> exact p.elim
  |d y=>cases x <;> cases y <;> first
   |exact p.elim
   |(simp only[Rw,Rp]at rx ry
     exact⟨_,_,rx,ry,p μ H .refl hr _ (hg K μ H _ _)⟩)⟩
noncomputable abbrev pSub:=pI (λ_ _=>true) λi j=>.int (i - j)
noncomputable abbrev pLt:=pI (λ_ _=>true) λi j=>.bl (decide (i < j))
noncomputable abbrev pGt:=pI (λ_ _=>true) λi j=>.bl (decide (j < i))
noncomputable abbrev pGe:=pI (λ_ _=>true) λi j=>.bl (decide (j<=i))
noncomputable abbrev pMod:=pI (λ_ j=>decide (0 < j)) λi j=>.int (i % j)
noncomputable abbrev pDiv:=pI (λ_ j=>decide (0 < j/\j < 18446744073709551616)) λi j=>.int (i / j)
noncomputable abbrev pPow:=pI (λi j=>decide (0<=j/\j<=1000000/\i.natAbs < 18446744073709551616)) λi j=>.int (i ^ j.toNat)
noncomputable abbrev pShr:=pI (λi j=>decide (0<=j)) λi j=>.int (i / 2 ^ j.toNat)
noncomputable abbrev pAnd:=pI (λ_ _=>true) λi j=>.int (Builtin.bitAnd i j)
theorem opSub:OpG X K Z (binaryOp .Sub) pSub:=opI0 aNl λ_ _ _ _ _=>by simp[Rp]
theorem opLt:OpG X K Z (compareOp .Lt) pLt:=opI0 aQf λ_ _ _ _ _=>by simp[Rp]
theorem opGt:OpG X K Z (compareOp .Gt) pGt:=opI0 aQc λ_ _ _ _ _=>by simp[Rp]
theorem opGe:OpG X K Z (compareOp .GtE) pGe:=opI0 aPn λ_ _ _ _ _=>by simp[Rp]
theorem opMod:OpG X K Z (binaryOp .Mod) pMod:=opI aPc (λ_ _ h=>aFF h) λ_ _ _ _ _=>by simp[Rp]
theorem opDiv:OpG X K Z (binaryOp .FloorDiv) pDiv:=opI aGc (λ_ _ h=>by simp only[aAN]at h;exact h) λ_ _ _ _ _=>by simp[Rp]
theorem opPow:OpG X K Z (binaryOp .Pow) pPow:=opI aMj (λ_ _ h=>by simp only[aAN]at h;exact h) λ_ _ _ _ _=>by simp[Rp]
theorem opShr:OpG X K Z (binaryOp .RShift) pShr:=opI aOj (λ_ _ h=>by simp only[aAN]at h;exact h) λ_ _ _ _ _=>by simp[Rp]
theorem opAnd:OpG X K Z (binaryOp .BitAnd) pAnd:=opI0 aOr λ_ _ _ _ _=>by simp[Rp]
noncomputable def isN:W->Bool
 |.d .non=>true
 |_=>false
noncomputable def pIs(x y:W)(M:Mm):Oc W:=match y with
 |.d .non=>.ok (.d (.bl (isN x))) M
 |_=>.bad
theorem aQa{x:W}(r:Rw K μ H x v):decide (v=.non)=isN x:=by
 cases x with
 |ref i=>obtain⟨a,_,rfl⟩:=r;simp[isN]
 |d x=>cases x with
  |non=>simp only[Rw,Rp]at r;subst r;simp[isN]
  |bl b=>simp only[Rw,Rp]at r;subst r;simp[isN]
  |int b=>simp only[Rw,Rp]at r;subst r;simp[isN]
  |str b=>simp only[Rw,Rp]at r;subst r;simp[isN]
  |tup b=>simp only[Rw,Rp]at r;obtain⟨a,vs,rfl,_⟩:=r;simp[isN]
  |lst b=>simp only[Rw,Rp]at r;obtain⟨a,vs,rfl,_⟩:=r;simp[isN]
  |fz b=>simp only[Rw,Rp]at r;obtain⟨a,vs,rfl,_⟩:=r;simp[isN]
  |exn c f b=>simp only[Rw,Rp]at r;obtain⟨a,vs,_,_,_,rfl,_⟩:=r;simp[isN]
theorem opIs:OpG X K Z (compareOp .Is) pIs:=λhk=>⟨_,aNt,by
 intro μ H M x y v u Q hr rx ry p
 cases y with
 |ref j=>exact p.elim
 |d y=>cases y with
  |non=>simp only[Rw,Rp]at ry;exact⟨ry,p μ H .refl hr _ (by simp only[Rw,Rp];rw[aQa rx])⟩
  |_=>exact p.elim⟩
variable{K:Frag}
mutual
noncomputable def eqD:D->D->Bool
 |.non,.non=>true
 |.bl a,.bl b=>a==b
 |.bl a,.int b=>(if a then 1 else 0)==b
 |.int a,.bl b=>a==(if b then 1 else 0)
 |.int a,.int b=>a==b
 |.str a,.str b=>a==b
 |.tup xs,.tup ys=>eqDs xs ys
 |.lst xs,.lst ys=>eqDs xs ys
 |.lst xs,.fz ys=>eqDs xs ys
 |.fz xs,.lst ys=>eqDs xs ys
 |.fz xs,.fz ys=>eqDs xs ys
 |.exn c f xs,.exn c' f' ys=>c==c'&&f==f'&&eqDs xs ys
 |_,_=>false
noncomputable def eqDs:List D->List D->Bool
 |[],[]=>true
 |x::xs,y::ys=>eqD x y&&eqDs xs ys
 |_,_=>false
end
mutual
noncomputable def dep:D->Nat
 |.tup xs=>deps xs+1
 |.lst xs=>deps xs+1
 |.fz xs=>deps xs+1
 |.exn _ _ _=>1000
 |_=>0
noncomputable def deps:List D->Nat
 |[]=>0
 |x::xs=>max (dep x) (deps xs)
end
theorem yG:∀{xs:List D} {i:Nat} {x:D},xs[i]?=some x->dep x<=deps xs
 |[],_,_,h=>by simp at h
 |y::xs,0,x,h=>by simp at h;subst h;simp only[deps];lia
 |y::xs,i+1,x,h=>by
  have:=yG (xs:=xs) (i:=i) (x:=x) (by simpa using h)
  simp only[deps];lia
theorem mT:∀(xs ys:List D),eqDs xs ys=((List.range (min xs.length ys.length)).all (λi=>eqD (xs.getD i .non) (ys.getD i .non))&&xs.length==ys.length)
 |[],[]=>rfl
 |[],y::ys=>by simp[eqDs]
 |x::xs,[]=>by simp[eqDs]
 |x::xs,y::ys=>by
  simp only[eqDs]
  rw[mT xs ys]
  have:min (x::xs).length (y::ys).length=min xs.length ys.length+1:=by simp
  rw[this,List.range_succ_eq_map,aET]
  simp only[List.getD_cons_zero,List.all_map,Bool.and_assoc,aBQ]
  congr 1
  congr 1
  rw[Bool.eq_iff_iff];simp
variable{σ:L2.St}
theorem aBb{ds:List D}(r:Rps K μ H ds vs)(rv:Vals vs its)(h:i < its.toArray.size):∃d v,ds[i]?=some d/\Rp K μ H d v/\RelV v its.toArray[i]:=by
 have h1:i < its.length:=by simpa using h
 have h2:i < vs.length:=by rw[rv.length];exact h1
 have h3:i < ds.length:=by rw[r.length];exact h2
 obtain⟨v,q1,q2⟩:=r.get (i:=i) (d:=ds[i]) (by simp[h3])
 obtain⟨u,q3,q4⟩:=rv.get q1
 refine⟨ds[i],v,by simp[h3],q2,?_⟩
 rw[aAQ h1]at q3
 cases q3
 simpa using q4
theorem aAi{ds:List D}{d:D}(h:ds[i]?=some d):ds.getD i .non=d:=by rw[List.getD_eq_getElem?_getD,h];rfl
noncomputable abbrev Eqs(K:Frag)(μ:List Addr)(H:Hp)(s:Shared)(A:Around)(xs:List D):Prop :=
 ∀(j:Nat) (d:D),xs[j]?=some d->∀(d2:D) (v1 v2:V) (u1 u2:Value),dep d2<=100->Rp K μ H d v1->Rp K μ H d2 v2->RelV v1 u1->RelV v2 u2->SeqAt.EqAt A s u1 u2 (eqD d d2)
variable{us:List V}
theorem nP{xs ys:List D}{its its2:List Value}(r1:Rps K μ H xs vs)(r2:Rps K μ H ys us)(q1:Vals vs its)(q2:Vals us its2)(n2:deps ys<=100)(ih:Eqs K μ H s A xs) :
  ∀j (h1:j < its.toArray.size) (h2:j < its2.toArray.size),SeqAt.EqAt A s its.toArray[j] its2.toArray[j] ((λi=>eqD (xs.getD i .non) (ys.getD i .non)) j):=by
 intro j h1 h2
 obtain⟨d,v,e1,e2,e3⟩:=aBb r1 q1 h1
 obtain⟨d',v',e1',e2',e3'⟩:=aBb r2 q2 h2
 simp only[aAi e1,aAi e1']
 exact ih j d e1 d' v v' _ _ (aBF (yG e1') n2) e2 e2' e3 e3'
theorem mV{xs ys:List D}{its2:List Value}(r1:Rps K μ H xs vs)(r2:Rps K μ H ys us)(q1:Vals vs its)(q2:Vals us its2):its.toArray.size=xs.length/\its2.toArray.size=ys.length:=by
 simp[r1.length,r2.length,q1.length,q2.length]
theorem aMc{xs ys:List D}{a b:Addr}(I:Inv X pins σ H s)(h1:SqT X.K H a vs)(h2:SqT X.K H b us)(r1:Rps K μ H xs vs)(r2:Rps K μ H ys us)(hu:A.units < cLine)(n2:deps ys<=100)(ih:Eqs K μ H s A.in1 xs) :
  SeqAt.RcAt A s (.ref a) (.ref b) (eqDs xs ys):=by
 obtain⟨its,q1,p1,_⟩:=I.tuple h1
 obtain⟨its2,q2,p2,_⟩:=I.tuple h2
 have:=SeqAt.RcAt.tuples p1 p2 hu (nP r1 r2 q1 q2 n2 ih)
 obtain⟨e1,e2⟩:=mV r1 r2 q1 q2
 rw[e1,e2]at this
 rw[mT];exact this
theorem aIh{xs ys:List D}{a b:Addr}(I:Inv X pins σ H s)(h1:SqT X.K H a vs)(h2:SqT X.K H b us)(r1:Rps K μ H xs vs)(r2:Rps K μ H ys us)(hu:A.units < cLine)(n2:deps ys<=100)(ih:Eqs K μ H s A.in1 xs) :
  SeqAt.RcNeAt A s (.ref a) (.ref b) (!eqDs xs ys):=by
 obtain⟨its,q1,p1,_⟩:=I.tuple h1
 obtain⟨its2,q2,p2,_⟩:=I.tuple h2
 have:=SeqAt.RcNeAt.tuples p1 p2 hu (nP r1 r2 q1 q2 n2 ih)
 obtain⟨e1,e2⟩:=mV r1 r2 q1 q2
 rw[e1,e2]at this
 rw[mT];exact this
theorem wQ{xs ys:List D}(h:xs.length≠ys.length):eqDs xs ys=false:=by
 rw[mT]
 have:(xs.length==ys.length)=false:=by simpa using h
 rw[this,Bool.and_false]
theorem tM{xs ys:List D}(h:xs.length=ys.length):eqDs xs ys=(List.range xs.length).all (λi=>eqD (xs.getD i .non) (ys.getD i .non)):=by
 rw[mT,<- h];simp
theorem vP{xs ys:List D}{a b:Addr}(I:Inv X pins σ H s)(h1:SqL X.K H a vs)(h2:SqL X.K H b us)(r1:Rps K μ H xs vs)(r2:Rps K μ H ys us)(hu:A.units < cLine)(n2:deps ys<=100)(ih:Eqs K μ H s A.in1 xs) :
  SeqAt.RcAt A s (.ref a) (.ref b) (eqDs xs ys):=by
 obtain⟨its,q1,p1,_⟩:=I.list h1
 obtain⟨its2,q2,p2,_⟩:=I.list h2
 obtain⟨e1,e2⟩:=mV r1 r2 q1 q2
 by_cases hl:xs.length=ys.length
 ·have:=SeqAt.RcAt.lists p1.isList p2.isList (by rw[e1,e2,hl]) hu (nP r1 r2 q1 q2 n2 ih)
  rw[e1]at this
  rw[tM hl];exact this
 ·rw[wQ hl]
  exact SeqAt.RcAt.lists_lengths p1.isList p2.isList (by rw[e1,e2];simpa using hl) hu
theorem mQ{xs ys:List D}{a b:Addr}(I:Inv X pins σ H s)(h1:SqL X.K H a vs)(h2:SqL X.K H b us)(r1:Rps K μ H xs vs)(r2:Rps K μ H ys us)(hu:A.units < cLine)(n2:deps ys<=100)(ih:Eqs K μ H s A.in1 xs) :
  SeqAt.RcNeAt A s (.ref a) (.ref b) (!eqDs xs ys):=by
 obtain⟨its,q1,p1,_⟩:=I.list h1
 obtain⟨its2,q2,p2,_⟩:=I.list h2
 obtain⟨e1,e2⟩:=mV r1 r2 q1 q2
 by_cases hl:xs.length=ys.length
 ·have:=SeqAt.RcNeAt.lists p1.isList p2.isList (by rw[e1,e2,hl]) hu (nP r1 r2 q1 q2 n2 ih)
  rw[e1]at this
  rw[tM hl];exact this
 ·rw[wQ hl]
  exact SeqAt.RcNeAt.lists_lengths p1.isList p2.isList (by rw[e1,e2];simpa using hl) hu
noncomputable def fv:D->Option V
 |.non=>some .non
 |.bl b=>some (.bl b)
 |.int i=>some (.int i)
 |.str x=>some (.str x)
 |_=>none
theorem tO{d:D}(h:fv d=some u)(r:Rp K μ H d v):v=u/\flatV u=true:=by
 cases d <;> simp only[fv,aBB,reduceCtorEq]at h <;> (simp only[Rp]at r;subst h;exact⟨r,rfl⟩)
variable{w:V}
theorem aEo{d e:D}(h:fv d=some u)(h':fv e=some w):eqV u w=eqD d e:=by
 cases d <;> simp only[fv,aBB,reduceCtorEq]at h <;> (cases e <;> simp only[fv,aBB,reduceCtorEq]at h' <;> (subst h;subst h';simp[eqV,eqD]))
theorem aQh{d:D}(r:Rp K μ H d v)(h:flatV v=true):fv d=some v:=by
 cases d with
 |non=>simp only[Rp]at r;subst r;rfl
 |bl b=>simp only[Rp]at r;subst r;rfl
 |int b=>simp only[Rp]at r;subst r;rfl
 |str b=>simp only[Rp]at r;subst r;rfl
 |tup b=>simp only[Rp]at r;obtain⟨a,vs,rfl,_⟩:=r;cases h
 |lst b=>simp only[Rp]at r;obtain⟨a,vs,rfl,_⟩:=r;cases h
 |fz b=>simp only[Rp]at r;obtain⟨a,vs,rfl,_⟩:=r;cases h
 |exn c f b=>simp only[Rp]at r;obtain⟨a,vs,_,_,_,rfl,_⟩:=r;cases h
theorem aGq(h:flatV v=true):eqV v v=true:=by cases v <;> first|(cases h;done)|rfl|(simp[eqV];done)
theorem nE{d d':D}(hf:fv d=some u)(h:Rp K μ H d v)(h':Rp K μ H d' v):eqD d d'=true:=by
 obtain⟨rfl,fl⟩:=tO hf h
 rw[<- aEo hf (aQh h' fl)]
 exact aGq fl
inductive At(K:Frag)(μ:List Addr)(H:Hp):D->Addr->List D->Bool->Prop where
 |tup {a vs ds:_}:SqT K H a vs->Rps K μ H ds vs->At K μ H (.tup ds) a ds true
 |lst {a vs ds:_}:SqL K H a vs->Rps K μ H ds vs->At K μ H (.lst ds) a ds false
 |fz {a vs ds:_}:SqL K H a vs->Rps K μ H ds vs->At K μ H (.fz ds) a ds false
theorem pT{a:Addr}(I:Inv X pins σ H s)(h1:SqT X.K H a vs)(h2:SqL X.K H a us):False:=by
 obtain⟨its,q1,p1,_⟩:=I.tuple h1
 obtain⟨its2,q2,p2,_⟩:=I.list h2
 exact SeqAt.ne_of_list_tuple p2.isList p1 rfl
mutual
theorem aHi(I:Inv X pins σ H s)(hk:X.K=K):∀(d d':D) (v:V),dep d<=100->dep d'<=100->Rp K μ H d v->Rp K μ H d' v->eqD d d'=true
 |.non,d',v,n,n',h,h'=>nE rfl h h'
 |.bl x,d',v,n,n',h,h'=>nE rfl h h'
 |.int x,d',v,n,n',h,h'=>nE rfl h h'
 |.str x,d',v,n,n',h,h'=>nE rfl h h'
 |.tup xs,d',v,n,n',h,h'=>by
  simp only[Rp]at h
  obtain⟨a,vs,rfl,h1,r1⟩:=h
  cases d' with
  |tup ys =>
   simp only[Rp]at h'
   obtain⟨b,us,e,h2,r2⟩:=h'
   cases e
   cases I.tuple_inj (SqT.of (K:=X.K) h1) (SqT.of h2)
   simp only[eqD]
   exact lH I hk xs ys vs (by simp only[dep]at n;lia) (by simp only[dep]at n';lia) r1 r2
  |lst ys=>simp only[Rp]at h';obtain⟨b,us,e,h2,_,r2⟩:=h';cases e;exact(pT I (SqT.of h1) (SqL.of h2)).elim
  |fz ys=>simp only[Rp]at h';obtain⟨b,us,e,h2,r2⟩:=h';cases e;exact(pT I (SqT.of h1) (hk▸h2.sq)).elim
  |exn c f ys=>simp[dep]at n'
  |_=>simp only[Rp]at h';cases h'
 |.lst xs,d',v,n,n',h,h'=>by
  simp only[Rp]at h
  obtain⟨a,vs,rfl,h1,_,r1⟩:=h
  cases d' with
  |tup ys=>simp only[Rp]at h';obtain⟨b,us,e,h2,r2⟩:=h';cases e;exact(pT I (SqT.of h2) (SqL.of h1)).elim
  |lst ys =>
   simp only[Rp]at h';obtain⟨b,us,e,h2,_,r2⟩:=h';cases e
   cases I.list_inj (SqL.of h1) (SqL.of h2)
   simp only[eqD]
   exact lH I hk xs ys vs (by simp only[dep]at n;lia) (by simp only[dep]at n';lia) r1 r2
  |fz ys =>
   simp only[Rp]at h';obtain⟨b,us,e,h2,r2⟩:=h';cases e
   cases I.list_inj (SqL.of h1) (hk▸h2.sq)
   simp only[eqD]
   exact lH I hk xs ys vs (by simp only[dep]at n;lia) (by simp only[dep]at n';lia) r1 r2
  |exn c f ys=>simp[dep]at n'
  |_=>simp only[Rp]at h';cases h'
 |.fz xs,d',v,n,n',h,h'=>by
  simp only[Rp]at h
  obtain⟨a,vs,rfl,h1,r1⟩:=h
  cases d' with
  |tup ys=>simp only[Rp]at h';obtain⟨b,us,e,h2,r2⟩:=h';cases e;exact(pT I (SqT.of h2) (hk▸h1.sq)).elim
  |lst ys =>
   simp only[Rp]at h';obtain⟨b,us,e,h2,_,r2⟩:=h';cases e
   cases I.list_inj (hk▸h1.sq) (SqL.of h2)
   simp only[eqD]
   exact lH I hk xs ys vs (by simp only[dep]at n;lia) (by simp only[dep]at n';lia) r1 r2
  |fz ys =>
   simp only[Rp]at h';obtain⟨b,us,e,h2,r2⟩:=h';cases e
   cases I.list_inj (hk▸h1.sq) (hk▸h2.sq)
   simp only[eqD]
   exact lH I hk xs ys vs (by simp only[dep]at n;lia) (by simp only[dep]at n';lia) r1 r2
  |exn c f ys=>simp[dep]at n'
  |_=>simp only[Rp]at h';cases h'
 |.exn c f xs,d',v,n,n',h,h'=>by simp[dep]at n
theorem lH(I:Inv X pins σ H s)(hk:X.K=K):∀(xs ys:List D) (vs:List V),deps xs<=100->deps ys<=100->Rps K μ H xs vs->Rps K μ H ys vs->eqDs xs ys=true
 |[],ys,vs,n,n',h,h'=>by simp only[Rps]at h;subst h;cases ys with|nil=>rfl|cons y ys=>simp only[Rps]at h';obtain⟨_,_,e,_⟩:=h';cases e
 |x::xs,ys,vs,n,n',h,h'=>by
  simp only[Rps]at h
  obtain⟨v,r,rfl,e2,e3⟩:=h
  cases ys with
  |nil=>simp only[Rps]at h';cases h'
  |cons y ys =>
   simp only[Rps]at h'
   obtain⟨v',r',e,e2',e3'⟩:=h'
   cases e
   simp only[deps]at n n'
   simp only[eqDs,aHi I hk x y v (by lia) (by lia) e2 e2',lH I hk xs ys r (by lia) (by lia) e3 e3',Bool.and_self]
end
theorem mS{d:D}(h:fv d=none)(n:dep d<=100)(r:Rp K μ H d v):∃a ds k,v=.ref a/\At K μ H d a ds k:=by
 cases d with
 |tup xs=>simp only[Rp]at r;obtain⟨a,vs,e,q1,q2⟩:=r;exact⟨a,xs,true,e,.tup (SqT.of q1) q2⟩
 |lst xs=>simp only[Rp]at r;obtain⟨a,vs,e,q1,_,q2⟩:=r;exact⟨a,xs,false,e,.lst (SqL.of q1) q2⟩
 |fz xs=>simp only[Rp]at r;obtain⟨a,vs,e,q1,q2⟩:=r;exact⟨a,xs,false,e,.fz q1.sq q2⟩
 |exn c f xs=>simp[dep]at n
 |_=>simp[fv]at h
variable{v1 v2 w2:V}{u1:Value}
theorem aKi{d d2:D}(n1:fv d=some w)(n2:fv d2=some w2)(h1:Rp K μ H d v1)(h2:Rp K μ H d2 v2)(q1:RelV v1 u1)(q2:RelV v2 u2) :
  (SeqAt.RcAt A s u1 u2 (eqD d d2)/\SeqAt.RcNeAt A s u1 u2 (!eqD d d2)):=by
 cases d with
 |non =>
  simp only[Rp]at h1;subst h1;cases q1
  cases d2 with
  |non=>simp only[Rp]at h2;subst h2;cases q2;simp only[eqD];exact⟨SeqAt.RcAt.none_none,SeqAt.RcNeAt.none_none⟩
  |bl y=>simp only[Rp]at h2;subst h2;cases q2;simp only[eqD];exact⟨SeqAt.RcAt.none_bool y,SeqAt.RcNeAt.none_bool y⟩
  |int y=>simp only[Rp]at h2;subst h2;obtain⟨t2,rfl⟩:=q2;simp only[eqD];exact⟨SeqAt.RcAt.none_int y t2,SeqAt.RcNeAt.none_int y t2⟩
  |str y=>simp only[Rp]at h2;subst h2;obtain⟨t2,rfl⟩:=q2;simp only[eqD];exact⟨SeqAt.RcAt.none_str y t2,SeqAt.RcNeAt.none_str y t2⟩
  |_=>simp[fv]at n2
 |bl x =>
  simp only[Rp]at h1;subst h1;cases q1
  cases d2 with
  |non=>simp only[Rp]at h2;subst h2;cases q2;simp only[eqD];exact⟨SeqAt.RcAt.bool_none x,SeqAt.RcNeAt.bool_none x⟩
  |bl y=>simp only[Rp]at h2;subst h2;cases q2;simp only[eqD];exact⟨SeqAt.RcAt.bool_bool x y,SeqAt.RcNeAt.bool_bool x y⟩
  |int y=>simp only[Rp]at h2;subst h2;obtain⟨t2,rfl⟩:=q2;simp only[eqD];exact⟨SeqAt.RcAt.bool_int x y t2,SeqAt.RcNeAt.bool_int x y t2⟩
  |str y=>simp only[Rp]at h2;subst h2;obtain⟨t2,rfl⟩:=q2;simp only[eqD];exact⟨SeqAt.RcAt.bool_str x y t2,SeqAt.RcNeAt.bool_str x y t2⟩
  |_=>simp[fv]at n2
 |int x =>
  simp only[Rp]at h1;subst h1;obtain⟨t,rfl⟩:=q1
  cases d2 with
  |non=>simp only[Rp]at h2;subst h2;cases q2;simp only[eqD];exact⟨SeqAt.RcAt.int_none x t,SeqAt.RcNeAt.int_none x t⟩
  |bl y=>simp only[Rp]at h2;subst h2;cases q2;simp only[eqD];exact⟨SeqAt.RcAt.int_bool x t y,SeqAt.RcNeAt.int_bool x t y⟩
  |int y=>simp only[Rp]at h2;subst h2;obtain⟨t2,rfl⟩:=q2;simp only[eqD];exact⟨SeqAt.RcAt.int_int x t y t2,SeqAt.RcNeAt.int_int x t y t2⟩
  |str y=>simp only[Rp]at h2;subst h2;obtain⟨t2,rfl⟩:=q2;simp only[eqD];exact⟨SeqAt.RcAt.int_str x t y t2,SeqAt.RcNeAt.int_str x t y t2⟩
  |_=>simp[fv]at n2
 |str x =>
  simp only[Rp]at h1;subst h1;obtain⟨t,rfl⟩:=q1
  cases d2 with
  |non=>simp only[Rp]at h2;subst h2;cases q2;simp only[eqD];exact⟨SeqAt.RcAt.str_none x t,SeqAt.RcNeAt.str_none x t⟩
  |bl y=>simp only[Rp]at h2;subst h2;cases q2;simp only[eqD];exact⟨SeqAt.RcAt.str_bool x t y,SeqAt.RcNeAt.str_bool x t y⟩
  |int y=>simp only[Rp]at h2;subst h2;obtain⟨t2,rfl⟩:=q2;simp only[eqD];exact⟨SeqAt.RcAt.str_int x t y t2,SeqAt.RcNeAt.str_int x t y t2⟩
  |str y=>simp only[Rp]at h2;subst h2;obtain⟨t2,rfl⟩:=q2;simp only[eqD];exact⟨SeqAt.RcAt.str_str x t y t2,SeqAt.RcNeAt.str_str x t y t2⟩
  |_=>simp[fv]at n2
 |_=>simp[fv]at n1
variable{its:Array Value}
theorem zF{d2:D}{a:Addr}(pl:s.heap.IsTuple a its)(hu:A.units < cLine)(n2:fv d2=some w2)(h2:Rp K μ H d2 v2)(q2:RelV v2 u2) :
  SeqAt.EqAt A s (.ref a) u2 false/\SeqAt.EqAt A s u2 (.ref a) false/\SeqAt.RcAt A s (.ref a) u2 false/\SeqAt.RcNeAt A s (.ref a) u2 true/\SeqAt.RcAt A s u2 (.ref a) false/\SeqAt.RcNeAt A s u2 (.ref a) true:=by
 cases d2 with
 |non=>simp only[Rp]at h2;subst h2;cases q2;exact⟨SeqAt.EqAt.tuple_none pl hu,SeqAt.EqAt.none_tuple pl hu,SeqAt.RcAt.tuple_none pl hu,SeqAt.RcNeAt.tuple_none pl hu,SeqAt.RcAt.none_tuple pl hu,SeqAt.RcNeAt.none_tuple pl hu⟩
 |bl y=>simp only[Rp]at h2;subst h2;cases q2;exact⟨SeqAt.EqAt.tuple_bool y pl hu,SeqAt.EqAt.bool_tuple y pl hu,SeqAt.RcAt.tuple_bool y pl hu,SeqAt.RcNeAt.tuple_bool y pl hu,SeqAt.RcAt.bool_tuple y pl hu,SeqAt.RcNeAt.bool_tuple y pl hu⟩
 |int y=>simp only[Rp]at h2;subst h2;obtain⟨t2,rfl⟩:=q2;exact⟨SeqAt.EqAt.tuple_int y t2 pl hu,SeqAt.EqAt.int_tuple y t2 pl hu,SeqAt.RcAt.tuple_int y t2 pl hu,SeqAt.RcNeAt.tuple_int y t2 pl hu,SeqAt.RcAt.int_tuple y t2 pl hu,SeqAt.RcNeAt.int_tuple y t2 pl hu⟩
 |str y=>simp only[Rp]at h2;subst h2;obtain⟨t2,rfl⟩:=q2;exact⟨SeqAt.EqAt.tuple_str y t2 pl hu,SeqAt.EqAt.str_tuple y t2 pl hu,SeqAt.RcAt.tuple_str y t2 pl hu,SeqAt.RcNeAt.tuple_str y t2 pl hu,SeqAt.RcAt.str_tuple y t2 pl hu,SeqAt.RcNeAt.str_tuple y t2 pl hu⟩
 |_=>simp[fv]at n2
theorem uI{d2:D}{a:Addr}(pl:s.heap.IsList a its)(hu:A.units < cLine)(n2:fv d2=some w2)(h2:Rp K μ H d2 v2)(q2:RelV v2 u2) :
  SeqAt.EqAt A s (.ref a) u2 false/\SeqAt.EqAt A s u2 (.ref a) false/\SeqAt.RcAt A s (.ref a) u2 false/\SeqAt.RcNeAt A s (.ref a) u2 true/\SeqAt.RcAt A s u2 (.ref a) false/\SeqAt.RcNeAt A s u2 (.ref a) true:=by
 cases d2 with
 |non=>simp only[Rp]at h2;subst h2;cases q2;exact⟨SeqAt.EqAt.list_none pl hu,SeqAt.EqAt.none_list pl hu,SeqAt.RcAt.list_none pl hu,SeqAt.RcNeAt.list_none pl hu,SeqAt.RcAt.none_list pl hu,SeqAt.RcNeAt.none_list pl hu⟩
 |bl y=>simp only[Rp]at h2;subst h2;cases q2;exact⟨SeqAt.EqAt.list_bool y pl hu,SeqAt.EqAt.bool_list y pl hu,SeqAt.RcAt.list_bool y pl hu,SeqAt.RcNeAt.list_bool y pl hu,SeqAt.RcAt.bool_list y pl hu,SeqAt.RcNeAt.bool_list y pl hu⟩
 |int y=>simp only[Rp]at h2;subst h2;obtain⟨t2,rfl⟩:=q2;exact⟨SeqAt.EqAt.list_int y t2 pl hu,SeqAt.EqAt.int_list y t2 pl hu,SeqAt.RcAt.list_int y t2 pl hu,SeqAt.RcNeAt.list_int y t2 pl hu,SeqAt.RcAt.int_list y t2 pl hu,SeqAt.RcNeAt.int_list y t2 pl hu⟩
 |str y=>simp only[Rp]at h2;subst h2;obtain⟨t2,rfl⟩:=q2;exact⟨SeqAt.EqAt.list_str y t2 pl hu,SeqAt.EqAt.str_list y t2 pl hu,SeqAt.RcAt.list_str y t2 pl hu,SeqAt.RcNeAt.list_str y t2 pl hu,SeqAt.RcAt.str_list y t2 pl hu,SeqAt.RcNeAt.str_list y t2 pl hu⟩
 |_=>simp[fv]at n2
variable{k:Bool}
theorem pX{d d2:D}{a:Addr}{xs:List D}(I:Inv X pins σ H s)(hk:X.K=K)(hu:A.units < cLine)(h1:At K μ H d a xs k)(n2:fv d2=some w2)(h2:Rp K μ H d2 v2)(q2:RelV v2 u2) :
  SeqAt.EqAt A s (.ref a) u2 false/\SeqAt.EqAt A s u2 (.ref a) false/\SeqAt.RcAt A s (.ref a) u2 false/\SeqAt.RcNeAt A s (.ref a) u2 true/\SeqAt.RcAt A s u2 (.ref a) false/\SeqAt.RcNeAt A s u2 (.ref a) true:=by
 cases h1 with
 |tup h r=>obtain⟨its,r',pl,_⟩:=I.tuple (hk▸h);exact zF pl hu n2 h2 q2
 |lst h r=>obtain⟨its,r',pl,_⟩:=I.list (hk▸h);exact uI pl.isList hu n2 h2 q2
 |fz h r=>obtain⟨its,r',pl,_⟩:=I.list (hk▸h);exact uI pl.isList hu n2 h2 q2
theorem jO{d d2:D}(n1:fv d=none)(n2:fv d2=some w):eqD d d2=false/\eqD d2 d=false:=by
 cases d <;> simp only[fv,reduceCtorEq]at n1 <;> (cases d2 <;> simp only[fv,reduceCtorEq]at n2 <;> exact⟨rfl,rfl⟩)
theorem aLh{d d2:D}{a b:Addr}{xs ys:List D}{k2:Bool}(I:Inv X pins σ H s)(hk:X.K=K)(hu:A.units < cLine)(h1:At K μ H d a xs k)(h2:At K μ H d2 b ys k2)(n2:dep d2<=100)(ih:Eqs K μ H s A.in1 xs) :
  SeqAt.RcAt A s (.ref a) (.ref b) (eqD d d2)/\SeqAt.RcNeAt A s (.ref a) (.ref b) (!eqD d d2):=by
 cases h1 with
 |tup h r=>cases h2 with
  |tup h' r'=>exact⟨aMc I (hk▸h) (hk▸h') r r' hu (by simp only[dep]at n2;lia) ih,aIh I (hk▸h) (hk▸h') r r' hu (by simp only[dep]at n2;lia) ih⟩
  |lst h' r' =>
   obtain⟨_,_,pl,_⟩:=I.tuple (hk▸h);obtain⟨_,_,pl',_⟩:=I.list (hk▸h')
   exact⟨.tuple_list pl pl'.isList hu,.tuple_list pl pl'.isList hu⟩
  |fz h' r' =>
   obtain⟨_,_,pl,_⟩:=I.tuple (hk▸h);obtain⟨_,_,pl',_⟩:=I.list (hk▸h')
   exact⟨.tuple_list pl pl'.isList hu,.tuple_list pl pl'.isList hu⟩
 |lst h r=>cases h2 with
  |tup h' r' =>
   obtain⟨_,_,pl,_⟩:=I.list (hk▸h);obtain⟨_,_,pl',_⟩:=I.tuple (hk▸h')
   exact⟨.list_tuple pl.isList pl' hu,.list_tuple pl.isList pl' hu⟩
  |lst h' r'=>exact⟨vP I (hk▸h) (hk▸h') r r' hu (by simp only[dep]at n2;lia) ih,mQ I (hk▸h) (hk▸h') r r' hu (by simp only[dep]at n2;lia) ih⟩
  |fz h' r'=>exact⟨vP I (hk▸h) (hk▸h') r r' hu (by simp only[dep]at n2;lia) ih,mQ I (hk▸h) (hk▸h') r r' hu (by simp only[dep]at n2;lia) ih⟩
 |fz h r=>cases h2 with
  |tup h' r' =>
   obtain⟨_,_,pl,_⟩:=I.list (hk▸h);obtain⟨_,_,pl',_⟩:=I.tuple (hk▸h')
   exact⟨.list_tuple pl.isList pl' hu,.list_tuple pl.isList pl' hu⟩
  |lst h' r'=>exact⟨vP I (hk▸h) (hk▸h') r r' hu (by simp only[dep]at n2;lia) ih,mQ I (hk▸h) (hk▸h') r r' hu (by simp only[dep]at n2;lia) ih⟩
  |fz h' r'=>exact⟨vP I (hk▸h) (hk▸h') r r' hu (by simp only[dep]at n2;lia) ih,mQ I (hk▸h) (hk▸h') r r' hu (by simp only[dep]at n2;lia) ih⟩
theorem jN{d d2:D}(I:Inv X pins σ H s)(hk:X.K=K)(hu:A.units < cLine)(h1:Rp K μ H d v1)(h2:Rp K μ H d2 v2)(q1:RelV v1 u1)(q2:RelV v2 u2)(m1:dep d<=100)(m2:dep d2<=100)
  (ih:∀a xs k,At K μ H d a xs k->Eqs K μ H s A.in1 xs):SeqAt.EqAt A s u1 u2 (eqD d d2):=by
 cases n1:fv d with
 |some w =>
  cases n2:fv d2 with
  |some w2 =>
   obtain⟨rfl,f1⟩:=tO n1 h1
   obtain⟨rfl,f2⟩:=tO n2 h2
   rw[<- aEo n1 n2]
   exact aFy q1 q2 f1 f2
  |none =>
   obtain⟨a,ds,k,rfl,at2⟩:=mS n2 m2 h2
   cases q2
   rw[(jO n2 n1).2]
   exact(pX I hk hu at2 n1 h1 q1).2.1
 |none =>
  cases n2:fv d2 with
  |some w2 =>
   obtain⟨a,ds,k,rfl,at1⟩:=mS n1 m1 h1
   cases q1
   rw[(jO n1 n2).1]
   exact(pX I hk hu at1 n2 h2 q2).1
  |none =>
   obtain⟨a,xs,k,rfl,at1⟩:=mS n1 m1 h1
   obtain⟨b,ys,k2,rfl,at2⟩:=mS n2 m2 h2
   cases q1
   cases q2
   by_cases hab:a=b
   ·subst hab
    rw[aHi I hk d d2 _ m1 m2 h1 h2]
    exact .same _
   ·exact .of_refs hab (aLh I hk hu at1 at2 m2 (ih a xs k at1)).1
mutual
theorem aEu(I:Inv X pins σ H s)(hk:X.K=K):∀(d:D) (A:Around) (d2:D) (v1 v2:V) (u1 u2:Value),A.units+dep d < cLine->dep d<=100->dep d2<=100->Rp K μ H d v1->Rp K μ H d2 v2->RelV v1 u1->RelV v2 u2->SeqAt.EqAt A s u1 u2 (eqD d d2)
 |.non,A,d2,v1,v2,u1,u2,hu,m1,m2,h1,h2,q1,q2=>jN I hk (by lia) h1 h2 q1 q2 m1 m2 λa xs k z=>nomatch z
 |.bl x,A,d2,v1,v2,u1,u2,hu,m1,m2,h1,h2,q1,q2=>jN I hk (by lia) h1 h2 q1 q2 m1 m2 λa xs k z=>nomatch z
 |.int x,A,d2,v1,v2,u1,u2,hu,m1,m2,h1,h2,q1,q2=>jN I hk (by lia) h1 h2 q1 q2 m1 m2 λa xs k z=>nomatch z
 |.str x,A,d2,v1,v2,u1,u2,hu,m1,m2,h1,h2,q1,q2=>jN I hk (by lia) h1 h2 q1 q2 m1 m2 λa xs k z=>nomatch z
 |.tup xs,A,d2,v1,v2,u1,u2,hu,m1,m2,h1,h2,q1,q2=>jN I hk (by lia) h1 h2 q1 q2 m1 m2 λa ys k z=>by
  have e:xs=ys:=by cases z;rfl
  subst e
  exact nI I hk xs A.in1 (by simp only[dep]at hu;show A.units+1+deps xs < cLine;lia) (by simp only[dep]at m1;lia)
 |.lst xs,A,d2,v1,v2,u1,u2,hu,m1,m2,h1,h2,q1,q2=>jN I hk (by lia) h1 h2 q1 q2 m1 m2 λa ys k z=>by
  have e:xs=ys:=by cases z;rfl
  subst e
  exact nI I hk xs A.in1 (by simp only[dep]at hu;show A.units+1+deps xs < cLine;lia) (by simp only[dep]at m1;lia)
 |.fz xs,A,d2,v1,v2,u1,u2,hu,m1,m2,h1,h2,q1,q2=>jN I hk (by lia) h1 h2 q1 q2 m1 m2 λa ys k z=>by
  have e:xs=ys:=by cases z;rfl
  subst e
  exact nI I hk xs A.in1 (by simp only[dep]at hu;show A.units+1+deps xs < cLine;lia) (by simp only[dep]at m1;lia)
 |.exn c f xs,A,d2,v1,v2,u1,u2,hu,m1,m2,h1,h2,q1,q2=>by simp[dep]at m1
theorem nI(I:Inv X pins σ H s)(hk:X.K=K):∀(xs:List D) (A:Around),A.units+deps xs < cLine->deps xs<=100->Eqs K μ H s A xs
 |[],A,hu,m=>λj d h=>by simp at h
 |x::xs,A,hu,m=>λj d h=>match j,h with
  |0,h=>λd2 v1 v2 u1 u2 m2 r1 r2 q1 q2=>by
   have e:d=x:=by simpa using h.symm
   rw[e]at r1 ⊢
   exact aEu I hk x A d2 v1 v2 u1 u2 (by simp only[deps]at hu;lia) (by simp only[deps]at m;lia) m2 r1 r2 q1 q2
  |j+1,h=>λd2 v1 v2 u1 u2 m2 r1 r2 q1 q2=>nI I hk xs A (by simp only[deps]at hu;lia) (by simp only[deps]at m;lia) j d (by simpa using h) d2 v1 v2 u1 u2 m2 r1 r2 q1 q2
end
noncomputable def wd(M:Mm):W->Option D
 |.d x=>some x
 |.ref i=>(M[i]?).map D.lst
noncomputable def Rq(K:Frag)(μ:List Addr)(H:Hp)(d:D)(v:V):Prop:=Rp K μ H d v\/∃a ds vs,d=.lst ds/\v=.ref a/\H a=some (.lst vs)/\Rps K μ H ds vs
theorem aAh{w:W}{d:D}(hr:HR K μ H M)(r:Rw K μ H w v)(h:wd M w=some d):Rq K μ H d v:=by
 cases w with
 |d x=>simp only[wd,aBB]at h;subst h;exact .inl r
 |ref i =>
  simp only[wd,aAM]at h
  obtain⟨ds,h1,rfl⟩:=h
  obtain⟨a,q,rfl⟩:=r
  obtain⟨a',vs,q1,q2,q3⟩:=hr.at h1
  rw[q]at q1;cases q1
  exact .inr ⟨a,ds,vs,rfl,rfl,q2,q3⟩
theorem vR{d:D}(n:fv d=none)(m:dep d<=100)(h:Rq K μ H d v):∃a ds k,v=.ref a/\At K μ H d a ds k:=by
 rcases h with h|⟨a,ds,vs,rfl,rfl,q1,q2⟩
 ·exact mS n m h
 ·exact⟨a,ds,false,rfl,.lst (SqL.of q1) q2⟩
theorem aGh{d:D}(n:fv d=some w)(h:Rq K μ H d v):Rp K μ H d v:=by
 rcases h with h|⟨a,ds,vs,rfl,rfl,q1,q2⟩
 ·exact h
 ·cases n
theorem aOv{d:D}{a:Addr}{xs:List D}(h:At K μ H d a xs k):dep d=deps xs+1:=by cases h <;> rfl
noncomputable def pEq(x y:W)(M:Mm):Oc W:=match wd M x,wd M y with
 |some d,some e=>if dep d<=100/\dep e<=100 then .ok (.d (.bl (eqD d e))) M else .bad
 |_,_=>.bad
noncomputable def pNe(x y:W)(M:Mm):Oc W:=match wd M x,wd M y with
 |some d,some e=>if dep d<=100/\dep e<=100 then .ok (.d (.bl (!eqD d e))) M else .bad
 |_,_=>.bad
noncomputable def rEqD(K:Frag)(neg:Bool):R2:=λv u H Q=>∃μ d e,Rq K μ H d v/\Rq K μ H e u/\(dep d<=100/\dep e<=100)/\Q (.bl (if neg=true then !eqD d e else eqD d e)) H
theorem aQk(I:Inv X pins σ H s)(hk:X.K=K){d d2:D}(hu:A.units+dep d+1 < cLine)(m1:dep d<=100)(m2:dep d2<=100)(h1:Rq K μ H d v1)(h2:Rq K μ H d2 v2)(q1:RelV v1 u1)(q2:RelV v2 u2) :
  (SeqAt.RcAt A s u1 u2 (eqD d d2)/\SeqAt.RcNeAt A s u1 u2 (!eqD d d2)):=by
 have hu0:A.units < cLine:=by lia
 cases n1:fv d with
 |some w =>
  have h1:=aGh n1 h1
  cases n2:fv d2 with
  |some w2=>exact aKi n1 n2 h1 (aGh n2 h2) q1 q2
  |none =>
   obtain⟨b,ys,k2,rfl,at2⟩:=vR n2 m2 h2
   cases q2
   rw[(jO n2 n1).2]
   obtain⟨_,_,_,_,x,y⟩:=pX I hk hu0 at2 n1 h1 q1
   exact⟨x,y⟩
 |none =>
  obtain⟨a,xs,k,rfl,at1⟩:=vR n1 m1 h1
  cases q1
  cases n2:fv d2 with
  |some w2 =>
   rw[(jO n1 n2).1]
   obtain⟨_,_,x,y,_⟩:=pX I hk hu0 at1 n2 (aGh n2 h2) q2
   exact⟨x,y⟩
  |none =>
   obtain⟨b,ys,k2,rfl,at2⟩:=vR n2 m2 h2
   cases q2
   have:=aOv at1
   exact aLh I hk hu0 at1 at2 m2 (nI I hk xs A.in1 (by show A.units+1+deps xs < cLine;lia) (by lia))
theorem aNq(hu:X.A.units+101 < cLine):OpR X (compareOp .Eq) (rEqD X.K false):=by
 intro pins s σ H x y v u Q I rx ry h
 obtain⟨μ,d,e,h1,h2,h3,q⟩:=h
 exact(aQk I rfl (A:=X.A) (by lia) h3.1 h3.2 h1 h2 rx ry).1 _ _ _ _ ⟨.bl _,H,I,rfl,q⟩
theorem aOs(hu:X.A.units+101 < cLine):OpR X (compareOp .NotEq) (rEqD X.K true):=by
 intro pins s σ H x y v u Q I rx ry h
 obtain⟨μ,d,e,h1,h2,h3,q⟩:=h
 exact(aQk I rfl (A:=X.A) (by lia) h3.1 h3.2 h1 h2 rx ry).2 _ _ _ _ ⟨.bl _,H,I,rfl,q⟩
theorem opEq(hu:X.A.units+101 < cLine):OpG X K Z (compareOp .Eq) pEq:=λhk=>⟨_,hk▸aNq hu,by
 intro μ H M x y v u Q hr rx ry p
 unfold pEq at p
 cases q1:wd M x with
 |none=>rw[q1]at p;exact p.elim
 |some d=>cases q2:wd M y with
  |none=>rw[q1,q2]at p;exact p.elim
  |some e =>
   rw[q1,q2]at p
   simp only at p
   split at p
   ·exact⟨μ,d,e,aAh hr rx q1,aAh hr ry q2,by assumption,p μ H .refl hr _ (by simp[Rw,Rp])⟩
   ·exact p.elim⟩
theorem opNe(hu:X.A.units+101 < cLine):OpG X K Z (compareOp .NotEq) pNe:=λhk=>⟨_,hk▸aOs hu,by
 intro μ H M x y v u Q hr rx ry p
 unfold pNe at p
 cases q1:wd M x with
 |none=>rw[q1]at p;exact p.elim
 |some d=>cases q2:wd M y with
  |none=>rw[q1,q2]at p;exact p.elim
  |some e =>
   rw[q1,q2]at p
   simp only at p
   split at p
   ·exact⟨μ,d,e,aAh hr rx q1,aAh hr ry q2,by assumption,p μ H .refl hr _ (by simp[Rw,Rp])⟩
   ·exact p.elim⟩
variable{K:Frag}{o:Expr}{fo:FE}
@[irreducible] noncomputable def lid:Nat:=2 ^ 4096
variable{i:Int}
theorem wY(h:i.natAbs < lid):Builtin.Int.intBits i<=4096:=by unfold lid at h;exact intBits_le_iff.mpr h
theorem aPa(h:i.natAbs < 2 ^ m)(hm:m<=4096):i.natAbs < lid:=by unfold lid;exact aAT h (aDB (by lia) hm)
noncomputable def mulOk(i j:Int):Bool:=decide ((-18446744073709551616 < i/\i < 18446744073709551616)\/(-18446744073709551616 < j/\j < 18446744073709551616)\/(i.natAbs < lid/\j.natAbs < lid))
theorem aLa:OpR X (binaryOp .Mult) (rI (λi j=>CMul i j\/(i.natAbs < lid/\j.natAbs < lid)) λi j=>.int (i*j)):=L2.opI λ_ _ _ _ _ _ _ hc q=>mul_int q (by
 rcases hc with hc|⟨h1,h2⟩
 ·exact hc.ok
 ·exact mulOk_of_bits (wY h1) (wY h2) (by lia))
noncomputable def pMul(x y:W)(M:Mm):Oc W:=match x,y with
 |.d (.int i),.d (.int j)=>if mulOk i j=true then .ok (.d (.int (i*j))) M else .bad
 |x,.d (.int k)=>match lv M x with
  |some xs=>if xs.length*k.toNat<=16777216/\k < 9223372036854775808 /\ -9223372036854775808<=k then .ok (.d (.lst (List.replicate k.toNat xs).flatten)) M else .bad
  |none=>.bad
 |_,_=>.bad
theorem xQ{x:W}{k:Int}(hr:HR K μ H M)(rx:Rw K μ H x v)(p:Pst K Z μ H (match lv M x with
  |some xs=>if xs.length*k.toNat<=16777216/\k < 9223372036854775808 /\ -9223372036854775808<=k then .ok (.d (.lst (List.replicate k.toNat xs).flatten)) M else .bad
  |none=>.bad) (Wk K Q)):rRep v (.int k) H Q:=by
 cases q1:lv M x with
 |none=>rw[q1]at p;exact p.elim
 |some xs =>
  rw[q1]at p
  simp only at p
  split at p
  ·rename_i hz
   obtain⟨a,vs,rfl,h1,r1⟩:=qX hr rx q1
   exact⟨a,k,vs,rfl,rfl,h1,hz.2.2,hz.2.1,by rw[<- r1.length,aBA];exact hz.1,iD hr (r1.rep k.toNat) p⟩
  ·exact p.elim
theorem opMul:OpG X K Z (binaryOp .Mult) pMul:=λhk=>by
 refine⟨_,OpR.or aLa aPe,?_⟩
 intro μ H M x y v u Q hr rx ry p
 cases y with
 |ref j=>cases x with
  |ref i=>exact p.elim
  |d x=>cases x <;> exact p.elim
 |d y=>cases y with
  |int k =>
   have ry':u=.int k:=by simpa only[Rw,Rp]using ry
   subst ry'
   cases x with
   |ref i=>exact .inr (xQ hr rx p)
   |d x=>cases x with
    |int i =>
     simp only[pMul]at p
     simp only[Rw,Rp]at rx
     split at p
     ·rename_i hz
      refine .inl ⟨i,k,rx,rfl,?_,p μ H .refl hr _ (by simp[Rw,Rp])⟩
      simp only[mulOk,aAN]at hz
      rcases hz with hz|hz|hz
      ·exact .inl (.inl hz)
      ·exact .inl (.inr hz)
      ·exact .inr hz
     ·exact p.elim
    |_=>exact .inr (xQ hr rx p)
  |_=>cases x with
   |ref i=>exact p.elim
   |d x=>cases x <;> exact p.elim
noncomputable def pNeg(x:W)(M:Mm):Oc W:=match x with
 |.d (.int i)=>.ok (.d (.int (-i))) M
 |_=>.bad
theorem aPg(ha:Ev X K Z a fa):Ev X K Z (.UnaryOp .USub a pos) (e1 pNeg fa):=by
 refine⟨ha.k,cqE (aPr aNh ha.h) ?_⟩
 rintro σ H Q ⟨μ,M,L,hr,lr,p⟩
 refine⟨μ,M,L,hr,lr,p.bind.imp λμ1 H1 M1 x e1 hr1 _ p1 v rx=>?_⟩
 cases x with
 |ref i=>exact p1.elim
 |d x=>cases x with
  |int i=>simp only[Rw,Rp]at rx;exact⟨i,rx,p1 μ1 H1 .refl hr1 _ (by simp[Rw,Rp])⟩
  |_=>exact p1.elim
noncomputable def pNot(x:W)(M:Mm):Oc W:=match x with
 |.d (.bl b)=>.ok (.d (.bl (!b))) M
 |_=>.bad
theorem aOz(ha:Ev X K Z a fa):Ev X K Z (.UnaryOp .Not a pos) (e1 pNot fa):=by
 refine⟨ha.k,cqE (aOt ha.h) ?_⟩
 rintro σ H Q ⟨μ,M,L,hr,lr,p⟩
 refine⟨μ,M,L,hr,lr,p.bind.imp λμ1 H1 M1 x e1 hr1 _ p1 v rx=>?_⟩
 cases x with
 |ref i=>exact p1.elim
 |d x=>cases x with
  |bl i=>simp only[Rw,Rp]at rx;exact⟨i,rx,p1 μ1 H1 .refl hr1 _ (by simp[Rw,Rp])⟩
  |_=>exact p1.elim
noncomputable def eAnd(f g:FE):FE:=λL M=>(f L M).bind λx M1=>match x with
 |.d (.bl true)=>g L M1
 |.d (.bl false)=>.ok (.d (.bl false)) M1
 |_=>.bad
noncomputable def eOr(f g:FE):FE:=λL M=>(f L M).bind λx M1=>match x with
 |.d (.bl true)=>.ok (.d (.bl true)) M1
 |.d (.bl false)=>g L M1
 |_=>.bad
theorem aHh{op}(ha:Ev X K Z a fa):Ev X K Z (.BoolOp op [a] pos) fa:=⟨ha.k,aNi ha.h⟩
theorem aOa(ha:Ev X K Z a fa)(hb:Ev X K Z (.BoolOp .And (b::rest) pos) fb):Ev X K Z (.BoolOp .And (a::b::rest) pos) (eAnd fa fb):=by
 refine⟨ha.k,cqE (aMz ha.h hb.h) ?_⟩
 rintro σ H Q ⟨μ,M,L,hr,lr,p⟩
 refine⟨μ,M,L,hr,lr,p.bind.imp λμ1 H1 M1 x e1 hr1 _ p1 v rx=>?_⟩
 cases x with
 |ref i=>exact p1.elim
 |d x=>cases x with
  |bl i =>
   simp only[Rw,Rp]at rx
   refine⟨i,rx,?_⟩
   cases i with
   |true=>exact⟨μ1,M1,L,hr1,lr.ext hr.lsts e1,p1⟩
   |false=>exact p1 μ1 H1 .refl hr1 _ (by simp[Rw,Rp])
  |_=>exact p1.elim
theorem aPo(ha:Ev X K Z a fa)(hb:Ev X K Z (.BoolOp .Or (b::rest) pos) fb):Ev X K Z (.BoolOp .Or (a::b::rest) pos) (eOr fa fb):=by
 refine⟨ha.k,cqE (aPl ha.h hb.h) ?_⟩
 rintro σ H Q ⟨μ,M,L,hr,lr,p⟩
 refine⟨μ,M,L,hr,lr,p.bind.imp λμ1 H1 M1 x e1 hr1 _ p1 v rx=>?_⟩
 cases x with
 |ref i=>exact p1.elim
 |d x=>cases x with
  |bl i =>
   simp only[Rw,Rp]at rx
   refine⟨i,rx,?_⟩
   cases i with
   |true=>exact p1 μ1 H1 .refl hr1 _ (by simp[Rw,Rp])
   |false=>exact⟨μ1,M1,L,hr1,lr.ext hr.lsts e1,p1⟩
  |_=>exact p1.elim
noncomputable def eIf(t:FT)(f g:FE):FE:=λL M=>(t L M).bind λc M1=>if c=true then f L M1 else g L M1
variable{c:Expr}
theorem aBm(hc:Et X K Z c t)(ha:Ev X K Z a fa)(hb:Ev X K Z b fb):Ev X K Z (.IfExp c a b pos) (eIf t fa fb):=by
 refine⟨ha.k,cqE (aGp hc.h ha.h hb.h) ?_⟩
 rintro σ H Q ⟨μ,M,L,hr,lr,p⟩
 refine⟨μ,M,L,hr,lr,p.bind.imp λμ1 H1 M1 x e1 hr1 _ p1=>?_⟩
 cases x with
 |true=>exact⟨μ1,M1,L,hr1,lr.ext hr.lsts e1,p1⟩
 |false=>exact⟨μ1,M1,L,hr1,lr.ext hr.lsts e1,p1⟩
noncomputable def pIx(x y:W)(M:Mm):Oc W:=match y with
 |.d (.int i)=>match x with
  |.d (.str z)=>match atI z.cps.toList i with
   |some c=>if z.length<=16777216 then .ok (.d (.str ⟨#[c]⟩)) M else .bad
   |none=>.bad
  |x=>match sv M x with
   |some xs=>match atI xs i with
    |some d=>.ok (.d d) M
    |none=>.bad
   |none=>.bad
 |_=>.bad
theorem aPj{ds:List D}{d:D}(r:Rps K μ H ds vs)(h:atI ds i=some d):∃v,atI vs i=some v/\Rp K μ H d v:=by
 unfold atI at h ⊢
 rw[r.length]at h
 cases q:ixN vs.length i with
 |none=>rw[q]at h;cases h
 |some j=>rw[q]at h;exact r.get h
theorem aAs{x:W}(hr:HR K μ H M)(rx:Rw K μ H x v)(p:Pst K Z μ H (match sv M x with
   |some xs=>match atI xs i with
    |some d=>Oc.ok (.d d) M
    |none=>.bad
   |none=>.bad) (Wk K Q)):rIx K v (.int i) H Q:=by
 cases q1:sv M x with
 |none=>rw[q1]at p;exact p.elim
 |some xs =>
  rw[q1]at p
  cases q2:atI xs i with
  |none=>simp only[q2]at p;exact p.elim
  |some d =>
   simp only[q2]at p
   obtain⟨a,vs,rfl,h1,r1⟩:=wD hr rx q1
   obtain⟨v,h2,r2⟩:=aPj r1 q2
   have q:=p μ H .refl hr v r2
   rcases h1 with h1|h1
   ·exact .inl ⟨a,vs,i,v,rfl,rfl,h1,h2,q⟩
   ·exact .inr (.inl ⟨a,vs,i,v,rfl,rfl,h1,h2,q⟩)
theorem aNx:Op2 K Z (rIx K) pIx:=by
 intro μ H M x y v u Q hr rx ry p
 cases y with
 |ref j=>exact p.elim
 |d y=>cases y with
  |int i =>
   have:u=.int i:=by simpa only[Rw,Rp]using ry
   subst this
   cases x with
   |ref j=>exact aAs hr rx p
   |d x=>cases x with
    |str z =>
     simp only[Rw,Rp]at rx
     simp only[pIx]at p
     cases q:atI z.cps.toList i with
     |none=>simp only[q]at p;exact p.elim
     |some c =>
      simp only[q]at p
      split at p
      ·exact .inr (.inr ⟨z,i,c,rx,rfl,by rw[aBA];assumption,q,p μ H .refl hr _ (by simp[Rw,Rp])⟩)
      ·exact p.elim
    |_=>exact aAs hr rx p
  |_=>exact p.elim
theorem aK(ha:Ev X K Z a fa)(hb:Ev X K Z b fb)(hs:PlainIx b:=by intro _ _;rfl):Ev X K Z (.Subscript a b pos) (e2 pIx fa fb):=by
 have h:=aPs (pos:=pos) (aMn (X:=X)) ha.h hb.h hs
 rw[ha.k]at h
 exact⟨ha.k,cqE h (lift2 aNx)⟩
noncomputable def aNil:FA:=λ_ M=>.ok [] M
noncomputable def aCons(f:FE)(g:FA):FA:=λL M=>(f L M).bind λw M1=>(g L M1).bind λws M2=>.ok (w::ws) M2
theorem aD(hk:X.K=K:=by rfl):Ea X K Z [] aNil:=⟨hk,cqA fE λσ H Q ⟨μ,M,L,hr,lr,p⟩=>p μ H .refl hr [] rfl⟩
theorem aA(ha:Ev X K Z e fa)(hr:Ea X K Z es fs)(hs:starEach (e::es) X.env=(false,eval e X.env)::starEach es X.env:=by rfl):Ea X K Z (e::es) (aCons fa fs):=by
 refine⟨ha.k,cqA (cM ha.h hr.h hs) ?_⟩
 rintro σ H Q ⟨μ,M,L,hr,lr,p⟩
 refine⟨μ,M,L,hr,lr,p.bind.imp λμ1 H1 M1 x e1 hr1 _ p1 v rx=>?_⟩
 refine⟨μ1,M1,L,hr1,lr.ext hr.lsts e1,p1.bind.imp λμ2 H2 M2 y e2 hr2 _ p2 us ry=>?_⟩
 exact p2 μ2 H2 .refl hr2 (v::us) ⟨v,us,rfl,rx.ext hr1.lsts e2,ry⟩
noncomputable def allD:List W->Option (List D)
 |[]=>some []
 |.d x::ws=>(allD ws).map (x::·)
 |.ref _::_=>none
theorem nJ:∀{ws:List W} {vs:List V} {ds:List D},Rws K μ H ws vs->allD ws=some ds->Rps K μ H ds vs
 |[],_,_,h,q=>by cases h;simp only[allD,aBB]at q;subst q;exact .nil
 |.d x::ws,_,_,⟨v,r,e1,e2,e3⟩,q=>by
  simp only[allD,aAM]at q
  obtain⟨ds,q1,rfl⟩:=q
  subst e1
  exact .cons e2 (nJ e3 q1)
 |.ref i::ws,_,_,_,q=>by simp[allD]at q
noncomputable def mkT(ws:List W)(M:Mm):Oc W:=match allD ws with
 |some ds=>if ds.length<=16777216 then okD (.tup ds) M else .bad
 |none=>.bad
noncomputable def mkL(ws:List W)(M:Mm):Oc W:=match allD ws with
 |some ds=>if ds.length<=16777216 then okD (.lst ds) M else .bad
 |none=>.bad
noncomputable def mkR(ws:List W)(M:Mm):Oc W:=match allD ws with
 |some ds=>if ds.length<=16777216 then .ok (.ref M.length) (M++[ds])else .bad
 |none=>.bad
noncomputable def eA(g:List W->Mm->Oc W)(fs:FA):FE:=λL M=>(fs L M).bind g
theorem aQ{x1}(h:Ea X K Z es fs):Ev X K Z (.Tuple es x1 pos) (eA mkT fs):=by
 refine⟨h.k,cqE (aMw h.h) ?_⟩
 rintro σ H Q ⟨μ,M,L,hr,lr,p⟩
 refine⟨μ,M,L,hr,lr,p.bind.imp λμ1 H1 M1 ws e1 hr1 _ p1 vs rx=>?_⟩
 unfold mkT at p1
 cases q:allD ws with
 |none=>rw[q]at p1;exact p1.elim
 |some ds =>
  rw[q]at p1
  simp only at p1
  split at p1
  ·have r:=nJ rx q
   exact⟨by rw[<- r.length,aBA];assumption,lC hr1 r p1⟩
  ·exact p1.elim
theorem jZ(h:Ea X K Z es fs):Ev X K Z (.List es pos) (eA mkL fs):=by
 refine⟨h.k,cqE (aAg h.h) ?_⟩
 rintro σ H Q ⟨μ,M,L,hr,lr,p⟩
 refine⟨μ,M,L,hr,lr,p.bind.imp λμ1 H1 M1 ws e1 hr1 _ p1 vs rx=>?_⟩
 unfold mkL at p1
 cases q:allD ws with
 |none=>rw[q]at p1;exact p1.elim
 |some ds =>
  rw[q]at p1
  simp only at p1
  split at p1
  ·have r:=nJ rx q
   exact⟨by rw[<- r.length,aBA];assumption,iD hr1 r p1⟩
  ·exact p1.elim
theorem pM(h:Ea X K Z es fs):Ev X K Z (.List es pos) (eA mkR fs):=by
 refine⟨h.k,cqE (aAg h.h) ?_⟩
 rintro σ H Q ⟨μ,M,L,hr,lr,p⟩
 refine⟨μ,M,L,hr,lr,p.bind.imp λμ1 H1 M1 ws e1 hr1 _ p1 vs rx=>?_⟩
 unfold mkR at p1
 cases q:allD ws with
 |none=>rw[q]at p1;exact p1.elim
 |some ds =>
  rw[q]at p1
  simp only at p1
  split at p1
  ·have r:=nJ rx q
   exact⟨by rw[<- r.length,aBA];assumption,vC hr1 r p1⟩
  ·exact p1.elim
noncomputable def eInts(ns:List Int):FE:=λ_ M=>.ok (.d (.lst (ns.map D.int))) M
theorem aKz(h:IntsE es ns)(hn:ns.length<=16777216:=by decide)(hk:X.K=K:=by rfl):Ev X K Z (.List es pos) (eInts ns):=by
 refine⟨hk,cqE (aAg (aJe h)) ?_⟩
 rintro σ H Q ⟨μ,M,L,hr,lr,p⟩
 exact⟨by rw[aAL,aBA];exact hn,iD hr Rps.ints p⟩
noncomputable def Cl(K:Frag)(Z:Zt)(r:List V->Hp->VK->Prop)(g:List W->Mm->Oc W):Prop :=
 ∀(μ:List Addr) (H:Hp) (M:Mm) (ws:List W) (vs:List V) (Q:VK),HR K μ H M->Rws K μ H ws vs->Pst K Z μ H (g ws M) (Wk K Q)->r vs H Q
noncomputable def ClG(X:Cx)(K:Frag)(Z:Zt)(f:Value)(g:List W->Mm->Oc W):Prop:=X.K=K->∃r,CallR X f r/\Cl K Z r g
theorem liftC{r:List V->Hp->VK->Prop}{g:List W->Mm->Oc W}(h:Cl K Z r g):∀σ H Q,lift K Z (eA g fs) σ H Q->tCB r (liftA K Z fs) σ H Q:=by
 rintro σ H Q ⟨μ,M,L,hr,lr,p⟩
 exact⟨μ,M,L,hr,lr,p.bind.imp λμ1 H1 M1 ws e1 hr1 _ p1 vs rx=>h μ1 H1 M1 ws vs Q hr1 rx p1⟩
variable{p:Pos}
theorem cY{id:String}{g:List W->Mm->Oc W}(hc:ClG X K Z (.builtin id) g)(hg:Gl X x)(hm:X.mg x=none)(hv:bootBuiltins x=some (.builtin id))(ha:Ea X K Z (e::es) fs)
  (hn:x≠"__name__":=by decide)(hdb:(x==("__debug__":Str))=false:=by decide)(he:starEach (e::es) X.env=(false,eval e X.env)::starEach es X.env:=by rfl)
  (hpl:(backTo pos (starEach es X.env)).any (·.1)=false:=by rfl):Ev X K Z (.Call (.Name x p) (e::es) [] pos) (eA g fs):=by
 obtain⟨r,h1,h2⟩:=hc ha.k
 exact⟨ha.k,cqE (aFw h1 hg hm hv ha.h hn hdb he hpl) (liftC h2)⟩
theorem cA{T:String}{g:List W->Mm->Oc W}(hc:ClG X K Z (.type T) g)(hg:Gl X x)(hm:X.mg x=none)(hv:bootBuiltins x=some (.type T))(ha:Ea X K Z (e::es) fs)
  (hn:x≠"__name__":=by decide)(hdb:(x==("__debug__":Str))=false:=by decide)(he:starEach (e::es) X.env=(false,eval e X.env)::starEach es X.env:=by rfl)
  (hpl:(backTo pos (starEach es X.env)).any (·.1)=false:=by rfl):Ev X K Z (.Call (.Name x p) (e::es) [] pos) (eA g fs):=by
 obtain⟨r,h1,h2⟩:=hc ha.k
 exact⟨ha.k,cqE (lG h1 hg hm hv ha.h hn hdb he hpl) (liftC h2)⟩
noncomputable def cLen(ws:List W)(M:Mm):Oc W:=match ws with
 |[.d (.str z)]=>if z.length<=16777216 then .ok (.d (.int z.length)) M else .bad
 |[w]=>match sv M w with
  |some xs=>.ok (.d (.int xs.length)) M
  |none=>.bad
 |_=>.bad
theorem xI{w:W}(hr:HR K μ H M)(rx:Rw K μ H w v)(p:Pst K Z μ H (match sv M w with
  |some xs=>Oc.ok (.d (.int xs.length)) M
  |none=>.bad) (Wk K Q)):∃p ys,[v]=[V.ref p]/\(SqL K H p ys\/SqT K H p ys)/\Q (.int ys.length) H:=by
 cases q1:sv M w with
 |none=>rw[q1]at p;exact p.elim
 |some xs =>
  rw[q1]at p
  obtain⟨a,vs,rfl,h1,r1⟩:=wD hr rx q1
  exact⟨a,vs,rfl,h1,p μ H .refl hr _ (by simp[Rw,Rp,r1.length])⟩
theorem callLen:ClG X K Z (.builtin "len") cLen:=λhk=>by
 refine⟨_,CallR.or (hk▸uT) vA,?_⟩
 intro μ H M ws vs Q hr rx p
 match ws,rx,p with
 |[],_,p=>exact p.elim
 |.ref i::[],⟨v,r,e1,e2,e3⟩,p=>cases e3;subst e1;exact .inl (xI hr e2 p)
 |.d x::[],⟨v,r,e1,e2,e3⟩,p =>
  cases e3;subst e1
  cases x with
  |str z =>
   simp only[cLen]at p
   simp only[Rw,Rp]at e2
   subst e2
   split at p
   ·exact .inr ⟨z,rfl,by rw[aBA];assumption,p μ H .refl hr _ (by simp[Rw,Rp])⟩
   ·exact p.elim
  |_=>exact .inl (xI hr e2 p)
 |.ref i::_::_,_,p=>exact p.elim
 |.d x::_::_,_,p=>cases x <;> exact p.elim
noncomputable def cInt(ws:List W)(M:Mm):Oc W:=match ws with
 |[.d (.int i)]=>.ok (.d (.int i)) M
 |[.d (.bl k)]=>.ok (.d (.int (if k=true then 1 else 0))) M
 |_=>.bad
theorem callInt:ClG X K Z (.type "int") cInt:=λhk=>by
 refine⟨_,aDd,?_⟩
 intro μ H M ws vs Q hr rx p
 match ws,rx,p with
 |[],_,p=>exact p.elim
 |.ref i::_,_,p=>exact p.elim
 |.d x::[],⟨v,r,e1,e2,e3⟩,p =>
  cases e3;subst e1
  cases x with
  |int i=>simp only[Rw,Rp]at e2;subst e2;exact .inl ⟨i,rfl,p μ H .refl hr _ (by simp[Rw,Rp])⟩
  |bl k=>simp only[Rw,Rp]at e2;subst e2;exact .inr ⟨k,rfl,p μ H .refl hr _ (by simp[Rw,Rp])⟩
  |_=>exact p.elim
 |.d x::_::_,_,p=>cases x <;> exact p.elim
noncomputable def cMax2(ws:List W)(M:Mm):Oc W:=match ws with
 |[.d (.int i),.d (.int j)]=>.ok (.d (.int (if j > i then j else i))) M
 |_=>.bad
noncomputable def cMin2(ws:List W)(M:Mm):Oc W:=match ws with
 |[.d (.int i),.d (.int j)]=>.ok (.d (.int (if j < i then j else i))) M
 |_=>.bad
theorem callMax2(hc:X.calm=true):ClG X K Z (.builtin "max") cMax2:=λhk=>by
 refine⟨_,aDe hc,?_⟩
 intro μ H M ws vs Q hr rx p
 unfold cMax2 at p
 split at p
 ·obtain⟨v,r,e1,e2,v',r',e1',e2',e3⟩:=rx
  simp only[Rw,Rp]at e2 e2'
  cases e3;subst e1' e1 e2 e2'
  exact⟨_,_,rfl,p μ H .refl hr _ (by simp[Rw,Rp])⟩
 ·exact p.elim
theorem callMin2(hc:X.calm=true):ClG X K Z (.builtin "min") cMin2:=λhk=>by
 refine⟨_,aDi hc,?_⟩
 intro μ H M ws vs Q hr rx p
 unfold cMin2 at p
 split at p
 ·obtain⟨v,r,e1,e2,v',r',e1',e2',e3⟩:=rx
  simp only[Rw,Rp]at e2 e2'
  cases e3;subst e1' e1 e2 e2'
  exact⟨_,_,rfl,p μ H .refl hr _ (by simp[Rw,Rp])⟩
 ·exact p.elim
noncomputable def cListR(ws:List W)(M:Mm):Oc W:=match ws with
 |[w]=>match sv M w with
  |some xs=>.ok (.ref M.length) (M++[xs])
  |none=>.bad
 |_=>.bad
noncomputable def cTup(ws:List W)(M:Mm):Oc W:=match ws with
 |[w]=>match sv M w with
  |some xs=>okD (.tup xs) M
  |none=>.bad
 |_=>.bad
theorem aAm{g:List D->Oc W}{ws:List W}{Q:List Addr->Hp->Mm->W->Prop}(hr:HR K μ H M)(rx:Rws K μ H ws vs)(p:Pst K Z μ H (match ws with
 |[w]=>match sv M w with
  |some xs=>g xs
  |none=>.bad
 |_=>.bad) Q):∃w a us xs,ws=[w]/\vs=[.ref a]/\sv M w=some xs/\Rw K μ H w (.ref a)/\(SqL K H a us\/SqT K H a us)/\Rps K μ H xs us/\Pst K Z μ H (g xs) Q:=by
 match ws,rx,p with
 |[],_,p=>exact p.elim
 |[w],⟨v,r,e1,e2,e3⟩,p =>
  cases e3;subst e1
  simp only at p
  cases q:sv M w with
  |none=>rw[q]at p;exact p.elim
  |some xs =>
   rw[q]at p
   obtain⟨a,us,rfl,h1,r1⟩:=wD hr e2 q
   exact⟨w,a,us,xs,rfl,rfl,q,e2,h1,r1,p⟩
 |_::_::_,_,p=>exact p.elim
theorem callListR:ClG X K Z (.type "list") cListR:=λhk=>by
 refine⟨_,hk▸wB,?_⟩
 intro μ H M ws vs Q hr rx p
 obtain⟨w,a,us,xs,rfl,rfl,q,e2,h1,r1,p⟩:=aAm hr rx p
 exact⟨a,us,rfl,h1,vC hr r1 p⟩
theorem callTup:ClG X K Z (.type "tuple") cTup:=λhk=>by
 refine⟨_,hk▸sP,?_⟩
 intro μ H M ws vs Q hr rx p
 obtain⟨w,a,us,xs,rfl,rfl,q,e2,h1,r1,p⟩:=aAm hr rx p
 by_cases hw:∃ys,w=.d (.tup ys)
 ·obtain⟨ys,rfl⟩:=hw
  simp only[sv,aBB]at q
  subst q
  have e2':=e2
  simp only[Rw,Rp]at e2
  obtain⟨a',vs',ea,h1',r1'⟩:=e2
  cases ea
  exact⟨a,vs',rfl,.inr ⟨SqT.of h1',p μ H .refl hr _ e2'⟩⟩
 ·have hl:lr M w=some xs:=by
   cases w with
   |ref i=>exact q
   |d x=>cases x <;> first|exact q|exact(hw ⟨_,rfl⟩).elim
  obtain⟨a',vs',ea,h1',r1'⟩:=xL hr e2 hl
  cases ea
  exact⟨a,vs',rfl,.inl ⟨h1',lC hr r1' p⟩⟩
variable{K:Frag}{rest:List Stmt}{F G:FS}
noncomputable def sNil:FS:=λL M=>.ok (.nx L) M
noncomputable def sSeq(F G:FS):FS:=λL M=>(F L M).bind λo M1=>match o with
 |.nx L1=>G L1 M1
 |.bk L1=>.ok (.bk L1) M1
 |.ct L1=>.ok (.ct L1) M1
 |.rt w=>.ok (.rt w) M1
theorem aR(hk:X.K=K:=by rfl):Ess X K Z [] sNil:=⟨hk,cqSs aKq λE σ H ⟨μ,M,L,hr,lr,p⟩=>p μ H .refl hr σ lr⟩
theorem aE(h1:Es X K Z st F)(h2:Ess X K Z rest G):Ess X K Z (st::rest) (sSeq F G):=by
 refine⟨h1.k,cqSs (aIf h1.h h2.h) ?_⟩
 rintro E σ H ⟨μ,M,L,hr,lr,p⟩
 refine⟨μ,M,L,hr,lr,p.bind.imp λμ1 H1 M1 o e1 hr1 _ p1=>?_⟩
 cases o with
 |nx L1=>exact λσ' lr'=>⟨μ1,M1,L1,hr1,lr',p1⟩
 |bk L1=>exact p1 μ1 H1 .refl hr1
 |ct L1=>exact p1 μ1 H1 .refl hr1
 |rt w=>exact p1 μ1 H1 .refl hr1
theorem aF(h1:Es X K Z st F):Ess X K Z [st] F:=⟨h1.k,aKj h1.h⟩
noncomputable def sEx(f:FE):FS:=λL M=>(f L M).bind λ_ M1=>.ok (.nx L) M1
theorem vD(h:Ev X K Z e f)(hs:swapsWith e none pos.line X.env=pure false:=by rfl):Es X K Z (.Expr e pos) (sEx f):=by
 refine⟨h.k,cqS (aKh h.h hs) ?_⟩
 rintro E σ H ⟨μ,M,L,hr,lr,p⟩
 exact⟨μ,M,L,hr,lr,p.bind.imp λμ1 H1 M1 x e1 hr1 _ p1 v rx=>p1 μ1 H1 .refl hr1 σ (lr.ext hr.lsts e1)⟩
noncomputable def sRt(f:FE):FS:=λL M=>(f L M).bind λw M1=>.ok (.rt w) M1
theorem aJ(h:Ev X K Z e f):Es X K Z (.Return (some e) pos) (sRt f):=by
 refine⟨h.k,cqS (aNp h.h) ?_⟩
 rintro E σ H ⟨μ,M,L,hr,lr,p⟩
 exact⟨μ,M,L,hr,lr,p.bind.imp λμ1 H1 M1 x e1 hr1 _ p1 v rx=>p1 μ1 H1 .refl hr1 v rx⟩
noncomputable def sIf(t:FT)(F G:FS):FS:=λL M=>(t L M).bind λb M1=>if b=true then F L M1 else G L M1
theorem bN{p q:List Stmt}(hc:Et X K Z c t)(ha:Ess X K Z p F)(hb:Ess X K Z q G):Es X K Z (.If c p q pos) (sIf t F G):=by
 refine⟨hc.k,cqS (aPw hc.h ha.h hb.h) ?_⟩
 rintro E σ H ⟨μ,M,L,hr,lr,p⟩
 refine⟨μ,M,L,hr,lr,p.bind.imp λμ1 H1 M1 x e1 hr1 _ p1=>?_⟩
 cases x with
 |true=>exact⟨μ1,M1,L,hr1,lr.ext hr.lsts e1,p1⟩
 |false=>exact⟨μ1,M1,L,hr1,lr.ext hr.lsts e1,p1⟩
noncomputable def gN(i:Nat):FG:=λw L M=>.ok (L.set i (some w)) M
theorem LR.set{L:Lc}{σ:St}{i:Nat}{w:W}{v:V}(h:LR K μ H L σ)(r:Rw K μ H w v):LR K μ H (L.set i (some w)) (σ.set i (some v))where
 len:=by simp[h.len]
 ent:=λj u q=>by
  by_cases hj:i=j
  ·subst hj
   have hl:i < L.length:=by
    by_cases hl:i < L.length
    ·exact hl
    ·rw[List.set_eq_of_length_le (by lia)]at q
     rw[aCW (by lia)]at q;cases q
   rw[aBI hl]at q
   cases q
   exact⟨v,by rw[aBI (by rw[<- h.len];exact hl)],r⟩
  ·rw[aBK hj]at q
   obtain⟨x,q1,q2⟩:=h.ent j u q
   exact⟨x,by rw[aBK hj];exact q1,q2⟩
theorem aN{i:Nat}(hN:X.N.Nodup)(hi:X.N[i]?=some x:=by rfl)(hx:Loc X.env.scope x:=by first|exact Or.inl rfl|exact Or.inr rfl)(hk:X.K=K:=by rfl)(hf:X.fn x=true\/X.env.scope.names.lookup x=some .local:=by first|exact .inl rfl|exact .inr rfl|assumption) :
  Eg X K Z (.Name x pos) (gN i):=⟨hk,cqG (aKd hN hi hx hf) λv σ H Q ⟨μ,M,L,w,hr,lr,rx,p⟩=>p μ H .refl hr _ (lr.set rx)⟩
noncomputable def gsNil:FGs:=λds L M=>match ds with
 |[]=>.ok L M
 |_=>.bad
noncomputable def gsCons(g:FG)(gs:FGs):FGs:=λds L M=>match ds with
 |d::r=>(g (.d d) L M).bind λL1 M1=>gs r L1 M1
 |[]=>.bad
theorem fN(hk:X.K=K:=by rfl):Egs X K Z [] gsNil:=⟨hk,cqGs aJi λvs σ H Q ⟨μ,M,L,ds,hr,lr,rx,p⟩=>by
 cases ds with
 |nil=>simp only[Rps]at rx;exact⟨rx,p μ H .refl hr σ lr⟩
 |cons d r=>exact p.elim⟩
variable{g:FG}{gs:FGs}
theorem aW(h1:Eg X K Z e g)(h2:Egs X K Z es gs)(hs:(assignEach (e::es) X.env).map (·.2)=assign e X.env::(assignEach es X.env).map (·.2):=by rfl):Egs X K Z (e::es) (gsCons g gs) :=
 ⟨h1.k,cqGs (aIi h1.h h2.h hs) λvs σ H Q ⟨μ,M,L,ds,hr,lr,rx,p⟩=>by
  cases ds with
  |nil=>exact p.elim
  |cons d r =>
   simp only[Rps]at rx
   obtain⟨v,vr,e1,rd,rr⟩:=rx
   refine⟨v,vr,e1,μ,M,L,.d d,hr,lr,rd,p.bind.imp λμ1 H1 M1 L1 e1 hr1 _ p1 σ1 lr1=>?_⟩
   exact⟨μ1,M1,L1,r,hr1,lr1,Rps.ext hr.lsts e1 _ _ rr,p1⟩⟩
noncomputable def gT(n:Nat)(gs:FGs):FG:=λw L M=>match w with
 |.d (.tup xs)=>if xs.length=n then gs xs L M else .bad
 |_=>.bad
variable{k:Nat}
theorem iT{n:Nat}(hc:X.calm=true)(h:Egs X K Z es gs)(hn:(assignEach es X.env).length=n:=by rfl)(hst:(assignEach es X.env).findIdx? (·.1)=none:=by rfl):Eg X K Z (.Tuple es k pos) (gT n gs):=by
 have h':=aNe (k:=k) (pos:=pos) hc h.h hn hst
 rw[h.k]at h'
 refine⟨h.k,cqG h' λv σ H Q ⟨μ,M,L,w,hr,lr,rx,p⟩=>?_⟩
 cases w with
 |ref i=>exact p.elim
 |d x=>cases x with
  |tup xs =>
   simp only[gT]at p
   split at p
   ·simp only[Rw,Rp]at rx
    obtain⟨a,vs,e1,q1,r1⟩:=rx
    exact⟨a,vs,e1,SqT.of q1,by rw[<- r1.length];assumption,μ,M,L,xs,hr,lr,r1,p⟩
   ·exact p.elim
  |_=>exact p.elim
noncomputable def gS(fo fi:FE):FG:=λw L M=>(fo L M).bind λo M1=>(fi L M1).bind λi M2=>match o,i,w with
 |.ref k,.d (.int j),.d x=>match M2[k]? with
  |some xs=>match ixN xs.length j with
   |some t=>.ok L (M2.set k (xs.set t x))
   |none=>.bad
  |none=>.bad
 |_,_,_=>.bad
theorem zI{i:Expr}{fi:FE}(ho:Ev X K Z o fo)(hi:Ev X K Z i fi)(ha:∀v,assign (.Subscript o i pos) X.env v=(do
   let ov <- holding [v] (eval o X.env)
   let iv <- holding [v,ov] (eval i X.env)
   standAt pos
   holding [v,ov,iv] (setItem ov iv v)
   release [v,ov,iv] []):=by intro _;rfl):Eg X K Z (.Subscript o i pos) (gS fo fi):=by
 refine⟨ho.k,cqG (aMu ho.h hi.h xT ha) λv σ H Q ⟨μ,M,L,w,hr,lr,rx,p⟩=>?_⟩
 refine⟨μ,M,L,hr,lr,p.bind.imp λμ1 H1 M1 x e1 hr1 _ p1 vo ro=>?_⟩
 refine⟨μ1,M1,L,hr1,lr.ext hr.lsts e1,p1.bind.imp λμ2 H2 M2 y e2 hr2 _ p2 vi ri=>?_⟩
 cases x with
 |d x=>exact p2.elim
 |ref k=>cases y with
  |ref j=>exact p2.elim
  |d y=>cases y with
   |int j=>cases w with
    |ref q=>exact p2.elim
    |d z =>
     simp only at p2
     cases q1:M2[k]? with
     |none=>simp only[q1]at p2;exact p2.elim
     |some xs =>
      simp only[q1]at p2
      cases q2:ixN xs.length j with
      |none=>simp only[q2]at p2;exact p2.elim
      |some t =>
       simp only[q2]at p2
       have ro:=ro.ext hr1.lsts e2
       obtain⟨a,qa,rfl⟩:=ro
       obtain⟨a',vs,qa',h1,r1⟩:=hr2.at q1
       rw[qa]at qa';cases qa'
       simp only[Rw,Rp]at ri
       subst ri
       have rz:=Rw.ext hr1.lsts e2 (Rw.ext hr.lsts e1 rx)
       refine⟨a,vs,j,t,rfl,rfl,h1,by rw[<- r1.length];exact q2,?_⟩
       exact p2 μ2 _ (eY qa) (hr2.set qa (Rps.set rz t r1)) σ ((lr.ext hr.lsts (e1.trans e2)).ext hr2.lsts (eY qa))
   |_=>exact p2.elim
noncomputable def sAs(f:FE)(g:FG):FS:=λL M=>(f L M).bind λw M1=>(g w L M1).bind λL1 M2=>.ok (.nx L1) M2
theorem qH{tg:Expr}(he:Ev X K Z e f)(hg:Eg X K Z tg g)(hs:swapsWithSole [tg] e pos.line X.env=pure false:=by rfl)(hw:swappedStores [tg] e X.env=pure none:=by rfl)
  (h1:(assignEach [tg] X.env).map (·.2)=[assign tg X.env]:=by rfl):Es X K Z (.Assign [tg] e pos) (sAs f g):=by
 refine⟨he.k,cqS (aMf he.h hg.h hs hw h1) ?_⟩
 rintro E σ H ⟨μ,M,L,hr,lr,p⟩
 refine⟨μ,M,L,hr,lr,p.bind.imp λμ1 H1 M1 x e1 hr1 _ p1 v rx=>?_⟩
 exact⟨μ1,M1,L,x,hr1,lr.ext hr.lsts e1,rx,p1.bind.imp λμ2 H2 M2 L2 e2 hr2 _ p2 σ2 lr2=>p2 μ2 H2 .refl hr2 σ2 lr2⟩
variable{i:Nat}
theorem aL(hN:X.N.Nodup)(he:Ev X K Z e f)(hi:X.N[i]?=some x:=by rfl)(hx:Loc X.env.scope x:=by first|exact Or.inl rfl|exact Or.inr rfl)(hs:swapsWith e (some (.Name x pos')) pos.line X.env=pure false:=by rfl)
  (hf:X.fn x=true\/X.env.scope.names.lookup x=some .local:=by first|exact .inl rfl|exact .inr rfl|assumption):Es X K Z (.Assign [.Name x pos'] e pos) (sAs f (gN i)):=by
 refine⟨he.k,cqS (aNb hN hi hx he.h hs hf) ?_⟩
 rintro E σ H ⟨μ,M,L,hr,lr,p⟩
 refine⟨μ,M,L,hr,lr,p.bind.imp λμ1 H1 M1 x e1 hr1 _ p1 v rx=>?_⟩
 exact p1 μ1 H1 .refl hr1 _ (LR.set (lr.ext hr.lsts e1) rx)
noncomputable def sPar(i j:Nat)(fs:FA):FS:=λL M=>(fs L M).bind λws M1=>match ws with
 |[v,w]=>.ok (.nx ((L.set i (some v)).set j (some w))) M1
 |_=>.bad
variable{K:Frag}
theorem sH{y:Str}{px py pt:Pos}{kt k2 pt2}(hc:X.calm=true)(hN:X.N.Nodup)(ha:Ea X K Z [a,b] fs)(hi:X.N[i]?=some x:=by rfl)(hj:X.N[j]?=some y:=by rfl)(hij:i≠j:=by decide)
  (hx:X.env.scope.names.lookup x=some .local:=by rfl)(hy:X.env.scope.names.lookup y=some .local:=by rfl)
  (hw:swappedStores [.Tuple [.Name x px,.Name y py] kt pt] (.Tuple [a,b] k2 pt2) X.env=pure (some [x,y]):=by rfl)
  (hs:swapsWithSole [.Tuple [.Name x px,.Name y py] kt pt] (.Tuple [a,b] k2 pt2) pos.line X.env=pure false:=by rfl) :
  Es X K Z (.Assign [.Tuple [.Name x px,.Name y py] kt pt] (.Tuple [a,b] k2 pt2) pos) (sPar i j fs):=by
 refine⟨ha.k,cqS (aOn hc hN hi hj hij hx hy ha.h hw hs) ?_⟩
 rintro E σ H ⟨μ,M,L,hr,lr,p⟩
 refine⟨μ,M,L,hr,lr,p.bind.imp λμ1 H1 M1 ws e1 hr1 _ p1 vs rx=>?_⟩
 match ws,rx,p1 with
 |[],_,p1=>exact p1.elim
 |[_],_,p1=>exact p1.elim
 |[v,w],⟨v1,r,q1,q2,v2,r',q1',q2',q3⟩,p1 =>
  cases q3;subst q1' q1
  exact⟨v1,v2,rfl,p1 μ1 H1 .refl hr1 _ (LR.set (LR.set (lr.ext hr.lsts e1) q2) q2')⟩
 |_::_::_::_,_,p1=>exact p1.elim
noncomputable def pAppend(x y:W)(M:Mm):Oc W:=match x,y with
 |.ref k,.d d=>match M[k]? with
  |some xs=>if xs.length < 16777216 then .ok (.d .non) (M.set k (xs++[d]))else .bad
  |none=>.bad
 |_,_=>.bad
theorem aMs(hr:HR K μ H M)(r:Rw K μ H (.ref k) v):tyV K "list" v H:=by
 obtain⟨a,q,rfl⟩:=r
 obtain⟨vs,h⟩:=hr.lsts a (aBJ q)
 exact .inl ⟨rfl,vs,SqL.of h⟩
noncomputable def eM1(g:W->W->Mm->Oc W)(fo fe:FE):FE:=λL M=>(fo L M).bind λx M1=>match x with
 |.ref k=>(fe L M1).bind λy M2=>g (.ref k) y M2
 |_=>.bad
theorem nV{cpos:Pos}(ho:Ev X K Z o fo)(he:Ev X K Z e fa)(hbase:attributeBase o "append" X.env (eval o X.env)=eval o X.env:=by rfl)
  (hfew:((backTo cpos (starEach [e] X.env)).all (λx=>!x.1)&&(backToKw cpos (keywordEach [] X.env)).all (λx=>x.1.isSome)&&decide ([e].length+([]:List Keyword).length+(if([]:List Keyword).isEmpty then 0 else 1) < 30))=true:=by rfl)
  (hline:(apos.endLine==cpos.line)=true:=by rfl)(hs:starEach [e] X.env=(false,eval e X.env)::starEach [] X.env:=by rfl)(hplain:(backTo cpos (starEach [] X.env)).any (·.1)=false:=by rfl) :
  Ev X K Z (.Call (.Attribute o "append" apos) [e] [] cpos) (eM1 pAppend fo fa):=by
 have h:=aPy PySem.F.plainAttrs_list PySem.F.slot_list_append PySem.F.type_list_append uJ ho.h (cM he.h fE hs) hbase hfew hline hs hplain
 rw[ho.k]at h
 refine⟨ho.k,cqE h ?_⟩
 rintro σ H Q ⟨μ,M,L,hr,lr,p⟩
 refine⟨μ,M,L,hr,lr,p.bind.imp λμ1 H1 M1 x e1 hr1 _ p1 v rx=>?_⟩
 cases x with
 |d x=>exact p1.elim
 |ref k =>
  refine⟨aMs hr1 rx,μ1,M1,L,hr1,lr.ext hr.lsts e1,p1.bind.imp λμ2 H2 M2 y e2 hr2 _ p2 u ry=>?_⟩
  cases y with
  |ref j=>exact p2.elim
  |d d =>
   simp only[pAppend]at p2
   cases q1:M2[k]? with
   |none=>simp only[q1]at p2;exact p2.elim
   |some xs =>
    simp only[q1]at p2
    split at p2
    ·rename_i hz
     obtain⟨a,qa,rfl⟩:=rx.ext hr1.lsts e2
     obtain⟨a',vs,qa',h1,r1⟩:=hr2.at q1
     rw[qa]at qa';cases qa'
     refine⟨a,vs,u,rfl,rfl,h1,by rw[<- r1.length,aBA];exact hz,?_⟩
     exact p2 μ2 _ (eY qa) (hr2.set qa (r1.append (.cons ry .nil))) _ (by simp[Rw,Rp])
    ·exact p2.elim
noncomputable abbrev FO:=Lc->Mm->Oc (Option Int)
noncomputable def liftO(K:Frag)(Z:Zt)(f:FO):TO:=λσ H Q=>∃μ M L,HR K μ H M/\LR K μ H L σ/\Pst K Z μ H (f L M) λμ' H' _ w=>Q w H'
structure Eo(X:Cx)(K:Frag)(Z:Zt)(e:Option Expr)(f:FO):Prop where
 k:X.K=K
 h:PO X e (liftO K Z f)
noncomputable def oNo:FO:=λ_ M=>.ok none M
noncomputable def oAt(f:FE):FO:=λL M=>(f L M).bind λw M1=>match w with
 |.d (.int i)=>.ok (some i) M1
 |_=>.bad
theorem cqO{oe:Option Expr}{t t':TO}(h:PO X oe t)(i:∀σ H Q,t' σ H Q->t σ H Q):PO X oe t':=λpins s σ H Q I q=>h pins s σ H Q I (i _ _ _ q)
theorem oV(hk:X.K=K:=by rfl):Eo X K Z none oNo:=⟨hk,cqO aKw λσ H Q ⟨μ,M,L,hr,lr,p⟩=>p μ H .refl hr⟩
theorem oS(h:Ev X K Z e f):Eo X K Z (some e) (oAt f):=by
 refine⟨h.k,cqO (aKu h.h) ?_⟩
 rintro σ H Q ⟨μ,M,L,hr,lr,p⟩
 refine⟨μ,M,L,hr,lr,p.bind.imp λμ1 H1 M1 x e1 hr1 _ p1 v rx=>?_⟩
 cases x with
 |ref i=>exact p1.elim
 |d x=>cases x with
  |int i=>simp only[Rw,Rp]at rx;exact⟨i,rx,p1 μ1 H1 .refl hr1⟩
  |_=>exact p1.elim
noncomputable def cut(xs:List α)(lo hi:Option Int):List α:=(xs.drop (HT.sIx xs.length 0 lo)).take (HT.sIx xs.length xs.length hi - HT.sIx xs.length 0 lo)
noncomputable def pSl(x:W)(lo hi:Option Int)(M:Mm):Oc W:=match x with
 |.d (.tup xs)=>okD (.tup (cut xs lo hi)) M
 |x=>match lr M x with
  |some xs=>okD (.lst (cut xs lo hi)) M
  |none=>.bad
noncomputable def eSl(f:FE)(fl fh:FO):FE:=λL M=>(f L M).bind λx M1=>(fl L M1).bind λlo M2=>(fh L M2).bind λhi M3=>pSl x lo hi M3
theorem aBt{ds:List D}{lo:Option Int}(r:Rps K μ H ds vs):Rps K μ H (cut ds lo hi) (cutV vs lo hi):=by
 unfold cut cutV
 rw[r.length]
 exact(r.drop _).take _
theorem oO:fillsNumberSlot (.type "tuple") "mul"=pure false :=
 PySem.fillsNumberSlot_seq (id:="tuple.__mul__") (r:=some (.builtin "tuple.__rmul__")) aES.lookup (by decide +kernel) F.slot_tuple_rmul.lookup (by decide +kernel)
theorem uY:seqRepeat? (.type "tuple")=pure (some (.builtin "tuple.__mul__")):=by
 unfold seqRepeat?
 rw[PySem.seqSlot_of (T:="tuple") (name:="__mul__") (id:="tuple.__mul__") aES.lookup (by decide +kernel),PySem.seqSlot_of (T:="tuple") (name:="__rmul__") (id:="tuple.__rmul__") F.slot_tuple_rmul.lookup (by decide +kernel)]
 rfl
theorem rA(a:Int)(t:Tok)(l:Addr)(items:Array Value)(n:Nat)(dd:Option Addr)(sl:Array (Option Value)) :
  Meets (Builtin.«int.__rmul__» ⟨[.int a t,.ref l],[]⟩) (λ_ R s=>s.heap.get? l=some {cls:=.type "tuple",dict:=dd,data:=.seq items n,slots:=sl}/\R (.ok (.ret Value.notImplemented)) s) :=
 .of_wp λprog w A R s h=>by obtain⟨hp,g,d,tk,os⟩:=s;obtain⟨hl,h⟩:=h;wp_walk using aBR hl;exact⟨_,rfl,h⟩
theorem zD(l:Addr)(items:Array Value)(n:Nat)(dd:Option Addr)(sl:Array (Option Value))(x:Int)(u:Tok)(h1:(decide (x < -(2 ^ 63)) || decide (x>=2 ^ 63))=false)(h2:(items.isEmpty || x==1)=true) :
  Meets (Builtin.«tuple.__mul__» ⟨[.ref l,.int x u],[]⟩) (λ_ R s=>s.heap.get? l=some {cls:=.type "tuple",dict:=dd,data:=.seq items n,slots:=sl}/\R (.ok (.ret (Value.ref l))) s) :=
 .of_wp λprog w A R s h=>by
  obtain⟨hp,g,d,tk,os⟩:=s;obtain⟨hl,h⟩:=h
  have f1:=AutoSeq1.idx_int
  wp_walk using aBR hl
  refine aFT (by rw[h1];rfl) ?_
  wp_walk using aBR hl
  exact⟨_,rfl,h⟩
theorem yV(l:Addr)(items:Array Value)(n:Nat)(dd:Option Addr)(sl:Array (Option Value))(x:Int)(u:Tok)(h1:(decide (x < -(2 ^ 63)) || decide (x>=2 ^ 63))=false)(h2:(items.isEmpty || x==1)=false)(h3:(decide (x<=0) || items.isEmpty)=true) :
  Meets (Builtin.«tuple.__mul__» ⟨[.ref l,.int x u],[]⟩) (λ_ R s=>s.heap.get? l=some {cls:=.type "tuple",dict:=dd,data:=.seq items n,slots:=sl}/\R (.ok (.ret (Value.ref s.heap.objs.size))) {s with heap:=s.heap.push {cls:=Value.type "tuple",data:=Data.seq #[]},toks:=s.toks}) :=
 .of_wp λprog w A R s h=>by
  obtain⟨hp,g,d,tk,os⟩:=s;obtain⟨hl,h⟩:=h
  have f1:=AutoSeq1.idx_int
  wp_walk using aBR hl
  refine aFT (by rw[h1];rfl) ?_
  wp_walk using aBR hl
  exact⟨_,rfl,h⟩
theorem yX(l:Addr)(items:Array Value)(n:Nat)(dd:Option Addr)(sl:Array (Option Value))(x:Int)(u:Tok)(h1:(decide (x < -(2 ^ 63)) || decide (x>=2 ^ 63))=false)(h2:(items.isEmpty || x==1)=false)(h3:(decide (x<=0) || items.isEmpty)=false)
  (h4:¬((items.size:Int)*x > (2 ^ 63 - 1) / 8))(h5:¬Builtin.Tuple.tupleTooMany (items.size*x)=true)(hsz:(List.foldl (λx1 x2=>x1++x2) #[] (List.replicate x.toNat items)).size<=sizeLine) :
  Meets (Builtin.«tuple.__mul__» ⟨[.ref l,.int x u],[]⟩) (λ_ R s=>s.heap.get? l=some {cls:=.type "tuple",dict:=dd,data:=.seq items n,slots:=sl}/\R (.ok (.ret (Value.ref s.heap.objs.size))) {s with heap:=s.heap.push {cls:=Value.type "tuple",data:=Data.seq (List.foldl (λx1 x2=>x1++x2) #[] (List.replicate x.toNat items))},toks:=s.toks}) :=
 .of_wp λprog w A R s h=>by
  obtain⟨hp,g,d,tk,os⟩:=s;obtain⟨hl,h⟩:=h
  have f1:=AutoSeq1.idx_int
  wp_walk using aBR hl
  refine aFT (by rw[h1];rfl) ?_
  wp_walk using aBR hl
  refine aFT (aCB h4) ?_
  wp_walk using aBR hl
  exact⟨_,rfl,h⟩
variable{K:Frag}
noncomputable def rRepT(K:Frag):R2:=λx y H Q=>∃a k xs,x=.ref a/\y=.int k/\SqT K H a xs /\ -(2 ^ 63)<=k/\k < 2 ^ 63/\xs.length*k.toNat<=sizeLine /\
 ((xs=[]\/k=1)->Q (.ref a) H)/\∀p,H p=none->Q (.ref p) (upd H p (.tup (List.replicate k.toNat xs).flatten))
theorem pZ(its:List Value)(m:Nat):List.foldl (λx1 x2=>x1++x2) #[] (List.replicate m its.toArray)=(List.replicate m its).flatten.toArray:=by
 have:=oQ its m []
 rw[List.nil_append]at this
 exact this
theorem aLd:OpR X (binaryOp .Mult) (rRepT X.K):=by
 intro pins s σ H x y v u Q I rx ry h
 obtain⟨l,k,xs,rfl,rfl,hH,h1,h2,hz,qs,q⟩:=h
 cases rx
 obtain⟨t,rfl⟩:=ry
 obtain⟨its,r,pl,hsz⟩:=I.tuple hH
 obtain⟨⟨cls,dd,data,sl⟩,ho,hc,n,hd⟩:=id pl
 simp only at hc hd
 subst hc hd
 have hl:=r.length
 have b1:(decide (k < -(2 ^ 63)) || decide (k>=2 ^ 63))=false:=by
  rw[aFY];exact⟨aCB (by lia),aCB (by lia)⟩
 refine wpAny_binaryOp_repeat_ref (T:="tuple") (U:="int") (by decide) ⟨_,ho,rfl⟩ (λs'=>aGW s' k t) oO F.fills_int_mul aFX uY F.slot_int_index.lookup
  (aED aFX (aGW s k t) F.entry_int_rmul (F.args_int_rmul_2 _ _) (rA k t l its.toArray n dd sl) ⟨ho,rfl,⟨_,ho,rfl⟩,?_⟩)
 by_cases hs:xs=[]\/k=1
 ·refine aED aES ⟨_,ho,rfl⟩ aGS (aGP _ _) (zD l its.toArray n dd sl k t b1 ?_) ⟨ho,⟨.ref l,H,I,rfl,qs hs⟩⟩
  rcases hs with hs|hs
  ·subst hs
   have:its=[]:=by simpa using hl.symm
   simp[this]
  ·simp[hs]
 ·have hne:its≠[]:=λz=>hs (.inl (by subst z;simpa using hl))
  have hn1:(its.toArray.isEmpty || k==1)=false:=by
   rw[aFY];exact⟨by simpa using hne,by simp;exact λz=>hs (.inr z)⟩
  by_cases h0:k<=0
  ·refine aED aES ⟨_,ho,rfl⟩ aGS (aGP _ _) (yV l its.toArray n dd sl k t b1 hn1 (by simp[h0])) ⟨ho,?_⟩
   have e:(List.replicate k.toNat xs).flatten=[]:=by rw[show k.toNat=0 by lia];rfl
   have q:=q s.heap.objs.size I.fresh
   rw[e]at q
   refine⟨.ref s.heap.objs.size,_,I.laid (t':=s.toks) (o:=.tup []) (λb ob q=>aAA _ q) (aAH _) ?_,rfl,q⟩
   exact⟨aDW _,[],.nil,IsTup.new _ _⟩
  ·have hk:((k.toNat:Nat):Int)=k:=by lia
   have hz':its.length*k.toNat<=sizeLine:=by rw[<- hl];exact hz
   have hcast:((its.toArray.size:Nat):Int)*k=((its.length*k.toNat:Nat):Int):=by
    rw[aAI,Int.natCast_mul,hk]
   have hs24:(sizeLine:Nat)=16777216:=aBA
   refine aED aES ⟨_,ho,rfl⟩ aGS (aGP _ _) (yX l its.toArray n dd sl k t b1 hn1 ?_ ?_ ?_ ?_) ⟨ho,?_⟩
   ·rw[aFY];exact⟨aCB h0,by simpa using hne⟩
   ·rw[hcast];lia
   ·unfold Builtin.Tuple.tupleTooMany
    rw[hcast]
    intro z
    have z:=aFF z
    lia
   ·rw[pZ,aAI,wA,aDY];exact hz'
   ·rw[pZ]
    refine⟨.ref s.heap.objs.size,_,I.laid (t':=s.toks) (o:=.tup (List.replicate k.toNat xs).flatten) (λb ob q=>aAA _ q) (aAH _) ?_,rfl,q _ I.fresh⟩
    exact⟨by rw[wA,aDY];exact hz,_,r.rep k.toNat,IsTup.new _ _⟩
noncomputable def pMulA(x y:W)(M:Mm):Oc W:=match x,y with
 |.d (.tup xs),.d (.int k)=>if xs.length*k.toNat<=16777216/\k < 9223372036854775808 /\ -9223372036854775808<=k then okD (.tup (List.replicate k.toNat xs).flatten) M else .bad
 |x,y=>pMul x y M
theorem opMulA:OpG X K Z (binaryOp .Mult) pMulA:=λhk=>by
 obtain⟨r,h1,h2⟩:=(opMul (X:=X) (K:=K) (Z:=Z)) hk
 refine⟨_,OpR.or (hk▸aLd) h1,?_⟩
 intro μ H M x y v u Q hr rx ry p
 have gen:=λp=>(Or.inr (h2 μ H M x y v u Q hr rx ry p):rRepT K v u H Q\/r v u H Q)
 cases x with
 |ref i=>exact gen (by cases y with|ref j=>exact p|d y=>cases y <;> exact p)
 |d x=>cases x with
  |tup xs=>cases y with
   |ref j=>exact gen p
   |d y=>cases y with
    |int k =>
     simp only[pMulA]at p
     split at p
     ·rename_i hz
      have rx':=rx
      simp only[Rw,Rp]at rx ry
      obtain⟨a,vs,rfl,q1,r1⟩:=rx
      refine .inl ⟨a,k,vs,rfl,ry,SqT.of q1,hz.2.2,hz.2.1,by rw[<- r1.length,aBA];exact hz.1,λe=>?_,lC hr (r1.rep k.toNat) p⟩
      refine p μ H .refl hr _ ?_
      have:(List.replicate k.toNat xs).flatten=xs:=by
       rcases e with e|e
       ·subst e
        have:xs=[]:=by have:=r1.length;simpa using this
        subst this;simp
       ·subst e;simp[List.replicate]
      rw[this];exact rx'
     ·exact p.elim
    |_=>exact gen p
  |_=>exact gen (by cases y with|ref j=>exact p|d y=>cases y <;> exact p)
end EV
end
variable{M:EV.Mm}{f fa fb fc fo:EV.FE}{L:EV.Lc}{Z:EV.Zt}{F:EV.FS}{QS:EV.Out->EV.Mm->Prop}{QG:EV.Lc->EV.Mm->Prop}{QO:Option Int->EV.Mm->Prop}
section
open PySem PySem.Spec PyProof.Rows
namespace HT
variable{E:Value->Shared->Prop}
theorem getItem_tuple_whole{t sl:Addr}{vl vu:Value}{lo:Option Int}(ht:IsTup s.heap t items)(hs:s.heap.IsSliceOf sl vl vu .none)(pl:IsPart vl lo)(pu:IsPart vu hi)
  (hw:sIx items.size 0 lo=0/\sIx items.size items.size hi=items.size)(h:Q (.ref t) s):wpAny (model prog w) A (getItem (.ref t) (.ref sl)) Q E s:=by
 obtain⟨os,hos,hcs,hds⟩:=id hs
 have hTs:s.TypeIs (.ref sl) "slice":=⟨os,hos,hcs⟩
 unfold getItem
 try with_reducible refine aBN ?_
 first|refine aAB (aAF ?_)|skip
 refine aAB (wpAny_sequenceKey ht.typeIs (by decide) ?_)
 refine aAB (aBU (name:=Str.ofString "__getitem__") ht.typeIs aCI
  (aBW aCI ht.typeIs entry_tuple_getitem ?_ (args_tuple_getitem _ _)))
 show wpAny _ _ (Builtin.Tuple.tupleItemsOf (.ref t) >>= _) _ _ s
 refine aAB (tupleItemsOf_ ht ?_)
 refine aAB (aGG hTs ?_)
 rw[aAG (by decide)]
 refine aAB (iY hs pl pu ?_)
 have hyes:((((sIx items.size 0 lo:Nat):Int)==0&&(1:Int)==1&&(sIx items.size items.size hi - sIx items.size 0 lo)==items.size)=true):=by
  rw[hw.1,hw.2];simp
 show wpAny _ _ (if(((sIx items.size 0 lo:Nat):Int)==0&&(1:Int)==1&&(sIx items.size items.size hi - sIx items.size 0 lo)==items.size)=true then _ else _) _ _ s
 rw[aAG hyes]
 refine aAB (m:=Builtin.Tuple.tupleIsExact _) ?_
 unfold Builtin.Tuple.tupleIsExact
 refine aAB (aGG ht.typeIs (aAF ?_))
 show wpAny _ _ (if((Value.type "tuple"==Value.type "tuple")=true)then _ else _) _ _ s
 rw[aAG (by decide)]
 first
  |exact aAB (aDE (aAF ⟨_,rfl,aAF h⟩))
  |exact aAB (aDE (aAB (aAF ⟨_,rfl,aAF h⟩)))
  |exact aAB (aDE (aAB (aAF (aAF ⟨_,rfl,aAF h⟩))))
end HT
namespace EV
open L2
variable{K:Frag}{e a b o:Expr}{es:List Expr}{fs:FA}{rest:List Stmt}{G:FS}
noncomputable def rSlA(K:Frag):V->Option Int->Option Int->Hp->VK->Prop:=λx lo hi H Q=>∃a xs,x=.ref a/\SqT K H a xs /\
 ((HT.sIx xs.length 0 lo=0/\HT.sIx xs.length xs.length hi=xs.length)->Q (.ref a) H)/\∀p,H p=none->Q (.ref p) (upd H p (.tup (cutV xs lo hi)))
theorem aJv:SlR X (rSlA X.K):=by
 intro pins s σ H x v vl vu lo hi sl Q I rx hs pl pu h
 obtain⟨a,xs,rfl,hx,q1,q2⟩:=h
 by_cases hw:HT.sIx xs.length 0 lo=0/\HT.sIx xs.length xs.length hi=xs.length
 ·cases rx
  obtain⟨its,r,ht,hz⟩:=I.tuple hx
  have hlen:its.toArray.size=xs.length:=by rw[aAI];exact r.length.symm
  refine⟨"tuple",_,aCI.lookup,ht.typeIs,?_⟩
  exact HT.getItem_tuple_whole ht hs pl pu (by rw[hlen];exact hw) ⟨.ref a,H,I,rfl,q1 hw⟩
 ·exact aMm pins s σ H _ v vl vu lo hi sl Q I rx hs pl pu ⟨a,xs,rfl,hx,hw,q2⟩
theorem aDn{xs:List D}{lo:Option Int}(h:HT.sIx xs.length 0 lo=0/\HT.sIx xs.length xs.length hi=xs.length):cut xs lo hi=xs:=by
 unfold cut;rw[h.1,h.2];simp
theorem wZ{x:W}{lo:Option Int}{Q:VK}(hr:HR K μ H M)(rx:Rw K μ H x v)(p:Pst K Z μ H (match lr M x with
  |some xs=>okD (.lst (cut xs lo hi)) M
  |none=>.bad) (Wk K Q)):rSlL K v lo hi H Q:=by
 cases q1:lr M x with
 |none=>rw[q1]at p;exact p.elim
 |some xs =>
  rw[q1]at p
  obtain⟨a,vs,rfl,h1,r1⟩:=xL hr rx q1
  exact⟨a,vs,rfl,h1,iD hr (aBt r1) p⟩
theorem gK{lo hi:Option Expr}{fl fh:FO}(he:Ev X K Z e f)(hl:Eo X K Z lo fl)(hh:Eo X K Z hi fh):Ev X K Z (.Subscript e (.Slice lo hi none p2) pos) (eSl f fl fh):=by
 have h:=aFo (p2:=p2) (pos:=pos) (SlR.or (aJv (X:=X)) aIv) he.h hl.h hh.h
 rw[he.k]at h
 refine⟨he.k,cqE h ?_⟩
 rintro σ H Q ⟨μ,M,L,hr,lr,p⟩
 refine⟨μ,M,L,hr,lr,p.bind.imp λμ1 H1 M1 x e1 hr1 _ p1 v rx=>?_⟩
 refine⟨μ1,M1,L,hr1,lr.ext hr.lsts e1,p1.bind.imp λμ2 H2 M2 l e2 hr2 _ p2=>?_⟩
 refine⟨μ2,M2,L,hr2,lr.ext hr.lsts (e1.trans e2),p2.bind.imp λμ3 H3 M3 u e3 hr3 _ p3=>?_⟩
 have rx:=rx.ext hr1.lsts (e2.trans e3)
 cases x with
 |ref i=>exact .inr (wZ hr3 rx p3)
 |d x=>cases x with
  |tup xs =>
   have rx':=rx
   simp only[Rw,Rp]at rx
   obtain⟨a,vs,rfl,q1,r1⟩:=rx
   refine .inl ⟨a,vs,rfl,SqT.of q1,λhw=>?_,lC hr3 (aBt r1) p3⟩
   refine p3 μ3 H3 .refl hr3 _ ?_
   rw[aDn (by rw[r1.length];exact hw)]
   exact rx'
  |_=>exact .inr (wZ hr3 rx p3)
structure KitT(T:String):Prop where
 non:∀K,PySem.W.kitOne K (.type "NoneType") (.type T)=some false
 bl:∀K,PySem.W.kitOne K (.type "bool") (.type T)=some (T=="bool" || T=="int")
 int:∀K,PySem.W.kitOne K (.type "int") (.type T)=some (T=="int")
 str:∀K,PySem.W.kitOne K (.type "str") (.type T)=some (T=="str")
 tup:∀K,PySem.W.kitOne K (.type "tuple") (.type T)=some (T=="tuple")
 lst:∀K,PySem.W.kitOne K (.type "list") (.type T)=some (T=="list")
noncomputable def flatD(d:D):Bool:=(fv d).isSome
noncomputable def pInG(neg:Bool)(x y:W)(M:Mm):Oc W:=match x,sv M y with
 |.d d,some xs=>if flatD d=true/\xs.all flatD=true then .ok (.d (.bl (if neg then !(xs.any λy=>eqD y d)else xs.any λy=>eqD y d))) M else .bad
 |_,_=>.bad
theorem aAl:∀{xs:List D} {vs:List V} {d:D} {v:V},Rps K μ H xs vs->xs.all flatD=true->Rp K μ H d v->flatD d=true->vs.all flatV=true/\inV v vs=xs.any (λy=>eqD y d)
 |[],_,_,_,h,_,_,_=>by simp only[Rps]at h;subst h;exact⟨rfl,rfl⟩
 |x::xs,_,d,v,h,hf,hd,hfd=>by
  simp only[Rps]at h
  obtain⟨u,r,rfl,e2,e3⟩:=h
  rw[aET,aCV]at hf
  obtain⟨i1,i2⟩:=aAl e3 hf.2 hd hfd
  obtain⟨w,hw⟩:=aDX.mp hf.1
  obtain⟨w2,hw2⟩:=aDX.mp hfd
  obtain⟨rfl,f1⟩:=tO hw e2
  obtain⟨rfl,f2⟩:=tO hw2 hd
  refine⟨by rw[aET,f1,i1];rfl,?_⟩
  show(eqV u v || inV v r)=_
  rw[i2,aEo hw hw2,List.any_cons]
theorem aMh(neg:Bool):Op2 K Z (rIn K neg) (pInG neg):=by
 intro μ H M x y v u Q hr rx ry p
 cases x with
 |ref i=>exact p.elim
 |d d =>
  simp only[pInG]at p
  cases q:sv M y with
  |none=>rw[q]at p;exact p.elim
  |some xs =>
   rw[q]at p
   simp only at p
   split at p
   ·rename_i hz
    obtain⟨a,vs,rfl,h1,r1⟩:=wD hr ry q
    obtain⟨i1,i2⟩:=aAl r1 hz.2 rx hz.1
    obtain⟨w,hw⟩:=aDX.mp hz.1
    obtain⟨rfl,f1⟩:=tO hw rx
    refine⟨a,vs,rfl,h1,f1,i1,p μ H .refl hr _ ?_⟩
    simp only[Rw,Rp]
    cases neg <;> simp[i2]
   ·exact p.elim
noncomputable abbrev pIn:=pInG false
theorem opIn:OpG X K Z (compareOp .In) pIn:=λhk=>⟨_,hk▸aDa,aMh false⟩
noncomputable def whileD(t:FT)(B:FS):Nat->FS
 |0=>λ_ _=>.bad
 |n+1=>λL M=>(t L M).bind λb M1=>if b=true then(B L M1).bind λo M2=>match o with
   |.nx L2=>whileD t B n L2 M2
   |.ct L2=>whileD t B n L2 M2
   |.bk L2=>.ok (.nx L2) M2
   |.rt w=>.ok (.rt w) M2
  else .ok (.nx L) M1
inductive Ck
 |one (t:Nat)
 |two (t:Nat) (ys:List D)
noncomputable instance:Coe Nat Ck:=⟨.one⟩
noncomputable def Ck.ok(ds:List D)(M:Mm):Ck->Prop
 |.one t=>M[t]?=some ds
 |.two t ys=>M[t]?=some ys
structure Src where
 ds:List D
 k:Option Ck
noncomputable abbrev FI:=Lc->Mm->Oc Src
noncomputable def Chk(s:Src)(M:Mm):Prop:=∀t,s.k=some t->t.ok s.ds M
open Classical in
noncomputable def forD(s:Src)(g:FG)(B:FS):List D->FS
 |[]=>λL M=>if Chk s M then .ok (.nx L) M else .bad
 |d::r=>λL M=>if Chk s M then(g (.d d) L M).bind λL1 M1=>(B L1 M1).bind λo M2=>match o with
   |.nx L2=>forD s g B r L2 M2
   |.ct L2=>forD s g B r L2 M2
   |.bk L2=>.ok (.nx L2) M2
   |.rt w=>.ok (.rt w) M2
  else .bad
noncomputable def sFor(fi:FI)(g:FG)(B:FS):FS:=λL M=>(fi L M).bind λs M1=>forD s g B s.ds L M1
noncomputable def ItOk(K:Frag)(μ:List Addr)(H:Hp)(s:Src)(J:It):Prop :=
 ∃S:List Addr->Hp->Prop,S μ H/\(∀μ1 H1 μ2 H2,Lsts μ1 H1->S μ1 H1->Ext μ1 H1 μ2 H2->S μ2 H2) /\
  ∀μ1 H1 M1 i,HR K μ1 H1 M1->S μ1 H1->Chk s M1 ->
   (∀d,s.ds[i]?=some d->J.go i H1/\∀x H2,J.yld i H1 x H2->Ext μ1 H1 μ1 H2/\HR K μ1 H2 M1/\Rp K μ1 H2 d x)/\(s.ds.length<=i->J.stop i H1)
noncomputable def liftI(K:Frag)(Z:Zt)(fi:FI):TI:=λσ H R=>∃μ M L,HR K μ H M/\LR K μ H L σ/\Pst K Z μ H (fi L M) λμ' H' _ s=>∀J,ItOk K μ' H' s J->R J H'
structure Ei(X:Cx)(K:Frag)(Z:Zt)(tg iter:Expr)(fi:FI):Prop where
 k:X.K=K
 h:PI X tg iter (liftI K Z fi)
variable{tg iter:Expr}
theorem cqI{t t':TI}(h:PI X tg iter t)(i:∀σ H Q,t' σ H Q->t σ H Q):PI X tg iter t':=λpins s σ H Q I q=>h pins s σ H Q I (i _ _ _ q)
variable{K:Frag}{c:Expr}{B:FS}
theorem sA{t:FT}(n:Nat)(hp:PassesOwn (model X.prog X.w) X.A X.env X.xe)(hc:Et X K Z c t)(hb:Ess X K Z body B):Es X K Z (.While c body [] pos) (whileD t B n):=by
 refine⟨hc.k,cqS (aGx hp hc.h hb.h) ?_⟩
 rintro E σ H ⟨μ,M,L,hr,lr,p⟩
 refine⟨λm σ H=>∃μ M L,HR K μ H M/\LR K μ H L σ/\Pst K Z μ H (whileD t B m L M) (Sk K E),⟨n,μ,M,L,hr,lr,p⟩,?_⟩
 rintro m σ H ⟨μ,M,L,hr,lr,p⟩
 cases m with
 |zero=>exact p.elim
 |succ m =>
  refine⟨μ,M,L,hr,lr,(show Pst K Z μ H ((t L M).bind _) _ from p).bind.imp λμ1 H1 M1 b e1 hr1 _ p1=>?_⟩
  cases b with
  |false=>exact p1 μ1 H1 .refl hr1 σ (lr.ext hr.lsts e1)
  |true =>
   refine⟨λσ' H'=>∃μ M L,HR K μ H' M/\LR K μ H' L σ'/\Pst K Z μ H' (whileD t B m L M) (Sk K E),λσ' H' q=>⟨m,aER m,q⟩,?_⟩
   refine⟨μ1,M1,L,hr1,lr.ext hr.lsts e1,(show Pst K Z μ1 H1 ((B L M1).bind _) _ from p1).bind.imp λμ2 H2 M2 o e2 hr2 _ p2=>?_⟩
   cases o with
   |nx L2=>exact λσ' lr'=>⟨μ2,M2,L2,hr2,lr',p2⟩
   |ct L2=>exact λσ' lr'=>⟨μ2,M2,L2,hr2,lr',p2⟩
   |bk L2=>exact p2 μ2 H2 .refl hr2
   |rt w=>exact p2 μ2 H2 .refl hr2
variable{fi:FI}{g:FG}
theorem eO(hp:PassesOwn (model X.prog X.w) X.A X.env X.xe)(hc:X.calm=true)(hi:Ei X K Z tg iter fi)(hg:Eg X K Z tg g)(hb:Ess X K Z body B)
  (hs:∀x,foldedSetIterable iter X.env x=pure x:=by intro _;rfl):Es X K Z (.For tg iter body [] pos) (sFor fi g B):=by
 refine⟨hi.k,cqS (aMo hp hc hi.h hg.h hb.h hs) ?_⟩
 rintro E σ H ⟨μ,M,L,hr,lr,p⟩
 refine⟨μ,M,L,hr,lr,p.bind.imp λμ1 H1 M1 s e1 hr1 _ p1 J hJ=>?_⟩
 obtain⟨S,s0,sx,step⟩:=hJ
 refine⟨λi m σ H=>m=s.ds.length - i/\i<=s.ds.length/\∃μ M L,HR K μ H M/\LR K μ H L σ/\S μ H/\Pst K Z μ H (forD s g B (s.ds.drop i) L M) (Sk K E),⟨s.ds.length,by simp,aDW _,μ1,M1,L,hr1,lr.ext hr.lsts e1,s0,by simpa using p1⟩,?_⟩
 rintro i m σ H ⟨rfl,hi,μ,M,L,hr,lr,sS,p⟩
 by_cases hlt:i < s.ds.length
 ·rw[aCZ hlt]at p
  unfold forD at p
  split at p
  ·rename_i hch
   obtain⟨go,yl⟩:=(step μ H M i hr sS hch).1 s.ds[i] (by simp[hlt])
   refine .inr ⟨go,λσ' H'=>i+1<=s.ds.length/\∃μ M L,HR K μ H' M/\LR K μ H' L σ'/\S μ H'/\Pst K Z μ H' (forD s g B (s.ds.drop (i+1)) L M) (Sk K E),λσ' H' q=>⟨s.ds.length - (i+1),by lia,rfl,q.1,q.2⟩,λx H2 y=>?_⟩
   obtain⟨e2,hr2,rx⟩:=yl x H2 y
   have lr2:=lr.ext hr.lsts e2
   have s2:=sx _ _ _ _ hr.lsts sS e2
   refine⟨μ,M,L,.d s.ds[i],hr2,lr2,rx,(Pst.mono e2 p).bind.imp λμ3 H3 M3 L3 e3 hr3 _ p3 σ3 lr3=>?_⟩
   refine⟨μ3,M3,L3,hr3,lr3,p3.bind.imp λμ4 H4 M4 o e4 hr4 _ p4=>?_⟩
   have s4:=sx _ _ _ _ hr3.lsts (sx _ _ _ _ hr2.lsts s2 e3) e4
   cases o with
   |nx L4=>exact λσ' lr'=>⟨hlt,μ4,M4,L4,hr4,lr',s4,p4⟩
   |ct L4=>exact λσ' lr'=>⟨hlt,μ4,M4,L4,hr4,lr',s4,p4⟩
   |bk L4=>exact p4 μ4 H4 .refl hr4
   |rt w=>exact p4 μ4 H4 .refl hr4
  ·exact p.elim
 ·have e:i=s.ds.length:=by lia
  subst e
  rw[aEI (aAH _)]at p
  unfold forD at p
  split at p
  ·rename_i hch
   exact .inl ⟨(step μ H M _ hr sS hch).2 (aAH _),p μ H .refl hr σ lr⟩
  ·exact p.elim
theorem aHc{ds:List D}:Chk ⟨ds,none⟩ M:=λt h=>by cases h
@[simp]theorem aKl{ds:List D}:Chk ⟨ds,none⟩ M ↔ True:=⟨λ_=>trivial,λ_=>aHc⟩
@[simp]theorem aJx{ds:List D}{t:Nat}:Chk ⟨ds,some t⟩ M ↔ M[t]?=some ds:=⟨λh=>h t rfl,λh t' e=>by cases e;exact h⟩
noncomputable def iSq(K:Frag)(tl:TE):TI:=λσ H R=>tl σ H λx H1=>∃a,x=.ref a/\(((∃xs,SqL K H1 a xs)/\R (Itl K a) H1)\/((∃xs,SqT K H1 a xs)/\R (Itt K a) H1))
theorem aQj{l:Expr}{tl:TE}(hl:PE X l tl):PI X tg l (iSq X.K tl):=by
 intro pins s σ H R I h
 refine thn (hl pins s σ H _ I h) λv s1 ⟨x,H1,I1,r1,q1⟩=>?_
 obtain⟨a,e,⟨⟨xs,hq⟩,q⟩|⟨⟨xs,hq⟩,q⟩⟩:=q1
 ·subst e
  cases r1
  obtain⟨its,rv,p,hz⟩:=I1.list hq
  refine aDF p.isList ?_
  refine⟨s1.heap.objs.size,[s1.heap.objs.size],_,_,H1,rfl,I1.kept (t':=s1.toks) λb o e=>aAA _ e,aCk a _,⟨_,aAE _ rfl,rfl,rfl⟩,λb hb=>?_,q⟩
  have e:b=s1.heap.objs.size:=by simpa using hb
  subst e
  exact I1.fpOk (aAH _) (I1.hok.fresh (aAH _))
 ·subst e
  cases r1
  obtain⟨its,rv,p,hz⟩:=I1.tuple hq
  refine aCK (show s1.heap.IsTuple a its.toArray from p) ?_
  refine⟨s1.heap.objs.size,[s1.heap.objs.size],_,_,H1,rfl,I1.kept (t':=s1.toks) λb o e=>aAA _ e,yR a _,⟨_,aAE _ rfl,rfl,rfl⟩,λb hb=>?_,q⟩
  have e:b=s1.heap.objs.size:=by simpa using hb
  subst e
  exact I1.fpOk (aAH _) (I1.hok.fresh (aAH _))
noncomputable def srcOf(M:Mm):W->Option Src
 |.d (.tup xs)=>some ⟨xs,none⟩
 |.d (.lst xs)=>some ⟨xs,none⟩
 |.d (.fz xs)=>some ⟨xs,none⟩
 |.ref t=>(M[t]?).map λxs=>⟨xs,some t⟩
 |_=>none
noncomputable def iE(f:FE):FI:=λL M=>(f L M).bind λw M1=>match srcOf M1 w with
 |some s=>.ok s M1
 |none=>.bad
variable{s:Src}
theorem yN{a:Addr}(S:List Addr->Hp->Prop)(s0:S μ H)(sx:∀μ1 H1 μ2 H2,Lsts μ1 H1->S μ1 H1->Ext μ1 H1 μ2 H2->S μ2 H2)
  (rd:∀μ1 H1 M1,HR K μ1 H1 M1->S μ1 H1->Chk s M1->∃vs,SqL K H1 a vs/\Rps K μ1 H1 s.ds vs):ItOk K μ H s (Itl K a):=by
 refine⟨S,s0,sx,λμ1 H1 M1 i hr hS hc=>?_⟩
 obtain⟨vs,h1,r1⟩:=rd μ1 H1 M1 hr hS hc
 refine⟨λd hd=>?_,λhl=>⟨vs,h1,by rw[<- r1.length];exact hl⟩⟩
 obtain⟨v,q1,q2⟩:=r1.get hd
 refine⟨⟨vs,v,h1,q1⟩,λx H2 y=>?_⟩
 obtain⟨rfl,y⟩:=y
 have:=y vs h1
 rw[q1]at this
 cases this
 exact⟨.refl,hr,q2⟩
theorem aNw{a:Addr}(S:List Addr->Hp->Prop)(s0:S μ H)(sx:∀μ1 H1 μ2 H2,Lsts μ1 H1->S μ1 H1->Ext μ1 H1 μ2 H2->S μ2 H2)
  (rd:∀μ1 H1 M1,HR K μ1 H1 M1->S μ1 H1->Chk s M1->∃vs,SqT K H1 a vs/\Rps K μ1 H1 s.ds vs):ItOk K μ H s (Itt K a):=by
 refine⟨S,s0,sx,λμ1 H1 M1 i hr hS hc=>?_⟩
 obtain⟨vs,h1,r1⟩:=rd μ1 H1 M1 hr hS hc
 refine⟨λd hd=>?_,λhl=>⟨vs,h1,by rw[<- r1.length];exact hl⟩⟩
 obtain⟨v,q1,q2⟩:=r1.get hd
 refine⟨⟨vs,v,h1,q1⟩,λx H2 y=>?_⟩
 obtain⟨rfl,y⟩:=y
 have:=y vs h1
 rw[q1]at this
 cases this
 exact⟨.refl,hr,q2⟩
theorem mH{d:D}:∀μ1 H1 μ2 H2,Lsts μ1 H1->Rp K μ1 H1 d v->Ext μ1 H1 μ2 H2->Rp K μ2 H2 d v:=λμ1 H1 μ2 H2 l h e=>Rp.ext l e d v h
theorem kJ(h:Ev X K Z e f):Ei X K Z tg e (iE f):=by
 have h':=aQj (tg:=tg) h.h
 rw[h.k]at h'
 refine⟨h.k,cqI h' ?_⟩
 rintro σ H R ⟨μ,M,L,hr,lr,p⟩
 refine⟨μ,M,L,hr,lr,p.bind.imp λμ1 H1 M1 w e1 hr1 _ p1 v rw'=>?_⟩
 cases w with
 |ref t =>
  simp only[srcOf]at p1
  cases q:M1[t]? with
  |none=>simp only[q,Option.map_none]at p1;exact p1.elim
  |some xs =>
   simp only[q,Option.map_some]at p1
   obtain⟨a,qa,rfl⟩:=rw'
   obtain⟨a',vs,qa',h1,r1⟩:=hr1.at q
   rw[qa]at qa';cases qa'
   refine⟨a,rfl,.inl ⟨⟨vs,SqL.of h1⟩,p1 μ1 H1 .refl hr1 _ ?_⟩⟩
   refine yN (λμ2 H2=>μ2[t]?=some a) qa (λμ1 H1 μ2 H2 _ z e=>e.pre _ _ z) λμ2 H2 M2 hr2 z c=>?_
   obtain⟨a',vs,qa',h1,r1⟩:=hr2.at (c t rfl)
   rw[z]at qa';cases qa'
   exact⟨vs,SqL.of h1,r1⟩
 |d x =>
  cases x with
  |tup xs =>
   have rw2:=rw'
   simp only[Rw,Rp]at rw'
   obtain⟨a,vs,rfl,h1,r1⟩:=rw'
   refine⟨a,rfl,.inr ⟨⟨vs,SqT.of h1⟩,p1 μ1 H1 .refl hr1 _ ?_⟩⟩
   refine aNw (λμ2 H2=>Rp K μ2 H2 (.tup xs) (.ref a)) rw2 mH λμ2 H2 M2 hr2 z c=>?_
   simp only[Rp]at z
   obtain⟨a',vs,e,h1,r1⟩:=z
   cases e
   exact⟨vs,SqT.of h1,r1⟩
  |lst xs =>
   have rw2:=rw'
   simp only[Rw,Rp]at rw'
   obtain⟨a,vs,rfl,h1,_,r1⟩:=rw'
   refine⟨a,rfl,.inl ⟨⟨vs,SqL.of h1⟩,p1 μ1 H1 .refl hr1 _ ?_⟩⟩
   refine yN (λμ2 H2=>Rp K μ2 H2 (.lst xs) (.ref a)) rw2 mH λμ2 H2 M2 hr2 z c=>?_
   simp only[Rp]at z
   obtain⟨a',vs,e,h1,_,r1⟩:=z
   cases e
   exact⟨vs,SqL.of h1,r1⟩
  |fz xs =>
   have rw2:=rw'
   simp only[Rw,Rp]at rw'
   obtain⟨a,vs,rfl,h1,r1⟩:=rw'
   refine⟨a,rfl,.inl ⟨⟨vs,h1.sq⟩,p1 μ1 H1 .refl hr1 _ ?_⟩⟩
   refine yN (λμ2 H2=>Rp K μ2 H2 (.fz xs) (.ref a)) rw2 mH λμ2 H2 M2 hr2 z c=>?_
   simp only[Rp]at z
   obtain⟨a',vs,e,h1,r1⟩:=z
   cases e
   exact⟨vs,h1.sq,r1⟩
  |_=>exact p1.elim
noncomputable def rngD(lo:Int)(n:Nat):List D:=(List.range n).map λk=>D.int (lo+(k:Nat))
variable{lo:Int}{n:Nat}
theorem eR{d:D}(h:(rngD lo n)[i]?=some d):i < n/\d=.int (lo+i):=by
 unfold rngD at h
 rw[aAP]at h
 by_cases hi:i < n
 ·rw[List.getElem?_range hi]at h;simp at h;exact⟨hi,h.symm⟩
 ·rw[aCW (by simpa using hi)]at h;cases h
theorem aFc :ItOk K μ H ⟨rngD lo n,none⟩ (Itr lo n):=by
 refine⟨λ_ _=>True,trivial,λ_ _ _ _ _ _ _=>trivial,λμ1 H1 M1 i hr _ _=>⟨λd hd=>?_,λhl=>by simp only[rngD,aAL,aCS]at hl;exact hl⟩⟩
 obtain⟨hi,rfl⟩:=eR hd
 refine⟨hi,λx H2 y=>?_⟩
 obtain⟨rfl,rfl⟩:=y
 exact⟨.refl,hr,by simp[Rp]⟩
noncomputable def in62(i:Int):Bool:=decide (-4611686018427387904<=i/\i < 4611686018427387904)
noncomputable def iR1(f:FE):FI:=λL M=>(f L M).bind λw M1=>match w with
 |.d (.int j)=>if in62 j=true then .ok ⟨rngD 0 j.toNat,none⟩ M1 else .bad
 |_=>.bad
noncomputable def iR2(f g:FE):FI:=λL M=>(f L M).bind λw M1=>(g L M1).bind λu M2=>match w,u with
 |.d (.int i),.d (.int j)=>if in62 i=true/\in62 j=true then .ok ⟨rngD i (j - i).toNat,none⟩ M2 else .bad
 |_,_=>.bad
theorem dW(hm:X.mg "range"=none)(ha:Ev X K Z a f)(hg:Gl X "range":=by rfl)(hs:starEach [a] X.env=[(false,eval a X.env)]:=by rfl):Ei X K Z tg (.Call (.Name "range" p) [a] [] pos) (iR1 f):=by
 refine⟨ha.k,cqI (aCn hg hm (cM ha.h fE hs) hs) ?_⟩
 rintro σ H R ⟨μ,M,L,hr,lr,p⟩
 refine⟨μ,M,L,hr,lr,p.bind.imp λμ1 H1 M1 w e1 hr1 _ p1 v rw'=>?_⟩
 cases w with
 |ref i=>exact p1.elim
 |d x=>cases x with
  |int j =>
   simp only at p1
   split at p1
   ·rename_i hz
    simp only[in62,aAN]at hz
    simp only[Rw,Rp]at rw'
    subst rw'
    exact⟨j,rfl,hz.1,hz.2,p1 μ1 H1 .refl hr1 _ aFc⟩
   ·exact p1.elim
  |_=>exact p1.elim
theorem uB(hm:X.mg "range"=none)(ha:Ev X K Z a fa)(hb:Ev X K Z b fb)(hg:Gl X "range":=by rfl)(hs:starEach [a,b] X.env=[(false,eval a X.env),(false,eval b X.env)]:=by rfl)(hs2:starEach [b] X.env=[(false,eval b X.env)]:=by rfl) :
  Ei X K Z tg (.Call (.Name "range" p) [a,b] [] pos) (iR2 fa fb):=by
 refine⟨ha.k,cqI (aCv hg hm (cM ha.h (cM hb.h fE hs2) (by rw[hs,hs2])) hs hs2) ?_⟩
 rintro σ H R ⟨μ,M,L,hr,lr,p⟩
 refine⟨μ,M,L,hr,lr,p.bind.imp λμ1 H1 M1 w e1 hr1 _ p1 v rw'=>?_⟩
 refine⟨μ1,M1,L,hr1,lr.ext hr.lsts e1,p1.bind.imp λμ2 H2 M2 u e2 hr2 _ p2 v2 ru=>?_⟩
 have rw':=rw'.ext hr1.lsts e2
 cases w with
 |ref i=>exact p2.elim
 |d x=>cases x with
  |int i=>cases u with
   |ref j=>exact p2.elim
   |d y=>cases y with
    |int j =>
     simp only at p2
     split at p2
     ·rename_i hz
      simp only[in62,aAN]at hz
      simp only[Rw,Rp]at rw' ru
      subst rw' ru
      exact⟨i,j,rfl,⟨hz.1.1,hz.1.2,hz.2.1,hz.2.2⟩,p2 μ2 H2 .refl hr2 _ aFc⟩
     ·exact p2.elim
    |_=>exact p2.elim
  |_=>exact p2.elim
variable{K:Frag}{μ2:List Addr}{M2:Mm}
theorem Ext.back(e:Ext μ H μ2 H2):Ext μ H μ H2:=⟨e.keep,λa h=>.inl h,λ_ _ h=>h⟩
theorem Ext.take(e:Ext μ H μ2 H2):μ2.take μ.length=μ:=by
 apply aGT
 intro i
 rw[aGO]
 split
 ·rename_i hi
  have:=e.pre i μ[i] (by simp[hi])
  rw[this];simp[hi]
 ·rename_i hi
  rw[aCW (by lia)]
mutual
theorem Rp.sub(hs:∀a,a∈μ1->a∈μ):∀(d:D) (v:V),Rp K μ H d v->Rp K μ1 H d v
 |.non,v,h=>by simpa[Rp]using h
 |.bl b,v,h=>by simpa[Rp]using h
 |.int b,v,h=>by simpa[Rp]using h
 |.str b,v,h=>by simpa[Rp]using h
 |.tup ds,v,h=>by simp only[Rp]at h ⊢;obtain⟨a,vs,e1,e2,e3⟩:=h;exact⟨a,vs,e1,e2,Rps.sub hs ds vs e3⟩
 |.lst ds,v,h=>by simp only[Rp]at h ⊢;obtain⟨a,vs,e1,e2,n,e3⟩:=h;exact⟨a,vs,e1,e2,λz=>n (hs a z),Rps.sub hs ds vs e3⟩
 |.fz ds,v,h=>by simp only[Rp]at h ⊢;obtain⟨a,vs,e1,e2,e3⟩:=h;exact⟨a,vs,e1,e2,Rps.sub hs ds vs e3⟩
 |.exn c f ds,v,h=>by simp only[Rp]at h ⊢;obtain⟨a,vs,C,LE,d,e1,e2,e3,e4,e5⟩:=h;exact⟨a,vs,C,LE,d,e1,e2,e3,e4,Rps.sub hs ds vs e5⟩
theorem Rps.sub(hs:∀a,a∈μ1->a∈μ):∀(ds:List D) (vs:List V),Rps K μ H ds vs->Rps K μ1 H ds vs
 |[],vs,h=>by simpa[Rps]using h
 |d::ds,vs,h=>by simp only[Rps]at h ⊢;obtain⟨v,r,e1,e2,e3⟩:=h;exact⟨v,r,e1,Rp.sub hs d v e2,Rps.sub hs ds r e3⟩
end
theorem HR.back(h:HR K μ2 H2 M2)(e:Ext μ H μ2 H2):HR K μ H2 (M2.take μ.length):=by
 have ht:=e.take
 have hsub:∀a,a∈μ->a∈μ2:=λa ha=>by rw[<- ht]at ha;exact aDU ha
 have hlen:μ.length<=μ2.length:=by have:=congrArg List.length ht;simp at this;lia
 refine⟨by rw[aFN,<- h.len];lia,by rw[<- ht];exact h.nd.sublist (List.take_sublist _ _),λi a ds q1 q2=>?_⟩
 rw[aGO]at q2
 split at q2
 ·obtain⟨vs,q3,q4⟩:=h.ent i a ds (e.pre i a q1) q2
  exact⟨vs,q3,Rps.sub hsub _ _ q4⟩
 ·cases q2
noncomputable def outL(js:List (Option Nat))(L:Lc):Lc:=js.map λo=>o.bind λj=>(L[j]?).join
open Classical in
noncomputable def compD(t:Nat)(s:Src)(g:FG)(c:FT)(f:FE):List D->Lc->Mm->Oc Unit
 |[]=>λ_ M=>if Chk s M then .ok () M else .bad
 |d::r=>λL M=>if Chk s M then(g (.d d) L M).bind λL1 M1=>(c L1 M1).bind λb M2=>if b=true then(f L1 M2).bind λw M3=>match w,M3[t]? with
   |.d x,some acc=>if acc.length < 16777216 then compD t s g c f r L1 (M3.set t (acc++[x]))else .bad
   |_,_=>.bad
   else compD t s g c f r L1 M2
  else .bad
noncomputable def compT(js:List (Option Nat))(fi:FI)(g:FG)(c:FT)(f:FE)(L:Lc)(M:Mm):Oc (List D):=(fi L M).bind λs M1=>match compD M1.length s g c f s.ds (outL js L) (M1++[[]])with
 |.ok _ M2=>match M2[M1.length]? with
  |some acc=>.ok acc (M2.take M1.length)
  |none=>.bad
 |_=>.bad
noncomputable def eComp(js:List (Option Nat))(fi:FI)(g:FG)(c:FT)(f:FE):FE:=λL M=>(compT js fi g c f L M).bind λacc M1=>.ok (.d (.lst acc)) M1
noncomputable def tYes:FT:=λ_ M=>.ok true M
structure Eif(X:Cx)(K:Frag)(Z:Zt)(ifs:List Expr)(t:FT):Prop where
 k:X.K=K
 h:PIf X ifs (liftT K Z t)
variable{K:Frag}
theorem dF(hk:X.K=K:=by rfl):Eif X K Z [] tYes:=⟨hk,λpins s σ H Q I ⟨μ,M,L,hr,lr,p⟩=>aJk pins s σ H Q I (p μ H .refl hr)⟩
theorem pW{t:FT}(h:Et X K Z c t):Eif X K Z [c] t:=⟨h.k,aIo h.h⟩
variable{σ:St}
theorem LR.out(h:LR K μ H L σ):LR K μ H (outL js L) (outσ js σ)where
 len:=by simp[outL,outσ]
 ent:=λi w q=>by
  unfold outL at q
  unfold outσ
  rw[aAP]at q ⊢
  cases e:js[i]? with
  |none=>rw[e]at q;cases q
  |some oj =>
   rw[e]at q
   cases oj with
   |none=>simp at q
   |some j =>
    simp only[Option.map_some,Option.bind_some,aBB]at q ⊢
    cases e2:L[j]? with
    |none=>rw[e2]at q;cases q
    |some ow =>
     rw[e2]at q
     simp at q
     subst q
     obtain⟨v,q1,q2⟩:=h.ent j w e2
     exact⟨v,by rw[q1];rfl,q2⟩
variable{c:FT}
theorem aFq{Zi:Zt}{J:It}{Dt:Addr}{Q:Hp->Prop}(n:Nat)(μ0:List Addr)(H0:Hp)(e0:Ext μ0 H0 μ H)(hn:μ0.length=n)(hD:μ[n]?=some Dt)
  (hr:HR K μ H M)(lr:LR K μ H L σ)(hJ:ItOk K μ H s J)
  (p:match compD n s g c f s.ds L M with
   |.ok _ M2=>∀μ2 H2,Ext μ H μ2 H2->HR K μ2 H2 M2->Q H2
   |.ex z M2=>Zi.z z M2 μ H
   |.bad=>False):tTurns J (liftG K Zi g) (liftT K Zi c) (lift K Zi f) Dt σ H Q:=by
 obtain⟨S,s0,sx,step⟩:=hJ
 let R:List Addr->Hp->Lc->Mm->List D->Prop:=λμ1 H1 L M rest=>match compD n s g c f rest L M with
   |.ok _ M2=>∀μ2 H2,Ext μ1 H1 μ2 H2->HR K μ2 H2 M2->Q H2
   |.ex z M2=>Zi.z z M2 μ1 H1
   |.bad=>False
 refine⟨λi m σ H1=>m=s.ds.length - i/\i<=s.ds.length/\∃μ1 M L,Ext μ0 H0 μ1 H1/\μ1[n]?=some Dt/\HR K μ1 H1 M/\LR K μ1 H1 L σ/\S μ1 H1/\R μ1 H1 L M (s.ds.drop i),⟨s.ds.length,by simp,aDW _,μ,M,L,e0,hD,hr,lr,s0,by simpa[R]using p⟩,?_⟩
 rintro i m σ H1 ⟨rfl,hi,μ1,M,L,e1,hD1,hr,lr,sS,p⟩
 by_cases hlt:i < s.ds.length
 ·simp only[R]at p
  rw[aCZ hlt]at p
  unfold compD at p
  by_cases hch:Chk s M
  ·rw[aAG hch]at p
   obtain⟨go,yl⟩:=(step μ1 H1 M i hr sS hch).1 s.ds[i] (by simp[hlt])
   refine .inr ⟨go,λσ' H'=>i+1<=s.ds.length/\∃μ1 M L,Ext μ0 H0 μ1 H'/\μ1[n]?=some Dt/\HR K μ1 H' M/\LR K μ1 H' L σ'/\S μ1 H'/\R μ1 H' L M (s.ds.drop (i+1)),λσ' H' q=>⟨s.ds.length - (i+1),by lia,rfl,q.1,q.2⟩,λx H2 y=>?_⟩
   obtain⟨e2,hr2,rx⟩:=yl x H2 y
   have lr2:=lr.ext hr.lsts e2
   have s2:=sx _ _ _ _ hr.lsts sS e2
   refine⟨μ1,M,L,.d s.ds[i],hr2,lr2,rx,?_⟩
   cases q3:g (.d s.ds[i]) L M with
   |bad=>rw[q3]at p;exact p.elim
   |ex z M2=>rw[q3]at p;exact Zi.mono e2 p
   |ok L3 M3 =>
    rw[q3]at p
    intro μ3 H3 e3 hr3 σ3 lr3
    refine⟨μ3,M3,L3,hr3,lr3,?_⟩
    simp only[gQ]at p
    have s3:=sx _ _ _ _ hr2.lsts s2 e3
    cases q4:c L3 M3 with
    |bad=>rw[q4]at p;exact p.elim
    |ex z M2=>rw[q4]at p;exact Zi.mono (e2.trans e3) p
    |ok b M4 =>
     rw[q4]at p
     intro μ4 H4 e4 hr4
     simp only[gQ]at p
     have s4:=sx _ _ _ _ hr3.lsts s3 e4
     have lr4:=lr3.ext hr3.lsts e4
     have E4:=((e1.trans e2).trans e3).trans e4
     have D4:=e4.pre _ _ (e3.pre _ _ (e2.pre _ _ hD1))
     cases b with
     |false =>
      refine⟨hlt,μ4,M4,L3,E4,D4,hr4,lr4,s4,?_⟩
      simp only[R]
      simp only[aAY,aCG]at p
      cases q5:compD n s g c f (s.ds.drop (i+1)) L3 M4 with
      |ok u M5=>rw[q5]at p;exact λμ5 H5 e5 hr5=>p μ5 H5 (((e2.trans e3).trans e4).trans e5) hr5
      |ex z M5=>rw[q5]at p;exact Zi.mono ((e2.trans e3).trans e4) p
      |bad=>rw[q5]at p;exact p
     |true =>
      simp only[aBT]at p
      refine⟨μ4,M4,L3,hr4,lr4,?_⟩
      cases q5:f L3 M4 with
      |bad=>rw[q5]at p;exact p.elim
      |ex z M2=>rw[q5]at p;exact Zi.mono ((e2.trans e3).trans e4) p
      |ok w M5 =>
       rw[q5]at p
       intro μ5 H5 e5 hr5 v rw'
       simp only[gQ]at p
       cases w with
       |ref k=>exact p.elim
       |d x =>
        cases q6:M5[n]? with
        |none=>rw[q6]at p;exact p.elim
        |some acc =>
         rw[q6]at p
         simp only at p
         by_cases hz:acc.length < 16777216
         ·rw[aAG hz]at p
          have D5:=e5.pre _ _ D4
          obtain⟨a',vs,qa',h1,r1⟩:=hr5.at q6
          rw[D5]at qa';cases qa'
          refine⟨vs,h1,by rw[<- r1.length,aBA];exact hz,hlt,μ5,M5.set n (acc++[x]),L3,(E4.trans e5).trans (eY D5),D5,hr5.set D5 (r1.append (.cons rw' .nil)),?_,?_,?_⟩
          ·exact(lr4.ext hr4.lsts e5).ext hr5.lsts (eY D5)
          ·exact sx _ _ _ _ hr5.lsts (sx _ _ _ _ hr4.lsts s4 e5) (eY D5)
          ·simp only[R]
           cases q7:compD n s g c f (s.ds.drop (i+1)) L3 (M5.set n (acc++[x]))with
           |ok u M6=>rw[q7]at p;exact λμ6 H6 e6 hr6=>p μ6 H6 (((((e2.trans e3).trans e4).trans e5).trans (eY D5)).trans e6) hr6
           |ex z M6=>rw[q7]at p;exact Zi.mono ((((e2.trans e3).trans e4).trans e5).trans (eY D5)) p
           |bad=>rw[q7]at p;exact p
         ·rw[aAC hz]at p;exact p.elim
  ·rw[aAC hch]at p;exact p.elim
 ·have e:i=s.ds.length:=by lia
  subst e
  simp only[R]at p
  rw[aEI (aAH _)]at p
  unfold compD at p
  by_cases hch:Chk s M
  ·rw[aAG hch]at p
   exact .inl ⟨(step μ1 H1 M _ hr sS hch).2 (aAH _),p μ1 H1 .refl hr⟩
  ·rw[aAC hch]at p;exact p.elim
theorem aEc{Q:VK}(h:∃μ M L,HR K μ H M/\LR K μ H L σ/\Pst K Z μ H (compT js fi g c f L M) λμ' H' M' acc=>∀q vs,H' q=some (.lst vs)->q∉μ'->Rps K μ' H' acc vs->Q (.ref q) H') :
  tComp js (liftI K Z fi) (liftG K Z0 g) (liftT K Z0 c) (lift K Z0 f) σ H Q:=by
 obtain⟨μ,M,L,hr,lr,p⟩:=h
 refine⟨μ,M,L,hr,lr,p.bind.imp λμ1 H1 M1 s e1 hr1 _ p1 J hJ Dt hDt=>?_⟩
 have x:=vV (vs:=[]) hr1 hDt
 have hlen:=hr1.len
 obtain⟨S,s0,sx,step⟩:=hJ
 refine aFq (M:=M1++[[]]) M1.length μ1 H1 x hr1.len (by rw[<- hlen];simp) (hr1.new hDt .nil) (LR.out ((lr.ext hr.lsts e1).ext hr1.lsts x)) ⟨S,sx _ _ _ _ hr1.lsts s0 x,sx,step⟩ ?_
 cases q:compD M1.length s g c f s.ds (outL js L) (M1++[[]])with
 |bad=>simp only[q]at p1;exact p1.elim
 |ex z M2=>simp only[q]at p1;exact p1.elim
 |ok u M2 =>
  simp only[q]at p1
  intro μ2 H2 e2 hr2
  cases q2:M2[M1.length]? with
  |none=>simp only[q2]at p1;exact p1.elim
  |some acc =>
   simp only[q2]at p1
   have E:=x.trans e2
   have hb:=hr2.back E
   rw[hlen]at hb
   have hD2:μ2[M1.length]?=some Dt:=e2.pre _ _ (by rw[<- hlen];simp)
   obtain⟨a',vs,qa',h1,r1⟩:=hr2.at q2
   rw[hD2]at qa';cases qa'
   exact p1 μ1 H2 E.back hb Dt vs h1 (hr1.out hDt) (Rps.sub (λa ha=>by rw[<- E.take]at ha;exact aDU ha) _ _ r1)
theorem xF :∀σ H Q,lift K Z (eComp js fi g c f) σ H Q->tComp js (liftI K Z fi) (liftG K Z0 g) (liftT K Z0 c) (lift K Z0 f) σ H Q:=by
 rintro σ H Q ⟨μ,M,L,hr,lr,p⟩
 refine aEc ⟨μ,M,L,hr,lr,p.bind.imp λμ1 H1 M1 acc e1 hr1 _ p1 q vs h1 h2 h3=>?_⟩
 exact p1 μ1 H1 .refl hr1 _ (by simp only[Rw,Rp];exact⟨q,vs,rfl,h1,h2,h3⟩)
variable{ifs:List Expr}{scope:Scope}
theorem cV{elt:Expr}(hc:X.calm=true)(T:CompOk X.N X.env.scope scope Nc js)(hit:Ei X K Z tg iter fi)
  (hg:∀cl C fp pins s₂ H₂,Eg (compCx X Nc scope cl C fp pins s₂ H₂) K Z0 tg g)(hi:∀cl C fp pins s₂ H₂,Eif (compCx X Nc scope cl C fp pins s₂ H₂) K Z0 ifs c)(he:∀cl C fp pins s₂ H₂,Ev (compCx X Nc scope cl C fp pins s₂ H₂) K Z0 elt f)
  (hs:∀x,foldedSetIterable iter X.env x=pure x:=by intro _;rfl):Ev X K Z (.ListComp elt [⟨tg,iter,ifs,0⟩] scope pos) (eComp js fi g c f) :=
 ⟨hit.k,cqE (aJj hc T hit.h (λ_ _ _ _ _ _=>(hg _ _ _ _ _ _).h) (λ_ _ _ _ _ _=>(hi _ _ _ _ _ _).h) (λ_ _ _ _ _ _=>(he _ _ _ _ _ _).h) hs) xF⟩
theorem aAz{elt:Expr}{y:Str}{py spos:Pos}(hN:X.N.Nodup)(hc:X.calm=true)(T:CompOk X.N X.env.scope scope Nc js)(hit:Ei X K Z tg iter fi)
  (hg:∀cl C fp pins s₂ H₂,Eg (compCx X Nc scope cl C fp pins s₂ H₂) K Z0 tg g)(hi:∀cl C fp pins s₂ H₂,Eif (compCx X Nc scope cl C fp pins s₂ H₂) K Z0 ifs c)(he:∀cl C fp pins s₂ H₂,Ev (compCx X Nc scope cl C fp pins s₂ H₂) K Z0 elt f)
  (hyi:X.N[i]?=some y:=by rfl)(hy:X.env.scope.names.lookup y=some .local:=by rfl)
  (hsw:swapsWith (.ListComp elt [⟨tg,iter,ifs,0⟩] scope pos) (some (.Name y py)) spos.line X.env=pure true:=by rfl)
  (hs:∀x,foldedSetIterable iter X.env x=pure x:=by intro _;rfl):Es X K Z (.Assign [.Name y py] (.ListComp elt [⟨tg,iter,ifs,0⟩] scope pos) spos) (sAs (eComp js fi g c f) (gN i)):=by
 refine⟨hit.k,cqS (aJh hN hyi hy hc T hit.h (λ_ _ _ _ _ _=>(hg _ _ _ _ _ _).h) (λ_ _ _ _ _ _=>(hi _ _ _ _ _ _).h) (λ_ _ _ _ _ _=>(he _ _ _ _ _ _).h) hsw hs) ?_⟩
 rintro E σ H ⟨μ,M,L,hr,lr,p⟩
 refine xF _ _ _ ⟨μ,M,L,hr,lr,p.bind.imp λμ1 H1 M1 x e1 hr1 _ p1 v rx=>?_⟩
 exact p1 μ1 H1 .refl hr1 _ (LR.set (lr.ext hr.lsts e1) rx)
noncomputable def retc(n:Nat)(w:W)(M:Mm):Oc W:=match w with
 |.d x=>.ok (.d x) (M.take n)
 |.ref i=>if i < n then .ok (.ref i) (M.take n)else match M[i]? with
  |some ds=>.ok (.d (.lst ds)) (M.take n)
  |none=>.bad
noncomputable def fnD(m n:Nat)(F:FS):Fn:=λws M=>if ws.length=m then(F (ws.map some++List.replicate (n - ws.length) none) M).bind λo M'=>match o with
  |.rt w=>retc M.length w M'
  |.nx _=>.ok (.d .non) (M'.take M.length)
  |_=>.bad
 else .bad
noncomputable def fnR(m n:Nat)(F:FS):Fn:=λws M=>if ws.length=m then(F (ws.map some++List.replicate (n - ws.length) none) M).bind λo M'=>match o with
  |.rt (.ref i)=>if M.length<=i then(match M'[i]? with
   |some ds=>.ok (.ref M.length) (M'.take M.length++[ds])
   |none=>.bad)else .bad
  |_=>.bad
 else .bad
noncomputable def spF(K:Frag)(Z:Zt)(m:Nat)(Fm:Fn):Sp:=λvs H Q E=>vs.length=m/\∃μ M ws,HR K μ H M/\Rws K μ H ws vs/\Pst K Z μ H (Fm ws M) (Wk K Q)
theorem sB{ws:List W}(r:Rws K μ H ws vs):LR K μ H (ws.map some++List.replicate (N.length - ws.length) none) (L2.start N vs):=by
 have hl:=r.length
 refine⟨by simp[L2.start,hl],λi w q=>?_⟩
 by_cases hi:i < ws.length
 ·rw[aAS (by simpa using hi),aAP]at q
  cases e:ws[i]? with
  |none=>rw[e]at q;cases q
  |some w' =>
   rw[e]at q;cases q
   obtain⟨v,q1,q2⟩:=r.get e
   refine⟨v,?_,q2⟩
   unfold L2.start
   rw[aAS (by simp;lia),aAP,q1];rfl
 ·rw[aCJ (by simpa using hi),List.getElem?_replicate]at q
  split at q <;> cases q
variable{mg:Str->Option Value}
theorem bK{fa:Addr}(hf:Fun K x qual st fa fd)(S:FnScope N ps (defScope st))
  (hb:∀(cdv:Value) (A:Around) (outer:List Env) (s:Shared) (H:Hp) (E:XK),Room k (A.deeper (envOfC qual (defScope st) s.heap.objs.size fa cdv))->Ess (cxOf CX0 P w K mg base N qual (defScope st) fa cdv A outer s H E).nox K Z0 (defBody st) F) :
  FnOk P w K mg base CX0 (k+1) fa fd ps (spF K Z0 ps.length (fnD ps.length N.length F)):=by
 refine hf.ok S (λvs H Q E h=>h.1) λcdv A outer s H vs Q E hr hsp=>⟨_,(hb cdv A outer s H E hr).h,?_⟩
 obtain⟨hv,μ,M,ws,hr,rx,p⟩:=hsp
 refine⟨μ,M,_,hr,sB rx,?_⟩
 unfold fnD at p
 rw[aAG (by rw[rx.length];exact hv)]at p
 cases q:F (ws.map some++List.replicate (N.length - ws.length) none) M with
 |bad=>rw[q]at p;exact p
 |ex z M'=>rw[q]at p;exact p
 |ok o M' =>
  rw[q]at p
  simp only[gQ]at p
  intro μ1 H1 e1 hr1
  have hb:=hr1.back e1
  rw[hr.len]at hb
  cases o with
  |nx L'=>exact λσ' lr'=>p μ H1 e1.back hb _ (by simp[Rw,Rp])
  |bk L'=>exact p.elim
  |ct L'=>exact p.elim
  |rt w =>
   intro v rv
   have hsub:∀a,a∈μ->a∈μ1:=λa ha=>by rw[<- e1.take]at ha;exact aDU ha
   cases w with
   |d x=>exact p μ H1 e1.back hb v (Rp.sub hsub x v rv)
   |ref i =>
    simp only[retc]at p
    split at p
    ·rename_i hi
     obtain⟨a,qa,rfl⟩:=rv
     refine p μ H1 e1.back hb _ ⟨a,?_,rfl⟩
     rw[<- hr.len]at hi
     have:=e1.pre i μ[i] (by simp[hi])
     rw[qa]at this;cases this
     simp[hi]
    ·rename_i hi
     cases q2:M'[i]? with
     |none=>simp only[q2]at p;exact p.elim
     |some ds =>
      simp only[q2]at p
      obtain⟨a,qa,rfl⟩:=rv
      obtain⟨a',vs',qa',h1,r1⟩:=hr1.at q2
      rw[qa]at qa';cases qa'
      refine p μ H1 e1.back hb _ ?_
      simp only[Rw,Rp]
      refine⟨a,vs',rfl,h1,λha=>?_,Rps.sub hsub _ _ r1⟩
      obtain⟨j,hj,ej⟩:=aDV.mp ha
      have h2:=e1.pre j a (by rw[<- ej];simp[hj])
      have l1:=(aAD.mp qa).1
      have l2:=(aAD.mp h2).1
      have g1:=(aAD.mp qa).2
      have g2:=(aAD.mp h2).2
      have pw:=aBM.mp hr1.nd
      rw[hr.len]at hj
      exact pw j i l2 l1 (by lia) (g2.trans g1.symm)
theorem aEq{fa:Addr}(hf:Fun K x qual st fa fd)(S:FnScope N ps (defScope st))
  (hb:∀(cdv:Value) (A:Around) (outer:List Env) (s:Shared) (H:Hp) (E:XK),Room k (A.deeper (envOfC qual (defScope st) s.heap.objs.size fa cdv))->Ess (cxOf CX0 P w K mg base N qual (defScope st) fa cdv A outer s H E).nox K Z0 (defBody st) F) :
  FnOk P w K mg base CX0 (k+1) fa fd ps (spF K Z0 ps.length (fnR ps.length N.length F)):=by
 refine hf.ok S (λvs H Q E h=>h.1) λcdv A outer s H vs Q E hr hsp=>⟨_,(hb cdv A outer s H E hr).h,?_⟩
 obtain⟨hv,μ,M,ws,hr,rx,p⟩:=hsp
 refine⟨μ,M,_,hr,sB rx,?_⟩
 unfold fnR at p
 rw[aAG (by rw[rx.length];exact hv)]at p
 cases q:F (ws.map some++List.replicate (N.length - ws.length) none) M with
 |bad=>rw[q]at p;exact p
 |ex z M'=>rw[q]at p;exact p
 |ok o M' =>
  rw[q]at p
  simp only[gQ]at p
  intro μ1 H1 e1 hr1
  have hb:=hr1.back e1
  rw[hr.len]at hb
  cases o with
  |nx L'=>exact p.elim
  |bk L'=>exact p.elim
  |ct L'=>exact p.elim
  |rt w =>
   intro v rv
   have hsub:∀a,a∈μ->a∈μ1:=λa ha=>by rw[<- e1.take]at ha;exact aDU ha
   cases w with
   |d x=>exact p.elim
   |ref i =>
    simp only at p
    split at p
    ·rename_i hi
     cases q2:M'[i]? with
     |none=>simp only[q2]at p;exact p.elim
     |some ds =>
      simp only[q2]at p
      obtain⟨a,qa,rfl⟩:=rv
      obtain⟨a',vs',qa',h1,r1⟩:=hr1.at q2
      rw[qa]at qa';cases qa'
      have hna:a∉μ:=λha=>by
       obtain⟨j,hj,ej⟩:=aDV.mp ha
       have h2:=e1.pre j a (by rw[<- ej];simp[hj])
       have l1:=(aAD.mp qa).1
       have l2:=(aAD.mp h2).1
       have g1:=(aAD.mp qa).2
       have g2:=(aAD.mp h2).2
       have pw:=aBM.mp hr1.nd
       rw[hr.len]at hj
       exact pw j i l2 l1 (by lia) (g2.trans g1.symm)
      have hsub2:∀b,b∈μ++[a]->b∈μ1:=λb hb=>by
       rcases aDQ.mp hb with hb|hb
       ·exact hsub b hb
       ·rw[aCL]at hb;subst hb;exact aBJ qa
      refine p (μ++[a]) H1 ⟨e1.keep,λb hb=>e1.new b (hsub2 b hb),λj b hj=>by rw[aAS (aAD.mp hj).1];exact hj⟩ ?_ _ ⟨a,by rw[<- hr.len];simp,rfl⟩
      refine⟨by simp[hb.len],aFE.mpr ⟨hb.nd,by simp,λb hb' c hc=>by rw[aCL]at hc;subst hc;rintro rfl;exact hna hb'⟩,λj b es q1 q3=>?_⟩
      by_cases hj:j < μ.length
      ·rw[aAS hj]at q1
       rw[aAS (by rw[<- hb.len];exact hj),aGO]at q3
       split at q3
       ·obtain⟨us,q4,q5⟩:=hr1.ent j b es (e1.pre j b q1) q3
        exact⟨us,q4,Rps.sub hsub2 _ _ q5⟩
       ·cases q3
      ·have hj':j=μ.length:=by have:=(aAD.mp q1).1;simp at this;lia
       subst hj'
       rw[aCJ (aAH _)]at q1
       rw[hb.len,aCJ (aAH _)]at q3
       simp at q1 q3
       subst q1 q3
       exact⟨vs',h1,Rps.sub hsub2 _ _ r1⟩
    ·exact p.elim
variable{Fm:Fn}
theorem aG{fa:Addr}(Gf:FnOk X.prog X.w X.K X.mg X.base CX0 k fa fd ps (spF K Z0 m Fm))(hr:Room k X.A)(hm:X.mg x=some (.ref fa))(hk:keepIn X.K (.ref fa)=true)(hb:Binds X.K fd ps [])
  (ha:Ea X K Z0 (e::es) fs)(hl:ps.length=m:=by rfl)(hg:Gl X x:=by rfl)(hdb:(x==("__debug__":Str))=false:=by decide)(he:starEach (e::es) X.env=(false,eval e X.env)::starEach es X.env:=by rfl)(hpl:(backTo pos (starEach es X.env)).any (·.1)=false:=by rfl)
  (hlen:∀ws M,ws.length≠m->Fm ws M=.bad:=by intro ws M h;first|exact aAC h|rfl):Ev X K Z0 (.Call (.Name x p) (e::es) [] pos) (eA Fm fs):=by
 refine⟨ha.k,cqE (aAv Gf hr hg hm hk hb .nil pass0 ha.h hdb he hpl) ?_⟩
 rintro σ H Q ⟨μ,M,L,hr,lr,p⟩
 refine⟨μ,M,L,hr,lr,p.bind.imp λμ1 H1 M1 ws e1 hr1 _ p1 vs rx=>?_⟩
 show spF K Z0 m Fm (vs++[]) H1 Q E0
 rw[aEH]
 refine⟨?_,μ1,M1,ws,hr1,rx,p1⟩
 by_cases hw:ws.length=m
 ·rw[<- rx.length];exact hw
 ·rw[hlen ws M1 hw]at p1;exact p1.elim
theorem aMv{a:Addr}(hO:Only H)(hS:SqL K H a (ns.map V.int))(h:∃M',Fm [.d (.fz (ns.map D.int))] []=.ok (.d (.bl true)) M'):spF K Z0 1 Fm [.ref a] H (λv _=>v=.bl true) λ_ _ _=>False:=by
 obtain⟨M',h⟩:=h
 refine⟨rfl,[],[],[.d (.fz (ns.map D.int))],⟨rfl,List.nodup_nil,λi a ds q=>by simp at q⟩,⟨.ref a,[],rfl,?_,rfl⟩,?_⟩
 ·simp only[Rw,Rp]
  refine⟨a,ns.map V.int,rfl,?_,Rps.ints⟩
  rcases hS with(z|z)|z
  ·rcases hO a with q|⟨o,xs,q⟩ <;> rw[z]at q <;> cases q
  ·exact .inl z
  ·exact .inr z
 ·rw[h]
  intro μ' H' _ _ v rv
  simpa only[Rw,Rp]using rv
@[irreducible] noncomputable def NW:Nat:=18446744073709551616
theorem aHz:NW=18446744073709551616:=by unfold NW;rfl
theorem aT(hr:Room k A):A.units+101 < cLine:=by have:=hr.un;lia
theorem iS{f:Addr}(hl:ps.length=m):FnOk P w K mg base CX k f fd ps (spF K Z m (λ_ _=>.bad)) :=
 ⟨λvs H Q E h=>by rw[h.1,hl],λA outer s H args us vs Q E _ _ _ _ h=>by obtain⟨_,μ,M,ws,_,_,p⟩:=h;exact p.elim⟩
variable{K:Frag}
noncomputable def pAddR(x y:W)(M:Mm):Oc W:=match lv M x,lv M y with
 |some xs,some ys=>if xs.length+ys.length<=16777216 then .ok (.ref M.length) (M++[xs++ys])else .bad
 |_,_=>.bad
theorem opAddR:OpG X K Z (binaryOp .Add) pAddR:=λhk=>⟨_,aIa,by
 intro μ H M x y v u Q hr rx ry p
 unfold pAddR at p
 cases q1:lv M x with
 |none=>rw[q1]at p;exact p.elim
 |some xs =>
  cases q2:lv M y with
  |none=>rw[q1,q2]at p;exact p.elim
  |some ys =>
   rw[q1,q2]at p
   simp only at p
   split at p
   ·rename_i hz
    obtain⟨a,vs,rfl,h1,r1⟩:=qX hr rx q1
    obtain⟨b,us,rfl,h2,r2⟩:=qX hr ry q2
    exact⟨a,b,vs,us,rfl,rfl,h1,h2,by rw[<- r1.length,<- r2.length,aBA];exact hz,vC hr (r1.append r2) p⟩
   ·exact p.elim⟩
end EV
namespace ZP
variable{E:Value->Shared->Prop}{x:Value}
theorem mU(hit:s.heap.IsTupleIter it l i)
  (hl:s.heap.IsTuple l items)(hx:items[i]?=some x)
  (hQ:∀h',h'.IsTupleIter it l (i+1)->Heap.SameBut it s.heap h'->Q x {s with heap:=h'}) :
  wpAny (model prog w) A (Builtin.SmallTypes.nextOf (.ref it)) Q E s:=by
 obtain⟨o,ho,hc,hd⟩:=id hit
 obtain⟨ol,hol,_,nl,hdl⟩:=hl
 unfold Builtin.SmallTypes.nextOf
 refine aAB (aBU (name:=Str.ofString "__next__") hit.typeIs aDR
  (aBW aDR hit.typeIs F.entry_tuple_iterator_next ?_ (F.args_tuple_iterator_next_1 _)))
 show wpAny _ _ (field (.ref it) 0 >>= _) _ _ s
 refine aAB (aBD ho hd (x:=.ref l) rfl ?_)
 show wpAny _ _ (if(Value.ref l==Value.none)=true then _ else _) _ _ s
 rw[aAC (show ¬((Value.ref l==Value.none)=true)from aBH)]
 show wpAny _ _ (field (.ref it) 1 >>= _) _ _ s
 refine aAB (aBD ho hd (x:=.int i 0) rfl ?_)
 show wpAny _ _ (seqItems? (.ref l) >>= _) _ _ s
 refine aAB (aDI hol hdl ?_)
 simp only[aCD,hx]
 refine aAB (aFB ho hd (by simp) (aAF ⟨x,rfl,aAF (hQ _ ?_ (aDZ ..))⟩))
 exact⟨_,aEM _ ho (aFP (aDK hd _)),(Obj.cls_mapFields ..).trans hc,by
  rw[aDK hd];simp[rawInt]⟩
theorem oN(hh:A.handled=none)
  (hit:s.heap.IsTupleIter it l i)(hl:s.heap.IsTuple l items)(hx:items[i]?=none)
  (hE:∀h' e,Heap.ExtBut it s.heap h'->(∃o,h'.get? e=some o/\o.cls=.type "StopIteration")->E (.ref e) {s with heap:=h'}) :
  wpAny (model prog w) A (Builtin.SmallTypes.nextOf (.ref it)) Q E s:=by
 obtain⟨o,ho,hc,hd⟩:=id hit
 obtain⟨ol,hol,_,nl,hdl⟩:=hl
 unfold Builtin.SmallTypes.nextOf
 refine aAB (aBU (name:=Str.ofString "__next__") hit.typeIs aDR
  (aBW aDR hit.typeIs F.entry_tuple_iterator_next ?_ (F.args_tuple_iterator_next_1 _)))
 show wpAny _ _ (field (.ref it) 0 >>= _) _ _ s
 refine aAB (aBD ho hd (x:=.ref l) rfl ?_)
 show wpAny _ _ (if(Value.ref l==Value.none)=true then _ else _) _ _ s
 rw[aAC (show ¬((Value.ref l==Value.none)=true)from aBH)]
 show wpAny _ _ (field (.ref it) 1 >>= _) _ _ s
 refine aAB (aBD ho hd (x:=.int i 0) rfl ?_)
 show wpAny _ _ (seqItems? (.ref l) >>= _) _ _ s
 refine aAB (aDI hol hdl ?_)
 simp only[aCD,hx]
 refine aAB (aDE (aAB (aFB ho hd (by simp) ?_)))
 show wpAny _ _ (newExc (.type "StopIteration") [] >>= _) _ _ _
 refine aAB ?_
 simp only[newExc,newTuple]
 refine aAB (aBY ?_ (by size_fits))
 refine aAB (m:=firstArgMember _ _) (aCH (a:=Value.none) (by first|rfl|(simp only[firstArgMember];rfl)) ?_)
 refine aBY ?_ (by size_fits)
 simp only[raiseNew]
 refine aAB (wpAny_handled ?_)
 first|rw[show A.in1.handled=none from hh]|rw[hh]
 refine aAB (aAF (wpAny_throw ?_))
 exact hE _ _ (((aDZ ..).extBut.push _).push _) ⟨_,aAE _ rfl,rfl⟩
noncomputable def It1(h:Heap)(it src:Addr)(i:Nat)(xs:Array Value):Prop:=(h.IsListIter it src i/\h.IsList src xs)\/(h.IsTupleIter it src i/\h.IsTuple src xs)
theorem It1.at{h h':Heap}{it src:Addr}{i:Nat}{xs:Array Value}(x:It1 h it src i xs)(k1:∀o,h.get? it=some o->h'.get? it=some o)(k2:∀o,h.get? src=some o->h'.get? src=some o):It1 h' it src i xs:=by
 rcases x with⟨a,b⟩|⟨a,b⟩
 ·exact .inl ⟨a.at k1,b.at k2⟩
 ·refine .inr ⟨a.at k1,?_⟩
  obtain⟨o,ho,r⟩:=b
  exact⟨o,k2 o ho,r⟩
theorem It1.ne(x:It1 h it src i xs):src≠it:=by
 rintro rfl
 rcases x with⟨⟨o,e,c,_⟩,⟨o',e',c',_⟩⟩|⟨⟨o,e,c,_⟩,⟨o',e',c',_⟩⟩ <;> (rw[e]at e';cases e';rw[c]at c';simp at c')
theorem It1.next(h:It1 s.heap it src i xs)(hx:xs[i]?=some x)(hQ:∀h',It1 h' it src (i+1) xs->Heap.SameBut it s.heap h'->Q x {s with heap:=h'}) :
  wpAny (model prog w) A (Builtin.SmallTypes.nextOf (.ref it)) Q E s:=by
 have hn:=h.ne
 rcases h with⟨a,b⟩|⟨a,b⟩
 ·exact wpAny_nextOf_list_item a b hx λh' a' sb=>hQ h' (.inl ⟨a',b.extBut sb.extBut hn⟩) sb
 ·exact mU a b hx λh' a' sb=>hQ h' (.inr ⟨a',b.extBut sb.extBut hn⟩) sb
theorem It1.stop(hh:A.handled=none)(h:It1 s.heap it src i xs)(hx:xs[i]?=none)
  (hE:∀h' e,Heap.ExtBut it s.heap h'->(∃o,h'.get? e=some o/\o.cls=.type "StopIteration")->E (.ref e) {s with heap:=h'}):wpAny (model prog w) A (Builtin.SmallTypes.nextOf (.ref it)) Q E s:=by
 rcases h with⟨a,b⟩|⟨a,b⟩
 ·exact wpAny_nextOf_list_end hh a b hx hE
 ·exact oN hh a b hx hE
theorem loadAlive{a:Addr}{Q:Option Obj->Shared->Prop}(h:Q (s.heap.get? a) s):wpAny (model prog w) A (loadIfAlive a) Q E s:=by
 intro Γ p hΓ
 show Sem.wp _ _ (Sem.loadIfAlive a _) _ _ _ _
 rw[Sem.wp_loadIfAlive]
 simpa using h
noncomputable abbrev zobj(TI TO:Addr)(f0 f1:Value):Obj:={cls:=.type "zip",dict:=none,data:=.fields #[f0,f1,.bool false,.ref TI,.ref TO],slots:=#[]}
structure Ap(z TI TO i1 i2 l1 l2:Addr):Prop where
 TIz:TI≠z
 TOz:TO≠z
 i1z:i1≠z
 i2z:i2≠z
 TITO:TI≠TO
 TIi1:TI≠i1
 TIi2:TI≠i2
 TOi1:TO≠i1
 TOi2:TO≠i2
 i12:i1≠i2
 l1z:l1≠z
 l1TO:l1≠TO
 l1i1:l1≠i1
 l1i2:l1≠i2
 l2z:l2≠z
 l2TO:l2≠TO
 l2i1:l2≠i1
 l2i2:l2≠i2
structure Zs(h:Heap)(z TI TO i1 i2 l1 l2:Addr)(i:Nat)(xs ys:Array Value):Prop where
 z:∃f0 f1,h.get? z=some (zobj TI TO f0 f1)/\(f0=.none\/∃T:Nat,f0=rawInt T)
 ti:IsPair h TI (.ref i1) (.ref i2)
 to:∃a b,IsPair h TO a b
 a:It1 h i1 l1 i xs
 b:It1 h i2 l2 i ys
theorem aCg{TI TO:Addr}{f0 f1:Value}{Q:Bool->Shared->Prop}(hz:s.heap.get? z=some (zobj TI TO f0 f1))(hf:f0=.none\/∃T:Nat,f0=rawInt T)(h1:Q true s)(h2:∀h' f1',h'.get? z=some (zobj TI TO f0 f1')->Heap.SameBut z s.heap h'->Q false {s with heap:=h'}) :
  wpAny (model prog w) A (Builtin.SmallTypes.ownedTupleIsFree (.ref z)) Q E s:=by
 unfold Builtin.SmallTypes.ownedTupleIsFree
 refine aAB (aBD hz rfl (x:=f0) rfl ?_)
 rcases hf with rfl|⟨T,rfl⟩
 ·exact aAF h1
 ·show wpAny _ _ (loadIfAlive _ >>= _) _ _ _
  refine aAB (loadAlive ?_)
  cases q:s.heap.get? ((T:Int).toNat)with
  |none=>exact aAF h1
  |some o =>
   show wpAny _ _ (field (.ref z) 1 >>= _) _ _ _
   refine aAB (aBD hz rfl (x:=f1) rfl ?_)
   by_cases hb:(f1 != .bool true)=true
   ·rw[aAG hb]
    refine aAB (aBS hz (by simp) λh1 hz1 hs1=>aAF (h2 h1 _ hz1 hs1))
   ·rw[aAC hb]
    exact aAF (h2 s.heap f1 hz ⟨rfl,λ_ _=>rfl⟩)
theorem zip_next_item{TI TO i1 i2:Addr}{y:Value}(D:Ap z TI TO i1 i2 l1 l2)(Z:Zs s.heap z TI TO i1 i2 l1 l2 k xs ys)(hx:xs[k]?=some x)(hy:ys[k]?=some y)
  (hQ:∀h' T,Zs h' z TI TO i1 i2 l1 l2 (k+1) xs ys->IsPair h' T x y->s.heap.objs.size<=T->(∀c o,c≠z->c≠TO->c≠i1->c≠i2->s.heap.get? c=some o->h'.get? c=some o)->Q (.ref T) {s with heap:=h'}) :
  wpAny (model prog w) A (Builtin.«zip.__next__» ⟨[.ref z],[]⟩) (λfin s'=>∃v,fin=.done (.ret v)/\Q v s') E s:=by
 obtain⟨⟨f0,f1,hz,hf⟩,hTI,⟨a,b,hTO⟩,h1,h2⟩:=Z
 show wpAny _ _ (field (.ref z) 2 >>= _) _ _ _
 refine aAB (aBD hz rfl (x:=.bool false) rfl ?_)
 show wpAny _ _ (field (.ref z) 3 >>= _) _ _ _
 refine aAB (aBD hz rfl (x:=.ref TI) rfl ?_)
 refine aAB (aDI hTI rfl ?_)
 show wpAny _ _ (Builtin.SmallTypes.ownedTupleIsFree (.ref z) >>= _) _ _ _
 refine aAB (aCg hz hf ?_ λh₁ f1' hz₁ hs₁=>?_)
 ·simp only[aBT]
  refine aAB (aDE ?_)
  refine aAB (aBD hz rfl (x:=.ref TO) rfl ?_)
  refine aAB (aBS hz (by simp) λh₁ hz₁ hs₁=>?_)
  replace hz₁:h₁.get? z=some (zobj TI TO .ellipsis f1):=hz₁
  refine aAB ?_
  simp only[List.zipIdx_cons,List.zipIdx_nil,aEE,aGJ]
  refine aAB (aAB (aGR ?_))
  show wpAny _ _ (Builtin.SmallTypes.nextOf (.ref i1) >>= _) _ _ _
  refine aAB (It1.next (h1.at (λo e=>hs₁.extBut _ _ D.i1z e) λo e=>hs₁.extBut _ _ D.l1z e) hx λh₂ h1₂ hs₂=>aAF ?_)
  have hTO₂:IsPair h₂ TO a b:=hs₂.extBut _ _ D.TOi1 (hs₁.extBut _ _ D.TOz hTO)
  refine aAB (aDI hTO₂ rfl ?_)
  refine aAB (aGB hTO₂ λh₃ hTO₃ hs₃=>?_)
  replace hTO₃:IsPair h₃ TO x b:=hTO₃
  refine aAB (wpAny_letGo (aAF ?_))
  refine aAB (aAB (aGR ?_))
  show wpAny _ _ (Builtin.SmallTypes.nextOf (.ref i2) >>= _) _ _ _
  refine aAB (It1.next (h2.at (λo e=>hs₃.extBut _ _ D.TOi2.symm (hs₂.extBut _ _ D.i12.symm (hs₁.extBut _ _ D.i2z e))) λo e=>hs₃.extBut _ _ D.l2TO (hs₂.extBut _ _ D.l2i1 (hs₁.extBut _ _ D.l2z e))) hy λh₄ h2₄ hs₄=>aAF ?_)
  have hTO₄:IsPair h₄ TO x b:=hs₄.extBut _ _ D.TOi2 hTO₃
  refine aAB (aDI hTO₄ rfl ?_)
  refine aAB (aGB hTO₄ λh₅ hTO₅ hs₅=>?_)
  replace hTO₅:IsPair h₅ TO x y:=hTO₅
  refine aAB (wpAny_letGo (aAF (aAF ?_)))
  refine aAB (aDI hTO₅ rfl ?_)
  refine aAB (aGL ?_)
  have hsz:h₅.objs.size=s.heap.objs.size:=by rw[hs₅.1,hs₄.1,hs₃.1,hs₂.1,hs₁.1]
  have hz₅:h₅.get? z=some (zobj TI TO .ellipsis f1):=hs₅.extBut _ _ D.TOz.symm (hs₄.extBut _ _ D.i2z.symm (hs₃.extBut _ _ D.TOz.symm (hs₂.extBut _ _ D.i1z.symm hz₁)))
  have hk₅:∀c o,c≠z->c≠TO->c≠i1->c≠i2->s.heap.get? c=some o->h₅.get? c=some o:=λc o c1 c2 c3 c4 e =>
   hs₅.extBut _ _ c2 (hs₄.extBut _ _ c4 (hs₃.extBut _ _ c2 (hs₂.extBut _ _ c3 (hs₁.extBut _ _ c1 e))))
  have h1₅:It1 h₅ i1 l1 (k+1) xs:=h1₂.at (λo e=>hs₅.extBut _ _ D.TOi1.symm (hs₄.extBut _ _ D.i12 (hs₃.extBut _ _ D.TOi1.symm e))) λo e=>hs₅.extBut _ _ D.l1TO (hs₄.extBut _ _ D.l1i2 (hs₃.extBut _ _ D.l1TO e))
  have h2₅:It1 h₅ i2 l2 (k+1) ys:=h2₄.at (λo e=>hs₅.extBut _ _ D.TOi2.symm e) λo e=>hs₅.extBut _ _ D.l2TO e
  have hzlt:z < h₅.objs.size:=aAJ hz₅
  show wpAny _ _ (Builtin.SmallTypes.ownedTupleHandOut (.ref z) (.ref h₅.objs.size) >>= _) _ _ _
  refine aAB ?_
  unfold Builtin.SmallTypes.ownedTupleHandOut
  have hz₆:(h₅.push {cls:=.type "tuple",data:=.seq #[x,y]}).get? z=some (zobj TI TO .ellipsis f1):=aAA _ hz₅
  refine aAB (aBS hz₆ (by simp) λh₇ hz₇ hs₇=>?_)
  replace hz₇:h₇.get? z=some (zobj TI TO (rawInt h₅.objs.size) f1):=hz₇
  refine aBS hz₇ (by simp) λh₈ hz₈ hs₈=>?_
  replace hz₈:h₈.get? z=some (zobj TI TO (rawInt h₅.objs.size) (.bool false)):=hz₈
  have up:∀c o,c≠z->h₅.get? c=some o->h₈.get? c=some o:=λc o c1 e=>hs₈.extBut _ _ c1 (hs₇.extBut _ _ c1 (aAA _ e))
  have hT₈:IsPair h₈ h₅.objs.size x y:=hs₈.extBut _ _ (aEN hzlt) (hs₇.extBut _ _ (aEN hzlt) (aAE _ rfl))
  refine aAF ⟨_,rfl,hQ h₈ h₅.objs.size ⟨⟨_,_,hz₈,.inr ⟨_,rfl⟩⟩,up _ _ D.TIz (hk₅ _ _ D.TIz D.TITO D.TIi1 D.TIi2 hTI),⟨_,_,up _ _ D.TOz hTO₅⟩,h1₅.at (λo e=>up _ o D.i1z e) λo e=>up _ o D.l1z e,h2₅.at (λo e=>up _ o D.i2z e) λo e=>up _ o D.l2z e⟩ hT₈ (by rw[hsz];exact aAH _) λc o c1 c2 c3 c4 e=>up c o c1 (hk₅ c o c1 c2 c3 c4 e)⟩
 ·simp only[aAY,aCG]
  refine aAB ?_
  simp only[List.forIn_toArray,aEE,aGJ]
  refine aAB (aAB (aBN ?_))
  show wpAny _ _ (Builtin.SmallTypes.nextOf (.ref i1) >>= _) _ _ _
  refine aAB (It1.next (h1.at (λo e=>hs₁.extBut _ _ D.i1z e) λo e=>hs₁.extBut _ _ D.l1z e) hx λh₂ h1₂ hs₂=>aAF (aAF ?_))
  refine aAB (aAB (aBN ?_))
  show wpAny _ _ (Builtin.SmallTypes.nextOf (.ref i2) >>= _) _ _ _
  refine aAB (It1.next (h2.at (λo e=>hs₂.extBut _ _ D.i12.symm (hs₁.extBut _ _ D.i2z e)) λo e=>hs₂.extBut _ _ D.l2i1 (hs₁.extBut _ _ D.l2z e)) hy λh₃ h2₃ hs₃=>aAF (aAF (aAF ?_)))
  show wpAny _ _ (newTuple [x,y] >>= _) _ _ _
  refine aAB (aGL ?_)
  have hsz:h₃.objs.size=s.heap.objs.size:=by rw[hs₃.1,hs₂.1,hs₁.1]
  have kp:∀c o,c≠z->c≠i1->c≠i2->s.heap.get? c=some o->(h₃.push {cls:=.type "tuple",data:=.seq #[x,y]}).get? c=some o:=λc o c1 c2 c3 e=>aAA _ (hs₃.extBut _ _ c3 (hs₂.extBut _ _ c2 (hs₁.extBut _ _ c1 e)))
  refine aAF ⟨_,rfl,hQ _ h₃.objs.size ⟨⟨f0,f1',aAA _ (hs₃.extBut _ _ D.i2z.symm (hs₂.extBut _ _ D.i1z.symm hz₁)),hf⟩,kp _ _ D.TIz D.TIi1 D.TIi2 hTI,⟨_,_,kp _ _ D.TOz D.TOi1 D.TOi2 hTO⟩,?_,?_⟩ (aAE _ rfl) (by rw[hsz];exact aAH _) λc o c1 c2 c3 c4 e=>kp c o c1 c3 c4 e⟩
  ·exact h1₂.at (λo e=>aAA _ (hs₃.extBut _ _ D.i12 e)) λo e=>aAA _ (hs₃.extBut _ _ D.l1i2 e)
  ·exact h2₃.at (λo e=>aAA _ e) λo e=>aAA _ e
theorem zip_next_end{TI TO i1 i2:Addr}{Q:Fin->Shared->Prop}(hh:A.handled=none)(D:Ap z TI TO i1 i2 l1 l2)(Z:Zs s.heap z TI TO i1 i2 l1 l2 k xs ys)(hend:xs[k]?=none\/ys[k]?=none)
  (hE:∀h' e,(∀c o,c≠z->c≠TO->c≠i1->c≠i2->s.heap.get? c=some o->h'.get? c=some o)->(∃o,h'.get? e=some o/\o.cls=.type "StopIteration")->E (.ref e) {s with heap:=h'}) :
  wpAny (model prog w) A (Builtin.«zip.__next__» ⟨[.ref z],[]⟩) Q E s:=by
 obtain⟨⟨f0,f1,hz,hf⟩,hTI,⟨a,b,hTO⟩,h1,h2⟩:=Z
 show wpAny _ _ (field (.ref z) 2 >>= _) _ _ _
 refine aAB (aBD hz rfl (x:=.bool false) rfl ?_)
 show wpAny _ _ (field (.ref z) 3 >>= _) _ _ _
 refine aAB (aBD hz rfl (x:=.ref TI) rfl ?_)
 refine aAB (aDI hTI rfl ?_)
 show wpAny _ _ (Builtin.SmallTypes.ownedTupleIsFree (.ref z) >>= _) _ _ _
 refine aAB (aCg hz hf ?_ λh₁ f1' hz₁ hs₁=>?_)
 ·simp only[aBT]
  refine aAB (aDE ?_)
  refine aAB (aBD hz rfl (x:=.ref TO) rfl ?_)
  refine aAB (aBS hz (by simp) λh₁ hz₁ hs₁=>?_)
  replace hz₁:h₁.get? z=some (zobj TI TO .ellipsis f1):=hz₁
  refine aAB ?_
  simp only[List.zipIdx_cons,List.zipIdx_nil,aEE,aGJ]
  refine aAB (aAB (aGR ?_))
  show wpAny _ _ (Builtin.SmallTypes.nextOf (.ref i1) >>= _) _ _ _
  have h1':=h1.at (h':=h₁) (λo e=>hs₁.extBut _ _ D.i1z e) λo e=>hs₁.extBut _ _ D.l1z e
  cases hx:xs[k]? with
  |none =>
   refine aAB (It1.stop hh h1' hx λh₂ e hs₂ he=>?_)
   obtain⟨oe,hoe,hce⟩:=he
   have hz₂:h₂.get? z=some (zobj TI TO .ellipsis f1):=hs₂ _ _ D.i1z.symm hz₁
   have hez:e≠z:=λx=>by subst x;rw[hz₂]at hoe;cases hoe;simp at hce
   exact aBS hz₂ (by simp) λh₃ _ hs₃=>hE h₃ e (λc o c1 _ c3 _ x=>hs₃.extBut _ _ c1 (hs₂ _ _ c3 (hs₁.extBut _ _ c1 x))) ⟨oe,hs₃.extBut _ _ hez hoe,hce⟩
  |some x =>
   have hy:ys[k]?=none:=by rcases hend with h|h;rw[hx]at h;cases h;exact h
   refine aAB (It1.next h1' hx λh₂ h1₂ hs₂=>aAF ?_)
   have hTO₂:IsPair h₂ TO a b:=hs₂.extBut _ _ D.TOi1 (hs₁.extBut _ _ D.TOz hTO)
   refine aAB (aDI hTO₂ rfl ?_)
   refine aAB (aGB hTO₂ λh₃ hTO₃ hs₃=>?_)
   refine aAB (wpAny_letGo (aAF ?_))
   refine aAB (aAB (aGR ?_))
   show wpAny _ _ (Builtin.SmallTypes.nextOf (.ref i2) >>= _) _ _ _
   refine aAB (It1.stop hh (h2.at (λo e=>hs₃.extBut _ _ D.TOi2.symm (hs₂.extBut _ _ D.i12.symm (hs₁.extBut _ _ D.i2z e))) λo e=>hs₃.extBut _ _ D.l2TO (hs₂.extBut _ _ D.l2i1 (hs₁.extBut _ _ D.l2z e))) hy λh₄ e hs₄ he=>?_)
   obtain⟨oe,hoe,hce⟩:=he
   have hz₄:h₄.get? z=some (zobj TI TO .ellipsis f1):=hs₄ _ _ D.i2z.symm (hs₃.extBut _ _ D.TOz.symm (hs₂.extBut _ _ D.i1z.symm hz₁))
   have hez:e≠z:=λx=>by subst x;rw[hz₄]at hoe;cases hoe;simp at hce
   exact aBS hz₄ (by simp) λh₅ _ hs₅=>hE h₅ e (λc o c1 c2 c3 c4 x=>hs₅.extBut _ _ c1 (hs₄ _ _ c4 (hs₃.extBut _ _ c2 (hs₂.extBut _ _ c3 (hs₁.extBut _ _ c1 x))))) ⟨oe,hs₅.extBut _ _ hez hoe,hce⟩
 ·simp only[aAY,aCG]
  refine aAB ?_
  simp only[List.forIn_toArray,aEE,aGJ]
  refine aAB (aAB (aBN ?_))
  show wpAny _ _ (Builtin.SmallTypes.nextOf (.ref i1) >>= _) _ _ _
  have h1':=h1.at (h':=h₁) (λo e=>hs₁.extBut _ _ D.i1z e) λo e=>hs₁.extBut _ _ D.l1z e
  cases hx:xs[k]? with
  |none=>exact aAB (It1.stop hh h1' hx λh₂ e hs₂ he=>hE h₂ e (λc o c1 _ c3 _ x=>hs₂ _ _ c3 (hs₁.extBut _ _ c1 x)) he)
  |some x =>
   have hy:ys[k]?=none:=by rcases hend with h|h;rw[hx]at h;cases h;exact h
   refine aAB (It1.next h1' hx λh₂ h1₂ hs₂=>aAF (aAF ?_))
   refine aAB (aAB (aBN ?_))
   show wpAny _ _ (Builtin.SmallTypes.nextOf (.ref i2) >>= _) _ _ _
   exact aAB (It1.stop hh (h2.at (λo e=>hs₂.extBut _ _ D.i12.symm (hs₁.extBut _ _ D.i2z e)) λo e=>hs₂.extBut _ _ D.l2i1 (hs₁.extBut _ _ D.l2z e)) hy λh₃ e hs₃ he=>hE h₃ e (λc o c1 _ c3 c4 x=>hs₃ _ _ c4 (hs₂.extBut _ _ c3 (hs₁.extBut _ _ c1 x))) he)
noncomputable abbrev zH1LL(h:Heap)(l1:Addr):Heap:=h.push {cls:=.type "list_iterator",data:=.fields #[.ref l1,.int 0 0]}
noncomputable abbrev zH2LL(h:Heap)(l1 l2:Addr):Heap:=(zH1LL h l1).push {cls:=.type "list_iterator",data:=.fields #[.ref l2,.int 0 0]}
noncomputable abbrev zH3LL(h:Heap)(l1 l2:Addr):Heap:=(zH2LL h l1 l2).push {cls:=.type "tuple",data:=.seq #[.ref h.objs.size,.ref (zH1LL h l1).objs.size]}
noncomputable abbrev zH4LL(h:Heap)(l1 l2:Addr):Heap:=(zH3LL h l1 l2).push {cls:=.type "tuple",data:=.seq #[.none,.none]}
noncomputable abbrev zH5LL(h:Heap)(l1 l2:Addr):Heap:=(zH4LL h l1 l2).push {cls:=.type "zip",data:=.fields #[.none,.bool false,.bool false,.ref (zH2LL h l1 l2).objs.size,.ref (zH3LL h l1 l2).objs.size]}
theorem wL(l1 l2:Addr)(xs ys:Array Value) :
  Meets (Builtin.«zip.__new__» ⟨[.type "zip",.ref l1,.ref l2],[]⟩) (λ_ R s=>s.heap.IsList l1 xs/\s.heap.IsList l2 ys /\
   R (.ok (.ret (.ref (zH4LL s.heap l1 l2).objs.size))) {s with heap:=zH5LL s.heap l1 l2}) :=
 .of_wp λprog w A R s h=>by
  obtain⟨hp,g,d,tk,os⟩:=s;obtain⟨hl1,hl2,h⟩:=h
  have hsub:=sub_zip
  have hL1:Heap.IsList (Shared.heap ⟨hp,g,d,tk,os⟩) l1 xs:=hl1
  have hL2:Heap.IsList (Shared.heap ⟨hp.push {cls:=.type "list_iterator",data:=.fields #[.ref l1,.int 0 0]},g,d,tk,os⟩) l2 ys:=by
   obtain⟨o,ho,r⟩:=hl2
   exact⟨o,aAA _ ho,r⟩
  wp_walk using aDF hL1,aDF hL2
  exact⟨_,rfl,h⟩
theorem yP(hl1:s.heap.IsList l1 xs)(hl2:s.heap.IsList l2 ys)
  (h:∀h',Zs h' (s.heap.objs.size+4) (s.heap.objs.size+2) (s.heap.objs.size+3) s.heap.objs.size (s.heap.objs.size+1) l1 l2 0 xs ys->h'.objs.size=s.heap.objs.size+5 ->
   (∀c o,s.heap.get? c=some o->h'.get? c=some o)->Q (.ref (s.heap.objs.size+4)) {s with heap:=h'}) :
  wpAny (model prog w) A (call (.type "zip") [.ref l1,.ref l2]) Q E s:=by
 refine aEL F.called_zip (by decide) (aFK _ _) (aGD _ _) (λobj=>aEQ obj _ _) aFZ
  (wL l1 l2 xs ys) ⟨hl1,hl2,?_⟩
 have z1:(zH1LL s.heap l1).objs.size=s.heap.objs.size+1:=aAW ..
 have z2:(zH2LL s.heap l1 l2).objs.size=s.heap.objs.size+2:=by rw[aAW,z1]
 have z3:(zH3LL s.heap l1 l2).objs.size=s.heap.objs.size+3:=by rw[aAW,z2]
 have z4:(zH4LL s.heap l1 l2).objs.size=s.heap.objs.size+4:=by rw[aAW,z3]
 have z5:(zH5LL s.heap l1 l2).objs.size=s.heap.objs.size+5:=by rw[aAW,z4]
 have g5:(zH5LL s.heap l1 l2).get? (zH4LL s.heap l1 l2).objs.size=some _:=aAE _ rfl
 have g4:(zH5LL s.heap l1 l2).get? (zH3LL s.heap l1 l2).objs.size=some _:=aAA _ (aAE _ rfl)
 have g3:(zH5LL s.heap l1 l2).get? (zH2LL s.heap l1 l2).objs.size=some _:=aAA _ (aAA _ (aAE _ rfl))
 have g2:(zH5LL s.heap l1 l2).get? (zH1LL s.heap l1).objs.size=some _:=aAA _ (aAA _ (aAA _ (aAE _ rfl)))
 have g1:(zH5LL s.heap l1 l2).get? s.heap.objs.size=some _:=aAA _ (aAA _ (aAA _ (aAA _ (aAE _ rfl))))
 have kp:∀c o,s.heap.get? c=some o->(zH5LL s.heap l1 l2).get? c=some o:=λc o x =>
  aAA _ (aAA _ (aAA _ (aAA _ (aAA _ x))))
 show _/\_
 rw[z2,z3,z4]at g5
 rw[z1,z2]at g3
 rw[z3]at g4
 rw[z1]at g2
 rw[z4]
 refine⟨⟨_,g5,rfl⟩,h _ ⟨⟨_,_,g5,.inl rfl⟩,g3,⟨_,_,g4⟩,.inl ⟨⟨_,g1,rfl,rfl⟩,?_⟩,.inl ⟨⟨_,g2,rfl,rfl⟩,?_⟩⟩ z5 kp⟩
 ·obtain⟨o,ho,r⟩:=hl1;exact⟨o,kp _ _ ho,r⟩
 ·obtain⟨o,ho,r⟩:=hl2;exact⟨o,kp _ _ ho,r⟩
noncomputable abbrev zH1LT(h:Heap)(l1:Addr):Heap:=h.push {cls:=.type "list_iterator",data:=.fields #[.ref l1,.int 0 0]}
noncomputable abbrev zH2LT(h:Heap)(l1 l2:Addr):Heap:=(zH1LT h l1).push {cls:=.type "tuple_iterator",data:=.fields #[.ref l2,.int 0 0]}
noncomputable abbrev zH3LT(h:Heap)(l1 l2:Addr):Heap:=(zH2LT h l1 l2).push {cls:=.type "tuple",data:=.seq #[.ref h.objs.size,.ref (zH1LT h l1).objs.size]}
noncomputable abbrev zH4LT(h:Heap)(l1 l2:Addr):Heap:=(zH3LT h l1 l2).push {cls:=.type "tuple",data:=.seq #[.none,.none]}
noncomputable abbrev zH5LT(h:Heap)(l1 l2:Addr):Heap:=(zH4LT h l1 l2).push {cls:=.type "zip",data:=.fields #[.none,.bool false,.bool false,.ref (zH2LT h l1 l2).objs.size,.ref (zH3LT h l1 l2).objs.size]}
theorem xO(l1 l2:Addr)(xs ys:Array Value) :
  Meets (Builtin.«zip.__new__» ⟨[.type "zip",.ref l1,.ref l2],[]⟩) (λ_ R s=>s.heap.IsList l1 xs/\s.heap.IsTuple l2 ys /\
   R (.ok (.ret (.ref (zH4LT s.heap l1 l2).objs.size))) {s with heap:=zH5LT s.heap l1 l2}) :=
 .of_wp λprog w A R s h=>by
  obtain⟨hp,g,d,tk,os⟩:=s;obtain⟨hl1,hl2,h⟩:=h
  have hsub:=sub_zip
  have hL1:Heap.IsList (Shared.heap ⟨hp,g,d,tk,os⟩) l1 xs:=hl1
  have hL2:Heap.IsTuple (Shared.heap ⟨hp.push {cls:=.type "list_iterator",data:=.fields #[.ref l1,.int 0 0]},g,d,tk,os⟩) l2 ys:=by
   obtain⟨o,ho,r⟩:=hl2
   exact⟨o,aAA _ ho,r⟩
  wp_walk using aDF hL1,aCK hL2
  exact⟨_,rfl,h⟩
theorem yT(hl1:s.heap.IsList l1 xs)(hl2:s.heap.IsTuple l2 ys)
  (h:∀h',Zs h' (s.heap.objs.size+4) (s.heap.objs.size+2) (s.heap.objs.size+3) s.heap.objs.size (s.heap.objs.size+1) l1 l2 0 xs ys->h'.objs.size=s.heap.objs.size+5 ->
   (∀c o,s.heap.get? c=some o->h'.get? c=some o)->Q (.ref (s.heap.objs.size+4)) {s with heap:=h'}) :
  wpAny (model prog w) A (call (.type "zip") [.ref l1,.ref l2]) Q E s:=by
 refine aEL F.called_zip (by decide) (aFK _ _) (aGD _ _) (λobj=>aEQ obj _ _) aFZ
  (xO l1 l2 xs ys) ⟨hl1,hl2,?_⟩
 have z1:(zH1LT s.heap l1).objs.size=s.heap.objs.size+1:=aAW ..
 have z2:(zH2LT s.heap l1 l2).objs.size=s.heap.objs.size+2:=by rw[aAW,z1]
 have z3:(zH3LT s.heap l1 l2).objs.size=s.heap.objs.size+3:=by rw[aAW,z2]
 have z4:(zH4LT s.heap l1 l2).objs.size=s.heap.objs.size+4:=by rw[aAW,z3]
 have z5:(zH5LT s.heap l1 l2).objs.size=s.heap.objs.size+5:=by rw[aAW,z4]
 have g5:(zH5LT s.heap l1 l2).get? (zH4LT s.heap l1 l2).objs.size=some _:=aAE _ rfl
 have g4:(zH5LT s.heap l1 l2).get? (zH3LT s.heap l1 l2).objs.size=some _:=aAA _ (aAE _ rfl)
 have g3:(zH5LT s.heap l1 l2).get? (zH2LT s.heap l1 l2).objs.size=some _:=aAA _ (aAA _ (aAE _ rfl))
 have g2:(zH5LT s.heap l1 l2).get? (zH1LT s.heap l1).objs.size=some _:=aAA _ (aAA _ (aAA _ (aAE _ rfl)))
 have g1:(zH5LT s.heap l1 l2).get? s.heap.objs.size=some _:=aAA _ (aAA _ (aAA _ (aAA _ (aAE _ rfl))))
 have kp:∀c o,s.heap.get? c=some o->(zH5LT s.heap l1 l2).get? c=some o:=λc o x =>
  aAA _ (aAA _ (aAA _ (aAA _ (aAA _ x))))
 show _/\_
 rw[z2,z3,z4]at g5
 rw[z1,z2]at g3
 rw[z3]at g4
 rw[z1]at g2
 rw[z4]
 refine⟨⟨_,g5,rfl⟩,h _ ⟨⟨_,_,g5,.inl rfl⟩,g3,⟨_,_,g4⟩,.inl ⟨⟨_,g1,rfl,rfl⟩,?_⟩,.inr ⟨⟨_,g2,rfl,rfl⟩,?_⟩⟩ z5 kp⟩
 ·obtain⟨o,ho,r⟩:=hl1;exact⟨o,kp _ _ ho,r⟩
 ·obtain⟨o,ho,r⟩:=hl2;exact⟨o,kp _ _ ho,r⟩
noncomputable abbrev zH1TL(h:Heap)(l1:Addr):Heap:=h.push {cls:=.type "tuple_iterator",data:=.fields #[.ref l1,.int 0 0]}
noncomputable abbrev zH2TL(h:Heap)(l1 l2:Addr):Heap:=(zH1TL h l1).push {cls:=.type "list_iterator",data:=.fields #[.ref l2,.int 0 0]}
noncomputable abbrev zH3TL(h:Heap)(l1 l2:Addr):Heap:=(zH2TL h l1 l2).push {cls:=.type "tuple",data:=.seq #[.ref h.objs.size,.ref (zH1TL h l1).objs.size]}
noncomputable abbrev zH4TL(h:Heap)(l1 l2:Addr):Heap:=(zH3TL h l1 l2).push {cls:=.type "tuple",data:=.seq #[.none,.none]}
noncomputable abbrev zH5TL(h:Heap)(l1 l2:Addr):Heap:=(zH4TL h l1 l2).push {cls:=.type "zip",data:=.fields #[.none,.bool false,.bool false,.ref (zH2TL h l1 l2).objs.size,.ref (zH3TL h l1 l2).objs.size]}
theorem xE(l1 l2:Addr)(xs ys:Array Value) :
  Meets (Builtin.«zip.__new__» ⟨[.type "zip",.ref l1,.ref l2],[]⟩) (λ_ R s=>s.heap.IsTuple l1 xs/\s.heap.IsList l2 ys /\
   R (.ok (.ret (.ref (zH4TL s.heap l1 l2).objs.size))) {s with heap:=zH5TL s.heap l1 l2}) :=
 .of_wp λprog w A R s h=>by
  obtain⟨hp,g,d,tk,os⟩:=s;obtain⟨hl1,hl2,h⟩:=h
  have hsub:=sub_zip
  have hL1:Heap.IsTuple (Shared.heap ⟨hp,g,d,tk,os⟩) l1 xs:=hl1
  have hL2:Heap.IsList (Shared.heap ⟨hp.push {cls:=.type "tuple_iterator",data:=.fields #[.ref l1,.int 0 0]},g,d,tk,os⟩) l2 ys:=by
   obtain⟨o,ho,r⟩:=hl2
   exact⟨o,aAA _ ho,r⟩
  wp_walk using aCK hL1,aDF hL2
  exact⟨_,rfl,h⟩
theorem zL(hl1:s.heap.IsTuple l1 xs)(hl2:s.heap.IsList l2 ys)
  (h:∀h',Zs h' (s.heap.objs.size+4) (s.heap.objs.size+2) (s.heap.objs.size+3) s.heap.objs.size (s.heap.objs.size+1) l1 l2 0 xs ys->h'.objs.size=s.heap.objs.size+5 ->
   (∀c o,s.heap.get? c=some o->h'.get? c=some o)->Q (.ref (s.heap.objs.size+4)) {s with heap:=h'}) :
  wpAny (model prog w) A (call (.type "zip") [.ref l1,.ref l2]) Q E s:=by
 refine aEL F.called_zip (by decide) (aFK _ _) (aGD _ _) (λobj=>aEQ obj _ _) aFZ
  (xE l1 l2 xs ys) ⟨hl1,hl2,?_⟩
 have z1:(zH1TL s.heap l1).objs.size=s.heap.objs.size+1:=aAW ..
 have z2:(zH2TL s.heap l1 l2).objs.size=s.heap.objs.size+2:=by rw[aAW,z1]
 have z3:(zH3TL s.heap l1 l2).objs.size=s.heap.objs.size+3:=by rw[aAW,z2]
 have z4:(zH4TL s.heap l1 l2).objs.size=s.heap.objs.size+4:=by rw[aAW,z3]
 have z5:(zH5TL s.heap l1 l2).objs.size=s.heap.objs.size+5:=by rw[aAW,z4]
 have g5:(zH5TL s.heap l1 l2).get? (zH4TL s.heap l1 l2).objs.size=some _:=aAE _ rfl
 have g4:(zH5TL s.heap l1 l2).get? (zH3TL s.heap l1 l2).objs.size=some _:=aAA _ (aAE _ rfl)
 have g3:(zH5TL s.heap l1 l2).get? (zH2TL s.heap l1 l2).objs.size=some _:=aAA _ (aAA _ (aAE _ rfl))
 have g2:(zH5TL s.heap l1 l2).get? (zH1TL s.heap l1).objs.size=some _:=aAA _ (aAA _ (aAA _ (aAE _ rfl)))
 have g1:(zH5TL s.heap l1 l2).get? s.heap.objs.size=some _:=aAA _ (aAA _ (aAA _ (aAA _ (aAE _ rfl))))
 have kp:∀c o,s.heap.get? c=some o->(zH5TL s.heap l1 l2).get? c=some o:=λc o x =>
  aAA _ (aAA _ (aAA _ (aAA _ (aAA _ x))))
 show _/\_
 rw[z2,z3,z4]at g5
 rw[z1,z2]at g3
 rw[z3]at g4
 rw[z1]at g2
 rw[z4]
 refine⟨⟨_,g5,rfl⟩,h _ ⟨⟨_,_,g5,.inl rfl⟩,g3,⟨_,_,g4⟩,.inr ⟨⟨_,g1,rfl,rfl⟩,?_⟩,.inl ⟨⟨_,g2,rfl,rfl⟩,?_⟩⟩ z5 kp⟩
 ·obtain⟨o,ho,r⟩:=hl1;exact⟨o,kp _ _ ho,r⟩
 ·obtain⟨o,ho,r⟩:=hl2;exact⟨o,kp _ _ ho,r⟩
noncomputable abbrev zH1TT(h:Heap)(l1:Addr):Heap:=h.push {cls:=.type "tuple_iterator",data:=.fields #[.ref l1,.int 0 0]}
noncomputable abbrev zH2TT(h:Heap)(l1 l2:Addr):Heap:=(zH1TT h l1).push {cls:=.type "tuple_iterator",data:=.fields #[.ref l2,.int 0 0]}
noncomputable abbrev zH3TT(h:Heap)(l1 l2:Addr):Heap:=(zH2TT h l1 l2).push {cls:=.type "tuple",data:=.seq #[.ref h.objs.size,.ref (zH1TT h l1).objs.size]}
noncomputable abbrev zH4TT(h:Heap)(l1 l2:Addr):Heap:=(zH3TT h l1 l2).push {cls:=.type "tuple",data:=.seq #[.none,.none]}
noncomputable abbrev zH5TT(h:Heap)(l1 l2:Addr):Heap:=(zH4TT h l1 l2).push {cls:=.type "zip",data:=.fields #[.none,.bool false,.bool false,.ref (zH2TT h l1 l2).objs.size,.ref (zH3TT h l1 l2).objs.size]}
theorem wK(l1 l2:Addr)(xs ys:Array Value) :
  Meets (Builtin.«zip.__new__» ⟨[.type "zip",.ref l1,.ref l2],[]⟩) (λ_ R s=>s.heap.IsTuple l1 xs/\s.heap.IsTuple l2 ys /\
   R (.ok (.ret (.ref (zH4TT s.heap l1 l2).objs.size))) {s with heap:=zH5TT s.heap l1 l2}) :=
 .of_wp λprog w A R s h=>by
  obtain⟨hp,g,d,tk,os⟩:=s;obtain⟨hl1,hl2,h⟩:=h
  have hsub:=sub_zip
  have hL1:Heap.IsTuple (Shared.heap ⟨hp,g,d,tk,os⟩) l1 xs:=hl1
  have hL2:Heap.IsTuple (Shared.heap ⟨hp.push {cls:=.type "tuple_iterator",data:=.fields #[.ref l1,.int 0 0]},g,d,tk,os⟩) l2 ys:=by
   obtain⟨o,ho,r⟩:=hl2
   exact⟨o,aAA _ ho,r⟩
  wp_walk using aCK hL1,aCK hL2
  exact⟨_,rfl,h⟩
theorem zQ(hl1:s.heap.IsTuple l1 xs)(hl2:s.heap.IsTuple l2 ys)
  (h:∀h',Zs h' (s.heap.objs.size+4) (s.heap.objs.size+2) (s.heap.objs.size+3) s.heap.objs.size (s.heap.objs.size+1) l1 l2 0 xs ys->h'.objs.size=s.heap.objs.size+5 ->
   (∀c o,s.heap.get? c=some o->h'.get? c=some o)->Q (.ref (s.heap.objs.size+4)) {s with heap:=h'}) :
  wpAny (model prog w) A (call (.type "zip") [.ref l1,.ref l2]) Q E s:=by
 refine aEL F.called_zip (by decide) (aFK _ _) (aGD _ _) (λobj=>aEQ obj _ _) aFZ
  (wK l1 l2 xs ys) ⟨hl1,hl2,?_⟩
 have z1:(zH1TT s.heap l1).objs.size=s.heap.objs.size+1:=aAW ..
 have z2:(zH2TT s.heap l1 l2).objs.size=s.heap.objs.size+2:=by rw[aAW,z1]
 have z3:(zH3TT s.heap l1 l2).objs.size=s.heap.objs.size+3:=by rw[aAW,z2]
 have z4:(zH4TT s.heap l1 l2).objs.size=s.heap.objs.size+4:=by rw[aAW,z3]
 have z5:(zH5TT s.heap l1 l2).objs.size=s.heap.objs.size+5:=by rw[aAW,z4]
 have g5:(zH5TT s.heap l1 l2).get? (zH4TT s.heap l1 l2).objs.size=some _:=aAE _ rfl
 have g4:(zH5TT s.heap l1 l2).get? (zH3TT s.heap l1 l2).objs.size=some _:=aAA _ (aAE _ rfl)
 have g3:(zH5TT s.heap l1 l2).get? (zH2TT s.heap l1 l2).objs.size=some _:=aAA _ (aAA _ (aAE _ rfl))
 have g2:(zH5TT s.heap l1 l2).get? (zH1TT s.heap l1).objs.size=some _:=aAA _ (aAA _ (aAA _ (aAE _ rfl)))
 have g1:(zH5TT s.heap l1 l2).get? s.heap.objs.size=some _:=aAA _ (aAA _ (aAA _ (aAA _ (aAE _ rfl))))
 have kp:∀c o,s.heap.get? c=some o->(zH5TT s.heap l1 l2).get? c=some o:=λc o x =>
  aAA _ (aAA _ (aAA _ (aAA _ (aAA _ x))))
 show _/\_
 rw[z2,z3,z4]at g5
 rw[z1,z2]at g3
 rw[z3]at g4
 rw[z1]at g2
 rw[z4]
 refine⟨⟨_,g5,rfl⟩,h _ ⟨⟨_,_,g5,.inl rfl⟩,g3,⟨_,_,g4⟩,.inr ⟨⟨_,g1,rfl,rfl⟩,?_⟩,.inr ⟨⟨_,g2,rfl,rfl⟩,?_⟩⟩ z5 kp⟩
 ·obtain⟨o,ho,r⟩:=hl1;exact⟨o,kp _ _ ho,r⟩
 ·obtain⟨o,ho,r⟩:=hl2;exact⟨o,kp _ _ ho,r⟩
theorem call_zipG(h1:s.heap.IsList l1 xs\/s.heap.IsTuple l1 xs)(h2:s.heap.IsList l2 ys\/s.heap.IsTuple l2 ys)
  (h:∀h',Zs h' (s.heap.objs.size+4) (s.heap.objs.size+2) (s.heap.objs.size+3) s.heap.objs.size (s.heap.objs.size+1) l1 l2 0 xs ys->h'.objs.size=s.heap.objs.size+5 ->
   (∀c o,s.heap.get? c=some o->h'.get? c=some o)->Q (.ref (s.heap.objs.size+4)) {s with heap:=h'}) :
  wpAny (model prog w) A (call (.type "zip") [.ref l1,.ref l2]) Q E s:=by
 rcases h1 with h1|h1 <;> rcases h2 with h2|h2
 ·exact yP h1 h2 h
 ·exact yT h1 h2 h
 ·exact zL h1 h2 h
 ·exact zQ h1 h2 h
variable{R:Result->Shared->Prop}
theorem ap_of{n l1 l2:Nat}(h1:l1 < n)(h2:l2 < n):Ap (n+4) (n+2) (n+3) n (n+1) l1 l2:=by
 constructor <;> (show(_:Nat)≠(_:Nat);lia)
end ZP
namespace EV
open L2
variable{σ:L2.St}{K:Frag}{a b:Expr}{q:Pos}
noncomputable def zipT(xs ys:List D):List D:=(xs.zip ys).map λp=>.tup [p.1,p.2]
end EV
namespace RT
theorem fH:Slot "reversed" "__next__" "reversed.__next__" :=
 .of (owner:="reversed") (n:="__next__") (by rw[aGA,aEO];kernel_rfl) (by decide +kernel) (by decide +kernel) (by decide +kernel)
  (by first|exact .inl (by decide +kernel)|exact .inr (by decide +kernel)) (by rw[aEK];kernel_rfl)
theorem nD:Slot "reversed" "__iter__" "reversed.__iter__" :=
 .of (owner:="reversed") (n:="__iter__") (by rw[aGA,aEO];kernel_rfl) (by decide +kernel) (by decide +kernel) (by decide +kernel)
  (by first|exact .inl (by decide +kernel)|exact .inr (by decide +kernel)) (by rw[aEK];kernel_rfl)
theorem uN:Slot "reversed" "__init__" "object.__init__" :=
 .of (owner:="object") (n:="__init__") (by rw[aGA,aEO];kernel_rfl) (by decide +kernel) (by decide +kernel) (by decide +kernel)
  (by first|exact .inl (by decide +kernel)|exact .inr (by decide +kernel)) (by rw[aEK];kernel_rfl)
theorem mE:entryFor table "reversed.__next__"=some Builtin.«reversed.__next__»:=entryFor_of_tree (by kernel_rfl)
theorem sX:entryFor table "reversed.__iter__"=some Builtin.«dict_keyiterator.__iter__» :=
 entryFor_alias (id':="dict_keyiterator.__iter__") (by kernel_rfl) (by first|rfl|decide +kernel|(unfold String.splitOn;simp +decide [String.splitOnAux])) (by decide +kernel) (by kernel_rfl)
theorem yI:Manifest.owners.lookup (String.ofList ['d','e','s','r','e','v','e','r'].reverse)=some Manifest.sig_reversed:=by kernel_rfl
theorem nB(a:Value):argsOk "reversed.__next__" ⟨[a],[]⟩:=by
 unfold argsOk;rw[signature?_of (id:="reversed.__next__") (n:=['_','_','t','x','e','n','_','_']) (o:=['d','e','s','r','e','v','e','r']) (by kernel_rfl) yI];kernel_rfl
theorem vS(a:Value):argsOk "reversed.__iter__" ⟨[a],[]⟩:=by
 unfold argsOk;rw[signature?_of (id:="reversed.__iter__") (n:=['_','_','r','e','t','i','_','_']) (o:=['d','e','s','r','e','v','e','r']) (by kernel_rfl) yI];kernel_rfl
theorem aDl:TypeCalled "reversed" "reversed.__new__" "object.__init__" :=
 ⟨by decide +kernel,by decide +kernel,⟨_,_,F.mro_reversed⟩,F.made_reversed,by decide +kernel,by rw[aEK];kernel_rfl,uN⟩
theorem uR:typeLookup (.type "tuple") "__reversed__"=pure none:=by rw[aGA,aEO];kernel_rfl
theorem rG:isSubtype (.type "tuple") (.type "dict")=pure false:=by rw[aEK];kernel_rfl
noncomputable abbrev rvObj(l:Addr)(i:Int):Obj:={cls:=.type "reversed",dict:=none,data:=.fields #[.ref l,rawInt i],slots:=#[]}
theorem aEy(l:Addr)(items:Array Value):Meets (Builtin.«reversed.__new__» ⟨[.type "reversed",.ref l],[]⟩) (λ_ R s=>IsTup s.heap l items/\(items.size:Int) < 2 ^ 63 /\
   R (.ok (.ret (.ref s.heap.objs.size))) {s with heap:=s.heap.push (rvObj l ((items.size:Int) - 1)),toks:=s.toks+1+1}) :=
 .of_wp λprog w A R s h=>by
  obtain⟨hl,hz,h⟩:=h
  unfold Builtin.«reversed.__new__»
  refine aAB (aCH (newClass_reversed _) ?_)
  try dsimp only
  refine aAB (aCH (a:=()) (by first|rfl|kernel_rfl) ?_)
  refine aAB (aCH (a:=()) (by first|rfl|kernel_rfl) ?_)
  try dsimp only
  refine aAB (aEW hl.typeIs uR ?_)
  try dsimp only
  refine aAB ?_
  refine aAB (aFL (T:="tuple") (b:=false) hl.typeIs rG ?_)
  try dsimp only
  refine aAB (aEW hl.typeIs F.slot_tuple_getitem.lookup ?_)
  refine aCH (a:=true) (by first|rfl|kernel_rfl) ?_
  show wpAny _ _ (call (.builtin "len") [.ref l] >>= _) _ _ _
  refine aAB (len_tuple hl hz ?_)
  refine aAB (aCH (a:=some (items.size:Int)) (by first|rfl|kernel_rfl) ?_)
  show wpAny _ _ (newObj (.type "reversed") (.fields #[.ref l,rawInt ((items.size:Int) - 1)]) >>= _) _ _ _
  exact aAB (aBY (aAF ⟨_,rfl,h⟩))
variable{E:Value->Shared->Prop}
theorem call_rev_tuple(hl:IsTup s.heap l items)(hz:(items.size:Int) < 2 ^ 63)
  (h:Q (.ref s.heap.objs.size) {s with heap:=s.heap.push (rvObj l ((items.size:Int) - 1)),toks:=s.toks+1+1}):wpAny (model prog w) A (call (.type "reversed") [.ref l]) Q E s :=
 aEL aDl (by decide) (F.typeCall_reversed_1 _) (F.newCall_reversed_1 _) (λobj=>aGF obj _) F.entry_reversed_new (aEy l items) ⟨hl,hz,⟨⟨_,aAE _ rfl,rfl⟩,h⟩⟩
noncomputable def IsRvT(h:Heap)(a l:Addr)(i:Int):Prop:=∃o,h.get? a=some o/\o.cls=.type "reversed"/\o.data=.fields #[.ref l,rawInt i]
variable{i:Int}
theorem IsRvT.typeIs{a:Addr}(x:IsRvT s.heap a l i):s.TypeIs (.ref a) "reversed":=let⟨o,ho,hc,_⟩:=x;⟨o,ho,hc⟩
theorem IsRvT.at{a:Addr}(x:IsRvT h a l i)(e:∀o,h.get? a=some o->h'.get? a=some o):IsRvT h' a l i:=let⟨o,ho,r⟩:=x;⟨o,e _ ho,r⟩
variable{Q:Option Value->Shared->Prop}
theorem next_item{i:Nat}{x:Value}(hit:IsRvT s.heap it l (i:Int))(hl:IsTup s.heap l items)(hz:(items.size:Int) < 2 ^ 63)(hx:items[i]?=some x)
  (hQ:∀h' tk,IsRvT h' it l ((i:Int) - 1)->Heap.SameBut it s.heap h'->Q (some x) {s with heap:=h',toks:=tk}):wpAny (model prog w) A (pyNext (.ref it)) Q E s:=by
 obtain⟨o,ho,hc,hd⟩:=id hit
 have hlt:i < items.size:=by
  rcases Nat.lt_or_ge i items.size with h|h
  ·exact h
  ·rw[Array.getElem?_eq_none h]at hx;cases hx
 unfold pyNext
 refine aAB (aEC (aBU (name:=Str.ofString "__next__") hit.typeIs fH
  (aBW fH hit.typeIs mE ?_ (nB _))))
 unfold Builtin.«reversed.__next__»
 refine aAB (aCH (a:=(Value.ref it,[])) rfl ?_)
 try dsimp only
 refine aAB (aBD ho hd (x:=.ref l) rfl ?_)
 refine aAB (aBD ho hd (x:=rawInt (i:Int)) rfl ?_)
 show wpAny _ _ (if(i:Int) < 0 then _ else _) _ _ s
 rw[aAC (by lia)]
 show wpAny _ _ (specialOf (.ref l) (Str.ofString "__getitem__") >>= _) _ _ s
 refine aAB (aEW hl.typeIs F.slot_tuple_getitem.lookup ?_)
 show wpAny _ _ (mkInt (i:Int) >>= _) _ _ s
 refine aAB (wpAny_mkInt ?_)
 refine aAB (aEC (getItem_tuple (j:=i) (x:=x) hl (by lia) (by lia) ?_ hx ?_))
 ·rw[seqIndex_of (by lia) (by lia)];simp
 try dsimp only
 refine aAB (aBD ho hd (x:=rawInt (i:Int)) rfl ?_)
 show wpAny _ _ (setField _ _ _ >>= _) _ _ _
 refine aAB (aFB ho hd (by simp) ?_)
 refine aAF ⟨x,rfl,aAF (hQ _ _ ?_ (aDZ ..))⟩
 exact⟨_,aEM _ ho (aFP (aDK hd _)),(Obj.cls_mapFields ..).trans hc,by
  rw[aDK hd];simp⟩
theorem next_end(hh:A.handled=none)(hit:IsRvT s.heap it l (-1))
  (hQ:∀h',Heap.ExtBut it s.heap h'->Q none {s with heap:=h'}):wpAny (model prog w) A (pyNext (.ref it)) Q E s:=by
 obtain⟨o,ho,hc,hd⟩:=id hit
 unfold pyNext
 refine aAB (aEC (aBU (name:=Str.ofString "__next__") hit.typeIs fH
  (aBW fH hit.typeIs mE ?_ (nB _))))
 unfold Builtin.«reversed.__next__»
 refine aAB (aCH (a:=(Value.ref it,[])) rfl ?_)
 try dsimp only
 refine aAB (aBD ho hd (x:=.ref l) rfl ?_)
 refine aAB (aBD ho hd (x:=rawInt (-1)) rfl ?_)
 show wpAny _ _ (if(-1:Int) < 0 then _ else _) _ _ s
 rw[aAG (by decide)]
 refine aAB (aDE ?_)
 refine aAB ?_
 show wpAny _ _ (setField (.ref it) 1 (rawInt (-1)) >>= _) _ _ _
 refine aAB (aFB ho hd (by simp) ?_)
 refine aFB (aEM _ ho (aFP (aDK hd _))) (aDK hd _) (by simp) ?_
 refine aAB ?_
 show wpAny _ _ (newExc (.type "StopIteration") [] >>= _) _ _ _
 refine aAB ?_
 simp only[newExc,newTuple]
 refine aAB (aBY ?_ (by size_fits))
 refine aAB (m:=firstArgMember _ _) (aCH (a:=Value.none) (by first|rfl|(simp only[firstArgMember];rfl)) ?_)
 refine aBY ?_ (by size_fits)
 simp only[raiseNew]
 refine aAB (wpAny_handled ?_)
 first|rw[show A.in1.handled=none from hh]|rw[hh]
 refine aAB (aAF (wpAny_throw ?_))
 refine aAB (aFL (T:="StopIteration") (b:=true) ⟨_,aAE _ rfl,rfl⟩ isSubtype_stop ?_)
 exact aAF (hQ _ ((((aDZ ..).extBut.trans (aDZ ..).extBut).push _).push _))
theorem iter_self{Q:Value->Shared->Prop}(hit:IsRvT s.heap it l i)(h:Q (.ref it) s):wpAny (model prog w) A (pyIter (.ref it)) Q E s:=by
 refine aGV hit.typeIs nD (aBW nD hit.typeIs sX ?_ (vS _))
 show wpAny _ _ (ret (.ref it)) _ _ s
 exact aAF ⟨_,rfl,"reversed",_,hit.typeIs,fH.lookup,h⟩
end RT
namespace L2
noncomputable def Itw(K:Frag)(a:Addr)(xs:List V):It :=
 ⟨λi H=>SqT K H a xs/\i < xs.length,λi H x H'=>H'=H/\xs[xs.length - 1 - i]?=some x,λi _=>xs.length<=i⟩
variable{tg:Expr}
theorem aDf(a it:Addr)(xs:List V):Turn P w K tg (Itw K a xs) [it] it (λi h=>i<=xs.length/\RT.IsRvT h it a ((xs.length:Int) - 1 - (i:Int)))where
 mem:=by simp
 obj:=λi h st b hb=>by
  have e:b=it:=by simpa using hb
  subst e
  obtain⟨o,e,c,d⟩:=st.2
  exact⟨o,e,λv z=>by rw[d]at z;cases z⟩
 keep:=λi h h' st k=>⟨st.1,st.2.at λo e=>k it (by simp) o e⟩
 item:=by
  intro X hP hw hK hc i pins s σ H E I hf st hg
  subst hP hw hK
  obtain⟨hq,hx⟩:=hg
  obtain⟨its,rv,p,hz⟩:=I.tuple hq
  have hlt:xs.length - 1 - i < xs.length:=by lia
  have hx':xs[xs.length - 1 - i]?=some xs[xs.length - 1 - i]:=aAQ hlt
  obtain⟨u,hu,ru⟩:=rv.get hx'
  obtain⟨f0,f1,f2,f3,f4,f5⟩:=hf it (by simp)
  have st2:=st.2
  have e1:(xs.length:Int) - 1 - (i:Int)=((xs.length - 1 - i:Nat):Int):=by lia
  rw[e1]at st2
  have hlen:=rv.length
  refine RT.next_item st2 p (by rw[aAI,<- hlen];have:sizeLine < 2 ^ 63:=by decide
                                lia) (x:=u) (by simpa using hu) λh' tk st' sb=>?_
  have I1:Inv X pins σ H {s with heap:=h',toks:=tk}:=I.turned (t':=tk) (λb o hb e=>(sb.2 b hb).trans e) f0 f1 f3 f4 f5
  have e2:((xs.length - 1 - i:Nat):Int) - 1=(xs.length:Int) - 1 - ((i+1:Nat):Int):=by lia
  rw[e2]at st'
  obtain⟨o,e,c,d⟩:=id st'
  exact⟨u,rfl,tJ (s:={s with heap:=h',toks:=tk}) e c d (by decide) ⟨_,H,I1,ru,⟨rfl,hx'⟩,⟨hx,st'⟩,λb hb=>(hf b hb).1⟩⟩
 done:=by
  intro X hP hw hK hc i pins s σ H E I hf st hg
  subst hP hw hK
  have hx:xs.length<=i:=hg
  obtain⟨f0,f1,f2,f3,f4,f5⟩:=hf it (by simp)
  have st2:=st.2
  have h1:=st.1
  have e1:(xs.length:Int) - 1 - (i:Int) = -1:=by lia
  rw[e1]at st2
  exact RT.next_end (I.ok.hd hc) st2 λh' eb=>⟨rfl,I.turned (t':=s.toks) (λb o hb e=>eb b o hb e) f0 f1 f3 f4 f5⟩
 self:=λ_ _ _ _ _ st h=>RT.iter_self st.2 h
noncomputable def iRvE(K:Frag)(ta:TA):TI:=λσ H R=>ta σ H λvs H1=>∃a,vs=[.ref a]/\((∃xs,SqL K H1 a xs/\R (Itv K a xs) H1)\/(∃xs,SqT K H1 a xs/\R (Itw K a xs) H1))
theorem aNj{a:Expr}{ta:TA}(hg:Gl X "reversed")(hm:X.mg "reversed"=none)(ha:PA X [a] ta)(hs:starEach [a] X.env=[(false,eval a X.env)]:=by rfl):PI X tg (.Call (.Name "reversed" p) [a] [] pos) (iRvE X.K ta):=by
 intro pins s σ H R I h
 refine Call_ (hG I hg hm wI (aBO (thn (ha pos pins s σ H _ I h) λus s1 ⟨vs,H1,I1,r1,q1⟩=>?_) hs rfl))
 obtain⟨b,e,⟨xs,hq,q⟩|⟨xs,hq,q⟩⟩:=q1
 ·subst e
  cases r1 with
  |cons r rr =>
   cases rr
   cases r
   obtain⟨its,rv,p,hz⟩:=I1.list hq
   have hlen:=rv.length
   refine call_reversed_list p.isList (wpAny_pyIter_revIter ⟨_,aAE _ rfl,rfl,rfl⟩ ?_)
   have I2:Inv X pins σ H1 {s1 with heap:=s1.heap.push (revObj b ((its.toArray.size:Int) - 1))}:=I1.kept (t':=s1.toks) λb o e=>aAA _ e
   refine⟨s1.heap.objs.size,[s1.heap.objs.size],_,_,H1,rfl,I2,aEg b _ xs,⟨aDW _,_,aAE _ rfl,rfl,?_⟩,λc hb=>?_,q⟩
   ·show Data.fields #[.ref b,rawInt ((its.toArray.size:Int) - 1)]=_
    rw[aAI,<- hlen]
    simp
   ·have e:c=s1.heap.objs.size:=by simpa using hb
    subst e
    exact I1.fpOk (aAH _) (I1.hok.fresh (aAH _))
 ·subst e
  cases r1 with
  |cons r rr =>
   cases rr
   cases r
   obtain⟨its,rv,p,hz⟩:=I1.tuple hq
   have hlen:=rv.length
   refine RT.call_rev_tuple p (by rw[aAI,<- hlen];have:sizeLine < 2 ^ 63:=by decide
                                  lia) (RT.iter_self (i:=(its.toArray.size:Int) - 1) ⟨_,aAE _ rfl,rfl,rfl⟩ ?_)
   have I2:Inv X pins σ H1 {s1 with heap:=s1.heap.push (RT.rvObj b ((its.toArray.size:Int) - 1)),toks:=s1.toks+1+1}:=I1.kept (t':=s1.toks+1+1) λb o e=>aAA _ e
   refine⟨s1.heap.objs.size,[s1.heap.objs.size],_,_,H1,rfl,I2,aDf b _ xs,⟨aDW _,_,aAE _ rfl,rfl,?_⟩,λc hb=>?_,q⟩
   ·show Data.fields #[.ref b,rawInt ((its.toArray.size:Int) - 1)]=_
    rw[aAI,<- hlen]
    simp
   ·have e:c=s1.heap.objs.size:=by simpa using hb
    subst e
    exact I1.fpOk (aAH _) (I1.hok.fresh (aAH _))
end L2
namespace EV
open L2
noncomputable def iRv(f:FE):FI:=λL M=>(f L M).bind λw M1=>match w with
 |.d (.tup xs)=>.ok ⟨xs.reverse,none⟩ M1
 |.d (.lst xs)=>.ok ⟨xs.reverse,none⟩ M1
 |.d (.fz xs)=>.ok ⟨xs.reverse,none⟩ M1
 |_=>.bad
variable{K:Frag}{a:Expr}{tg:Expr}
theorem nQ{ds:List D}{d:D}(r:Rps K μ H ds vs)(h:ds.reverse[i]?=some d):∃v,vs[vs.length - 1 - i]?=some v/\i < vs.length/\Rp K μ H d v:=by
 obtain⟨v,q1,q2⟩:=r.reverse.get h
 have hi:i < vs.length:=by
  have:=(aAD.mp q1).1
  simpa using this
 rw[List.getElem?_reverse hi]at q1
 exact⟨v,q1,hi,q2⟩
variable{p:Addr}
theorem aEk{ds:List D}(S:List Addr->Hp->Prop)(s0:S μ H)(sx:∀μ1 H1 μ2 H2,Lsts μ1 H1->S μ1 H1->Ext μ1 H1 μ2 H2->S μ2 H2)
  (rd:∀μ1 H1,S μ1 H1->SqL K H1 p vs/\Rps K μ1 H1 ds vs):ItOk K μ H ⟨ds.reverse,none⟩ (Itv K p vs):=by
 refine⟨S,s0,sx,λμ1 H1 M1 i hr hS hc=>?_⟩
 obtain⟨h1,r1⟩:=rd μ1 H1 hS
 refine⟨λd hd=>?_,λhl=>?_⟩
 ·obtain⟨v,q1,hi,q2⟩:=nQ r1 hd
  refine⟨⟨h1,hi⟩,λx H2 y=>?_⟩
  obtain⟨rfl,y⟩:=y
  rw[q1]at y
  cases y
  exact⟨.refl,hr,q2⟩
 ·show vs.length<=i
  rw[<- r1.length]
  simpa using hl
theorem aNv{ds:List D}(S:List Addr->Hp->Prop)(s0:S μ H)(sx:∀μ1 H1 μ2 H2,Lsts μ1 H1->S μ1 H1->Ext μ1 H1 μ2 H2->S μ2 H2)
  (rd:∀μ1 H1,S μ1 H1->SqT K H1 p vs/\Rps K μ1 H1 ds vs):ItOk K μ H ⟨ds.reverse,none⟩ (Itw K p vs):=by
 refine⟨S,s0,sx,λμ1 H1 M1 i hr hS hc=>?_⟩
 obtain⟨h1,r1⟩:=rd μ1 H1 hS
 refine⟨λd hd=>?_,λhl=>?_⟩
 ·obtain⟨v,q1,hi,q2⟩:=nQ r1 hd
  refine⟨⟨h1,hi⟩,λx H2 y=>?_⟩
  obtain⟨rfl,y⟩:=y
  rw[q1]at y
  cases y
  exact⟨.refl,hr,q2⟩
 ·show vs.length<=i
  rw[<- r1.length]
  simpa using hl
theorem aOg{p:Pos}(hm:X.mg "reversed"=none)(ha:Ev X K Z a f)(hg:Gl X "reversed":=by rfl)(hs:starEach [a] X.env=[(false,eval a X.env)]:=by rfl):Ei X K Z tg (.Call (.Name "reversed" p) [a] [] pos) (iRv f):=by
 have h':=aNj (tg:=tg) (p:=p) (pos:=pos) hg hm (cM ha.h fE hs) hs
 rw[ha.k]at h'
 refine⟨ha.k,cqI h' ?_⟩
 rintro σ H R ⟨μ,M,L,hr,lr,p⟩
 refine⟨μ,M,L,hr,lr,p.bind.imp λμ1 H1 M1 w e1 hr1 _ p1 v rw'=>?_⟩
 cases w with
 |ref i=>exact p1.elim
 |d x=>cases x with
  |tup xs =>
   simp only[Rw,Rp]at rw'
   obtain⟨p,vs,rfl,h1,r1⟩:=rw'
   refine⟨p,rfl,.inr ⟨vs,SqT.of h1,p1 μ1 H1 .refl hr1 _ ?_⟩⟩
   refine aNv (λμ2 H2=>H2 p=some (.tup vs)/\Rps K μ2 H2 xs vs) ⟨h1,r1⟩ (λμ1 H1 μ2 H2 l z e=>⟨e.keep _ _ (λq=>by obtain⟨us,q⟩:=l p q;rw[z.1]at q;cases q) z.1,Rps.ext l e _ _ z.2⟩) λμ1 H1 z=>⟨SqT.of z.1,z.2⟩
  |lst xs =>
   simp only[Rw,Rp]at rw'
   obtain⟨p,vs,rfl,h1,hn,r1⟩:=rw'
   refine⟨p,rfl,.inl ⟨vs,SqL.of h1,p1 μ1 H1 .refl hr1 _ ?_⟩⟩
   refine aEk (λμ2 H2=>H2 p=some (.lst vs)/\p∉μ2/\Rps K μ2 H2 xs vs) ⟨h1,hn,r1⟩ (λμ1 H1 μ2 H2 l z e=>⟨e.keep _ _ z.2.1 z.1,λq=>(e.new p q).elim z.2.1 (λq=>by rw[z.1]at q;cases q),Rps.ext l e _ _ z.2.2⟩) λμ1 H1 z=>⟨SqL.of z.1,z.2.2⟩
  |fz xs =>
   simp only[Rw,Rp]at rw'
   obtain⟨p,vs,rfl,h1,r1⟩:=rw'
   refine⟨p,rfl,.inl ⟨vs,h1.sq,p1 μ1 H1 .refl hr1 _ ?_⟩⟩
   refine aEk (λμ2 H2=>FzL K H2 p vs/\Rps K μ2 H2 xs vs) ⟨h1,r1⟩ (λμ1 H1 μ2 H2 l z e=>⟨z.1.ext l e,Rps.ext l e _ _ z.2⟩) λμ1 H1 z=>⟨z.1.sq,z.2⟩
  |_=>exact p1.elim
variable{K:Frag}
theorem kS:bootBuiltins "range"=some (.type "range"):=by first|rfl|kernel_rfl
theorem zJ:bootBuiltins "list"=some (.type "list"):=by first|rfl|kernel_rfl
end EV
end
variable{fi:EV.FI}{QI:EV.Src->EV.Mm->Prop}
namespace EV
open PySem L2
@[irreducible] noncomputable def Okx(EX:D->Mm->Prop)(o:Oc α)(Q:α->Mm->Prop):Prop:=match o with
 |.ok a M=>Q a M
 |.ex x M=>EX x M
 |.bad=>False
noncomputable abbrev NX:D->Mm->Prop:=λ_ _=>False
noncomputable abbrev Ok(o:Oc α)(Q:α->Mm->Prop):Prop:=Okx NX o Q
variable{α β:Type}{EX EX':D->Mm->Prop}{o o':Oc α}{Q Q':α->Mm->Prop}{a:α}
theorem lK:Okx EX o Q ↔ (∃a M,o=.ok a M/\Q a M)\/∃x M,o=.ex x M/\EX x M:=by
 unfold Okx
 cases o with
 |ok a M=>exact⟨λh=>.inl ⟨a,M,rfl,h⟩,λh=>by rcases h with⟨_,_,e,q⟩|⟨_,_,e,q⟩ <;> cases e;exact q⟩
 |ex x M=>exact⟨λh=>.inr ⟨x,M,rfl,h⟩,λh=>by rcases h with⟨_,_,e,q⟩|⟨_,_,e,q⟩ <;> cases e;exact q⟩
 |bad=>exact⟨λh=>h.elim,λh=>by rcases h with⟨_,_,e,q⟩|⟨_,_,e,q⟩ <;> cases e⟩
theorem vM:Ok o Q ↔ ∃a M,o=.ok a M/\Q a M:=by
 refine Iff.trans (lK (EX:=NX)) ⟨λh=>?_,.inl⟩
 rcases h with h|⟨_,_,_,q⟩
 ·exact h
 ·exact q.elim
theorem aO(q:Q a M):Okx EX (.ok a M) Q:=lK.mpr (.inl ⟨a,M,rfl,q⟩)
theorem sF{x:D}(q:EX x M):Okx EX (.ex x M:Oc α) Q:=lK.mpr (.inr ⟨x,M,rfl,q⟩)
theorem aM{k:α->Mm->Oc β}{Q:β->Mm->Prop}(h:Okx EX o λa M=>Okx EX (k a M) Q):Okx EX (o.bind k) Q:=by
 rcases lK.mp h with⟨a,M,rfl,q⟩|⟨x,M,rfl,q⟩
 ·exact q
 ·exact sF q
theorem Okx.mono(h:Okx EX o Q)(f:∀a M,Q a M->Q' a M):Okx EX o Q':=by
 rcases lK.mp h with⟨a,M,rfl,q⟩|⟨x,M,rfl,q⟩
 ·exact aO (f _ _ q)
 ·exact sF q
theorem Okx.monoX(h:Okx EX o Q)(f:∀a M,Q a M->Q' a M)(g:∀x M,EX x M->EX' x M):Okx EX' o Q':=by
 rcases lK.mp h with⟨a,M,rfl,q⟩|⟨x,M,rfl,q⟩
 ·exact aO (f _ _ q)
 ·exact sF (g _ _ q)
theorem Ok.mono(h:Ok o Q)(f:∀a M,Q a M->Q' a M):Okx EX o Q':=Okx.monoX h f λ_ _ z=>z.elim
variable{EX:D->Mm->Prop}{c:Bool}
theorem wJ{a b:Oc α}{Q:α->Mm->Prop}(h1:c=true->Okx EX a Q)(h2:c=false->Okx EX b Q):Okx EX (if c=true then a else b) Q:=by cases c <;> simp_all
variable{p:Prop}
theorem nS[Decidable p]{a b:Oc α}{Q:α->Mm->Prop}(h1:p->Okx EX a Q)(h2:¬p->Okx EX b Q):Okx EX (if decide p=true then a else b) Q:=by by_cases h:p <;> simp_all
theorem aIc[Decidable p]{a b:Oc α}{Q:α->Mm->Prop}(h1:p->Okx EX b Q)(h2:¬p->Okx EX a Q):Okx EX (if(!decide p)=true then a else b) Q:=by by_cases h:p <;> simp_all
theorem aAb{a b:Oc α}{Q:α->Mm->Prop}(h:c=true)(h1:Okx EX a Q):Okx EX (if c=true then a else b) Q:=by rw[aAG h];exact h1
theorem mK{a b:Oc α}{Q:α->Mm->Prop}(h:c=false)(h1:Okx EX b Q):Okx EX (if c=true then a else b) Q:=by rw[aAC (by simp[h])];exact h1
variable{i j:Nat}{w x y:W}{Q:W->Mm->Prop}{QA:List W->Mm->Prop}{QT:Bool->Mm->Prop}{g h:FE}{G:FS}{t u:FT}{fs:FA}{gg:FG}
theorem aQb(h:L[i]?=some (some w))(q:Q w M):Okx EX (eV i L M) Q:=by unfold eV;rw[h];exact aO q
theorem aPt{d:D}(q:Q (.d d) M):Okx EX (eC d L M) Q:=aO q
theorem aCe(q:Q (.d (.lst (ns.map D.int))) M):Okx EX (eInts ns L M) Q:=aO q
theorem aLo{p:W->Mm->Oc W}(h:Okx EX (f L M) λx M1=>Okx EX (p x M1) Q):Okx EX (e1 p f L M) Q:=aM h
theorem aLm{p:W->W->Mm->Oc W}(h:Okx EX (f L M) λx M1=>Okx EX (g L M1) λy M2=>Okx EX (p x y M2) Q):Okx EX (e2 p f g L M) Q:=aM (h.mono λ_ _ z=>aM z)
theorem aPm{p:List W->Mm->Oc W}(h:Okx EX (fs L M) λws M1=>Okx EX (p ws M1) Q):Okx EX (eA p fs L M) Q:=aM h
theorem aLy(q:QA [] M):Okx EX (aNil L M) QA:=aO q
theorem aLn(h:Okx EX (f L M) λw M1=>Okx EX (fs L M1) λws M2=>QA (w::ws) M2):Okx EX (aCons f fs L M) QA:=aM (h.mono λ_ _ z=>aM (z.mono λ_ _ z=>aO z))
theorem aFm(h:Okx EX (f L M) λw M1=>∃b,w=.d (.bl b)/\(b=true->Okx EX (g L M1) Q)/\(b=false->Q (.d (.bl false)) M1)):Okx EX (eAnd f g L M) Q:=by
 refine aM (h.mono λw M1 ⟨b,e,h1,h2⟩=>?_)
 subst e
 cases b with
 |true=>exact h1 rfl
 |false=>exact aO (h2 rfl)
theorem aLf(h:Okx EX (f L M) λw M1=>∃b,w=.d (.bl b)/\(b=true->Q (.d (.bl true)) M1)/\(b=false->Okx EX (g L M1) Q)):Okx EX (eOr f g L M) Q:=by
 refine aM (h.mono λw M1 ⟨b,e,h1,h2⟩=>?_)
 subst e
 cases b with
 |true=>exact aO (h1 rfl)
 |false=>exact h2 rfl
theorem aEj(h:Okx EX (t L M) λc M1=>Okx EX (if c=true then f L M1 else g L M1) Q):Okx EX (eIf t f g L M) Q:=aM h
theorem aLk(h:Okx EX (f L M) λw M1=>∃b,w=.d (.bl b)/\QT b M1):Okx EX (EV.tB f L M) QT:=aM (h.mono λw M1 ⟨b,e,q⟩=>by subst e;exact aO q)
theorem aLr(h:Okx EX (f L M) λw M1=>∃b,tru M1 w=some b/\QT b M1):Okx EX (tV f L M) QT:=aM (h.mono λw M1 ⟨b,e,q⟩=>by rw[e];exact aO q)
theorem aAn(h:Okx EX (t L M) λb M1=>QT (!b) M1):Okx EX (EV.tNot t L M) QT:=aM (h.mono λ_ _ z=>aO z)
theorem aBd(h:Okx EX (t L M) λb M1=>(b=true->Okx EX (u L M1) QT)/\(b=false->QT false M1)):Okx EX (EV.tAnd t u L M) QT:=aM (h.mono λb M1 ⟨h1,h2⟩=>by cases b with|true=>exact h1 rfl|false=>exact aO (h2 rfl))
theorem aGj(h:Okx EX (t L M) λb M1=>(b=true->QT true M1)/\(b=false->Okx EX (u L M1) QT)):Okx EX (EV.tOr t u L M) QT:=aM (h.mono λb M1 ⟨h1,h2⟩=>by cases b with|true=>exact aO (h1 rfl)|false=>exact h2 rfl)
theorem aAo(q:QT true M):Okx EX (EV.tYes L M) QT:=aO q
theorem aEm(q:QS (.nx L) M):Okx EX (sNil L M) QS:=aO q
theorem oP(h:Okx EX (F L M) λo M1=>match o with
 |.nx L1=>Okx EX (G L1 M1) QS
 |.bk L1=>QS (.bk L1) M1
 |.ct L1=>QS (.ct L1) M1
 |.rt w=>QS (.rt w) M1):Okx EX (sSeq F G L M) QS:=aM (h.mono λo M1 z=>by cases o with|nx L1=>exact z|bk L1=>exact aO z|ct L1=>exact aO z|rt w=>exact aO z)
theorem aLw(h:Okx EX (f L M) λ_ M1=>QS (.nx L) M1):Okx EX (sEx f L M) QS:=aM (h.mono λ_ _ z=>aO z)
theorem aLg(h:Okx EX (f L M) λw M1=>QS (.rt w) M1):Okx EX (sRt f L M) QS:=aM (h.mono λ_ _ z=>aO z)
theorem uL(h:Okx EX (t L M) λb M1=>Okx EX (if b=true then F L M1 else G L M1) QS):Okx EX (sIf t F G L M) QS:=aM h
theorem zN(h:Okx EX (f L M) λw M1=>Okx EX (gg w L M1) λL1 M2=>QS (.nx L1) M2):Okx EX (sAs f gg L M) QS:=aM (h.mono λ_ _ z=>aM (z.mono λ_ _ z=>aO z))
theorem aBc(h:Okx EX (fs L M) λws M1=>∃v w,ws=[v,w]/\QS (.nx ((L.set i (some v)).set j (some w))) M1):Okx EX (sPar i j fs L M) QS:=aM (h.mono λws M1 ⟨v,w,e,q⟩=>by subst e;exact aO q)
theorem yH(q:QG (L.set i (some w)) M):Okx EX (gN i w L M) QG:=aO q
variable{n:Nat}{gs:FGs}
theorem aLx{xs:List D}(hn:xs.length=n)(h:Okx EX (gs xs L M) QG):Okx EX (gT n gs (.d (.tup xs)) L M) QG:=by unfold gT;simp only;rw[aAG hn];exact h
theorem aEb(q:QG L M):Okx EX (gsNil [] L M) QG:=aO q
theorem aHn{d:D}{ds:List D}(h:Okx EX (gg (.d d) L M) λL1 M1=>Okx EX (gs ds L1 M1) QG):Okx EX (gsCons gg gs (d::ds) L M) QG:=aM h
theorem aLt{d:D}(h:Okx EX (f L M) λo M1=>Okx EX (g L M1) λi M2=>∃k j xs t,o=.ref k/\i=.d (.int j)/\M2[k]?=some xs/\ixN xs.length j=some t/\QG L (M2.set k (xs.set t d))):Okx EX (gS f g (.d d) L M) QG:=by
 refine aM (h.mono λo M1 z=>aM (z.mono λi M2 ⟨k,j,xs,t,e1,e2,e3,e4,q⟩=>?_))
 subst e1 e2
 simp only[e3,e4]
 exact aO q
theorem aMb{c:Int->Int->Bool}{gg:Int->Int->D}{i j:Int}(hc:c i j=true)(q:Q (.d (gg i j)) M):Okx EX (pI c gg (.d (.int i)) (.d (.int j)) M) Q:=by unfold pI;simp only;rw[aAG hc];exact aO q
theorem aGi{i j:Int}(q:Q (.d (.int (i+j))) M):Okx EX (pAdd (.d (.int i)) (.d (.int j)) M) Q:=aO q
theorem dG{xs ys:List D}(hz:xs.length+ys.length<=16777216)(q:Q (.d (.tup (xs++ys))) M):Okx EX (pAdd (.d (.tup xs)) (.d (.tup ys)) M) Q:=by unfold pAdd;simp only;rw[aAG hz];exact aO q
theorem aJt{xs ys:List D}(h1:lv M x=some xs)(h2:lv M y=some ys)(hz:xs.length+ys.length<=16777216)(q:Q (.ref M.length) (M++[xs++ys])):Okx EX (pAddR x y M) Q:=by
 unfold pAddR;rw[h1,h2];simp only;rw[aAG hz];exact aO q
theorem oF{i j:Int}(hz:mulOk i j=true)(q:Q (.d (.int (i*j))) M):Okx EX (pMulA (.d (.int i)) (.d (.int j)) M) Q:=by unfold pMulA pMul;simp only;rw[aAG hz];exact aO q
variable{k:Int}
theorem aKc{xs:List D}(hz:xs.length*k.toNat<=16777216/\k < 9223372036854775808 /\ -9223372036854775808<=k)(q:Q (.d (.tup (List.replicate k.toNat xs).flatten)) M):Okx EX (pMulA (.d (.tup xs)) (.d (.int k)) M) Q:=by
 unfold pMulA;simp only;rw[aAG hz];exact aO q
theorem aEt{i:Int}(q:Q (.d (.int (-i))) M):Okx EX (pNeg (.d (.int i)) M) Q:=aO q
theorem aGm{b:Bool}(q:Q (.d (.bl (!b))) M):Okx EX (pNot (.d (.bl b)) M) Q:=aO q
theorem aLq{a b:D}(h1:wd M x=some a)(h2:wd M y=some b)(hd:dep a<=100/\dep b<=100)(q:Q (.d (.bl (eqD a b))) M):Okx EX (pEq x y M) Q:=by unfold pEq;rw[h1,h2];simp only;rw[aAG hd];exact aO q
theorem aBw{a b:D}(h1:wd M x=some a)(h2:wd M y=some b)(hd:dep a<=100/\dep b<=100)(q:Q (.d (.bl (!eqD a b))) M):Okx EX (pNe x y M) Q:=by unfold pNe;rw[h1,h2];simp only;rw[aAG hd];exact aO q
theorem aHf{i j:Int}(q:Q (.d (.bl (decide (i=j)))) M):Okx EX (pEq (.d (.int i)) (.d (.int j)) M) Q:=aLq rfl rfl (by simp[dep]) (by simp only[eqD];exact q)
theorem aHr{i j:Int}(q:Q (.d (.bl (!decide (i=j)))) M):Okx EX (pNe (.d (.int i)) (.d (.int j)) M) Q:=aBw rfl rfl (by simp[dep]) (by simp only[eqD];exact q)
theorem aEf{a b:Str}(q:Q (.d (.bl (a==b))) M):Okx EX (pEq (.d (.str a)) (.d (.str b)) M) Q:=aLq rfl rfl (by simp[dep]) (by simpa only[eqD]using q)
theorem aGu{a b:Str}(q:Q (.d (.bl (!(a==b)))) M):Okx EX (pNe (.d (.str a)) (.d (.str b)) M) Q:=aBw rfl rfl (by simp[dep]) (by simpa only[eqD]using q)
theorem aMa(q:Q (.d (.bl (isN x))) M):Okx EX (pIs x (.d .non) M) Q:=aO q
theorem aPq{neg:Bool}{d:D}{xs:List D}(h:sv M y=some xs)(hf:flatD d=true)(hx:xs.all flatD=true)(q:Q (.d (.bl (if neg then !(xs.any λy=>eqD y d)else xs.any λy=>eqD y d))) M):Okx EX (pInG neg (.d d) y M) Q:=by
 unfold pInG;rw[h];simp only;rw[aAG ⟨hf,hx⟩];exact aO q
theorem fR{xs:List D}{d:D}(h:atI xs k=some d)(q:Q (.d d) M):Okx EX (pIx (.d (.tup xs)) (.d (.int k)) M) Q:=by unfold pIx;simp only[sv,h];exact aO q
theorem aGb{xs:List D}{d:D}(hs:∀z,x≠.d (.str z))(h1:sv M x=some xs)(h:atI xs k=some d)(q:Q (.d d) M):Okx EX (pIx x (.d (.int k)) M) Q:=by
 have:pIx x (.d (.int k)) M=.ok (.d d) M:=by
  cases x with
  |ref i=>simp only[pIx,h1,h]
  |d a=>cases a <;> first|(exact(hs _ rfl).elim)|(simp only[pIx,h1,h])
 rw[this];exact aO q
theorem iW{xs:List D}{d:D}(h:atI xs k=some d)(q:Q (.d d) M):Okx EX (pIx (.d (.lst xs)) (.d (.int k)) M) Q:=aGb (by simp) rfl h q
theorem vJ{xs:List D}{d:D}(h:atI xs k=some d)(q:Q (.d d) M):Okx EX (pIx (.d (.fz xs)) (.d (.int k)) M) Q:=aGb (by simp) rfl h q
theorem pY{b:Nat}{xs:List D}{d:D}(h1:M[b]?=some xs)(h:atI xs k=some d)(q:Q (.d d) M):Okx EX (pIx (.ref b) (.d (.int k)) M) Q:=aGb (by simp) h1 h q
theorem aGs{ws:List W}{ds:List D}(h:allD ws=some ds)(hz:ds.length<=16777216)(q:Q (.d (.tup ds)) M):Okx EX (mkT ws M) Q:=by unfold mkT;rw[h];simp only;rw[aAG hz];exact aO q
theorem aEv{ws:List W}{ds:List D}(h:allD ws=some ds)(hz:ds.length<=16777216)(q:Q (.d (.lst ds)) M):Okx EX (mkL ws M) Q:=by unfold mkL;rw[h];simp only;rw[aAG hz];exact aO q
theorem aEh{ws:List W}{ds:List D}(h:allD ws=some ds)(hz:ds.length<=16777216)(q:Q (.ref M.length) (M++[ds])):Okx EX (mkR ws M) Q:=by unfold mkR;rw[h];simp only;rw[aAG hz];exact aO q
theorem aBr{xs:List D}(q:Q (.d (.int xs.length)) M):Okx EX (cLen [.d (.tup xs)] M) Q:=aO q
theorem aAu{xs:List D}(q:Q (.d (.int xs.length)) M):Okx EX (cLen [.d (.lst xs)] M) Q:=aO q
theorem aAw{xs:List D}(q:Q (.d (.int xs.length)) M):Okx EX (cLen [.d (.fz xs)] M) Q:=aO q
theorem aAy{b:Bool}(q:Q (.d (.int (if b=true then 1 else 0))) M):Okx EX (cInt [.d (.bl b)] M) Q:=aO q
theorem aIl{l:Int}(q:Q (.d (.int (if l > k then l else k))) M):Okx EX (cMax2 [.d (.int k),.d (.int l)] M) Q:=aO q
theorem aGl{l:Int}(q:Q (.d (.int (if l < k then l else k))) M):Okx EX (cMin2 [.d (.int k),.d (.int l)] M) Q:=aO q
theorem gO{xs:List D}(h:sv M x=some xs)(q:Q (.d (.tup xs)) M):Okx EX (cTup [x] M) Q:=by unfold cTup;simp only[h];exact aO q
theorem aJo{xs:List D}(h:sv M x=some xs)(q:Q (.ref M.length) (M++[xs])):Okx EX (cListR [x] M) Q:=by unfold cListR;simp only[h];exact aO q
theorem aLi{p:W->W->Mm->Oc W}(h:Okx EX (f L M) λx M1=>∃k,x=.ref k/\Okx EX (g L M1) λy M2=>Okx EX (p (.ref k) y M2) Q):Okx EX (eM1 p f g L M) Q:=aM (h.mono λx M1 ⟨k,e,z⟩=>by subst e;exact aM z)
theorem tP{k:Nat}{d:D}{xs:List D}(h:M[k]?=some xs)(hz:xs.length < 16777216)(q:Q (.d .non) (M.set k (xs++[d]))):Okx EX (pAppend (.ref k) (.d d) M) Q:=by unfold pAppend;simp only[h];rw[aAG hz];exact aO q
theorem aLv{fl fh:FO}(z:Okx EX (f L M) λx M1=>Okx EX (fl L M1) λlo M2=>Okx EX (fh L M2) λhi M3=>Okx EX (pSl x lo hi M3) Q):Okx EX (eSl f fl fh L M) Q:=aM (z.mono λ_ _ z=>aM (z.mono λ_ _ z=>aM z))
theorem aIe(q:QO none M):Okx EX (oNo L M) QO:=aO q
theorem aGw(h:Okx EX (f L M) λw M1=>∃k,w=.d (.int k)/\QO (some k) M1):Okx EX (oAt f L M) QO:=aM (h.mono λw M1 ⟨k,e,q⟩=>by subst e;exact aO q)
theorem aHm{xs:List D}{lo:Option Int}(q:Q (.d (.tup (cut xs lo hi))) M):Okx EX (pSl (.d (.tup xs)) lo hi M) Q:=aO q
variable{B:FS}
theorem aFs(h:Okx EX (fi L M) λs M1=>Okx EX (forD s gg B s.ds L M1) QS):Okx EX (sFor fi gg B L M) QS:=aM h
theorem aLz{s:Src}(h:Okx EX (f L M) λw M1=>∃s,srcOf M1 w=some s/\QI s M1):Okx EX (iE f L M) QI:=aM (h.mono λw M1 ⟨s,e,q⟩=>by rw[e];exact aO q)
theorem aIk(h:Okx EX (f L M) λw M1=>∃j,w=.d (.int j)/\in62 j=true/\QI ⟨rngD 0 j.toNat,none⟩ M1):Okx EX (iR1 f L M) QI:=aM (h.mono λw M1 ⟨j,e,hz,q⟩=>by subst e;simp only;rw[aAG hz];exact aO q)
theorem aFl(h:Okx EX (f L M) λw M1=>Okx EX (g L M1) λu M2=>∃i j,w=.d (.int i)/\u=.d (.int j)/\(in62 i=true/\in62 j=true)/\QI ⟨rngD i (j - i).toNat,none⟩ M2):Okx EX (iR2 f g L M) QI :=
 aM (h.mono λw M1 z=>aM (z.mono λu M2 ⟨i,j,e1,e2,hz,q⟩=>by subst e1 e2;simp only;rw[aAG hz];exact aO q))
theorem dL{s:Src}(I:Nat->Lc->Mm->Prop)(h0:I 0 L M)(hc:∀i L M,i<=s.ds.length->I i L M->Chk s M)
  (hs:∀i d L M,s.ds[i]?=some d->I i L M->Okx EX (gg (.d d) L M) λL1 M1=>Okx EX (B L1 M1) λo M2=>match o with
   |.nx L2=>I (i+1) L2 M2
   |.ct L2=>I (i+1) L2 M2
   |.bk L2=>QS (.nx L2) M2
   |.rt w=>QS (.rt w) M2)(hd:∀L M,I s.ds.length L M->QS (.nx L) M):Okx EX (forD s gg B s.ds L M) QS:=by
 have key:∀k i L M,s.ds.length - i=k->i<=s.ds.length->I i L M->Okx EX (forD s gg B (s.ds.drop i) L M) QS:=by
  intro k
  induction k with
  |zero =>
   intro i L M e hi hI
   have:i=s.ds.length:=by lia
   subst this
   rw[aEI (aAH _)]
   unfold forD
   rw[aAG (hc _ L M (aAH _) hI)]
   exact aO (hd L M hI)
  |succ k ih =>
   intro i L M e hi hI
   have hlt:i < s.ds.length:=by lia
   rw[aCZ hlt]
   unfold forD
   rw[aAG (hc _ L M hi hI)]
   refine aM ((hs i s.ds[i] L M (by simp[hlt]) hI).mono λL1 M1 z=>aM (z.mono λo M2 z=>?_))
   cases o with
   |nx L2=>exact ih (i+1) L2 M2 (by lia) (by lia) z
   |ct L2=>exact ih (i+1) L2 M2 (by lia) (by lia) z
   |bk L2=>exact aO z
   |rt w=>exact aO z
 simpa using key s.ds.length 0 L M (by lia) (by lia) h0
theorem oG(I:Nat->Lc->Mm->Prop)(hs:∀m L M,I m L M->Okx EX (t L M) λb M1=>(b=true->Okx EX (B L M1) λo M2=>match o with
   |.nx L2=>∃m',m' < m/\I m' L2 M2
   |.ct L2=>∃m',m' < m/\I m' L2 M2
   |.bk L2=>QS (.nx L2) M2
   |.rt w=>QS (.rt w) M2)/\(b=false->QS (.nx L) M1)):∀(n m:Nat) (L:Lc) (M:Mm),I m L M->m < n->Okx EX (whileD t B n L M) QS:=by
 intro n
 induction n with
 |zero=>intro m L M _ h;lia
 |succ n ih =>
  intro m L M hI hm
  unfold whileD
  refine aM ((hs m L M hI).mono λb M1 ⟨h1,h2⟩=>?_)
  cases b with
  |false=>exact aO (h2 rfl)
  |true =>
   refine aM ((h1 rfl).mono λo M2 z=>?_)
   cases o with
   |nx L2=>obtain⟨m',l,z⟩:=z;exact ih m' L2 M2 z (by lia)
   |ct L2=>obtain⟨m',l,z⟩:=z;exact ih m' L2 M2 z (by lia)
   |bk L2=>exact aO z
   |rt w=>exact aO z
theorem eH{c:FT}(I:Nat->List D->Lc->Mm->Prop)
  (h:Okx EX (fi L M) λs M1=>(I 0 [] (outL js L) M1/\(∀i acc L M,i<=s.ds.length->I i acc L M->M.length=M1.length/\Chk s (M++[acc])/\acc.length<=i)/\s.ds.length<=16777216 /\
   (∀i d acc L M,s.ds[i]?=some d->I i acc L M->Ok (gg (.d d) L (M++[acc])) λL1 M2=>Ok (c L1 M2) λb M3=>(b=true->Ok (f L1 M3) λw M4=>∃x M5,w=.d x/\M4=M5++[acc]/\I (i+1) (acc++[x]) L1 M5)/\(b=false->∃M5,M3=M5++[acc]/\I (i+1) acc L1 M5)) /\
   (∀acc L M,I s.ds.length acc L M->Q (.d (.lst acc)) M))):Okx EX (eComp js fi gg c f L M) Q:=by
 unfold eComp compT
 refine aM (aM (h.mono λs M1 ⟨h0,hc,hz,hs,hd⟩=>?_))
 have key:∀k i acc L M,s.ds.length - i=k->i<=s.ds.length->I i acc L M->∃acc' L' M',compD M1.length s gg c f (s.ds.drop i) L (M++[acc])=.ok () (M'++[acc'])/\I s.ds.length acc' L' M':=by
  intro k
  induction k with
  |zero =>
   intro i acc L M e hi hI
   have:i=s.ds.length:=by lia
   subst this
   rw[aEI (aAH _)]
   unfold compD
   rw[aAG (hc _ acc L M (aAH _) hI).2.1]
   exact⟨acc,L,M,rfl,hI⟩
  |succ k ih =>
   intro i acc L M e hi hI
   have hlt:i < s.ds.length:=by lia
   rw[aCZ hlt]
   unfold compD
   obtain⟨hl,hch,hal⟩:=hc _ acc L M hi hI
   rw[aAG hch]
   obtain⟨L1,M2,e1,hh⟩:=vM.mp (hs i s.ds[i] acc L M (by simp[hlt]) hI)
   obtain⟨L1',M3,e2,h1,h2⟩:=vM.mp hh
   rw[e1]
   simp only[gQ]
   rw[e2]
   simp only[gQ]
   cases L1' with
   |false =>
    obtain⟨M5,e3,hI'⟩:=h2 rfl
    subst e3
    simp only[aAY,aCG]
    exact ih (i+1) acc L1 M5 (by lia) (by lia) hI'
   |true =>
    obtain⟨w,M4,e3,x,M5,rfl,rfl,hI'⟩:=vM.mp (h1 rfl)
    simp only[aBT]
    rw[e3]
    simp only[gQ]
    have hl5:=(hc _ _ _ _ (by lia) hI').1
    have g1:(M5++[acc])[M1.length]?=some acc:=by rw[<- hl5];simp
    rw[g1]
    simp only
    rw[aAG (by lia)]
    have g2:(M5++[acc]).set M1.length (acc++[x])=M5++[acc++[x]]:=by rw[<- hl5];simp
    rw[g2]
    exact ih (i+1) (acc++[x]) L1 M5 (by lia) (by lia) hI'
 obtain⟨acc,L',M',e,hI⟩:=key s.ds.length 0 [] (outL js L) M1 (by lia) (by lia) h0
 rw[List.drop_zero]at e
 rw[e]
 have hl:=(hc _ _ _ _ (aAH _) hI).1
 have g1:(M'++[acc])[M1.length]?=some acc:=by rw[<- hl];simp
 have g2:(M'++[acc]).take M1.length=M':=by rw[<- hl];simp
 simp only[g1,g2]
 exact aO (aO (hd acc L' M' hI))
theorem aU{ws:List W}(hm:ws.length=m)(h:Okx EX (F (ws.map some++List.replicate (n - ws.length) none) M) λo M'=>match o with
  |.rt w=>Okx EX (retc M.length w M') Q
  |.nx _=>Q (.d .non) (M'.take M.length)
  |_=>False):Okx EX (fnD m n F ws M) Q:=by
 unfold fnD
 rw[aAG hm]
 refine aM (h.mono λo M' z=>?_)
 cases o with
 |rt w=>exact z
 |nx L=>exact aO z
 |bk L=>exact z.elim
 |ct L=>exact z.elim
theorem aCc{d:D}(q:Q (.d d) (M.take n)):Okx EX (retc n (.d d) M) Q:=aO q
variable{b:Nat}
theorem aBz{xs:List D}(hb:¬b < n)(h:M[b]?=some xs)(q:Q (.d (.lst xs)) (M.take n)):Okx EX (retc n (.ref b) M) Q:=by unfold retc;simp only;rw[aAC hb];simp only[h];exact aO q
theorem aEe{ws:List W}(hm:ws.length=m)(h:Okx EX (F (ws.map some++List.replicate (n - ws.length) none) M) λo M'=>∃i ds,o=.rt (.ref i)/\M.length<=i/\M'[i]?=some ds/\Q (.ref M.length) (M'.take M.length++[ds])):Okx EX (fnR m n F ws M) Q:=by
 unfold fnR
 rw[aAG hm]
 refine aM (h.mono λo M' ⟨i,ds,e,hi,e2,q⟩=>?_)
 subst e
 simp only[e2]
 rw[aAG hi]
 exact aO q
noncomputable def Bx(M:Mm)(b:Nat):Prop:=∃x y z,M[b]?=some [.int x,.int y,.int z]
noncomputable def Nx(b:Nat)(M M':Mm):Prop:=∃x y z,M'=M.set b [.int x,.int y,.int z]
theorem Bx.lt(h:Bx M b):b < M.length:=by obtain⟨x,y,z,e⟩:=h;exact(aAD.mp e).1
variable{M':Mm}
theorem Nx.len(h:Nx b M M'):M'.length=M.length:=by obtain⟨x,y,z,rfl⟩:=h;simp
theorem Nx.bx(h:Nx b M M')(l:Bx M b):Bx M' b:=by
 obtain⟨x,y,z,rfl⟩:=h
 exact⟨x,y,z,aBI l.lt⟩
theorem Nx.trans{M1 M2:Mm}(h:Nx b M M1)(h':Nx b M1 M2):Nx b M M2:=by
 obtain⟨x,y,z,rfl⟩:=h
 obtain⟨x',y',z',rfl⟩:=h'
 exact⟨x',y',z',by rw[aCN]⟩
theorem Nx.refl(h:Bx M b):Nx b M M:=by
 obtain⟨x,y,z,e⟩:=h
 refine⟨x,y,z,?_⟩
 apply aGT
 intro i
 by_cases hi:b=i
 ·subst hi;rw[aBI (aAD.mp e).1,e]
 ·rw[aBK hi]
theorem Nx.unapp{J:Mm}(h:Nx b (M++J) M')(l:b < M.length):∃M1,M'=M1++J/\Nx b M M1:=by
 obtain⟨x,y,z,rfl⟩:=h
 exact⟨_,List.set_append_left _ _ l,x,y,z,rfl⟩
theorem Bx.app{J:Mm}(h:Bx M b):Bx (M++J) b:=by
 obtain⟨x,y,z,e⟩:=h
 exact⟨x,y,z,by rw[aAS (aAD.mp e).1];exact e⟩
theorem Nx.take{M M':Mm}{b:Nat}(h:Nx b M M'):M'.take M.length=M':=by rw[<- h.len,aCT]
mutual
noncomputable def sz:D->Nat
 |.tup xs=>szs xs+1
 |.lst xs=>szs xs+1
 |.fz xs=>szs xs+1
 |.exn _ _ xs=>szs xs+1
 |_=>1
noncomputable def szs:List D->Nat
 |[]=>0
 |x::xs=>sz x+szs xs
end
mutual
noncomputable def noL:D->Bool
 |.tup xs=>noLs xs
 |.lst _=>false
 |.fz _=>false
 |.exn _ _ _=>false
 |_=>true
noncomputable def noLs:List D->Bool
 |[]=>true
 |x::xs=>noL x&&noLs xs
end
theorem atBox(c:Int):atI [D.int 0,D.int c] (if decide ((10:Int) ^ (Int.toNat 18)<=c)=true then 1 else 0)=some (.int (if(1000000000000000000:Int)<=c then c else 0)):=by
 by_cases hc:(1000000000000000000:Int)<=c <;> simp[hc,atI,ixN]
end EV
section
open PySem PySem.Spec PyProof.Rows
namespace EV
open L2
variable{EX:D->Mm->Prop}{K:Frag}{Q:W->Mm->Prop}
theorem aGz(h:Okx EX (f L M) λw M1=>∃xs,(w=.d (.tup xs)\/w=.d (.lst xs)\/w=.d (.fz xs))/\QI ⟨xs.reverse,none⟩ M1):Okx EX (iRv f L M) QI:=by
 refine aM (h.mono ?_)
 rintro w M1 ⟨xs,rfl|rfl|rfl,q⟩ <;> exact aO q
end EV
namespace EV
open L2
variable{EX:D->Mm->Prop}{K:Frag}{a b c:Expr}{fs:FA}
noncomputable def sBad:FS:=λ_ _=>.bad
theorem vW(hk:X.K=K:=by rfl):Es X K Z st sBad:=⟨hk,cqS aHa λ_ _ _ ⟨_,_,_,_,_,p⟩=>p⟩
noncomputable def srt(ns:List Int):List Int:=ns.mergeSort λa b=>decide (a<=b)
theorem mW(ns:List Int):(srt ns).Perm ns:=List.mergeSort_perm _ _
theorem rC(ns:List Int):(srt ns).Pairwise (·<=·):=by
 have:=List.pairwise_mergeSort (le:=λa b:Int=>decide (a<=b)) (λa b c h1 h2=>by simp at *;lia) (λa b=>by simp;lia) ns
 exact this.imp λh=>by simpa using h
theorem aGg{ns':List Int}(p:ns'.Perm ns)(o:ns'.Pairwise (·<=·)):ns'=srt ns :=
 List.Perm.eq_of_pairwise (le:=(·<=·)) (λa b _ _ h1 h2=>Int.le_antisymm h1 h2) o (rC ns) (p.trans (mW ns).symm)
theorem yU(ns:List Int):(srt ns).length=ns.length:=(mW ns).length_eq
theorem aJb{x:Int}:x∈srt ns ↔ x∈ns:=(mW ns).mem_iff
theorem mM:∀{ns:List Int},Vals (ns.map V.int) us->IntsAre us ns:=by
 induction us with
 |nil=>intro ns h;cases ns with
  |nil=>exact .nil
  |cons n r=>cases h
 |cons u us ih=>intro ns h;cases ns with
  |nil=>cases h
  |cons n r =>
   cases h with
   |cons p q =>
    obtain⟨t,rfl⟩:=p
    exact .cons n t (ih q)
theorem xN(h:IntsAre us ns):Vals (ns.map V.int) us:=by
 induction h with
 |nil=>exact .nil
 |cons n t _ ih=>exact .cons ⟨t,rfl⟩ ih
theorem xG:CallR X (.builtin "sorted") (λxs H Q=>∃p ns,xs=[.ref p]/\SqL X.K H p (ns.map V.int)/\ns.length < 64/\∀l,H l=none->Q (.ref l) (upd H l (.lst ((srt ns).map V.int)))):=by
 intro pins s σ H xs us Q I r h
 obtain⟨p,ns,rfl,hq,h64,q⟩:=h
 obtain⟨u,rfl,rx⟩:=vals1 r
 cases rx
 obtain⟨its,r',pl,hz⟩:=I.list hq
 have hI:=mM r'
 have hlen:its.length=ns.length:=by have:=r'.length;simpa using this.symm
 refine sorted_ints pl.isList hI (by lia) λout ns' a1 a2 a3=>?_
 have e:=aGg a2 a3
 subst e
 obtain⟨c,hc⟩:=sortedAll_at s.heap its out
 refine⟨.ref (s.heap.objs.size+1),_,I.laid (t':=s.toks) (λb o e=>sortedAll_old e) (aFH _) (show ObjOk X.prog X.w _ _ _ (.lst ((srt ns).map V.int))from⟨by rw[aBA];simp[yU];lia,out.toList,c,xN a1,by simpa using hc⟩),rfl,q _ (I.hok.fresh (aFH _))⟩
noncomputable def intsOf:List D->Option (List Int)
 |[]=>some []
 |.int i::r=>(intsOf r).map (i::·)
 |_::_=>none
theorem mP(ns:List Int):intsOf (ns.map D.int)=some ns:=by
 induction ns with
 |nil=>rfl
 |cons n r ih=>simp only[aAO,intsOf,ih,Option.map_some]
theorem gR:∀{ds:List D} {ns:List Int},intsOf ds=some ns->ds=ns.map D.int
 |[],ns,h=>by cases h;rfl
 |.int i::r,ns,h=>by
  simp only[intsOf,aAM]at h
  obtain⟨ms,h1,rfl⟩:=h
  rw[gR h1];rfl
 |.non::_,_,h=>by cases h
 |.bl _::_,_,h=>by cases h
 |.str _::_,_,h=>by cases h
 |.tup _::_,_,h=>by cases h
 |.lst _::_,_,h=>by cases h
 |.fz _::_,_,h=>by cases h
 |.exn _ _ _::_,_,h=>by cases h
theorem jA:∀{ns:List Int} {vs:List V},Rps K μ H (ns.map D.int) vs->vs=ns.map V.int
 |[],vs,h=>by simpa[Rps]using h
 |n::r,vs,h=>by
  simp only[aAO,Rps,Rp]at h
  obtain⟨v,t,rfl,rfl,h3⟩:=h
  rw[jA h3];rfl
noncomputable def cSorted(ws:List W)(M:Mm):Oc W:=match ws with
 |[w]=>match lr M w with
  |some xs=>match intsOf xs with
   |some ns=>if ns.length < 64 then okD (.lst ((srt ns).map .int)) M else .bad
   |none=>.bad
  |none=>.bad
 |_=>.bad
theorem callSorted(hc:X.calm=true):ClG X K Z (.builtin "sorted") cSorted:=λhk=>by
 refine⟨_,hk▸xG,?_⟩
 intro μ H M ws vs Q hr rx p
 match ws,rx,p with
 |[],_,p=>exact p.elim
 |[w],⟨v,r,e1,e2,e3⟩,p =>
  cases e3;subst e1
  simp only[cSorted]at p
  cases q:lr M w with
  |none=>rw[q]at p;exact p.elim
  |some xs =>
   rw[q]at p
   simp only at p
   cases q2:intsOf xs with
   |none=>rw[q2]at p;exact p.elim
   |some ns =>
    rw[q2]at p
    simp only at p
    split at p
    ·rename_i hz
     obtain⟨a,us,rfl,h1,r1⟩:=xL hr e2 q
     have e:=gR q2
     subst e
     have e:=jA r1
     subst e
     exact⟨a,ns,rfl,h1,hz,iD hr Rps.ints p⟩
    ·exact p.elim
 |_::_::_,_,p=>exact p.elim
theorem aGv{σ:St}{p:Addr}{ys:List V}(hc:X.calm=true)(I:Inv X pins σ H s)(hq:SqL X.K H p ys\/SqT X.K H p ys)
  (h:∀(s2:Shared) (J:Addr) (fp:List Addr) (its:Array Value) (St:Nat->Heap->Prop),Vals ys its.toList->Walks X.prog X.w X.A.in1 J fp [J] its.size (λi v=>its[i]?=some v) St->St 0 s2.heap->(∀b∈fp,b < s2.heap.objs.size) ->
   (∀h' tk,(∀b o,b∉[J]->s2.heap.get? b=some o->h'.get? b=some o)->Inv X pins σ H {s2 with heap:=h',toks:=tk})->Q (.ref J) s2):wpAny (model X.prog X.w) X.A.in1 (pyIter (.ref p)) Q X.xe s:=by
 rcases hq with hq|hq
 ·obtain⟨its,rv,pl,hz⟩:=I.list hq
  have hp:p < s.heap.objs.size:=by
   obtain⟨o,e,_⟩:=pl.isList
   exact aAJ e
  have I1:Inv X pins σ H {s with heap:=s.heap.push {cls:=.type "list_iterator",data:=.fields #[.ref p,rawInt 0]}}:=I.kept (t':=s.toks) λb o e=>aAA _ e
  refine aDF pl.isList (h _ s.heap.objs.size [s.heap.objs.size,p] its.toArray _ (by simpa using rv) (Walks.list (by show X.A.in1.handled=none;exact I.ok.hd hc) s.heap.objs.size p (aAV hp) its.toArray) ⟨⟨_,aAE _ rfl,rfl,rfl⟩,pl.isList.at λo e=>aAA _ e⟩ (λb hb=>?_) λh' tk hk=>?_)
  ·show b < (s.heap.push _).objs.size
   rw[aAW]
   simp only[aAU,aBL,aCU]at hb
   rcases hb with rfl|rfl
   ·exact aER _
   ·exact aDS hp
  ·obtain⟨f0,f1,f2,f3,f4,f5⟩:=I.fpOk (H':=H) (aAH _) (I.hok.fresh (aAH _))
   exact I1.turned (t':=tk) (it:=s.heap.objs.size) (λb o hb e=>hk b o (by simpa using hb) e) f0 f1 f3 f4 f5
 ·obtain⟨its,rv,pl,hz⟩:=I.tuple hq
  have pl:s.heap.IsTuple p its.toArray:=pl
  have hp:p < s.heap.objs.size:=by
   obtain⟨o,e,_⟩:=pl
   exact aAJ e
  have I1:Inv X pins σ H {s with heap:=s.heap.push {cls:=.type "tuple_iterator",data:=.fields #[.ref p,rawInt 0]}}:=I.kept (t':=s.toks) λb o e=>aAA _ e
  refine aCK pl (h _ s.heap.objs.size [s.heap.objs.size,p] its.toArray _ (by simpa using rv) (Walks.tuple (by show X.A.in1.handled=none;exact I.ok.hd hc) s.heap.objs.size p (aAV hp) its.toArray) ⟨⟨_,aAE _ rfl,rfl,rfl⟩,pl.at λo e=>aAA _ e⟩ (λb hb=>?_) λh' tk hk=>?_)
  ·show b < (s.heap.push _).objs.size
   rw[aAW]
   simp only[aAU,aBL,aCU]at hb
   rcases hb with rfl|rfl
   ·exact aER _
   ·exact aDS hp
  ·obtain⟨f0,f1,f2,f3,f4,f5⟩:=I.fpOk (H':=H) (aAH _) (I.hok.fresh (aAH _))
   exact I1.turned (t':=tk) (it:=s.heap.objs.size) (λb o hb e=>hk b o (by simpa using hb) e) f0 f1 f3 f4 f5
theorem uG(ns:List Int):∀k,k<=ns.length->preSum (λi=>ns.getD i 0) k=(ns.take k).sum
 |0,_=>by simp[preSum]
 |k+1,h=>by
  rw[preSum,uG ns k (by lia),aCC,List.sum_append]
  simp[aAQ (show k < ns.length by lia)]
theorem aCj(hc:X.calm=true):CallR X (.builtin "sum") (λxs H Q=>∃(p:Addr) (ns:List Int),xs=[.ref p]/\(SqL X.K H p (ns.map V.int)\/SqT X.K H p (ns.map V.int))/\Q (.int ns.sum) H):=by
 intro pins s σ H xs us Q I r h
 obtain⟨p,ns,rfl,hq,q⟩:=h
 obtain⟨u,rfl,rx⟩:=vals1 r
 cases rx
 refine call_sum_walkG (aGv hc I hq λs2 J fp its St rv W st0 hfp hI=>?_)
 have hl:ns.length=its.size:=by have:=rv.length;simpa using this
 refine⟨J,fp,[J],_,_,St,λi=>ns.getD i 0,rfl,W,st0,hfp,λi v hv=>?_,λh' tk t' hk=>?_⟩
 ·have hv:its.toList[i]?=some v:=by simpa using hv
  have hlt:i < ns.length:=by rw[hl];have:=(aAD.mp hv).1;simpa using this
  obtain⟨w',hw,rw'⟩:=rv.get (show(ns.map V.int)[i]?=some (.int (ns.getD i 0)) by simp[hlt])
  rw[hv]at hw
  cases hw
  exact rw'
 ·refine⟨.int ns.sum,H,hI h' tk hk,⟨t',?_⟩,q⟩
  rw[<- hl,uG ns _ (aAH _),aCT]
noncomputable def cSum(ws:List W)(M:Mm):Oc W:=match ws with
 |[w]=>match sv M w with
  |some xs=>match intsOf xs with
   |some ns=>okD (.int ns.sum) M
   |none=>.bad
  |none=>.bad
 |_=>.bad
theorem callSum(hc:X.calm=true):ClG X K Z (.builtin "sum") cSum:=λhk=>by
 refine⟨_,hk▸aCj hc,?_⟩
 intro μ H M ws vs Q hr rx p
 match ws,rx,p with
 |[],_,p=>exact p.elim
 |[w],⟨v,r,e1,e2,e3⟩,p =>
  cases e3;subst e1
  simp only[cSum]at p
  cases q:sv M w with
  |none=>rw[q]at p;exact p.elim
  |some xs =>
   rw[q]at p
   simp only at p
   cases q2:intsOf xs with
   |none=>rw[q2]at p;exact p.elim
   |some ns =>
    rw[q2]at p
    obtain⟨a,us,rfl,h1,r1⟩:=wD hr e2 q
    have e:=gR q2
    subst e
    have e:=jA r1
    subst e
    exact⟨a,ns,rfl,h1,p μ H .refl hr _ (by simp[Rw,Rp])⟩
 |_::_::_,_,p=>exact p.elim
variable{w x:W}{Q:W->Mm->Prop}
theorem aCs{ds:List D}(h:lr M x=some ds)(e:ds=ns.map D.int)(hz:ns.length < 64)(q:Q (.d (.lst ((srt ns).map D.int))) M):Okx EX (cSorted [x] M) Q:=by
 subst e
 unfold cSorted;simp only[h,mP];rw[aAG hz];exact aO q
theorem aMg{ds:List D}(h:sv M x=some ds)(e:ds=ns.map D.int)(q:Q (.d (.int ns.sum)) M):Okx EX (cSum [x] M) Q:=by
 subst e
 unfold cSum;simp only[h,mP];exact aO q
end EV
namespace EV
open L2
variable{EX:D->Mm->Prop}{K:Frag}{a b c o i e:Expr}{fs:FA}{fi fe:FE}
theorem aFf:PGet X (λo i H Q=>∃p xs j v,o=.ref p/\i=.int j/\0<=j/\SqL X.K H p xs/\xs[j.toNat]?=some v/\Q v H):=by
 intro pins s σ H o i ov iv Q I ro ri h
 obtain⟨p,xs,j,v,rfl,rfl,h0,hq,he,q⟩:=h
 cases ro
 obtain⟨t,rfl⟩:=ri
 obtain⟨its,r,pl,hz⟩:=I.list hq
 obtain⟨w,ew,rw'⟩:=r.get he
 have hl:=r.length
 have hn:=line63
 have hlt:j.toNat < xs.length:=(aAD.mp he).1
 exact wpAny_getItem_list pl.isList h0 (by lia) (by simpa using ew) ⟨v,H,I,rw',q⟩
noncomputable def sAugS(g:Int->Int->Int)(fo fi fe:FE):FS:=λL M=>(fo L M).bind λo M1=>(fi L M1).bind λi M2=>match o,i with
 |.ref k,.d (.int j)=>match M2[k]? with
  |some xs=>if 0<=j then match xs[j.toNat]? with
   |some (.int x)=>(fe L M2).bind λy M3=>match y with
    |.d (.int z)=>match M3[k]? with
     |some ys=>if j.toNat < ys.length then .ok (.nx L) (M3.set k (ys.set j.toNat (.int (g x z))))else .bad
     |none=>.bad
    |_=>.bad
   |_=>.bad
   else .bad
  |none=>.bad
 |_,_=>.bad
variable{g:Int->Int->Int}
theorem aJr(hp:PIp X op (ipI g))(ho:Ev X K Z o fo)(hi:Ev X K Z i fi)(he:Ev X K Z e fe)
  (ha:∀ov iv new,augStore i ov iv new=(do holding [new,ov,iv] (setItem ov iv new);release [new,ov,iv] [];pure .next):=by intros;rfl):Es X K Z (.AugAssign (.Subscript o i tpos) op e pos) (sAugS g fo fi fe):=by
 refine⟨ho.k,cqS (aKa ho.h hi.h aFf he.h hp xT ha) ?_⟩
 rintro E σ H ⟨μ,M,L,hr,lr,p⟩
 refine⟨μ,M,L,hr,lr,p.bind.imp λμ1 H1 M1 x e1 hr1 _ p1 vo ro=>?_⟩
 refine⟨μ1,M1,L,hr1,lr.ext hr.lsts e1,p1.bind.imp λμ2 H2 M2 y e2 hr2 _ p2 vi ri=>?_⟩
 cases x with
 |d x=>exact p2.elim
 |ref k=>cases y with
  |ref j=>exact p2.elim
  |d y=>cases y with
   |int j =>
    simp only at p2
    cases q1:M2[k]? with
    |none=>simp only[q1]at p2;exact p2.elim
    |some xs =>
     simp only[q1]at p2
     split at p2
     ·rename_i h0
      cases q2:xs[j.toNat]? with
      |none=>simp only[q2]at p2;exact p2.elim
      |some d =>
       simp only[q2]at p2
       cases d with
       |int z =>
        simp only at p2
        have ro:=ro.ext hr1.lsts e2
        obtain⟨a,qa,rfl⟩:=ro
        obtain⟨a',vs,qa',h1,r1⟩:=hr2.at q1
        rw[qa]at qa';cases qa'
        simp only[Rw,Rp]at ri
        subst ri
        obtain⟨u,hu,ru⟩:=r1.get q2
        simp only[Rp]at ru
        subst ru
        refine⟨a,vs,j,_,rfl,rfl,h0,SqL.of h1,hu,?_⟩
        refine⟨μ2,M2,L,hr2,lr.ext hr.lsts (e1.trans e2),p2.bind.imp λμ3 H3 M3 w e3 hr3 _ p3 vw rw'=>?_⟩
        cases w with
        |ref i=>exact p3.elim
        |d w=>cases w with
         |int t =>
          simp only at p3
          simp only[Rw,Rp]at rw'
          subst rw'
          cases q3:M3[k]? with
          |none=>simp only[q3]at p3;exact p3.elim
          |some ys =>
           simp only[q3]at p3
           split at p3
           ·rename_i hlt
            have qa3:=e3.pre _ _ qa
            obtain⟨a',vs',qa',h3,r3⟩:=hr3.at q3
            rw[qa3]at qa';cases qa'
            refine⟨z,t,rfl,rfl,a,vs',j,j.toNat,rfl,rfl,h3,?_,?_⟩
            ·rw[<- r3.length]
             unfold ixN
             rw[aAG h0,aAG (by lia)]
            ·exact p3 μ3 _ (eY qa3) (hr3.set qa3 (Rps.set (by simp[Rp]) _ r3)) σ ((lr.ext hr.lsts ((e1.trans e2).trans e3)).ext hr3.lsts (eY qa3))
           ·exact p3.elim
         |_=>exact p3.elim
       |_=>exact p2.elim
     ·exact p2.elim
   |_=>exact p2.elim
theorem vK(h:Okx EX (fo L M) λo M1=>Okx EX (fi L M1) λi M2=>∃k j xs x,o=.ref k/\i=.d (.int j)/\M2[k]?=some xs/\0<=j/\xs[j.toNat]?=some (.int x)/\Okx EX (fe L M2) λy M3=>∃z ys,y=.d (.int z)/\M3[k]?=some ys/\j.toNat < ys.length/\QS (.nx L) (M3.set k (ys.set j.toNat (.int (g x z))))):Okx EX (sAugS g fo fi fe L M) QS:=by
 refine aM (h.mono λo M1 z=>aM (z.mono λi M2 ⟨k,j,xs,x,e1,e2,e3,h0,e4,z'⟩=>?_))
 subst e1 e2
 simp only[e3]
 rw[aAG h0]
 simp only[e4]
 refine aM (z'.mono λy M3 ⟨z,ys,e5,e6,h1,q⟩=>?_)
 subst e5
 simp only[e6]
 rw[aAG h1]
 exact aO q
end EV
namespace L2
variable{σ:St}
theorem Inv.turnLay{T:Addr}{o:HO}(I:Inv X pins σ H s)(hf:∀b∈fp,FpOk X pins H b)(k:∀b u,b∉fp->s.heap.get? b=some u->h'.get? b=some u)(hT:s.heap.objs.size<=T)(new:ObjOk X.prog X.w (upd H T o) h' T o) :
  Inv X pins σ (upd H T o) {s with heap:=h',toks:=t'}:=by
 have hn:H T=none:=I.hok.fresh hT
 have nfp:∀b u,H b=some u->b∉fp:=λb u e z=>by rw[(hf b z).1]at e;cases e
 have lt:∀b u,s.heap.get? b=some u->b≠T:=λb u e z=>by subst z;exact absurd (aAJ e) (Nat.not_lt.mpr hT)
 have neT:∀b u,H b=some u->b≠T:=λb u e z=>by rw[z,hn]at e;cases e
 refine I.step (g':=s.gens) (d':=s.drawn) (ch:=fp) (λb hb=>?_) (λb u _ _ hc e _=>k b u hc e) (λb u _ _ hc e _=>⟨u.slots,k b u hc e⟩) (λb u _ e n=>by rw[bE (lt b u e)];exact n)
  (λb u hc e=>⟨u,k b u hc e⟩) (λb xs e=>by rw[bE (neT b _ e)];exact e) (λb u v e=>by rw[bE (neT b _ e)];exact e) (λb ps e=>⟨#[],by rw[bE (neT b _ e),e];simp⟩) (λm hm=>?_) (λb u e=>?_) I.bare
 ·obtain⟨_,f1,_,f3,f4,f5⟩:=hf b hb
  exact⟨f3,f1,f4,f5⟩
 ·obtain⟨u,es,ep,ho,r⟩:=hm
  exact⟨u,es,ep,k _ u (λz=>(hf _ z).2.1 rfl) ho,r⟩
 ·by_cases hb:b=T
  ·subst hb;rw[eT]at e;cases e;exact new
  ·rw[bE hb]at e
   refine(I.hok b u e).stay (λc v hc q=>k c v ?_ q) (λc q=>by rw[bE (neT c _ q)];exact q) λc xs q=>by rw[bE (neT c _ q)];exact q
   rcases hc with z|z
   ·rw[z];exact nfp b u e
   ·exact nfp c _ z
theorem Inv.turnedL(I:Inv X pins σ H s)(hf:∀b∈fp,FpOk X pins H b)(k:∀b u,b∉fp->s.heap.get? b=some u->h'.get? b=some u):Inv X pins σ H {s with heap:=h',toks:=t'}:=by
 have nfp:∀b u,H b=some u->b∉fp:=λb u e z=>by rw[(hf b z).1]at e;cases e
 refine I.step (g':=s.gens) (d':=s.drawn) (ch:=fp) (λb hb=>?_) (λb u _ _ hc e _=>k b u hc e) (λb u _ _ hc e _=>⟨u.slots,k b u hc e⟩) (λ_ _ _ _ n=>n)
  (λb u hc e=>⟨u,k b u hc e⟩) (λ_ _ e=>e) (λ_ _ _ e=>e) (λb ps e=>⟨#[],by rw[e];simp⟩) (λm hm=>?_) (λb u e=>?_) I.bare
 ·obtain⟨_,f1,_,f3,f4,f5⟩:=hf b hb
  exact⟨f3,f1,f4,f5⟩
 ·obtain⟨u,es,ep,ho,r⟩:=hm
  exact⟨u,es,ep,k _ u (λz=>(hf _ z).2.1 rfl) ho,r⟩
 ·refine(I.hok b u e).stay (λc v hc q=>k c v ?_ q) (λ_ q=>q) λ_ _ q=>q
  rcases hc with z|z
  ·rw[z];exact nfp b u e
  ·exact nfp c _ z
noncomputable def SqB(b:Bool)(K:Frag)(H:Hp)(a:Addr)(xs:List V):Prop:=if b=true then SqL K H a xs else SqT K H a xs
noncomputable def It0(b:Bool)(h:Heap)(it src:Addr)(i:Nat):Prop:=if b=true then h.IsListIter it src i else h.IsTupleIter it src i
noncomputable def IsB(b:Bool)(h:Heap)(a:Addr)(xs:Array Value):Prop:=if b=true then h.IsList a xs else h.IsTuple a xs
theorem It0.at{b:Bool}{h h':Heap}{it src:Addr}{i:Nat}(x:It0 b h it src i)(k:∀o,h.get? it=some o->h'.get? it=some o):It0 b h' it src i:=by
 cases b
 ·exact Heap.IsTupleIter.at x k
 ·exact Heap.IsListIter.at x k
variable{b:Bool}
theorem It0.obj(x:It0 b h it src i):∃o,h.get? it=some o/\∀v,o.data≠.cell v:=by
 cases b
 ·obtain⟨o,e,c,d⟩:=(show h.IsTupleIter it src i from x)
  exact⟨o,e,λv z=>by rw[d]at z;cases z⟩
 ·obtain⟨o,e,c,d⟩:=(show h.IsListIter it src i from x)
  exact⟨o,e,λv z=>by rw[d]at z;cases z⟩
theorem nW(x:It0 b h it src i)(y:IsB b h src xs):ZP.It1 h it src i xs:=by
 cases b
 ·exact .inr ⟨x,y⟩
 ·exact .inl ⟨x,y⟩
theorem rK(y:IsB b h src ys)(x:ZP.It1 h it src i xs):It0 b h it src i:=by
 cases b
 ·rcases x with⟨_,o,e,c,_⟩|⟨x,_⟩
  ·obtain⟨o',e',c',_⟩:=(show h.IsTuple src ys from y)
   rw[e]at e';cases e';rw[c]at c';simp at c'
  ·exact x
 ·rcases x with⟨x,_⟩|⟨_,o,e,c,_⟩
  ·exact x
  ·obtain⟨o',e',c',_⟩:=(show h.IsList src ys from y)
   rw[e]at e';cases e';rw[c]at c';simp at c'
variable{a:Addr}
theorem IsB.at(x:IsB b h a xs)(k:∀o,h.get? a=some o->h'.get? a=some o):IsB b h' a xs:=by
 cases b
 ·obtain⟨o,e,r⟩:=(show h.IsTuple a xs from x);exact⟨o,k o e,r⟩
 ·obtain⟨o,e,r⟩:=(show h.IsList a xs from x);exact⟨o,k o e,r⟩
theorem IsB.lt(x:IsB b h a xs):a < h.objs.size:=by
 cases b
 ·obtain⟨o,e,r⟩:=(show h.IsTuple a xs from x);exact aAJ e
 ·obtain⟨o,e,r⟩:=(show h.IsList a xs from x);exact aAJ e
theorem SqB.inv{xs:List V}(I:Inv X pins σ H s)(h:SqB b X.K H a xs):∃its:List Value,Vals xs its/\IsB b s.heap a its.toArray/\xs.length<=sizeLine:=by
 cases b
 ·obtain⟨its,r,pl,hz⟩:=I.tuple (show SqT X.K H a xs from h);exact⟨its,r,pl,hz⟩
 ·obtain⟨its,r,pl,hz⟩:=I.list (show SqL X.K H a xs from h);exact⟨its,r,pl.isList,hz⟩
variable{E:Value->Shared->Prop}{elts:List Expr}
theorem aDx{x1}{TI TO T:Addr}{f0 f1:Value}{Q:Unit->Shared->Prop}(hz:s.heap.get? z=some (ZP.zobj TI TO f0 f1))(hf:f0=.none\/∃T:Nat,f0=rawInt T)
  (hQ:∀h' g0,h'.get? z=some (ZP.zobj TI TO g0 f1)->(g0=.none\/∃T:Nat,g0=rawInt T)->Heap.SameBut z s.heap h'->Q () {s with heap:=h'}):wpAny (model prog w) A (letOwnedTupleGo (.Tuple elts x1 pos) (.ref z) (.ref T)) Q E s:=by
 unfold letOwnedTupleGo
 refine aAB (wpAny_load hz ?_)
 show wpAny _ A (if(["enumerate","zip","dict_itemiterator","dict_reverseitemiterator","odict_iterator","itertools.zip_longest","itertools.pairwise"].contains "zip"&&(#[f0,f1,.bool false,.ref TI,.ref TO]:Array Value)[0]?==some (rawInt T))=true then _ else _) Q E s
 by_cases hc:(["enumerate","zip","dict_itemiterator","dict_reverseitemiterator","odict_iterator","itertools.zip_longest","itertools.pairwise"].contains "zip"&&(#[f0,f1,.bool false,.ref TI,.ref TO]:Array Value)[0]?==some (rawInt T))=true
 ·rw[aAG hc]
  refine aAB (aDE ?_)
  show wpAny _ A (setField (.ref z) 0 .none) Q E s
  exact aBS hz (by simp) λh' hz' hs'=>hQ h' .none hz' (.inl rfl) hs'
 ·rw[aAC hc]
  exact aAF (hQ s.heap f0 hz hf ⟨rfl,λ_ _=>rfl⟩)
noncomputable def tnz(b1 b2:Bool)(z TI TO i1 i2 l1 l2:Addr)(i:Nat)(h:Heap):Prop :=
 (∃f0 f1,h.get? z=some (ZP.zobj TI TO f0 f1)/\(f0=.none\/∃T:Nat,f0=rawInt T))/\IsPair h TI (.ref i1) (.ref i2)/\(∃a b,IsPair h TO a b)/\It0 b1 h i1 l1 i/\It0 b2 h i2 l2 i
noncomputable def Itz(b1 b2:Bool)(K:Frag)(l1 l2:Addr)(xs ys:List V):It :=
 ⟨λi H=>SqB b1 K H l1 xs/\SqB b2 K H l2 ys/\i < xs.length/\i < ys.length,λi H x H'=>∃T u v,H T=none/\x=.ref T/\xs[i]?=some u/\ys[i]?=some v/\H'=upd H T (.tup [u,v]),λi H=>SqB b1 K H l1 xs/\SqB b2 K H l2 ys/\(xs.length<=i\/ys.length<=i)⟩
theorem xD{x1}{b1 b2:Bool}{TI TO i1 i2:Addr}(D:ZP.Ap z TI TO i1 i2 l1 l2)(xs ys:List V):Turn P w K (.Tuple elts x1 pos) (Itz b1 b2 K l1 l2 xs ys) [z,TI,TO,i1,i2] z (tnz b1 b2 z TI TO i1 i2 l1 l2)where
 mem:=by simp
 obj:=λi h st b hb=>by
  obtain⟨⟨f0,f1,hz,_⟩,hTI,⟨a,c,hTO⟩,h1,h2⟩:=st
  simp only[aAU,aBL,aCU]at hb
  rcases hb with rfl|rfl|rfl|rfl|rfl
  ·exact⟨_,hz,λv z=>by cases z⟩
  ·exact⟨_,hTI,λv z=>by cases z⟩
  ·exact⟨_,hTO,λv z=>by cases z⟩
  ·exact h1.obj
  ·exact h2.obj
 keep:=λi h h' st k=>by
  obtain⟨⟨f0,f1,hz,hf⟩,hTI,⟨a,c,hTO⟩,h1,h2⟩:=st
  exact⟨⟨f0,f1,k z (by simp) _ hz,hf⟩,k TI (by simp) _ hTI,⟨a,c,k TO (by simp) _ hTO⟩,h1.at λo e=>k i1 (by simp) o e,h2.at λo e=>k i2 (by simp) o e⟩
 item:=by
  intro X hP hw hK hc i pins s σ H E I hf st hg
  subst hP hw hK
  obtain⟨sx,sy,hx,hy⟩:=hg
  obtain⟨its1,r1,y1,z1⟩:=sx.inv I
  obtain⟨its2,r2,y2,z2⟩:=sy.inv I
  obtain⟨⟨f0,f1,hz,hf0⟩,hTI,hTO,h1,h2⟩:=st
  have hT:s.TypeIs (.ref z) "zip":=⟨_,hz,rfl⟩
  obtain⟨u,hu,ru⟩:=r1.get (aAQ hx)
  obtain⟨v,hv,rv⟩:=r2.get (aAQ hy)
  have zlt:z < s.heap.objs.size:=aAJ hz
  unfold pyNext
  refine aAB (aEC (aBU (name:=Str.ofString "__next__") hT aEX
   (aBW aEX hT F.entry_zip_next
    (ZP.zip_next_item D ⟨⟨f0,f1,hz,hf0⟩,hTI,hTO,nW h1 y1,nW h2 y2⟩ (x:=u) (y:=v) (by simpa using hu) (by simpa using hv) λh' T z' p' n' k'=>aAF ?_) (F.args_zip_next_1 _))))
  refine⟨_,rfl,?_⟩
  obtain⟨⟨g0,g1,hz',hg0⟩,hTI',⟨c,d,hTO'⟩,a1',a2'⟩:=z'
  have y1':IsB b1 h' l1 its1.toArray:=y1.at λo e=>k' l1 o D.l1z D.l1TO D.l1i1 D.l1i2 e
  have y2':IsB b2 h' l2 its2.toArray:=y2.at λo e=>k' l2 o D.l2z D.l2TO D.l2i1 D.l2i2 e
  refine aDx (s:={s with heap:=h'}) hz' hg0 λh2 g2 hz2 hg2 sb=>?_
  have sb:Heap.SameBut z h' h2:=sb
  have kk:∀b o,b∉[z,TI,TO,i1,i2]->s.heap.get? b=some o->h2.get? b=some o:=λb o hb e=>by
   simp only[aAU,aBL,aCU,not_or]at hb
   obtain⟨q1,q2,q3,q4,q5⟩:=hb
   exact sb.extBut b o q1 (k' b o q1 q3 q4 q5 e)
  have hTz:T≠z:=λe=>absurd zlt (Nat.not_lt.mpr (e▸n'))
  have hp2:h2.get? T=some {cls:=.type "tuple",data:=.seq #[u,v]}:=sb.extBut T _ hTz p'
  refine⟨.ref T,upd H T (.tup [xs[i],ys[i]]),I.turnLay (t':=s.toks) hf kk n' (show ObjOk X.prog X.w _ h2 T (.tup [xs[i],ys[i]])from⟨by show 2<=sizeLine;decide,[u,v],.cons ru (.cons rv .nil),_,hp2,rfl,_,rfl⟩),rfl,⟨T,xs[i],ys[i],I.hok.fresh n',rfl,aAQ hx,aAQ hy,rfl⟩,?_,λb hb=>?_⟩
  ·exact⟨⟨g2,g1,hz2,hg2⟩,sb.extBut TI _ D.TIz hTI',⟨c,d,sb.extBut TO _ D.TOz hTO'⟩,(rK y1' a1').at λo e=>sb.extBut i1 o D.i1z e,(rK y2' a2').at λo e=>sb.extBut i2 o D.i2z e⟩
  ·rw[bE]
   ·exact(hf b hb).1
   ·rintro rfl
    simp only[aAU,aBL,aCU]at hb
    have:b < s.heap.objs.size:=by
     rcases hb with rfl|rfl|rfl|rfl|rfl
     ·exact zlt
     ·exact aAJ hTI
     ·obtain⟨_,_,q⟩:=hTO;exact aAJ q
     ·obtain⟨o,q,_⟩:=h1.obj;exact aAJ q
     ·obtain⟨o,q,_⟩:=h2.obj;exact aAJ q
    exact absurd this (Nat.not_lt.mpr n')
 done:=by
  intro X hP hw hK hc i pins s σ H E I hf st hg
  subst hP hw hK
  obtain⟨sx,sy,hend⟩:=hg
  obtain⟨its1,r1,y1,z1⟩:=sx.inv I
  obtain⟨its2,r2,y2,z2⟩:=sy.inv I
  obtain⟨⟨f0,f1,hz,hf0⟩,hTI,hTO,h1,h2⟩:=st
  have hT:s.TypeIs (.ref z) "zip":=⟨_,hz,rfl⟩
  have l1':=r1.length
  have l2':=r2.length
  unfold pyNext
  refine aAB (aEC (aBU (name:=Str.ofString "__next__") hT aEX
   (aBW aEX hT F.entry_zip_next (ZP.zip_next_end (I.ok.hd hc) D ⟨⟨f0,f1,hz,hf0⟩,hTI,hTO,nW h1 y1,nW h2 y2⟩ (by
    rcases hend with q|q
    ·exact .inl (by simp;lia)
    ·exact .inr (by simp;lia)) λh' e hk he=>?_) (F.args_zip_next_1 _))))
  obtain⟨o,ho,hcl⟩:=he
  refine aAB (aFL (T:="StopIteration") (b:=true) ⟨o,ho,hcl⟩ isSubtype_stop ?_)
  refine aAF ⟨rfl,I.turnedL (t':=s.toks) hf λb o hb e=>?_⟩
  simp only[aAU,aBL,aCU,not_or]at hb
  obtain⟨q1,q2,q3,q4,q5⟩:=hb
  exact hk b o q1 q3 q4 q5 e
 self:=λA i s Q E st hQ=>by
  obtain⟨⟨f0,f1,hz,_⟩,_⟩:=st
  have hT:s.TypeIs (.ref z) "zip":=⟨_,hz,rfl⟩
  refine aGV hT F.slot_zip_iter (aBW F.slot_zip_iter hT F.entry_zip_iter ?_ (F.args_zip_iter_1 _))
  show wpAny _ _ (ret (.ref z)) _ _ s
  exact aAF ⟨_,rfl,"zip",_,hT,aEX.lookup,hQ⟩
theorem aPh{x1}{a b:Expr}(hg:Gl X "zip")(hm:X.mg "zip"=none)(ha:PE X a ta)(hb:PE X b tb)
  (hs2:starEach [a,b] X.env=(false,eval a X.env)::starEach [b] X.env:=by rfl)(hs3:starEach [b] X.env=(false,eval b X.env)::starEach [] X.env:=by rfl)(hpl2:(backTo pos (starEach [b] X.env)).any (·.1)=false:=by rfl) :
  PI X (.Tuple elts x1 tpos) (.Call (.Name "zip" p) [a,b] [] pos) (λσ H R=>ta σ H λx H1=>tb σ H1 λy H2=>∃l1 l2 b1 b2 xs ys,x=.ref l1/\y=.ref l2/\SqB b1 X.K H2 l1 xs/\SqB b2 X.K H2 l2 ys/\R (Itz b1 b2 X.K l1 l2 xs ys) H2):=by
 intro pins s σ H R I h
 refine aCY (hG I hg hm aMr ?_)
 refine aBO (thn (cM ha (cM hb fE hs3) hs2 pos pins s σ H (λvs H2=>match vs with|[x,y]=>∃l1 l2 b1 b2 xs ys,x=.ref l1/\y=.ref l2/\SqB b1 X.K H2 l1 xs/\SqB b2 X.K H2 l2 ys/\R (Itz b1 b2 X.K l1 l2 xs ys) H2|_=>False) I h) λus s1 ⟨vs,H1,I1,r1,hr⟩=>?_) hs2 hpl2
 match vs,r1,hr with
 |[],_,hr=>exact hr.elim
 |[_],_,hr=>exact hr.elim
 |_::_::_::_,_,hr=>exact hr.elim
 |[x,y],r1,hr =>
 obtain⟨u1,u2,rfl,rx,ry⟩:=r1.two
 obtain⟨l1,l2,b1,b2,xs,ys,rfl,rfl,sx,sy,hq⟩:=hr
 cases rx
 cases ry
 obtain⟨its,q1,p1,z1⟩:=sx.inv I1
 obtain⟨its2,q2,p2,z2⟩:=sy.inv I1
 have hl1:=p1.lt
 have hl2:=p2.lt
 have e1:s1.heap.IsList l1 its.toArray\/s1.heap.IsTuple l1 its.toArray:=by cases b1;exact .inr p1;exact .inl p1
 have e2:s1.heap.IsList l2 its2.toArray\/s1.heap.IsTuple l2 its2.toArray:=by cases b2;exact .inr p2;exact .inl p2
 have D:=ZP.ap_of hl1 hl2
 refine ZP.call_zipG e1 e2 λh1 Zs1 hsz kp=>?_
 obtain⟨⟨f0,f1,hz,hf0⟩,hTI,hTO,a1,a2⟩:=Zs1
 have tz:tnz b1 b2 (s1.heap.objs.size+4) (s1.heap.objs.size+2) (s1.heap.objs.size+3) s1.heap.objs.size (s1.heap.objs.size+1) l1 l2 0 h1:=⟨⟨f0,f1,hz,hf0⟩,hTI,hTO,rK (p1.at λo e=>kp l1 o e) a1,rK (p2.at λo e=>kp l2 o e) a2⟩
 refine(xD (P:=X.prog) (w:=X.w) (K:=X.K) (elts:=elts) (x1:=x1) (pos:=tpos) (b1:=b1) (b2:=b2) D xs ys).self _ 0 _ _ _ tz ?_
 refine⟨s1.heap.objs.size+4,_,_,_,H1,rfl,I1.kept (t':=s1.toks) λb o e=>kp b o e,xD D xs ys,tz,λb hb=>?_,hq⟩
 refine I1.fpOk ?_ (I1.hok.fresh ?_) <;>
 ·simp only[aAU,aBL,aCU]at hb
  rcases hb with rfl|rfl|rfl|rfl|rfl <;> (show(_:Nat)<=(_:Nat);lia)
end L2
namespace EV
open L2
variable{EX:D->Mm->Prop}{K:Frag}{a b:Expr}{g:FE}{tg:Expr}
noncomputable def dz:W->Option (List D)
 |.d (.tup xs)=>some xs
 |.d (.lst xs)=>some xs
 |.d (.fz xs)=>some xs
 |_=>none
theorem uK{w:W}{ds:List D}(r:Rw K μ H w v)(h:dz w=some ds):∃(b:Bool) (a:Addr) (vs:List V) (S:List Addr->Hp->Prop),v=.ref a/\S μ H/\(∀μ1 H1 μ2 H2,Lsts μ1 H1->S μ1 H1->Ext μ1 H1 μ2 H2->S μ2 H2)/\∀μ1 H1,S μ1 H1->SqB b K H1 a vs/\Rps K μ1 H1 ds vs:=by
 cases w with
 |ref i=>cases h
 |d x=>cases x with
  |tup xs =>
   cases h
   simp only[Rw,Rp]at r
   obtain⟨p,vs,rfl,h1,r1⟩:=r
   exact⟨false,p,vs,λμ2 H2=>H2 p=some (.tup vs)/\Rps K μ2 H2 ds vs,rfl,⟨h1,r1⟩,λμ1 H1 μ2 H2 l z e=>⟨e.keep _ _ (λq=>by obtain⟨us,q⟩:=l p q;rw[z.1]at q;cases q) z.1,Rps.ext l e _ _ z.2⟩,λμ1 H1 z=>⟨SqT.of z.1,z.2⟩⟩
  |lst xs =>
   cases h
   simp only[Rw,Rp]at r
   obtain⟨p,vs,rfl,h1,hn,r1⟩:=r
   exact⟨true,p,vs,λμ2 H2=>H2 p=some (.lst vs)/\p∉μ2/\Rps K μ2 H2 ds vs,rfl,⟨h1,hn,r1⟩,λμ1 H1 μ2 H2 l z e=>⟨e.keep _ _ z.2.1 z.1,λq=>(e.new p q).elim z.2.1 (λq=>by rw[z.1]at q;cases q),Rps.ext l e _ _ z.2.2⟩,λμ1 H1 z=>⟨SqL.of z.1,z.2.2⟩⟩
  |fz xs =>
   cases h
   simp only[Rw,Rp]at r
   obtain⟨p,vs,rfl,h1,r1⟩:=r
   exact⟨true,p,vs,λμ2 H2=>FzL K H2 p vs/\Rps K μ2 H2 ds vs,rfl,⟨h1,r1⟩,λμ1 H1 μ2 H2 l z e=>⟨z.1.ext l e,Rps.ext l e _ _ z.2⟩,λμ1 H1 z=>⟨z.1.sq,z.2⟩⟩
  |_=>cases h
theorem rB{xs ys:List D}{d:D}(h:(zipT xs ys)[i]?=some d):∃x y,xs[i]?=some x/\ys[i]?=some y/\d=.tup [x,y]:=by
 unfold zipT at h
 rw[aAP,aAM]at h
 obtain⟨p,h1,rfl⟩:=h
 rw[List.getElem?_zip_eq_some]at h1
 exact⟨_,_,h1.1,h1.2,rfl⟩
theorem oT{xs ys:List D}:(zipT xs ys).length=min xs.length ys.length:=by simp[zipT]
theorem nC{T:Addr}{x y:D}{u:V}(hr:HR K μ H M)(hT:H T=none)(r1:Rp K μ H x u)(r2:Rp K μ H y v):Ext μ H μ (upd H T (.tup [u,v]))/\HR K μ (upd H T (.tup [u,v])) M/\Rp K μ (upd H T (.tup [u,v])) (.tup [x,y]) (.ref T):=by
 have e:=iI (o:=.tup [u,v]) hr hT
 refine⟨e,hr.lay hT,?_⟩
 simp only[Rp]
 exact⟨T,[u,v],rfl,eT,.cons (Rp.ext hr.lsts e _ _ r1) (.cons (Rp.ext hr.lsts e _ _ r2) .nil)⟩
noncomputable def cz(M:Mm):W->Option (Nat×List D)
 |.ref t=>match M[t]? with
  |some ys=>if(intsOf ys).isSome then some (t,ys)else none
  |none=>none
 |_=>none
theorem aPu{y:W}{t:Nat}{ys:List D}(h:cz M y=some (t,ys)):y=.ref t/\M[t]?=some ys/\∃ns:List Int,ys=ns.map D.int:=by
 cases y with
 |d x=>cases h
 |ref t' =>
  simp only[cz]at h
  cases q:M[t']? with
  |none=>simp only[q]at h;cases h
  |some ys' =>
   simp only[q]at h
   cases e:intsOf ys' with
   |none=>simp[e]at h
   |some ns =>
    simp only[e,Option.isSome_some,aBT,aBB,Prod.mk.injEq]at h
    obtain⟨rfl,rfl⟩:=h
    exact⟨rfl,q,ns,gR e⟩
noncomputable def iZip(f g:FE):FI:=λL M=>(f L M).bind λx M1=>(g L M1).bind λy M2=>match dz x,dz y with
 |some xs,some ys=>.ok ⟨zipT xs ys,none⟩ M2
 |some xs,none=>match cz M2 y with
  |some (t,ys)=>.ok ⟨zipT xs ys,some (.two t ys)⟩ M2
  |none=>.bad
 |_,_=>.bad
theorem aGe{elts:List Expr}{x1}(hm:X.mg "zip"=none)(ha:Ev X K Z a f)(hb:Ev X K Z b g)(hg:Gl X "zip":=by rfl)
  (hs2:starEach [a,b] X.env=(false,eval a X.env)::starEach [b] X.env:=by rfl)(hs3:starEach [b] X.env=(false,eval b X.env)::starEach [] X.env:=by rfl)(hpl2:(backTo pos (starEach [b] X.env)).any (·.1)=false:=by rfl):Ei X K Z (.Tuple elts x1 tpos) (.Call (.Name "zip" p) [a,b] [] pos) (iZip f g):=by
 have h':=aPh (elts:=elts) (x1:=x1) (tpos:=tpos) (p:=p) (pos:=pos) hg hm ha.h hb.h hs2 hs3 hpl2
 rw[ha.k]at h'
 refine⟨ha.k,cqI h' ?_⟩
 rintro σ H R ⟨μ,M,L,hr,lr,p⟩
 refine⟨μ,M,L,hr,lr,p.bind.imp λμ1 H1 M1 w e1 hr1 _ p1 v rw'=>?_⟩
 refine⟨μ1,M1,L,hr1,lr.ext hr.lsts e1,p1.bind.imp λμ2 H2 M2 w2 e2 hr2 _ p2 v2 rw2=>?_⟩
 cases q1:dz w with
 |none=>simp only[q1]at p2;exact p2.elim
 |some xs =>
  cases q2:dz w2 with
  |none =>
   cases q3:cz M2 w2 with
   |none=>simp only[q1,q2,q3]at p2;exact p2.elim
   |some ty =>
   obtain⟨t,ys⟩:=ty
   simp only[q1,q2,q3]at p2
   obtain⟨rfl,hM,ns,rfl⟩:=aPu q3
   obtain⟨b1,l1,vs1,S1,rfl,s1,x1,d1⟩:=uK (rw'.ext hr1.lsts e2) q1
   obtain⟨a,qa,rfl⟩:=rw2
   have cell:∀{μ3:List Addr} {H3:Hp} {M3:Mm},HR K μ3 H3 M3->μ3[t]?=some a->M3[t]?=some (ns.map D.int)->SqB true K H3 a (ns.map V.int):=λhr3 z c=>by
    obtain⟨a',vs,qa',h1,r1⟩:=hr3.at c
    rw[z]at qa';cases qa'
    rw[jA r1]at h1
    exact SqL.of h1
   refine⟨l1,a,b1,true,vs1,ns.map V.int,rfl,rfl,(d1 _ _ s1).1,cell hr2 qa hM,p2 μ2 H2 .refl hr2 _ ?_⟩
   refine⟨λμ H=>S1 μ H/\μ[t]?=some a,⟨s1,qa⟩,λμ1 H1 μ2 H2 l z e=>⟨x1 _ _ _ _ l z.1 e,e.pre _ _ z.2⟩,λμ3 H3 M3 i hr3 hS hc=>?_⟩
   obtain⟨c1,r1⟩:=d1 _ _ hS.1
   have c2:=cell hr3 hS.2 (hc _ rfl)
   have r2:Rps K μ3 H3 (ns.map D.int) (ns.map V.int):=Rps.ints
   refine⟨λd hd=>?_,λhl=>?_⟩
   ·obtain⟨x,y,hx,hy,rfl⟩:=rB hd
    obtain⟨u,hu,ru⟩:=r1.get hx
    obtain⟨v,hv,rv⟩:=r2.get hy
    refine⟨⟨c1,c2,(aAD.mp hu).1,(aAD.mp hv).1⟩,λx' H4 hy4=>?_⟩
    obtain⟨T,u',v',hT,rfl,hu',hv',rfl⟩:=hy4
    rw[hu]at hu';cases hu'
    rw[hv]at hv';cases hv'
    exact nC hr3 hT ru rv
   ·refine⟨c1,c2,?_⟩
    simp only[oT]at hl
    rw[<- r1.length,<- r2.length]
    lia
  |some ys =>
   simp only[q1,q2]at p2
   obtain⟨b1,l1,vs1,S1,rfl,s1,x1,d1⟩:=uK (rw'.ext hr1.lsts e2) q1
   obtain⟨b2,l2,vs2,S2,rfl,s2,x2,d2⟩:=uK rw2 q2
   refine⟨l1,l2,b1,b2,vs1,vs2,rfl,rfl,(d1 _ _ s1).1,(d2 _ _ s2).1,p2 μ2 H2 .refl hr2 _ ?_⟩
   refine⟨λμ H=>S1 μ H/\S2 μ H,⟨s1,s2⟩,λμ1 H1 μ2 H2 l z e=>⟨x1 _ _ _ _ l z.1 e,x2 _ _ _ _ l z.2 e⟩,λμ3 H3 M3 i hr3 hS hc=>?_⟩
   obtain⟨c1,r1⟩:=d1 _ _ hS.1
   obtain⟨c2,r2⟩:=d2 _ _ hS.2
   refine⟨λd hd=>?_,λhl=>?_⟩
   ·obtain⟨x,y,hx,hy,rfl⟩:=rB hd
    obtain⟨u,hu,ru⟩:=r1.get hx
    obtain⟨v,hv,rv⟩:=r2.get hy
    refine⟨⟨c1,c2,(aAD.mp hu).1,(aAD.mp hv).1⟩,λx' H4 hy4=>?_⟩
    obtain⟨T,u',v',hT,rfl,hu',hv',rfl⟩:=hy4
    rw[hu]at hu';cases hu'
    rw[hv]at hv';cases hv'
    exact nC hr3 hT ru rv
   ·refine⟨c1,c2,?_⟩
    simp only[oT]at hl
    rw[<- r1.length,<- r2.length]
    lia
theorem aAr(h:Okx EX (f L M) λx M1=>Okx EX (g L M1) λy M2=>∃xs ys,dz x=some xs/\dz y=some ys/\QI ⟨zipT xs ys,none⟩ M2):Okx EX (iZip f g L M) QI :=
 aM (h.mono λx M1 z=>aM (z.mono λy M2 ⟨xs,ys,e1,e2,q⟩=>by simp only[e1,e2];exact aO q))
end EV
namespace L2
variable{E:Value->Shared->Prop}{e:Addr}{old:Value}
theorem aCm{x:Value}(he:IsEnum s.heap e it c old)(h1:ZP.It1 s.heap it src i xs)(hx:xs[i]?=some x)(hne:e≠it)(hes:src≠e)
  (hQ:∀h',IsEnumOut h' e it (c+1) x s.heap.objs.size->ZP.It1 h' it src (i+1) xs->h'.get? s.heap.objs.size=some {cls:=.type "tuple",data:=.seq #[.int c s.toks,x]} ->
   (∀b o,b≠e->b≠it->s.heap.get? b=some o->h'.get? b=some o)->Q (.ref s.heap.objs.size) {s with heap:=h',toks:=s.toks+1}) :
  wpAny (model prog w) A (Builtin.«enumerate.__next__» ⟨[.ref e],[]⟩) (λfin s'=>∃v,fin=.done (.ret v)/\Q v s') E s:=by
 obtain⟨hp,g,d,tk,os⟩:=s
 show wpAny _ _ (field (.ref e) 2 >>= _) _ _ _
 refine aAB (aBD he rfl (x:=.ref it) rfl (aAB (h1.next hx λk1 hit1 hs1=>?_)))
 have hs1:Heap.SameBut it hp k1:=hs1
 have he1:IsEnum k1 e it c old:=(hs1.2 e hne).trans he
 show wpAny _ _ (field (.ref e) 3 >>= _) _ _ ⟨k1,g,d,tk,os⟩
 refine aAB (aBD he1 rfl (x:=rawInt c) rfl ?_)
 show wpAny _ _ (field (.ref e) 4 >>= _) _ _ ⟨k1,g,d,tk,os⟩
 refine aAB (aBD he1 rfl (x:=.none) rfl ?_)
 show wpAny _ _ (mkInt c >>= _) _ _ ⟨k1,g,d,tk,os⟩
 refine aAB (wpAny_mkInt ?_)
 show wpAny _ _ (setField (.ref e) 3 (rawInt (c+1)) >>= _) _ _ ⟨k1,g,d,tk+1,os⟩
 refine aAB (aBS he1 (by simp) λk2 he2 hs2=>?_)
 have hs2:Heap.SameBut e k1 k2:=hs2
 have he2:IsEnum k2 e it (c+1) old:=he2
 show wpAny _ _ (setField (.ref e) 4 .none >>= _) _ _ ⟨k2,g,d,tk+1,os⟩
 refine aAB (aBS he2 (by simp) λk3 he3 hs3=>?_)
 have hs3:Heap.SameBut e k2 k3:=hs3
 have he3:IsEnum k3 e it (c+1) old:=he3
 show wpAny _ _ (newTuple [.int c tk,x] >>= _) _ _ ⟨k3,g,d,tk+1,os⟩
 refine aAB (aGL ?_)
 have hsz:k3.objs.size=hp.objs.size:=by rw[hs3.1,hs2.1,hs1.1]
 have hel:e < hp.objs.size:=aAJ he
 obtain⟨k4,hk4⟩:∃k4,k4=k3.push {cls:=.type "tuple",data:=.seq #[.int c tk,x]}:=⟨_,rfl⟩
 rw[<- hk4]
 have he4:IsEnum k4 e it (c+1) old:=by rw[hk4];exact aAA _ he3
 have ht4:k4.get? hp.objs.size=some {cls:=.type "tuple",data:=.seq #[.int c tk,x]}:=by rw[hk4,<- hsz];exact aAE _ rfl
 have kp4:∀b o,b≠e->b≠it->hp.get? b=some o->k4.get? b=some o:=λb o q1 q2 q=>by
  rw[hk4];exact aAA _ (hs3.extBut b o q1 (hs2.extBut b o q1 (hs1.extBut b o q2 q)))
 have it4:ZP.It1 k4 it src (i+1) xs:=by
  rw[hk4]
  exact hit1.at (λo q=>aAA _ (hs3.extBut it o hne.symm (hs2.extBut it o hne.symm q))) λo q=>aAA _ (hs3.extBut src o hes (hs2.extBut src o hes q))
 show wpAny _ _ (Builtin.SmallTypes.ownedTupleIsFree (.ref e) >>= _) _ _ ⟨k4,g,d,tk+1,os⟩
 rw[hsz]
 clear hk4 he3 hs3 he2 hs2 he1 hs1 hit1 hsz
 refine aAB ?_
 unfold Builtin.SmallTypes.ownedTupleIsFree
 refine aAB (aBD he4 rfl (x:=.none) rfl (aAF ?_))
 simp only[aBT]
 refine aAB (aDE (aAB (aBD he4 rfl (x:=old) rfl (aAB (aBS he4 (by simp) λk5 he5 hs5=>?_)))))
 have hs5:Heap.SameBut e k4 k5:=hs5
 have he5:IsEnum k5 e it (c+1) x:=he5
 show wpAny _ _ (Builtin.SmallTypes.ownedTupleHandOut (.ref e) (.ref hp.objs.size) >>= _) _ _ ⟨k5,g,d,tk+1,os⟩
 refine aAB ?_
 unfold Builtin.SmallTypes.ownedTupleHandOut
 refine aAB (aBS he5 (by simp) λk6 he6 hs6=>?_)
 have hs6:Heap.SameBut e k5 k6:=hs6
 have he6:IsEnumOut k6 e it (c+1) x hp.objs.size:=he6
 refine aBS he6 (by simp) λk7 he7 hs7=>?_
 have hs7:Heap.SameBut e k6 k7:=hs7
 have he7:IsEnumOut k7 e it (c+1) x hp.objs.size:=he7
 have up:∀b o,b≠e->k4.get? b=some o->k7.get? b=some o:=λb o q1 q=>hs7.extBut b o q1 (hs6.extBut b o q1 (hs5.extBut b o q1 q))
 refine aAB (wpAny_letGo (aAF ⟨_,rfl,hQ k7 he7 (it4.at (λo q=>up it o hne.symm q) λo q=>up src o hes q) (up _ _ (aEN hel) ht4) λb o q1 q2 q=>up b o q1 (kp4 b o q1 q2 q)⟩))
theorem aDm{Q:Option Value->Shared->Prop}(hh:A.handled=none)(he:IsEnum s.heap e it c old)(h1:ZP.It1 s.heap it src i xs)(hx:xs[i]?=none)
  (hQ:∀h',Heap.ExtBut it s.heap h'->Q none {s with heap:=h'}):wpAny (model prog w) A (pyNext (.ref e)) Q E s:=by
 have hT:s.TypeIs (.ref e) "enumerate":=⟨_,he,rfl⟩
 unfold pyNext
 refine aAB (aEC (aBU (name:=Str.ofString "__next__") hT aDL (aBW aDL hT F.entry_enumerate_next ?_ (F.args_enumerate_next_1 _))))
 show wpAny _ _ (field (.ref e) 2 >>= _) _ _ _
 refine aAB (aBD he rfl (x:=.ref it) rfl (aAB (h1.stop hh hx λh' x he' hx'=>?_)))
 obtain⟨o,ho,hc⟩:=hx'
 refine aAB (aFL (T:="StopIteration") (b:=true) ⟨o,ho,hc⟩ isSubtype_stop (aAF (hQ _ he')))
noncomputable def tne(b:Bool)(e it src:Addr)(c:Int)(i:Nat)(h:Heap):Prop:=(∃old,IsEnum h e it (c+i) old)/\It0 b h it src i
noncomputable def Ite(b:Bool)(K:Frag)(src:Addr)(c:Int)(xs:List V):It :=
 ⟨λi H=>SqB b K H src xs/\i < xs.length,λi H x H'=>∃T u,H T=none/\x=.ref T/\xs[i]?=some u/\H'=upd H T (.tup [.int (c+i),u]),λi H=>SqB b K H src xs/\xs.length<=i⟩
theorem lQ{elts:List Expr}{x1}{b:Bool}(c:Int)(hne:e≠it)(hes:src≠e)(his:src≠it)(xs:List V):Turn P w K (.Tuple elts x1 pos) (Ite b K src c xs) [e,it] e (tne b e it src c)where
 mem:=by simp
 obj:=λi h st q hb=>by
  simp only[aAU,aBL,aCU]at hb
  rcases hb with rfl|rfl
  ·obtain⟨old,he⟩:=st.1;exact⟨_,he,λv z=>by cases z⟩
  ·exact st.2.obj
 keep:=λi h h' st k=>by
  obtain⟨⟨old,he⟩,h1⟩:=st
  exact⟨⟨old,k e (by simp) _ he⟩,h1.at λo q=>k it (by simp) o q⟩
 item:=by
  intro X hP hw hK hc i pins s σ H E I hf st hg
  subst hP hw hK
  obtain⟨sx,hx⟩:=hg
  obtain⟨its,r1,y1,z1⟩:=sx.inv I
  obtain⟨⟨old,he⟩,h1⟩:=st
  have hT:s.TypeIs (.ref e) "enumerate":=⟨_,he,rfl⟩
  obtain⟨u,hu,ru⟩:=r1.get (aAQ hx)
  have elt:e < s.heap.objs.size:=aAJ he
  unfold pyNext
  refine aAB (aEC (aBU (name:=Str.ofString "__next__") hT aDL (aBW aDL hT F.entry_enumerate_next
   (aCm he (nW h1 y1) (x:=u) (by simpa using hu) hne hes λh' he' a1 ht k'=>aAF ?_) (F.args_enumerate_next_1 _))))
  refine⟨_,rfl,?_⟩
  have y1':IsB b h' src its.toArray:=y1.at λo q=>k' src o hes his q
  refine wpAny_letOwnedTupleGo_enum (s:={s with heap:=h',toks:=s.toks+1}) he' λh2 he2 sb=>?_
  have sb:Heap.SameBut e h' h2:=sb
  have kk:∀q o,q∉[e,it]->s.heap.get? q=some o->h2.get? q=some o:=λq o hb z=>by
   simp only[aAU,aBL,aCU,not_or]at hb
   exact sb.extBut q o hb.1 (k' q o hb.1 hb.2 z)
  have hp2:=sb.extBut _ _ (aEN elt) ht
  refine⟨.ref s.heap.objs.size,upd H s.heap.objs.size (.tup [.int (c+i),xs[i]]),I.turnLay (t':=s.toks+1) hf kk (aAH _) (show ObjOk X.prog X.w _ h2 _ (.tup [.int (c+i),xs[i]])from⟨by show 2<=sizeLine;decide,[.int (c+i) s.toks,u],.cons ⟨_,rfl⟩ (.cons ru .nil),_,hp2,rfl,_,rfl⟩),rfl,⟨_,xs[i],I.hok.fresh (aAH _),rfl,aAQ hx,rfl⟩,?_,λq hb=>?_⟩
  ·refine⟨⟨_,by rw[show c+((i+1:Nat):Int)=c+i+1 by lia];exact he2⟩,(rK y1' a1).at λo q=>sb.extBut it o hne.symm q⟩
  ·rw[bE]
   ·exact(hf q hb).1
   ·rintro rfl
    simp only[aAU,aBL,aCU]at hb
    rcases hb with q|q
    ·rw[q]at elt;exact absurd elt (aCP _)
    ·obtain⟨o,z,_⟩:=h1.obj
     rw[<- q]at z
     exact absurd (aAJ z) (aCP _)
 done:=by
  intro X hP hw hK hc i pins s σ H E I hf st hg
  subst hP hw hK
  obtain⟨sx,hend⟩:=hg
  obtain⟨its,r1,y1,z1⟩:=sx.inv I
  obtain⟨⟨old,he⟩,h1⟩:=st
  have l1:=r1.length
  refine aDm (I.ok.hd hc) he (nW h1 y1) (by simp;lia) λh' hk=>⟨rfl,I.turnedL (t':=s.toks) hf λq o hb z=>?_⟩
  simp only[aAU,aBL,aCU,not_or]at hb
  exact hk q o hb.2 z
 self:=λA i s Q E st hQ=>by
  obtain⟨⟨old,he⟩,_⟩:=st
  have hT:s.TypeIs (.ref e) "enumerate":=⟨_,he,rfl⟩
  refine aGV hT F.slot_enumerate_iter (aBW F.slot_enumerate_iter hT F.entry_enumerate_iter ?_ (F.args_enumerate_iter_1 _))
  show wpAny _ _ (ret (.ref e)) _ _ s
  exact aAF ⟨_,rfl,"enumerate",_,hT,aDL.lookup,hQ⟩
end L2
namespace L2
open AutoSeq1 (wpAny_loadPart')
noncomputable abbrev eH1(b:Bool)(h:Heap)(l:Addr):Heap:=h.push {cls:=.type (if b=true then "list_iterator"else "tuple_iterator"),data:=.fields #[.ref l,.int 0 0]}
noncomputable abbrev eH2(b:Bool)(h:Heap)(l:Addr)(c:Int):Heap:=(eH1 b h l).push {cls:=.type "enumerate",data:=.fields #[.none,.bool false,.ref h.objs.size,rawInt c,.none,.none]}
theorem wO(l:Addr)(items:Array Value) :
  Meets (Builtin.«enumerate.__new__» ⟨[.type "enumerate",.ref l],[]⟩) (λ_ R s=>s.heap.IsTuple l items/\R (.ok (.ret (.ref (eH1 false s.heap l).objs.size))) {s with heap:=eH2 false s.heap l 0}) :=
 .of_wp λprog w A R s h=>by
  obtain⟨hp,g,d,tk,os⟩:=s;obtain⟨hl,h⟩:=h
  have hsub:=sub_enumerate
  have hL:Heap.IsTuple (Shared.heap ⟨hp,g,d,tk,os⟩) l items:=hl
  wp_walk
  refine wpAny_stack_any λst=>aAF ?_
  split
  ·rename_i c _ _ _ _ _
   cases(c==Value.type "enumerate") <;> (wp_walk using aCK hL;exact⟨_,rfl,h⟩)
  ·wp_walk using aCK hL
   exact⟨_,rfl,h⟩
variable{E:Value->Shared->Prop}
theorem wH(b:Bool)(h:Heap)(l:Addr)(c:Int):(eH1 b h l).objs.size=h.objs.size+1/\IsEnum (eH2 b h l c) (h.objs.size+1) h.objs.size c .none/\It0 b (eH2 b h l c) h.objs.size l 0/\∀q o,h.get? q=some o->(eH2 b h l c).get? q=some o:=by
 have z1:(eH1 b h l).objs.size=h.objs.size+1:=aAW ..
 refine⟨z1,?_,?_,λq o x=>aAA _ (aAA _ x)⟩
 ·have:=aAE (eH1 b h l) (o:={cls:=.type "enumerate",data:=.fields #[.none,.bool false,.ref h.objs.size,rawInt c,.none,.none]}) rfl
  rw[z1]at this;exact this
 ·cases b
  ·exact⟨_,aAA _ (aAE _ rfl),rfl,rfl⟩
  ·exact⟨_,aAA _ (aAE _ rfl),rfl,rfl⟩
theorem aDg{b:Bool}(hl:IsB b s.heap l items)
  (h:∀h',IsEnum h' (s.heap.objs.size+1) s.heap.objs.size 0 .none->It0 b h' s.heap.objs.size l 0->(∀q o,s.heap.get? q=some o->h'.get? q=some o)->Q (.ref (s.heap.objs.size+1)) {s with heap:=h'}) :
  wpAny (model prog w) A (call (.type "enumerate") [.ref l]) Q E s:=by
 cases b with
 |true=>exact call_enumerate_list (show s.heap.IsList l items from hl) λh' a1 a2 _ k=>h h' a1 a2 k
 |false =>
  obtain⟨z1,f1,f2,f3⟩:=wH false s.heap l 0
  refine aEL aEY (by decide) (F.typeCall_enumerate_1 _) (F.newCall_enumerate_1 _) (λobj=>aGF obj _) F.entry_enumerate_new (wO l items) ⟨hl,?_⟩
  show _/\_
  rw[z1]
  exact⟨⟨_,f1,rfl⟩,h _ f1 f2 f3⟩
theorem aKf{elts:List Expr}{x1}{a:Expr}(hg:Gl X "enumerate")(hm:X.mg "enumerate"=none)(ha:PE X a ta)(hs:starEach [a] X.env=[(false,eval a X.env)]) :
  PI X (.Tuple elts x1 tpos) (.Call (.Name "enumerate" p) [a] [] pos) (λσ H R=>ta σ H λx H1=>∃l b xs,x=.ref l/\SqB b X.K H1 l xs/\R (Ite b X.K l 0 xs) H1):=by
 intro pins s σ H R I h
 refine Call_ (hG I hg hm nH (aBO (thn (cM ha fE hs pos pins s σ H (λvs H2=>match vs with|[x]=>∃l b xs,x=.ref l/\SqB b X.K H2 l xs/\R (Ite b X.K l 0 xs) H2|_=>False) I h) λus s1 ⟨vs,H1,I1,r1,hr⟩=>?_) hs rfl))
 match vs,r1,hr with
 |[],_,hr=>exact hr.elim
 |_::_::_,_,hr=>exact hr.elim
 |[x],r1,hr =>
 obtain⟨l,b,xs,rfl,sx,hq⟩:=hr
 obtain⟨u,rfl,rx⟩:=vals1 r1
 cases rx
 obtain⟨its,q1,p1,z1⟩:=sx.inv I1
 have hl:l < s1.heap.objs.size:=p1.lt
 refine aDg p1 λh' a1 a2 k=>?_
 have hne:s1.heap.objs.size+1≠s1.heap.objs.size:=Nat.succ_ne_self _
 have hes:l≠s1.heap.objs.size+1:=aAV (aDS hl)
 have his:l≠s1.heap.objs.size:=aAV hl
 have tz:tne b (s1.heap.objs.size+1) s1.heap.objs.size l 0 0 h':=⟨⟨_,by simpa using a1⟩,a2⟩
 refine(lQ (P:=X.prog) (w:=X.w) (K:=X.K) (elts:=elts) (x1:=x1) (pos:=tpos) 0 hne hes his xs).self _ 0 _ _ _ tz ?_
 refine⟨s1.heap.objs.size+1,_,_,_,H1,rfl,I1.kept (t':=s1.toks) λq o e=>k q o e,lQ 0 hne hes his xs,tz,λq hb=>?_,hq⟩
 refine I1.fpOk ?_ (I1.hok.fresh ?_) <;>
 ·simp only[aAU,aBL,aCU]at hb
  rcases hb with rfl|rfl <;> (show(_:Nat)<=(_:Nat);lia)
end L2
namespace EV
open L2
variable{EX:D->Mm->Prop}{K:Frag}{a b:Expr}{g:FE}{tg:Expr}
noncomputable def enumT(c:Int)(xs:List D):List D:=xs.mapIdx λi d=>.tup [.int (c+i),d]
theorem lI{xs:List D}{d:D}(h:(enumT c xs)[i]?=some d):∃x,xs[i]?=some x/\d=.tup [.int (c+i),x]:=by
 unfold enumT at h
 rw[List.getElem?_mapIdx,aAM]at h
 obtain⟨x,h1,rfl⟩:=h
 exact⟨x,h1,rfl⟩
theorem eN{xs:List D}:(enumT c xs).length=xs.length:=by simp[enumT]
theorem aLb{w:W}{xs:List D}(r:Rw K μ H w v)(q:dz w=some xs):∃l b vs,v=.ref l/\SqB b K H l vs/\ItOk K μ H ⟨enumT c xs,none⟩ (Ite b K l c vs):=by
 obtain⟨b1,l1,vs1,S1,rfl,s1,x1,d1⟩:=uK r q
 refine⟨l1,b1,vs1,rfl,(d1 _ _ s1).1,S1,s1,x1,λμ3 H3 M3 i hr3 hS hc=>?_⟩
 obtain⟨c1,r1⟩:=d1 _ _ hS
 refine⟨λd hd=>?_,λhl=>?_⟩
 ·obtain⟨x,hx,rfl⟩:=lI hd
  obtain⟨u,hu,ru⟩:=r1.get hx
  refine⟨⟨c1,(aAD.mp hu).1⟩,λx' H4 hy4=>?_⟩
  obtain⟨T,u',hT,rfl,hu',rfl⟩:=hy4
  rw[hu]at hu';cases hu'
  exact nC hr3 hT (by simp[Rp]) ru
 ·refine⟨c1,?_⟩
  simp only[eN]at hl
  rw[<- r1.length]
  exact hl
noncomputable def iEnum(f:FE):FI:=λL M=>(f L M).bind λx M1=>match dz x with
 |some xs=>.ok ⟨enumT 0 xs,none⟩ M1
 |_=>.bad
theorem aIz{elts:List Expr}{x1}(hm:X.mg "enumerate"=none)(ha:Ev X K Z a f)(hg:Gl X "enumerate":=by rfl)(hs:starEach [a] X.env=[(false,eval a X.env)]:=by rfl):Ei X K Z (.Tuple elts x1 tpos) (.Call (.Name "enumerate" p) [a] [] pos) (iEnum f):=by
 have h':=aKf (elts:=elts) (x1:=x1) (tpos:=tpos) (p:=p) (pos:=pos) hg hm ha.h hs
 rw[ha.k]at h'
 refine⟨ha.k,cqI h' ?_⟩
 rintro σ H R ⟨μ,M,L,hr,lr,p⟩
 refine⟨μ,M,L,hr,lr,p.bind.imp λμ1 H1 M1 w e1 hr1 _ p1 v rw'=>?_⟩
 cases q1:dz w with
 |none=>simp only[q1]at p1;exact p1.elim
 |some xs =>
  simp only[q1]at p1
  obtain⟨l,b,vs,rfl,h1,h2⟩:=aLb (c:=0) rw' q1
  exact⟨l,b,vs,rfl,h1,p1 μ1 H1 .refl hr1 _ h2⟩
theorem yD(h:Okx EX (f L M) λx M1=>∃xs,dz x=some xs/\QI ⟨enumT 0 xs,none⟩ M1):Okx EX (iEnum f L M) QI :=
 aM (h.mono λx M1 ⟨xs,e1,q⟩=>by simp only[e1];exact aO q)
end EV
namespace L2
open AutoSeq1 (wpAny_loadPart')
end L2
namespace EV
open L2
variable{EX:D->Mm->Prop}{K:Frag}{a b c o e i:Expr}{es:List Expr}{fs:FA}{fe fi:FE}{tg:Expr}{x y:W}{Q:W->Mm->Prop}
end EV
namespace L2
variable{E:Value->Shared->Prop}
theorem uF{it t:Addr}{items:Array Value}(hne:t≠it):∀(n i:Nat) (s:Shared) (Q:List Value->Shared->Prop),s.heap.IsListIter it t i->s.heap.IsList t items->i+n<=items.size ->
  (∀h',h'.IsListIter it t (i+n)->Heap.SameBut it s.heap h'->Q ((items.toList.drop i).take n) {s with heap:=h'})->wpAny (model prog w) A (draw (.ref it) n) Q E s
 |0,i,s,Q,hit,_,_,hQ=>by
  show wpAny _ _ (pure []) Q E s
  exact aAF (by simpa using hQ s.heap hit (Heap.SameBut.refl ..))
 |n+1,i,s,Q,hit,ht,hle,hQ=>by
  have hlt:i < items.size:=by lia
  show wpAny _ _ (pyNext (.ref it) >>= _) Q E s
  refine aAB (wpAny_pyNext_list_item hit ht (x:=items[i]) (by simp[hlt]) λh₁ hit₁ hs₁=>?_)
  have ht₁:h₁.IsList t items:=by obtain⟨o,ho,r⟩:=ht;exact⟨o,hs₁.extBut t o hne ho,r⟩
  refine aAB (aBN (uF hne n (i+1) _ _ hit₁ ht₁ (by lia) λh₂ hit₂ hs₂=>aAF ?_))
  have hd:items.toList.drop i=items[i]::items.toList.drop (i+1):=by simp[aCZ,hlt]
  have:=hQ h₂ (by rw[show i+(n+1)=i+1+n by lia];exact hit₂) (hs₁.trans hs₂)
  rw[hd,List.take_succ_cons]at this
  exact this
variable{t:Addr}
theorem oB{Q:List Value->Shared->Prop}(hh:A.handled=none)(ht:s.heap.IsList t items)
  (hQ:∀h',Heap.ExtBut s.heap.objs.size s.heap h'->Q items.toList {s with heap:=h'}):wpAny (model prog w) A (unpackItems (.ref t) items.size none) Q E s:=by
 have hlt:t≠s.heap.objs.size:=by obtain⟨o,ho,_⟩:=ht;exact aAV (aAJ ho)
 unfold unpackItems
 refine aAB ?_
 ·unfold notIterableAtAll
  refine aAB (aEW ht.typeIs slot_list_iter.lookup ?_)
  refine aAF ?_
  simp only[aAY,aCG]
  refine aAB (aBN (aDF ht ?_))
  have hp:(s.heap.push {cls:=.type "list_iterator",data:=.fields #[.ref t,.int 0 0]}).IsList t items:=by obtain⟨o,ho,r⟩:=ht;exact⟨o,aAA _ ho,r⟩
  refine aAB (aBN (uF hlt items.size 0 _ _ ⟨_,aAE _ rfl,rfl,rfl⟩ hp (by lia) λh₁ hit₁ hs₁=>?_))
  have hall:List.take items.size (List.drop 0 items.toList)=items.toList:=by
   rw[List.drop_zero];exact aCM (by simp)
  rw[hall]
  rw[aAC (by simp)]
  have ht₁:h₁.IsList t items:=by obtain⟨o,ho,r⟩:=hp;exact⟨o,hs₁.extBut t o hlt ho,r⟩
  refine aAB (aBN (wpAny_pyNext_list_end hh hit₁ ht₁ (by simp) λh₂ he₂=>?_))
  simp only[Option.isSome_none,aAY,aCG]
  refine aAF (hQ h₂ λb o hb e=>he₂ b o hb (hs₁.extBut b o hb (aAA _ e)))
theorem nO{elts:List Expr}{x1}{Q:Unit->Shared->Prop}(hh:A.handled=none)(ht:s.heap.IsList t items)
  (hn:(assignEach elts env).length=items.size)(hstar:(assignEach elts env).findIdx? (·.1)=none)
  (h:∀h',Heap.ExtBut s.heap.objs.size s.heap h'->wpAny (model prog w) A (assignInOrder ((assignEach elts env).map (·.2)) items.toList) Q E {s with heap:=h'}) :
  wpAny (model prog w) A (assign (.Tuple elts x1 pos) env (.ref t)) Q E s:=by
 rw[assign_Tuple]
 refine aAB (aEB ?_)
 unfold unpack
 rw[hn,hstar]
 exact aAB (aBN (oB hh ht h))
noncomputable def gTupL(K:Frag)(n:Nat)(t:TGs):TG:=λv σ H Q=>∃a xs,v=.ref a/\SqL K H a xs/\xs.length=n/\t xs σ H Q
theorem aIp{es:List Expr}{t:TGs}{n:Nat}(hc:X.calm=true)(h:PGs X es t)
  (hn:(assignEach es X.env).length=n:=by rfl)(hst:(assignEach es X.env).findIdx? (·.1)=none:=by rfl):PG X (.Tuple es k pos) (gTupL X.K n t):=by
 intro pins s σ H v u Q I r hw
 obtain⟨a,xs,e1,hq,hl,hw⟩:=hw
 subst e1
 cases r
 obtain⟨its,rv,pl,hz⟩:=I.list hq
 have ht:s.heap.IsList a its.toArray:=pl.isList
 refine nO (I.ok.hd hc) ht (by simp[hn,<- hl,rv.length]) hst λh' hx=>?_
 have I1:Inv X pins σ H {s with heap:=h'}:=I.kept (t':=s.toks) λb o e=>hx b o (aAV (aAJ e)) e
 exact h pins _ σ H xs _ Q I1 (by simpa using rv) hw
end L2
namespace EV
open L2
variable{EX:D->Mm->Prop}{K:Frag}{es:List Expr}
noncomputable def gTL(n:Nat)(gs:FGs):FG:=λw L M=>match w with
 |.d (.lst xs)=>if xs.length=n then gs xs L M else .bad
 |_=>.bad
variable{n:Nat}{gs:FGs}
theorem aJc(hc:X.calm=true)(h:Egs X K Z es gs)(hn:(assignEach es X.env).length=n:=by rfl)(hst:(assignEach es X.env).findIdx? (·.1)=none:=by rfl):Eg X K Z (.Tuple es k pos) (gTL n gs):=by
 have h':=aIp (k:=k) (pos:=pos) hc h.h hn hst
 rw[h.k]at h'
 refine⟨h.k,cqG h' λv σ H Q ⟨μ,M,L,w,hr,lr,rx,p⟩=>?_⟩
 cases w with
 |ref i=>exact p.elim
 |d x=>cases x with
  |lst xs =>
   simp only[gTL]at p
   split at p
   ·simp only[Rw,Rp]at rx
    obtain⟨a,vs,e1,q1,_,r1⟩:=rx
    exact⟨a,vs,e1,SqL.of q1,by rw[<- r1.length];assumption,μ,M,L,xs,hr,lr,r1,p⟩
   ·exact p.elim
  |_=>exact p.elim
theorem aIb{xs:List D}(hn:xs.length=n)(h:Okx EX (gs xs L M) QG):Okx EX (gTL n gs (.d (.lst xs)) L M) QG:=by unfold gTL;simp only;rw[aAG hn];exact h
end EV
namespace L2
end L2
namespace EV
open L2
variable{EX:D->Mm->Prop}{K:Frag}{x:W}{Q:W->Mm->Prop}
end EV
namespace EV
open L2
variable{EX:D->Mm->Prop}{K:Frag}{a tg:Expr}
noncomputable def downD(n:Nat):List D:=(List.range n).map λi=>D.int ((n:Int) - 1 - (i:Nat))
variable{n:Nat}
theorem aCw{d:D}(h:(downD n)[i]?=some d):i < n/\d=.int ((n:Int) - 1 - (i:Nat)):=by
 unfold downD at h
 rw[aAP,aAM]at h
 obtain⟨k,h1,rfl⟩:=h
 obtain⟨h2,h3⟩:=aAD.mp h1
 simp only[aCS]at h2
 simp only[List.getElem_range]at h3
 subst h3
 exact⟨h2,rfl⟩
theorem uS:(downD n).length=n:=by simp[downD]
theorem aOp:ItOk K μ H ⟨downD n,none⟩ (Itd n) :=
 ⟨λ_ _=>True,trivial,λ_ _ _ _ _ _ _=>trivial,λμ1 H1 M1 i hr _ _=>⟨λd hd=>by
  obtain⟨h1,rfl⟩:=aCw hd
  refine⟨h1,λx H2 y=>?_⟩
  obtain⟨rfl,rfl⟩:=y
  exact⟨.refl,hr,by simp[Rp]⟩,λh=>by rw[show(Src.ds ⟨downD n,none⟩)=downD n from rfl,uS]at h;exact h⟩⟩
noncomputable def iDown(f:FE):FI:=λL M=>(f L M).bind λw M1=>match w with
 |.d (.int j)=>if 0<=j/\j < 4611686018427387904 then .ok ⟨downD j.toNat,none⟩ M1 else .bad
 |_=>.bad
theorem aJp(hm:X.mg "reversed"=none)(hm2:X.mg "range"=none)(ha:Ev X K Z a f)(hg:Gl X "reversed":=by rfl)(hg2:Gl X "range":=by rfl)(hs:starEach [a] X.env=[(false,eval a X.env)]:=by rfl)
  (hs2:starEach [.Call (.Name "range" p2) [a] [] pos2] X.env=[(false,eval (.Call (.Name "range" p2) [a] [] pos2) X.env)]:=by rfl):Ei X K Z tg (.Call (.Name "reversed" p) [.Call (.Name "range" p2) [a] [] pos2] [] pos) (iDown f):=by
 refine⟨ha.k,cqI (aIq (tg:=tg) (p:=p) (pos:=pos) hg hm (cM (lG yJ hg2 hm2 kS (cM ha.h fE hs) (by decide) (by decide) hs rfl) fE hs2) hs2) ?_⟩
 rintro σ H R ⟨μ,M,L,hr,lr,p⟩
 refine⟨μ,M,L,hr,lr,p.bind.imp λμ1 H1 M1 w e1 hr1 _ p1 v rw'=>?_⟩
 cases w with
 |ref i=>exact p1.elim
 |d x=>cases x with
  |int j =>
   simp only at p1
   split at p1
   ·rename_i hz
    simp only[Rw,Rp]at rw'
    subst rw'
    refine⟨j,rfl,λq hq=>⟨q,j,rfl,eT,hz.1,by simpa using hz.2,?_⟩⟩
    exact p1 μ1 _ (iI hr1 hq) (hr1.lay hq) _ aOp
   ·exact p1.elim
  |_=>exact p1.elim
end EV
namespace EV
open L2
variable{EX:D->Mm->Prop}{K:Frag}{Q:W->Mm->Prop}
end EV
namespace EV
open L2
noncomputable def ZR(K:Frag)(R:Addr->Hp->Prop):Zt:=⟨λx M μ H=>∀μ' H',Ext μ H μ' H'->HR K μ' H' M->∀a,Rp K μ' H' x (.ref a)->R a H',λe h μ' H' e' hr a ra=>h μ' H' (e.trans e') hr a ra⟩
variable{K:Frag}{e a b:Expr}{es:List Expr}{fs:FA}{rest:List Stmt}{G:FS}
structure FunG(K:Frag)(x qual:Str)(st:Stmt)(f:Addr)(fd:FuncData):Prop where
 ex:∃(oc:Value) (od:Option Addr) (dV kV doc pm:Value) (an:Option Addr) (cdv ct:Value) (osl:Array (Option Value)),
  fd=fnOf x qual (defArgs st) (defBody st) (defScope st) dV kV doc pm an cdv ct/\K.lookup f=some ⟨oc,od,.func fd,osl⟩/\codeIn K cdv qual=true
theorem _root_.L2.Fun.g{f:Addr}(F:Fun K x qual st f fd):FunG K x qual st f fd:=by
 obtain⟨oc,od,kV,doc,pm,an,cdv,ct,osl,h⟩:=F.ex
 exact⟨oc,od,_,kV,doc,pm,an,cdv,ct,osl,h⟩
structure FunD(K:Frag)(x qual:Str)(st:Stmt)(f:Addr)(fd:FuncData)(d:Value):Prop where
 ex:∃(T:Addr) (oc:Value) (od:Option Addr) (kV doc pm:Value) (an:Option Addr) (cdv ct:Value) (osl:Array (Option Value)),
  fd=fnOf x qual (defArgs st) (defBody st) (defScope st) (.ref T) kV doc pm an cdv ct/\K.lookup f=some ⟨oc,od,.func fd,osl⟩/\codeIn K cdv qual=true/\∃c dd n sl,K.lookup T=some ⟨c,dd,.seq #[d] n,sl⟩
variable{d:Value}
theorem FunD.g{f:Addr}(F:FunD K x qual st f fd d):FunG K x qual st f fd:=by
 obtain⟨T,oc,od,kV,doc,pm,an,cdv,ct,osl,h1,h2,h3,_⟩:=F.ex
 exact⟨oc,od,_,kV,doc,pm,an,cdv,ct,osl,h1,h2,h3⟩
theorem FunD.binds{f:Addr}(F:FunD K x qual st f fd d)
  (h:∀(T:Addr) (kV doc pm:Value) (an:Option Addr) (cdv ct:Value) (us:List Value),us.length=ps.length->∃k,bindArgs (fnOf x qual (defArgs st) (defBody st) (defScope st) (.ref T) kV doc pm an cdv ct) ⟨us,[]⟩=seqItems? (.ref T) >>= k/\k (some #[d])=pure (ps.zip us)):Binds K fd ps []:=by
 obtain⟨T,oc,od,kV,doc,pm,an,cdv,ct,osl,rfl,h2,h3,c,dd,n,sl,hT⟩:=F.ex
 intro s us X hl
 rw[aEH]at hl ⊢
 obtain⟨k,h1,h2⟩:=h T kV doc pm an cdv ct us hl
 exact PySem.W.binds_K X rfl hT rfl h1 h2
theorem FunD.binds1{f:Addr}(F:FunD K x qual st f fd d)
  (h:∀(T:Addr) (kV doc pm:Value) (an:Option Addr) (cdv ct:Value) (us:List Value),(us++[d]).length=ps.length->∃k,bindArgs (fnOf x qual (defArgs st) (defBody st) (defScope st) (.ref T) kV doc pm an cdv ct) ⟨us,[]⟩=seqItems? (.ref T) >>= k/\k (some #[d])=pure (ps.zip (us++[d]))):Binds K fd ps [d]:=by
 obtain⟨T,oc,od,kV,doc,pm,an,cdv,ct,osl,rfl,h2,h3,c,dd,n,sl,hT⟩:=F.ex
 intro s us X hl
 obtain⟨k,h1,h2⟩:=h T kV doc pm an cdv ct us hl
 exact PySem.W.binds_K X rfl hT rfl h1 h2
theorem lD{f T:Addr}{oc:Value}{kV doc pm cdv ct c:Value}{dd:Option Addr}{n:Nat}(l:K.lookup f=some ⟨oc,od,.func (fnOf x qual (defArgs st) (defBody st) (defScope st) (.ref T) kV doc pm an cdv ct),osl⟩)
  (h:codeIn K cdv qual=true)(t:K.lookup T=some ⟨c,dd,.seq #[d] n,sl⟩):FunD K x qual st f (fnOf x qual (defArgs st) (defBody st) (defScope st) (.ref T) kV doc pm an cdv ct) d:=⟨T,oc,od,kV,doc,pm,an,cdv,ct,osl,rfl,l,h,c,dd,n,sl,t⟩
noncomputable def aDef(fs:FA)(ds:List D):FA:=λL M=>(fs L M).bind λws M1=>.ok (ws++ds.map W.d) M1
theorem Rws.append:∀{ws us:List W} {vs zs:List V},Rws K μ H ws vs->Rws K μ H us zs->Rws K μ H (ws++us) (vs++zs)
 |[],_,_,_,h,t=>by cases h;exact t
 |_::_,_,_,_,⟨v,r,e1,e2,e3⟩,t=>by subst e1;exact⟨v,_,rfl,e2,Rws.append e3 t⟩
noncomputable def nx(Fm:Fn):Fn:=λws M=>match Fm ws M with
 |.ok w M'=>.ok w M'
 |_=>.bad
noncomputable def liftX(K:Frag)(f:FE)(σ:L2.St)(H:Hp)(Q:VK)(R:Addr->Hp->Prop):Prop:=∃μ M L,HR K μ H M/\LR K μ H L σ/\Pst K (ZR K R) μ H (f L M) (Wk K Q)
noncomputable def liftB(K:Frag)(F:FS)(D:Ends)(R:Addr->Hp->Prop)(σ:L2.St)(H:Hp):Prop:=∃μ M L,HR K μ H M/\LR K μ H L σ/\Pst K (ZR K R) μ H (F L M) (Sk K D)
structure Exx(X:Cx)(K:Frag)(e:Expr)(f:FE):Prop where
 k:X.K=K
 h:PEx X e (liftX K f)
structure Tb(X:Cx)(K:Frag)(b:List Stmt)(F:FS):Prop where
 k:X.K=K
 h:PBx X b (liftB K F)
variable{K:Frag}
noncomputable def mt(cn c:Str):Bool:=c==cn || cn=="LentError" || cn=="ValueError"
variable{K:Frag}
structure Ecs(X:Cx)(K:Frag)(es:List Expr)(cns:List Str):Prop where
 k:X.K=K
 h:∃ys cvs,PA X es (λ_ H Q=>Q ys H)/\ys.map clV=cvs.map some/\ys.length<=es.length/\∀c C LE,Xc K c C LE->PySem.W.kitAny K (.ref C) cvs=some (cns.any λn=>mt n c)
variable{K:Frag}
end EV
end
namespace EV
open PySem L2
variable{EX:D->Mm->Prop}{i j:Nat}{w x y:W}{Q:W->Mm->Prop}{QA:List W->Mm->Prop}{g h:FE}{G FB FH:FS}{fs:FA}{Fm:Fn}{ws:List W}
theorem aBa{ds:List D}(h:Okx EX (fs L M) λws M1=>QA (ws++ds.map W.d) M1):Okx EX (aDef fs ds L M) QA:=aM (h.mono λ_ _ z=>aO z)
end EV
section
open PySem PySem.Spec PyProof.Rows
namespace EV
open PySem.W L2
variable{K:Frag}
end EV
end
namespace LS
open PySem L2 EV
noncomputable def Cg(n a b:Int):Prop:=∃k,a=b+n*k
variable{a:Int}
theorem Cg.rfl:Cg n a a:=⟨0,by simp⟩
variable{b:Int}
theorem Cg.symm(h:Cg n a b):Cg n b a:=by obtain⟨k,rfl⟩:=h;exact⟨-k,by grind⟩
theorem Cg.trans(h:Cg n a b)(g:Cg n b c):Cg n a c:=by obtain⟨k,rfl⟩:=h;obtain⟨l,rfl⟩:=g;exact⟨k+l,by grind⟩
theorem Cg.add{d:Int}(h:Cg n a b)(g:Cg n c d):Cg n (a+c) (b+d):=by obtain⟨k,rfl⟩:=h;obtain⟨l,rfl⟩:=g;exact⟨k+l,by grind⟩
theorem Cg.sub{d:Int}(h:Cg n a b)(g:Cg n c d):Cg n (a - c) (b - d):=by obtain⟨k,rfl⟩:=h;obtain⟨l,rfl⟩:=g;exact⟨k - l,by grind⟩
theorem Cg.neg(h:Cg n a b):Cg n (-a) (-b):=by obtain⟨k,rfl⟩:=h;exact⟨-k,by grind⟩
theorem Cg.mul{d:Int}(h:Cg n a b)(g:Cg n c d):Cg n (a*c) (b*d):=by obtain⟨k,rfl⟩:=h;obtain⟨l,rfl⟩:=g;exact⟨b*l+d*k+n*k*l,by grind⟩
theorem Cg.mod:Cg n (a % n) a:=⟨-(a / n),by have:=Int.emod_def a n;grind⟩
theorem Cg.modT(h:Cg n a b):Cg n (a % n) b:=Cg.mod.trans h
theorem Cg.emod(h:Cg n a b):a % n=b % n:=by obtain⟨k,rfl⟩:=h;simp[Int.add_mul_emod_self_left]
theorem Cg.of(h:a % n=b % n):Cg n a b:=Cg.mod.symm.trans (h▸Cg.mod)
theorem Cg.of_eq(h:a=b):Cg n a b:=h▸Cg.rfl
theorem fF{a' b':Int}(h:Cg n a a')(g:Cg n b b')(e:a'=b'):a % n=b % n:=(h.trans (e▸g.symm)).emod
theorem nK{a':Int}(l:0<=b)(u:b < n)(h:Cg n a a')(e:a'=b):a % n=b:=by rw[fF h Cg.rfl e,aBX l u]
local macro_rules | `(tactic| rfl') => `(tactic| repeat decreasing_trivial_pre_omega)
local macro_rules | `(tactic| decreasing_trivial_pre_omega) => `(tactic| with_reducible first
 | apply Cg.modT | apply Cg.add | apply Cg.sub | apply Cg.mul | apply Cg.neg | exact Cg.rfl)
inductive Dd
 |add (s:Nat) (c:Int) (gs ts:List Nat)
 |scale (s:Nat) (u:Int)
noncomputable def natsD(xs:List Nat):D:=.tup (xs.map λk=>.int (k:Nat))
noncomputable def intsD(xs:List Int):D:=.tup (xs.map .int)
noncomputable def encD:Dd->D
 |.add s c gs ts=>.tup [.str "add",.int s,.int c,natsD gs,natsD ts]
 |.scale s u=>.tup [.str "scale",.int s,.int u]
noncomputable def pr(xs:List Int)(is:List Nat):Int:=is.foldl (λa i=>a*xs.getD i 0) 1
theorem aHg(xs:List Int)(is:List Nat)(c:Int):is.foldl (λa i=>a*xs.getD i 0) c=c*pr xs is:=by
 induction is generalizing c with
 |nil=>simp[pr]
 |cons i r ih=>rw[aGC,ih];show _=c*(List.foldl _ (1*_) r);rw[ih (1*_)];grind
theorem pP(xs:List Int)(i:Nat)(r:List Nat):pr xs (i::r)=xs.getD i 0*pr xs r:=by
 simp only[pr,aGC,Int.one_mul];exact aHg xs r _
theorem mO(xs:List Int):pr xs []=1:=rfl
theorem rE(xs:List Int)(i:Nat):pr xs [i]=xs.getD i 0:=by simp[pr]
variable{s:Nat}{v:Int}
theorem aNm{xs:List Int}(h:s∉is):pr (xs.set s v) is=pr xs is:=by
 induction is with
 |nil=>rfl
 |cons i r ih =>
  rw[pP,pP,ih (λz=>h (by simp[z]))]
  have:s≠i:=λz=>h (by simp[z])
  simp[aBK this]
noncomputable def dn(n:Int)(gs cs:List Int):Dd->List Int
 |.add s c g t=>cs.set s ((cs.getD s 0+c*pr gs g*pr cs t) % n)
 |.scale s u=>cs.set s (cs.getD s 0*u % n)
noncomputable def rn(n:Int)(gs:List Int)(ds:List Dd)(cs:List Int):List Int:=ds.foldl (λcs d=>dn n gs cs d) cs
theorem qS :rn n gs [] cs=cs:=rfl
variable{d:Dd}{ds:List Dd}
theorem fO :rn n gs (d::ds) cs=rn n gs ds (dn n gs cs d):=rfl
theorem bM{es:List Dd}:rn n gs (ds++es) cs=rn n gs es (rn n gs ds cs):=by simp[rn]
theorem jB :(dn n gs cs d).length=cs.length:=by cases d <;> simp[dn]
theorem dM :∀{cs:List Int},(rn n gs ds cs).length=cs.length:=by
 induction ds with
 |nil=>intro cs;rfl
 |cons d ds ih=>intro cs;rw[fO,ih,jB]
noncomputable def Rs(n:Int)(cs:List Int):Prop:=∀c∈cs,0<=c/\c < n
theorem Rs.getD{n:Int}{cs:List Int}(h:Rs n cs){i:Nat}(hi:i < cs.length):0<=cs.getD i 0/\cs.getD i 0 < n:=h _ (by simp[hi])
theorem Rs.getD0(h:Rs n cs)(hn:0 < n):0<=cs.getD i 0/\cs.getD i 0 < n:=by
 by_cases hi:i < cs.length
 ·exact h.getD hi
 ·simp[aCW (Nat.le_of_not_lt hi)];exact hn
theorem Rs.set{n:Int}{cs:List Int}(h:Rs n cs){i:Nat}{v:Int}(l:0<=v)(u:v < n):Rs n (cs.set i v):=by
 intro c hc
 rcases List.mem_or_eq_of_mem_set hc with hc|rfl
 ·exact h c hc
 ·exact⟨l,u⟩
theorem Rs.setM(hn:0 < n)(h:Rs n cs) :Rs n (cs.set i (v % n)):=h.set (aAZ _ (by lia)) (aAR _ hn)
theorem Rs.dn{n:Int}{gs cs:List Int}(hn:0 < n)(h:Rs n cs){d:Dd}:Rs n (dn n gs cs d):=by cases d <;> exact h.setM hn
theorem Rs.rn{n:Int}{gs:List Int}(hn:0 < n){ds:List Dd}:∀{cs:List Int},Rs n cs->Rs n (rn n gs ds cs):=by
 induction ds with
 |nil=>intro cs h;exact h
 |cons d ds ih=>intro cs h;rw[fO];exact ih (h.dn hn)
noncomputable def IsIv(n u v:Int):Prop:=0<=v/\v < n/\(u*v) % n=1 % n
variable{u:Int}
theorem IsIv.uniq{w:Int}(h:IsIv n u v)(g:IsIv n u w):v=w:=by
 obtain⟨l,k,e⟩:=h
 obtain⟨l',k',e'⟩:=g
 have e1:Cg n (u*v) 1:=Cg.of e
 have e2:Cg n (u*w) 1:=Cg.of e'
 have:Cg n v w:=by
  have h1:Cg n v (v*(u*w)):=by simpa using Cg.mul (Cg.rfl (a:=v)) e2.symm
  have h2:Cg n ((u*v)*w) (1*w):=Cg.mul e1 Cg.rfl
  exact h1.trans ((Cg.of_eq (by grind)).trans (h2.trans (Cg.of_eq (by grind))))
 have:=this.emod
 rwa[aBX l k,aBX l' k']at this
open Classical in
noncomputable def iv(n u:Int):Int:=if h:∃v,IsIv n u v then Classical.choose h else 0
theorem aLl(h:IsIv n u v):iv n u=v:=by
 have hx:∃v,IsIv n u v:=⟨v,h⟩
 unfold iv
 rw[dif_pos hx]
 exact(Classical.choose_spec hx).uniq h
theorem aBv(h:∃v,IsIv n u v):IsIv n u (iv n u):=by obtain⟨v,h⟩:=h;rw[aLl h];exact h
noncomputable def Un(n u:Int):Prop:=0<=u/\u < n/\∃v,IsIv n u v
theorem Un.iv{n u:Int}(h:Un n u):Un n (iv n u):=by
 have h':=aBv h.2.2
 exact⟨h'.1,h'.2.1,u,h.1,h.2.1,by rw[aFW];exact h'.2.2⟩
noncomputable def OkD(n:Int)(G S:Nat):Dd->Prop
 |.add s c g t=>s < S/\0<=c/\c < n/\(∀i∈g,i < G)/\(∀i∈t,i < S)/\s∉t/\g.length<=4/\t.length<=4
 |.scale s u=>s < S/\Un n u
noncomputable def bD(n:Int):Dd->Dd
 |.add s c g t=>.add s (-c % n) g t
 |.scale s u=>.scale s (iv n u)
noncomputable def bDs(n:Int)(ds:List Dd):List Dd:=ds.reverse.map (bD n)
theorem OkD.back(hn:0 < n)(h:OkD n G S d):OkD n G S (bD n d):=by
 cases d with
 |add s c g t=>obtain⟨a,b,c,r⟩:=h;exact⟨a,aAZ _ (by lia),aAR _ hn,r⟩
 |scale s u=>exact⟨h.1,h.2.iv⟩
theorem OkD.backs{n:Int}(hn:0 < n){ds:List Dd}(h:∀d∈ds,OkD n G S d):∀d∈bDs n ds,OkD n G S d:=by
 intro d hd
 obtain⟨x,hx,rfl⟩:=aBC.mp hd
 exact(h x (List.mem_reverse.mp hx)).back hn
theorem dP :(bDs n ds).length=ds.length:=by simp[bDs]
theorem lA(cs:List Int)(s:Nat):cs.set s (cs.getD s 0)=cs:=by
 apply aGT
 intro i
 by_cases hi:s=i
 ·subst hi
  by_cases h:s < cs.length
  ·rw[aBI h];simp[h]
  ·rw[aCW (by simpa using h),aCW (by simpa using h)]
 ·rw[aBK hi]
theorem aV(h:s < cs.length):(cs.set s v).getD s 0=v:=by simp[h]
theorem bB(h:s≠i):(cs.set s v).getD i 0=cs.getD i 0:=by simp[aBK h]
theorem aKv(hn:0 < n)(hc:Rs n cs)(h:OkD n G cs.length d):dn n gs (dn n gs cs d) (bD n d)=cs:=by
 cases d with
 |add s c g t =>
  obtain⟨hs,_,_,_,_,hst,_⟩:=h
  simp only[dn,bD]
  rw[aV hs,aNm hst,aCN]
  have:((cs.getD s 0+c*pr gs g*pr cs t) % n + -c % n*pr gs g*pr cs t) % n=cs.getD s 0:=by
   apply nK ((hc.getD hs).1) ((hc.getD hs).2)
   ·rfl'
   ·grind
  rw[this,lA]
 |scale s u =>
  obtain⟨hs,hu⟩:=h
  simp only[dn,bD]
  rw[aV hs,aCN]
  have:cs.getD s 0*u % n*iv n u % n=cs.getD s 0:=by
   have e:Cg n (u*iv n u) 1:=Cg.of (aBv hu.2.2).2.2
   have h1:Cg n (cs.getD s 0*u % n*iv n u) (cs.getD s 0*(u*iv n u)):=(Cg.mul Cg.mod Cg.rfl).trans (Cg.of_eq (by grind))
   have h2:=(h1.trans (Cg.mul Cg.rfl e)).emod
   rw[h2,aFI,aBX (hc.getD hs).1 (hc.getD hs).2]
  rw[this,lA]
theorem vI(hn:0 < n){ds:List Dd}:∀{cs:List Int},Rs n cs->(∀d∈ds,OkD n G cs.length d)->rn n gs (bDs n ds) (rn n gs ds cs)=cs:=by
 induction ds with
 |nil=>intro cs _ _;rfl
 |cons d ds ih =>
  intro cs hc h
  have e:bDs n (d::ds)=bDs n ds++[bD n d]:=by simp[bDs]
  rw[e,bM,fO (ds:=ds),ih (hc.dn hn) (λx hx=>by rw[jB];exact h x (by simp[hx]))]
  exact aKv hn hc (h d (by simp))
inductive Wd|sum|less|times
noncomputable def Wd.str:Wd->Str
 |.sum=>"sum"
 |.less=>"less"
 |.times=>"times"
noncomputable def Wd.ev(n:Int):Wd->Int->Int->Int
 |.sum,x,y=>(x+y) % n
 |.less,x,y=>(x - y) % n
 |.times,x,y=>x*y % n
inductive E
 |num (c:Int)
 |giv (i:Nat)
 |op (w:Wd) (a b:E)
noncomputable def enc:E->D
 |.num c=>.tup [.str "num",.int c]
 |.giv i=>.tup [.str "given",.int i]
 |.op w a b=>.tup [.str w.str,enc a,enc b]
noncomputable def val(n:Int)(gs:List Int):E->Int
 |.num c=>c % n
 |.giv i=>gs.getD i 0
 |.op w a b=>w.ev n (val n gs a) (val n gs b)
noncomputable def dp:E->Nat
 |.num _=>0
 |.giv _=>0
 |.op _ a b=>max (dp a) (dp b)+1
noncomputable def wf(m:Nat):E->Prop
 |.num c=>0<=c/\c < 1000000
 |.giv i=>i < m
 |.op _ a b=>wf m a/\wf m b
noncomputable def rowBy(n:Int):E->Nat->Nat->Nat->List Dd
 |.num c,s,b,_=>[.add s (c % n) [] [b]]
 |.giv i,s,b,_=>[.add s 1 [i] [b]]
 |.op .sum x y,s,b,c=>rowBy n x s b c++rowBy n y s b c
 |.op .less x y,s,b,c=>rowBy n x s b c++bDs n (rowBy n y s b c)
 |.op .times x y,s,b,c=>rowBy n y c b s++rowBy n x s c b++bDs n (rowBy n y c b s)++bDs n (rowBy n x s c b)
noncomputable def rowAl(n:Int):E->Nat->Nat->Nat->List Dd
 |.num c,s,_,_=>[.add s (c % n) [] []]
 |.giv i,s,_,_=>[.add s 1 [i] []]
 |.op .sum x y,s,b,c=>rowAl n x s b c++rowAl n y s b c
 |.op .less x y,s,b,c=>rowAl n x s b c++bDs n (rowAl n y s b c)
 |.op .times x y,s,b,c=>rowAl n y c b s++rowBy n x s c b++bDs n (rowAl n y c b s)++bDs n (rowBy n x s c b)
noncomputable def many:E->Nat
 |.num _=>1
 |.giv _=>1
 |.op .times a b=>2*(many a+many b)
 |.op _ a b=>many a+many b
theorem aZ{n:Int}:∀{e:E} {s b c:Nat},(rowBy n e s b c).length=many e
 |.num _,_,_,_=>rfl
 |.giv _,_,_,_=>rfl
 |.op .sum x y,s,b,c=>by simp[rowBy,many,aZ (e:=x),aZ (e:=y)]
 |.op .less x y,s,b,c=>by simp[rowBy,many,dP,aZ (e:=x),aZ (e:=y)]
 |.op .times x y,s,b,c=>by simp[rowBy,many,dP,aZ (e:=x),aZ (e:=y)];lia
theorem cF{n:Int}:∀{e:E} {s b c:Nat},(rowAl n e s b c).length=many e
 |.num _,_,_,_=>rfl
 |.giv _,_,_,_=>rfl
 |.op .sum x y,s,b,c=>by simp[rowAl,many,cF (e:=x),cF (e:=y)]
 |.op .less x y,s,b,c=>by simp[rowAl,many,dP,cF (e:=x),cF (e:=y)]
 |.op .times x y,s,b,c=>by simp[rowAl,many,dP,aZ (e:=x),cF (e:=y)];lia
theorem bY{P:Dd->Prop}{a b:List Dd}(h:∀d∈a,P d)(g:∀d∈b,P d):∀d∈a++b,P d:=λd hd=>(aDQ.mp hd).elim (h d) (g d)
theorem cB{n:Int}{G S:Nat}(hn:1 < n):∀{e:E} {s b c:Nat},wf G e->s < S->b < S->c < S->s≠b->s≠c->b≠c->∀d∈rowBy n e s b c,OkD n G S d
 |.num k,s,b,c,_,hs,hb,_,h1,_,_=>by
  intro d hd
  simp only[rowBy,aCL]at hd
  subst hd
  exact⟨hs,aAZ _ (by lia),aAR _ (by lia),by simp,by simpa using hb,by simpa using h1,by simp,by simp⟩
 |.giv i,s,b,c,hw,hs,hb,_,h1,_,_=>by
  intro d hd
  simp only[rowBy,aCL]at hd
  subst hd
  exact⟨hs,by lia,hn,by simpa[wf]using hw,by simpa using hb,by simpa using h1,by simp,by simp⟩
 |.op .sum x y,s,b,c,hw,hs,hb,hc,h1,h2,h3=>bY (cB hn hw.1 hs hb hc h1 h2 h3) (cB hn hw.2 hs hb hc h1 h2 h3)
 |.op .less x y,s,b,c,hw,hs,hb,hc,h1,h2,h3=>bY (cB hn hw.1 hs hb hc h1 h2 h3) (OkD.backs (by lia) (cB hn hw.2 hs hb hc h1 h2 h3))
 |.op .times x y,s,b,c,hw,hs,hb,hc,h1,h2,h3 =>
  bY (bY (bY (cB hn hw.2 hc hb hs h3.symm h2.symm h1.symm) (cB hn hw.1 hs hc hb h2 h1 h3.symm)) (OkD.backs (by lia) (cB hn hw.2 hc hb hs h3.symm h2.symm h1.symm))) (OkD.backs (by lia) (cB hn hw.1 hs hc hb h2 h1 h3.symm))
theorem eE{n:Int}{G S:Nat}(hn:1 < n):∀{e:E} {s b c:Nat},wf G e->s < S->b < S->c < S->s≠b->s≠c->b≠c->∀d∈rowAl n e s b c,OkD n G S d
 |.num k,s,b,c,_,hs,hb,_,h1,_,_=>by
  intro d hd
  simp only[rowAl,aCL]at hd
  subst hd
  exact⟨hs,aAZ _ (by lia),aAR _ (by lia),by simp,by simp,by simp,by simp,by simp⟩
 |.giv i,s,b,c,hw,hs,hb,_,h1,_,_=>by
  intro d hd
  simp only[rowAl,aCL]at hd
  subst hd
  exact⟨hs,by lia,hn,by simpa[wf]using hw,by simp,by simp,by simp,by simp⟩
 |.op .sum x y,s,b,c,hw,hs,hb,hc,h1,h2,h3=>bY (eE hn hw.1 hs hb hc h1 h2 h3) (eE hn hw.2 hs hb hc h1 h2 h3)
 |.op .less x y,s,b,c,hw,hs,hb,hc,h1,h2,h3=>bY (eE hn hw.1 hs hb hc h1 h2 h3) (OkD.backs (by lia) (eE hn hw.2 hs hb hc h1 h2 h3))
 |.op .times x y,s,b,c,hw,hs,hb,hc,h1,h2,h3 =>
  bY (bY (bY (eE hn hw.2 hc hb hs h3.symm h2.symm h1.symm) (cB hn hw.1 hs hc hb h2 h1 h3.symm)) (OkD.backs (by lia) (eE hn hw.2 hc hb hs h3.symm h2.symm h1.symm))) (OkD.backs (by lia) (cB hn hw.1 hs hc hb h2 h1 h3.symm))
theorem pN(hn:0 < n){ds:List Dd}{b:Nat}(hs:s < S)(hsb:s≠b)(h:∀d∈ds,OkD n G S d)
  (r:∀cs,Rs n cs->cs.length=S->rn n gs ds cs=cs.set s ((cs.getD s 0+v*cs.getD b 0) % n)):∀cs,Rs n cs->cs.length=S->rn n gs (bDs n ds) cs=cs.set s ((cs.getD s 0 - v*cs.getD b 0) % n):=by
 intro cs hc hl
 have h1:Rs n (cs.set s ((cs.getD s 0 - v*cs.getD b 0) % n)):=hc.setM hn
 have h2:=r _ h1 (by simpa using hl)
 rw[aV (by lia),bB hsb,aCN]at h2
 have e:((cs.getD s 0 - v*cs.getD b 0) % n+v*cs.getD b 0) % n=cs.getD s 0:=by
  apply nK ((hc.getD (by lia)).1) ((hc.getD (by lia)).2)
  ·rfl'
  ·grind
 rw[e,lA]at h2
 have:=vI (gs:=gs) (ds:=ds) hn h1 (by simpa[hl]using h)
 rwa[h2]at this
theorem yF(h:i≠j)(a b:Int):(cs.set i a).set j b=(cs.set j b).set i a:=List.set_comm _ _ h
theorem fU{n:Int}{gs:List Int}{S:Nat}(hn:1 < n):∀{e:E} {s b c:Nat},wf gs.length e->s < S->b < S->c < S->s≠b->s≠c->b≠c ->
  ∀cs,Rs n cs->cs.length=S->rn n gs (rowBy n e s b c) cs=cs.set s ((cs.getD s 0+val n gs e*cs.getD b 0) % n)
 |.num k,s,b,c,_,hs,hb,_,h1,_,_=>by
  intro cs hc hl
  simp only[rowBy,fO,qS,dn,mO,rE,val]
  congr 1
  apply fF
  ·rfl'
  ·rfl'
  ·grind
 |.giv i,s,b,c,_,hs,hb,_,h1,_,_=>by
  intro cs hc hl
  simp only[rowBy,fO,qS,dn,mO,rE,val]
  congr 1
  apply fF
  ·rfl'
  ·rfl'
  ·grind
 |.op .sum x y,s,b,c,hw,hs,hb,hc,h1,h2,h3=>by
  intro cs hcs hl
  have r1:=fU hn hw.1 hs hb hc h1 h2 h3
  have r2:=fU hn hw.2 hs hb hc h1 h2 h3
  simp only[rowBy,val,Wd.ev]
  rw[bM,r1 cs hcs hl,r2 _ (hcs.setM (by lia)) (by simpa using hl),aV (by lia),bB h1,aCN]
  congr 1
  apply fF
  ·rfl'
  ·rfl'
  ·grind
 |.op .less x y,s,b,c,hw,hs,hb,hc,h1,h2,h3=>by
  intro cs hcs hl
  have r1:=fU hn hw.1 hs hb hc h1 h2 h3
  have r2:=pN (G:=gs.length) (by lia) hs h1 (cB hn hw.2 hs hb hc h1 h2 h3) (fU hn hw.2 hs hb hc h1 h2 h3)
  simp only[rowBy,val,Wd.ev]
  rw[bM,r1 cs hcs hl,r2 _ (hcs.setM (by lia)) (by simpa using hl),aV (by lia),bB h1,aCN]
  congr 1
  apply fF
  ·rfl'
  ·rfl'
  ·grind
 |.op .times x y,s,b,c,hw,hs,hb,hc,h1,h2,h3=>by
  intro cs hcs hl
  have r1:=fU hn hw.2 hc hb hs h3.symm h2.symm h1.symm
  have r2:=fU hn hw.1 hs hc hb h2 h1 h3.symm
  have r3:=pN (G:=gs.length) (by lia) hc h3.symm (cB hn hw.2 hc hb hs h3.symm h2.symm h1.symm) r1
  have r4:=pN (G:=gs.length) (by lia) hs h2 (cB hn hw.1 hs hc hb h2 h1 h3.symm) r2
  simp only[rowBy,val,Wd.ev]
  have n0:0 < n:=by lia
  have q1:=hcs.setM n0 (i:=c) (v:=cs.getD c 0+val n gs y*cs.getD b 0)
  rw[bM,bM,bM,r1 cs hcs hl,r2 _ q1 (by simpa using hl),r3 _ (q1.setM n0) (by simpa using hl),r4 _ ((q1.setM n0).setM n0) (by simpa using hl)]
  have hl1:s < cs.length:=by lia
  have hl2:c < cs.length:=by lia
  simp only[bB h2,bB h2.symm,bB h3.symm,bB h3,bB h1,bB h1.symm,aV hl2,aV (cs:=cs.set c _) (s:=s) (by simpa using hl1),aV (cs:=(cs.set c _).set s _) (s:=c) (by simpa using hl2)]
  rw[yF h2,aCN,aCN]
  have e1:((cs.getD c 0+val n gs y*cs.getD b 0) % n - val n gs y*cs.getD b 0) % n=cs.getD c 0:=by
   apply nK ((hcs.getD hl2).1) ((hcs.getD hl2).2)
   ·rfl'
   ·grind
  rw[e1,lA]
  congr 1
  apply fF
  ·rfl'
  ·rfl'
  ·grind
theorem aAp(hn:0 < n){ds:List Dd}(hs:s < S)(h:∀d∈ds,OkD n G S d)
  (r:∀cs,Rs n cs->cs.length=S->rn n gs ds cs=cs.set s ((cs.getD s 0+v) % n)):∀cs,Rs n cs->cs.length=S->rn n gs (bDs n ds) cs=cs.set s ((cs.getD s 0 - v) % n):=by
 intro cs hc hl
 have h1:Rs n (cs.set s ((cs.getD s 0 - v) % n)):=hc.setM hn
 have h2:=r _ h1 (by simpa using hl)
 rw[aV (by lia),aCN]at h2
 have e:((cs.getD s 0 - v) % n+v) % n=cs.getD s 0:=by
  apply nK ((hc.getD (by lia)).1) ((hc.getD (by lia)).2)
  ·rfl'
  ·grind
 rw[e,lA]at h2
 have:=vI (gs:=gs) (ds:=ds) hn h1 (by simpa[hl]using h)
 rwa[h2]at this
theorem gX{n:Int}{gs:List Int}{S:Nat}(hn:1 < n):∀{e:E} {s b c:Nat},wf gs.length e->s < S->b < S->c < S->s≠b->s≠c->b≠c ->
  ∀cs,Rs n cs->cs.length=S->rn n gs (rowAl n e s b c) cs=cs.set s ((cs.getD s 0+val n gs e) % n)
 |.num k,s,b,c,_,hs,hb,_,h1,_,_=>by
  intro cs hc hl
  simp only[rowAl,fO,qS,dn,mO,rE,val]
  congr 1
  apply fF
  ·rfl'
  ·rfl'
  ·grind
 |.giv i,s,b,c,_,hs,hb,_,h1,_,_=>by
  intro cs hc hl
  simp only[rowAl,fO,qS,dn,mO,rE,val]
  congr 1
  apply fF
  ·rfl'
  ·rfl'
  ·grind
 |.op .sum x y,s,b,c,hw,hs,hb,hc,h1,h2,h3=>by
  intro cs hcs hl
  have r1:=gX hn hw.1 hs hb hc h1 h2 h3
  have r2:=gX hn hw.2 hs hb hc h1 h2 h3
  simp only[rowAl,val,Wd.ev]
  rw[bM,r1 cs hcs hl,r2 _ (hcs.setM (by lia)) (by simpa using hl),aV (by lia),aCN]
  congr 1
  apply fF
  ·rfl'
  ·rfl'
  ·grind
 |.op .less x y,s,b,c,hw,hs,hb,hc,h1,h2,h3=>by
  intro cs hcs hl
  have r1:=gX hn hw.1 hs hb hc h1 h2 h3
  have r2:=aAp (G:=gs.length) (by lia) hs (eE hn hw.2 hs hb hc h1 h2 h3) (gX hn hw.2 hs hb hc h1 h2 h3)
  simp only[rowAl,val,Wd.ev]
  rw[bM,r1 cs hcs hl,r2 _ (hcs.setM (by lia)) (by simpa using hl),aV (by lia),aCN]
  congr 1
  apply fF
  ·rfl'
  ·rfl'
  ·grind
 |.op .times x y,s,b,c,hw,hs,hb,hc,h1,h2,h3=>by
  intro cs hcs hl
  have r1:=gX hn hw.2 hc hb hs h3.symm h2.symm h1.symm
  have r2:=fU hn hw.1 hs hc hb h2 h1 h3.symm
  have r3:=aAp (G:=gs.length) (by lia) hc (eE hn hw.2 hc hb hs h3.symm h2.symm h1.symm) r1
  have r4:=pN (G:=gs.length) (by lia) hs h2 (cB hn hw.1 hs hc hb h2 h1 h3.symm) r2
  simp only[rowAl,val,Wd.ev]
  have n0:0 < n:=by lia
  have q1:=hcs.setM n0 (i:=c) (v:=cs.getD c 0+val n gs y)
  rw[bM,bM,bM,r1 cs hcs hl,r2 _ q1 (by simpa using hl),r3 _ (q1.setM n0) (by simpa using hl),r4 _ ((q1.setM n0).setM n0) (by simpa using hl)]
  have hl1:s < cs.length:=by lia
  have hl2:c < cs.length:=by lia
  simp only[bB h2,bB h2.symm,bB h3.symm,bB h3,bB h1,bB h1.symm,aV hl2,aV (cs:=cs.set c _) (s:=s) (by simpa using hl1),aV (cs:=(cs.set c _).set s _) (s:=c) (by simpa using hl2)]
  rw[yF h2,aCN,aCN]
  have e1:((cs.getD c 0+val n gs y) % n - val n gs y) % n=cs.getD c 0:=by
   apply nK ((hcs.getD hl2).1) ((hcs.getD hl2).2)
   ·rfl'
   ·grind
  rw[e1,lA]
  congr 1
  apply fF
  ·rfl'
  ·rfl'
  ·grind
end LS
variable{ds:List LS.Dd}
namespace LS
open PySem L2 EV
variable{EX:D->Mm->Prop}
theorem at0(d:D)(ds:List D):atI (d::ds) 0=some d:=by
 simp only[atI,ixN,aBQ]
 rw[aAG (by lia),aAG (by lia)]
 rfl
theorem at2I(x y:Int)(c:Bool):atI [D.int x,D.int y] (if c=true then 1 else 0)=some (D.int (if c=true then y else x)):=by cases c <;> rfl
variable{d:Int}
theorem at2(l:0<=d)(u:d < 2)(x y:D):∃w,atI [x,y] d=some w/\(w=x\/w=y):=by
 have:d=0\/d=1:=by lia
 rcases this with rfl|rfl
 ·exact⟨x,rfl,by simp⟩
 ·exact⟨y,rfl,by simp⟩
theorem at4(l:0<=d)(u:d < 4)(x y z t:D):∃w,atI [x,y,z,t] d=some w/\(w=x\/w=y\/w=z\/w=t):=by
 have:d=0\/d=1\/d=2\/d=3:=by lia
 rcases this with rfl|rfl|rfl|rfl
 ·exact⟨x,rfl,by simp⟩
 ·exact⟨y,rfl,by simp⟩
 ·exact⟨z,rfl,by simp⟩
 ·exact⟨t,rfl,by simp⟩
theorem nM(h:i < cs.length):atI (cs.map D.int) (i:Int)=some (.int (cs.getD i 0)):=by
 simp only[atI,ixN,aAL]
 rw[aAG (by lia),aAG (by lia)]
 simp[h]
theorem aEr(l:0<=c)(u:c < n)(hn:n<=1000000):(-18446744073709551616 < c/\c < 18446744073709551616):=by lia
variable{s:Nat}
theorem aGk{cs:List D}(h:s<=cs.length):cut cs none (some (s:Int))=cs.take s:=by
 simp only[cut,HT.sIx]
 rw[aAC (by lia)]
 simp only[List.drop_zero,Nat.sub_zero,aCD]
 rw[Nat.min_eq_left h]
theorem uP{cs:List D}(h:s<=cs.length):cut cs (some (s:Int)) none=cs.drop s:=by
 simp only[cut,HT.sIx]
 rw[aAC (by lia)]
 simp only[aCD]
 rw[Nat.min_eq_left h,aCM (by simp)]
theorem aBf{v:Int}(h:s < cs.length):(cs.map D.int).take s++[D.int v]++(cs.map D.int).drop (s+1)=(cs.set s v).map D.int:=by
 rw[List.set_eq_take_append_cons_drop,aAG h]
 simp
theorem rH{a b:Int}{x y:Nat}(ha:a.natAbs<=x)(hb:b.natAbs<=y):(a*b).natAbs<=x*y:=by
 rw[Int.natAbs_mul];exact Nat.mul_le_mul ha hb
theorem aLs{n:Int}{xs:List Int}(hx:Rs n xs)(hn:0 < n)(hn2:n<=1000000):∀is:List Nat,(pr xs is).natAbs<=1000000 ^ is.length
 |[]=>by simp[mO]
 |i::r=>by
  rw[pP,aBQ,Nat.pow_succ,aDY]
  have:=hx.getD0 hn (i:=i)
  exact rH (by lia) (aLs hx hn hn2 r)
theorem aHy{xs:List Int}(hx:Rs n xs)(hn:0 < n)(hn2:n<=1000000)(h:is.length<=4):(pr xs is).natAbs<=1000000000000000000000000 :=
 aBF (aLs hx hn hn2 is) (aBF (aDB (by lia) h) (by decide))
theorem aHb{i:Int}(h:i.natAbs<=m)(hm:m < 2 ^ 200):i.natAbs < lid:=aPa (m:=200) (Nat.lt_of_le_of_lt h hm) (by lia)
noncomputable def encP(n G S:Int)(ds:List Dd):D:=.tup [.int n,.int G,.int S,.tup (ds.map encD)]
theorem aBq{w:Wd}{x y:E}:many x+many y<=many (.op w x y):=by cases w <;> simp only[many] <;> lia
mutual
theorem xY:∀d:D,eqD d d=true
 |.non=>by simp[eqD]
 |.bl b=>by simp[eqD]
 |.int i=>by simp[eqD]
 |.str x=>by simp[eqD]
 |.tup xs=>by simp only[eqD];exact jC xs
 |.lst xs=>by simp only[eqD];exact jC xs
 |.fz xs=>by simp only[eqD];exact jC xs
 |.exn c f xs=>by simp only[eqD];rw[jC xs];simp
theorem jC:∀ds:List D,eqDs ds ds=true
 |[]=>by simp[eqDs]
 |d::ds=>by simp only[eqDs,xY d,jC ds,Bool.and_true]
end
theorem aFr(xs:List Int):dep (intsD xs)<=3:=by
 have:deps (xs.map D.int)<=1:=by
  induction xs with
  |nil=>simp[deps]
  |cons x r ih=>simp[deps,dep];lia
 simp only[intsD,dep]
 lia
theorem wC(xs:List Int):dep (intsD xs)<=100:=aBF (aFr xs) (by lia)
variable{x y:W}{Q:W->Mm->Prop}
theorem aMy{a b:D}(h1:wd M x=some a)(h2:wd M y=some b)(e:a=b)(hd:dep a<=100)(q:Q (.d (.bl false)) M):Okx EX (pNe x y M) Q:=by
 subst e
 exact aBw h1 h2 ⟨hd,hd⟩ (by rw[xY];exact q)
end LS
namespace LS
open PySem L2 EV
variable{EX:D->Mm->Prop}
theorem natsOf{xs:List Int}(h:∀x∈xs,0<=x):∃ks:List Nat,xs=ks.map (λk:Nat=>(k:Int)):=by
 refine⟨xs.map Int.toNat,?_⟩
 rw[aBP]
 conv=>lhs;rw[<- List.map_id xs]
 exact aEU λx hx=>by simp;have:=h x hx;lia
theorem aHu(ns:List Nat):∃ks:List Nat,srt (ns.map λk:Nat=>(k:Int))=ks.map (λk:Nat=>(k:Int))/\ks.Perm ns/\ks.Pairwise (·<=·):=by
 obtain⟨ks,e⟩:=natsOf (xs:=srt (ns.map λk:Nat=>(k:Int))) (λx hx=>by
  rw[aJb]at hx;obtain⟨k,_,rfl⟩:=aBC.mp hx;lia)
 refine⟨ks,e,?_,?_⟩
 ·have p:=mW (ns.map λk:Nat=>(k:Int))
  rw[e]at p
  have:=p.map Int.toNat
  simpa[aBP,aCQ]using this
 ·have o:=rC (ns.map λk:Nat=>(k:Int))
  rw[e,aGU]at o
  exact o.imp λh=>by lia
end LS
namespace LS
open PySem L2 EV
variable{EX:D->Mm->Prop}
end LS
namespace LS
open PySem L2 EV
variable{EX:D->Mm->Prop}
noncomputable def pl(ps:List Nat)(i:Nat):Nat:=ps.getD i 0
variable{ps:List Nat}
theorem eP(h:i < ps.length):pl ps i∈ps:=by simp[pl,h]
theorem aMq(nd:ps.Nodup)(hi:i < ps.length)(hj:j < ps.length)(e:pl ps i=pl ps j):i=j:=by
 have e':ps[i]=ps[j]:=by simpa[pl,hi,hj]using e
 have pw:=aBM.mp nd
 rcases Nat.lt_trichotomy i j with l|l|l
 ·exact(pw i j hi hj l e').elim
 ·exact l
 ·exact(pw j i hj hi l e'.symm).elim
theorem vQ{ns:List Nat}(h:i < ns.length):atI (ns.map λx=>D.int (x:Nat)) (i:Int)=some (.int (pl ns i:Nat)):=by
 simp only[atI,ixN,aAL]
 rw[aAG (by lia),aAG (by lia)]
 simp[pl,h]
end LS
namespace LS
open PySem L2 EV
variable{EX:D->Mm->Prop}
noncomputable def ho:Dd->Dd->Bool
 |.scale _ _,_=>false
 |.add s _ _ t,.scale s' _=>decide (s'=s) || decide (s'∈t)
 |.add _ _ _ t,.add s' _ _ _=>decide (s'∈t)
noncomputable def gp(a b:Dd):Bool:=!ho a b&&!ho b a
theorem iG(a b:Dd):gp a b=gp b a:=by simp[gp,Bool.and_comm]
end LS
namespace LS
open PySem L2 EV
variable{EX:D->Mm->Prop}
end LS
namespace LS
open PySem L2 EV
noncomputable def plc:List Nat->List Int->List Int->List Int
 |p::ps,c::cs,l=>plc ps cs (l.set p c)
 |_,_,l=>l
end LS
namespace LS
open PySem
noncomputable def kd:Dd->Nat×Bool×List Nat×List Nat
 |.add s _ g t=>(s,false,g,t)
 |.scale s _=>(s,true,[],[])
noncomputable def lexN:List Nat->List Nat->Bool
 |[],[]=>false
 |[],_::_=>true
 |_::_,[]=>false
 |x::xs,y::ys=>if x=y then lexN xs ys else decide (x < y)
noncomputable def rl(a b:Nat×Bool×List Nat×List Nat):Bool :=
 if a.1=b.1 then(if a.2.1=b.2.1 then(if a.2.2.1=b.2.2.1 then lexN a.2.2.2 b.2.2.2 else lexN a.2.2.1 b.2.2.1)else !a.2.1)else decide (a.1 < b.1)
theorem gF:∀xs:List Nat,lexN xs xs=false
 |[]=>rfl
 |x::xs=>by simp[lexN,gF xs]
theorem qY:∀{xs ys:List Nat},lexN xs ys=false->lexN ys xs=false->xs=ys
 |[],[],_,_=>rfl
 |[],_::_,h,_=>by simp[lexN]at h
 |_::_,[],_,h=>by simp[lexN]at h
 |x::xs,y::ys,h,g=>by
  simp only[lexN]at h g
  by_cases e:x=y
  ·subst e
   simp only[aBT]at h g
   rw[qY h g]
  ·rw[aAC e]at h
   rw[aAC (Ne.symm e)]at g
   simp at h g
   lia
theorem gZ:∀{xs ys zs:List Nat},lexN xs ys=true->lexN ys zs=true->lexN xs zs=true
 |[],[],_,h,_=>by simp[lexN]at h
 |[],_::_,[],_,g=>by simp[lexN]at g
 |[],_::_,_::_,_,_=>rfl
 |_::_,[],_,h,_=>by simp[lexN]at h
 |_::_,_::_,[],_,g=>by simp[lexN]at g
 |x::xs,y::ys,z::zs,h,g=>by
  simp only[lexN]at h g ⊢
  by_cases e:x=y
  ·subst e
   by_cases f:x=z
   ·subst f
    simp only[aBT]at h g ⊢
    exact gZ h g
   ·rw[aAC f]at g ⊢
    exact g
  ·rw[aAC e]at h
   by_cases f:y=z
   ·subst f
    rw[aAC e]
    exact h
   ·rw[aAC f]at g
    simp at h g
    rw[aAC (by lia)]
    simp
    lia
theorem aDu(a:Nat×Bool×List Nat×List Nat):rl a a=false:=by simp[rl,gF]
theorem xK{a b c:Nat×Bool×List Nat×List Nat}(h:rl a b=true)(g:rl b c=true):rl a c=true:=by
 obtain⟨a1,a2,a3,a4⟩:=a
 obtain⟨b1,b2,b3,b4⟩:=b
 obtain⟨c1,c2,c3,c4⟩:=c
 simp only[rl]at h g ⊢
 by_cases e1:a1=b1
 ·subst e1
  simp only[aBT]at h
  by_cases f1:a1=c1
  ·subst f1
   simp only[aBT]at g ⊢
   by_cases e2:a2=b2
   ·subst e2
    simp only[aBT]at h
    by_cases f2:a2=c2
    ·subst f2
     simp only[aBT]at g ⊢
     by_cases e3:a3=b3
     ·subst e3
      simp only[aBT]at h
      by_cases f3:a3=c3
      ·subst f3
       simp only[aBT]at g ⊢
       exact gZ h g
      ·rw[aAC f3]at g ⊢
       exact g
     ·rw[aAC e3]at h
      by_cases f3:b3=c3
      ·subst f3
       rw[aAC e3]
       exact h
      ·rw[aAC f3]at g
       have:=gZ h g
       rw[aAC (λz=>by rw[z,gF]at this;cases this)]
       exact this
    ·rw[aAC f2]at g ⊢
     exact g
   ·rw[aAC e2]at h
    by_cases f2:b2=c2
    ·subst f2
     rw[aAC e2]
     exact h
    ·rw[aAC f2]at g
     cases a2 <;> cases b2 <;> cases c2 <;> simp_all
  ·rw[aAC f1]at g ⊢
   exact g
 ·rw[aAC e1]at h
  by_cases f1:b1=c1
  ·subst f1
   rw[aAC e1]
   exact h
  ·rw[aAC f1]at g
   simp at h g
   rw[aAC (by lia)]
   simp
   lia
theorem aEn{a b:Nat×Bool×List Nat×List Nat}(h:rl a b=true):rl b a=false:=by
 cases g:rl b a with
 |false=>rfl
 |true=>have:=xK h g;rw[aDu]at this;cases this
theorem aBh{a b c:Dd}(h:kd a=kd b):gp a c=gp b c:=by
 cases a <;> cases b <;> simp only[kd,Prod.mk.injEq,reduceCtorEq,and_true,true_and,and_false,false_and,Bool.true_eq_false,aAY]at h
 ·obtain⟨rfl,rfl,rfl⟩:=h
  cases c <;> rfl
 ·subst h
  cases c <;> rfl
noncomputable def mg(n:Int):Dd->Dd->Dd
 |.add s c g t,.add _ c' _ _=>.add s ((c+c') % n) g t
 |.scale s u,.scale _ u'=>.scale s (u*u' % n)
 |a,_=>a
noncomputable def idle:Dd->Bool
 |.add _ c _ _=>decide (c=0)
 |.scale _ u=>decide (u=1)
noncomputable def tk(n:Int)(d:Dd):List Dd->Option (List Dd)
 |[]=>none
 |x::r=>if kd x=kd d then some (if idle (mg n x d)then r else mg n x d::r)else if gp x d then(tk n d r).map (x::·)else none
noncomputable def pcs(d:Dd):List Dd->Option (List Dd)
 |[]=>none
 |x::r=>if gp x d then(match pcs d r with
  |some r'=>some (x::r')
  |none=>if rl (kd d) (kd x)then some (x::d::r)else none)else none
noncomputable def ins(n:Int)(d:Dd)(r:List Dd):List Dd:=if idle d then r else match tk n d r with
 |some r'=>r'
 |none=>match pcs d r with
  |some r'=>r'
  |none=>d::r
noncomputable def Nor(n:Int):List Dd->Prop
 |[]=>True
 |x::r=>idle x=false/\tk n x r=none/\pcs x r=none/\Nor n r
theorem rV{n:Int}{d e:Dd}(h:kd d=kd e):∀r:List Dd,tk n d r=none->tk n e r=none
 |[],_=>rfl
 |x::r,g=>by
  simp only[tk]at g ⊢
  rw[<- h]
  split at g
  ·cases g
  ·rename_i hk
   rw[aAC hk,iG x e,<- aBh (c:=x) h,iG d x]
   split at g
   ·rename_i hg
    rw[aAG hg]
    rw[aDJ]at g ⊢
    exact rV h r g
   ·rename_i hg
    rw[aAC hg]
theorem oU{d e:Dd}(h:kd d=kd e):∀r:List Dd,pcs d r=none->pcs e r=none
 |[],_=>rfl
 |x::r,g=>by
  simp only[pcs]at g ⊢
  rw[<- h,iG x e,<- aBh (c:=x) h,iG d x]
  split at g
  ·rename_i hg
   rw[aAG hg]
   cases hp:pcs d r with
   |some r'=>rw[hp]at g;cases g
   |none =>
    rw[hp]at g
    rw[oU h r hp]
    simp only at g ⊢
    split at g
    ·cases g
    ·rename_i hx
     rw[aAC hx]
  ·rename_i hg
   rw[aAC hg]
theorem aPx{x d:Dd}(h:kd x=kd d):kd (mg n x d)=kd d:=by
 rw[<- h]
 cases x <;> cases d <;> rfl
theorem aBe{n:Int}{d:Dd}(hm:∀x,kd x=kd d->kd (mg n x d)=kd d):∀{r r1:List Dd} {y:Dd},tk n d r=some r1->gp y d=true->kd y≠kd d->tk n y r=none->pcs y r=none->tk n y r1=none/\pcs y r1=none
 |[],_,_,g,_,_,_,_=>by cases g
 |x::r,r1,y,g,hy,hk,h1,h2=>by
  simp only[tk]at g
  simp only[tk]at h1
  split at h1
  ·cases h1
  rename_i hxy
  simp only[pcs]at h2
  split at g
  ·rename_i hx
   have gxy:gp x y=true:=by rw[aBh (c:=y) hx,iG];exact hy
   rw[aAG gxy,aDJ]at h1
   rw[aAG gxy]at h2
   have p2:pcs y r=none:=by
    cases hp:pcs y r with
    |none=>rfl
    |some s=>rw[hp]at h2;cases h2
   rw[p2]at h2
   cases g
   by_cases hi:idle (mg n x d)=true
   ·rw[aAG hi]
    exact⟨h1,p2⟩
   ·rw[aAC hi]
    have hkm:=hm x hx
    have gmy:gp (mg n x d) y=true:=by rw[aBh (c:=y) hkm,iG];exact hy
    refine⟨?_,?_⟩
    ·simp only[tk]
     rw[aAC (by rw[hkm];exact Ne.symm hk),aAG gmy,h1]
     rfl
    ·simp only[pcs]
     rw[aAG gmy,p2]
     simp only at h2 ⊢
     rw[hkm,<- hx]
     split at h2
     ·cases h2
     ·rename_i hz
      rw[aAC hz]
  ·rename_i hx
   split at g
   ·rename_i hg
    rw[aAM]at g
    obtain⟨s,hs,rfl⟩:=g
    by_cases gxy:gp x y=true
    ·rw[aAG gxy,aDJ]at h1
     rw[aAG gxy]at h2
     have p2:pcs y r=none:=by
      cases hp:pcs y r with
      |none=>rfl
      |some s=>rw[hp]at h2;cases h2
     rw[p2]at h2
     obtain⟨q1,q2⟩:=aBe hm hs hy hk h1 p2
     refine⟨?_,?_⟩
     ·simp only[tk]
      rw[aAC hxy,aAG gxy,q1]
      rfl
     ·simp only[pcs]
      rw[aAG gxy,q2]
      simp only at h2 ⊢
      split at h2
      ·cases h2
      ·rename_i hz
       rw[aAC hz]
    ·refine⟨?_,?_⟩
     ·simp only[tk]
      rw[aAC hxy,aAC gxy]
     ·simp only[pcs]
      rw[aAC gxy]
   ·cases g
theorem Nor.tk{n:Int}{d:Dd}(hm:∀x,kd x=kd d->kd (mg n x d)=kd d):∀{r r1:List Dd},Nor n r->LS.tk n d r=some r1->Nor n r1
 |[],_,_,g=>by cases g
 |x::r,r1,hN,g=>by
  obtain⟨n1,n2,n3,n4⟩:=hN
  simp only[LS.tk]at g
  split at g
  ·rename_i hx
   cases g
   by_cases hi:idle (mg n x d)=true
   ·rw[aAG hi]
    exact n4
   ·rw[aAC hi]
    have hkm:=hm x hx
    exact⟨by simpa using hi,rV (hx.trans hkm.symm) r n2,oU (hx.trans hkm.symm) r n3,n4⟩
  ·rename_i hx
   split at g
   ·rename_i hg
    rw[aAM]at g
    obtain⟨s,hs,rfl⟩:=g
    obtain⟨q1,q2⟩:=aBe hm hs hg hx n2 n3
    exact⟨n1,q1,q2,Nor.tk hm n4 hs⟩
   ·cases g
theorem yB{n:Int}{d:Dd}:∀{r r1:List Dd} {y:Dd},pcs d r=some r1->gp y d=true->kd y≠kd d->tk n y r=none->pcs y r=none->tk n y r1=none/\pcs y r1=none
 |[],_,_,g,_,_,_,_=>by cases g
 |x::r,r1,y,g,hy,hk,h1,h2=>by
  simp only[pcs]at g
  split at g
  ·rename_i hg
   simp only[tk]at h1
   split at h1
   ·cases h1
   rename_i hxy
   simp only[pcs]at h2
   by_cases gxy:gp x y=true
   ·rw[aAG gxy,aDJ]at h1
    rw[aAG gxy]at h2
    have p2:pcs y r=none:=by
     cases hp:pcs y r with
     |none=>rfl
     |some s=>rw[hp]at h2;cases h2
    rw[p2]at h2
    simp only at h2
    have hz:¬rl (kd y) (kd x)=true:=by
     intro z
     rw[aAG z]at h2
     cases h2
    cases hp:pcs d r with
    |some s =>
     rw[hp]at g
     cases g
     obtain⟨q1,q2⟩:=yB hp hy hk h1 p2
     refine⟨?_,?_⟩
     ·simp only[tk]
      rw[aAC hxy,aAG gxy,q1]
      rfl
     ·simp only[pcs]
      rw[aAG gxy,q2]
      simp only
      rw[aAC hz]
    |none =>
     rw[hp]at g
     simp only at g
     split at g
     ·rename_i hr
      cases g
      have gdy:gp d y=true:=by rw[iG];exact hy
      have hd:¬rl (kd y) (kd d)=true:=λz=>hz (xK z hr)
      refine⟨?_,?_⟩
      ·simp only[tk]
       rw[aAC hxy,aAG gxy,aAC (Ne.symm hk),aAG gdy,h1]
       rfl
      ·simp only[pcs]
       rw[aAG gxy,aAG gdy,p2]
       simp only
       rw[aAC hd]
       simp only
       rw[aAC hz]
     ·cases g
   ·have t1:∀s,tk n y (x::s)=none:=λs=>by
     simp only[tk]
     rw[aAC hxy,aAC gxy]
    have t2:∀s,pcs y (x::s)=none:=λs=>by
     simp only[pcs]
     rw[aAC gxy]
    cases hp:pcs d r with
    |some s=>rw[hp]at g;cases g;exact⟨t1 _,t2 _⟩
    |none =>
     rw[hp]at g
     simp only at g
     split at g
     ·cases g;exact⟨t1 _,t2 _⟩
     ·cases g
  ·cases g
theorem Nor.pcs{n:Int}{d:Dd}(hi:idle d=false):∀{r r1:List Dd},Nor n r->LS.tk n d r=none->LS.pcs d r=some r1->Nor n r1
 |[],_,_,_,g=>by cases g
 |x::r,r1,hN,ht,g=>by
  obtain⟨n1,n2,n3,n4⟩:=hN
  simp only[LS.tk]at ht
  split at ht
  ·cases ht
  rename_i hx
  simp only[LS.pcs]at g
  split at g
  ·rename_i hg
   rw[aAG hg,aDJ]at ht
   cases hp:LS.pcs d r with
   |some s =>
    rw[hp]at g
    cases g
    obtain⟨q1,q2⟩:=yB hp hg hx n2 n3
    exact⟨n1,q1,q2,Nor.pcs hi n4 ht hp⟩
   |none =>
    rw[hp]at g
    simp only at g
    split at g
    ·rename_i hr
     cases g
     have gdx:gp d x=true:=by rw[iG];exact hg
     refine⟨n1,?_,?_,hi,ht,hp,n4⟩
     ·simp only[LS.tk]
      rw[aAC (Ne.symm hx),aAG gdx,n2]
      rfl
     ·simp only[LS.pcs]
      rw[aAG gdx,n3]
      simp only
      rw[aAC (by rw[aEn hr];exact aBH)]
    ·cases g
  ·cases g
theorem Nor.ins{n:Int}{d:Dd}{r:List Dd}(h:Nor n r):Nor n (LS.ins n d r):=by
 unfold LS.ins
 by_cases hi:idle d=true
 ·rw[aAG hi];exact h
 ·rw[aAC hi]
  cases ht:LS.tk n d r with
  |some r1=>exact h.tk (λx hx=>aPx hx) ht
  |none =>
   cases hp:LS.pcs d r with
   |some r1=>exact h.pcs (by simpa using hi) ht hp
   |none=>exact⟨by simpa using hi,ht,hp,h⟩
noncomputable def nf(n:Int)(ds:List Dd)(r:List Dd):List Dd:=ds.foldl (λr d=>ins n d r) r
noncomputable def sg(m:Nat)(g:Nat->Int):Int:=((List.range m).map g).sum
variable{g:Nat->Int}
theorem fY :sg (m+1) g=sg m g+g m:=by simp[sg,aDO]
theorem zE{g h:Nat->Int}:∀{m:Nat},sg m (λi=>g i+h i)=sg m g+sg m h
 |0=>rfl
 |m+1=>by rw[fY,fY,fY,zE];lia
theorem vZ{c:Int}{g:Nat->Int}:∀{m:Nat},sg m (λi=>c*g i)=c*sg m g
 |0=>by simp[sg]
 |m+1=>by rw[fY,fY,vZ,Int.mul_add]
theorem aHs:∀{m:Nat},sg m (λ_=>1)=m
 |0=>rfl
 |m+1=>by rw[fY,aHs];simp
theorem geo(x:Int):∀m:Nat,(x - 1)*sg m (λi=>x ^ i)=x ^ m - 1
 |0=>by simp[sg]
 |m+1=>by rw[fY,Int.mul_add,geo x m,aDA];grind
noncomputable def Rt(n w:Int)(m:Nat):Prop:=w ^ m % n=1/\∀i:Nat,1<=i->i < m->∃v,IsIv n (w ^ i % n - 1) v
theorem Cg.pow{n a b:Int}(h:Cg n a b):∀k:Nat,Cg n (a ^ k) (b ^ k)
 |0=>Cg.of_eq (by simp)
 |k+1=>by rw[aDA,aDA];exact Cg.mul (Cg.pow h k) h
variable{w:Int}
theorem Rt.one(h:Rt n w m):Cg n (w ^ m) 1:=by
 have:Cg n (w ^ m % n) 1:=Cg.of_eq h.1
 exact Cg.mod.symm.trans this
theorem Rt.geo{n w:Int}{m k:Nat}(h:Rt n w m)(h1:1<=k)(h2:k < m):Cg n (sg m λi=>w ^ (i*k)) 0:=by
 obtain⟨v,_,_,hv⟩:=h.2 k h1 h2
 have e0:Cg n ((w ^ k - 1)*v) 1:=(Cg.mul (Cg.sub Cg.mod.symm Cg.rfl) Cg.rfl).trans (Cg.of hv)
 have e1:sg m (λi=>w ^ (i*k))=sg m (λi=>(w ^ k) ^ i):=by
  congr 1
  funext i
  rw[<- Int.pow_mul,aDY]
 have e2:=LS.geo (w ^ k) m
 have e3:Cg n ((w ^ k) ^ m - 1) 0:=by
  rw[<- Int.pow_mul,aDY,Int.pow_mul]
  exact(Cg.sub ((h.one).pow k) Cg.rfl).trans (Cg.of_eq (show(1:Int) ^ k - 1=0 by rw[Int.one_pow];rfl))
 rw[e1]
 generalize sg m (λi=>(w ^ k) ^ i)=T at e2
 have e4:Cg n (v*((w ^ k - 1)*T)) (v*0):=Cg.mul Cg.rfl (by rw[e2];exact e3)
 refine Cg.trans ?_ (e4.trans (Cg.of_eq (by simp)))
 refine Cg.trans ?_ (Cg.of_eq (show(w ^ k - 1)*v*T=v*((w ^ k - 1)*T) by grind))
 exact(Cg.of_eq (by simp)).trans (Cg.mul e0.symm Cg.rfl)
noncomputable def pf(g:Nat->Int):List Nat->Int
 |[]=>1
 |t::r=>g t*pf g r
theorem aLu{n:Int}{g h:Nat->Int}:∀{t:List Nat},(∀i∈t,Cg n (g i) (h i))->Cg n (pf g t) (pf h t)
 |[],_=>Cg.rfl
 |t::r,e=>Cg.mul (e t (by simp)) (aLu λi hi=>e i (by simp[hi]))
theorem aLe{xs:List Int}:∀t:List Nat,pr xs t=pf (λi=>xs.getD i 0) t
 |[]=>rfl
 |t::r=>by rw[pP,aLe r];rfl
theorem polysum{n w:Int}{m:Nat}(h:Rt n w m){x v:Nat->Int}:∀(t:List Nat) (j:Nat),j+t.length < m->Cg n (sg m λi=>w ^ (i*j)*pf (λs=>x s*w ^ i+v s) t) (if j=0 then m*pf v t else 0)
 |[],j,hj=>by
  have e:sg m (λi=>w ^ (i*j)*pf (λs=>x s*w ^ i+v s) [])=sg m λi=>w ^ (i*j):=by congr 1;funext i;simp[pf]
  rw[e]
  by_cases h0:j=0
  ·subst h0
   rw[aAG rfl]
   have:sg m (λi=>w ^ (i*0))=sg m λ_=>1:=by congr 1;funext i;simp
   rw[this,aHs]
   exact Cg.of_eq (by simp[pf])
  ·rw[aAC h0]
   exact h.geo (by lia) (by simpa using hj)
 |s::t,j,hj=>by
  simp only[aBQ]at hj
  have i1:=polysum h (x:=x) (v:=v) t (j+1) (by lia)
  have i2:=polysum h (x:=x) (v:=v) t j (by lia)
  have e:sg m (λi=>w ^ (i*j)*pf (λs=>x s*w ^ i+v s) (s::t))=x s*sg m (λi=>w ^ (i*(j+1))*pf (λs=>x s*w ^ i+v s) t)+v s*sg m (λi=>w ^ (i*j)*pf (λs=>x s*w ^ i+v s) t):=by
   rw[<- vZ,<- vZ,<- zE]
   congr 1
   funext i
   rw[Nat.mul_add,Nat.mul_one,Int.pow_add]
   simp only[pf]
   grind
  rw[e]
  refine(Cg.add (Cg.mul Cg.rfl i1) (Cg.mul Cg.rfl i2)).trans (Cg.of_eq ?_)
  rw[aAC (by lia)]
  by_cases h0:j=0
  ·rw[aAG h0,aAG h0];simp only[pf];grind
  ·rw[aAC h0,aAC h0];simp
theorem aId{a b:List Int}(ha:Rs n a)(hb:Rs n b)(hl:a.length=b.length)(h:∀s,s < a.length->Cg n (a.getD s 0) (b.getD s 0)):a=b:=by
 refine List.ext_getElem hl λi h1 h2=>?_
 have e:=(h i h1).emod
 have a1:=ha.getD h1
 have b1:=hb.getD h2
 rw[aBX a1.1 a1.2,aBX b1.1 b1.2]at e
 simpa[List.getD,h1,h2]using e
noncomputable def Brg(n:Int)(gs:List Int)(S:Nat)(ds:List Dd)(f:Nat->Int):Prop:=∀cs,Rs n cs->cs.length=S->∀s,s < S->Cg n ((rn n gs ds cs).getD s 0) (cs.getD s 0+f s)
variable{f:Nat->Int}
theorem Brg.cg(h:Brg n gs S ds f)(e:∀s,s < S->Cg n (f s) (g s)):Brg n gs S ds g:=λcs h1 h2 s hs=>(h cs h1 h2 s hs).trans (Cg.add Cg.rfl (e s hs))
theorem Brg.app{es:List Dd}(hn:0 < n)(h:Brg n gs S ds f)(h':Brg n gs S es g):Brg n gs S (ds++es) λs=>f s+g s:=λcs h1 h2 s hs=>by
 rw[bM]
 refine(h' _ (Rs.rn hn h1) (by rw[dM];exact h2) s hs).trans ?_
 exact(Cg.add (h cs h1 h2 s hs) Cg.rfl).trans (Cg.of_eq (by show _=_+(f s+g s);lia))
theorem Brg.nil :Brg n gs S [] λ_=>0:=λcs _ _ s _=>Cg.of_eq (by show _=_+0;simp[rn])
noncomputable def mkA(d:Nat×Int×List Nat):Dd:=.add d.1 d.2.1 [] d.2.2
noncomputable def isum(ad:List (Nat×Int×List Nat))(g:Nat->Int)(s:Nat):Int:=(ad.map λd=>if d.1=s then d.2.1*pf g d.2.2 else 0).sum
theorem pS{n:Int}{g h:Nat->Int}{s:Nat}:∀{ad:List (Nat×Int×List Nat)},(∀d∈ad,∀t∈d.2.2,Cg n (g t) (h t))->Cg n (isum ad g s) (isum ad h s)
 |[],_=>Cg.rfl
 |d::ad,e=>by
  simp only[isum,aAO,aCF]
  refine Cg.add ?_ (pS (ad:=ad) λx hx=>e x (by simp[hx]))
  split
  ·exact Cg.mul Cg.rfl (aLu (e d (by simp)))
  ·exact Cg.rfl
theorem xB{g:Nat->Int}{s:Nat}:∀{ad:List (Nat×Int×List Nat)},(∀d∈ad,d.1≠s)->isum ad g s=0
 |[],_=>rfl
 |d::ad,e=>by
  have:=xB (g:=g) (s:=s) (ad:=ad) λx hx=>e x (by simp[hx])
  simp only[isum,aAO,aCF]at this ⊢
  rw[this,aAC (e d (by simp))]
  rfl
theorem uD{n:Int}{gs:List Int}{P:List Nat}:∀{ad:List (Nat×Int×List Nat)} {cs:List Int},(∀d∈ad,d.1∉P/\d.1 < cs.length/\∀t∈d.2.2,t∈P)->∀s,s < cs.length->Cg n ((rn n gs (ad.map mkA) cs).getD s 0) (cs.getD s 0+isum ad (λt=>cs.getD t 0) s)
 |[],cs,_,s,_=>Cg.of_eq (by simp[rn,isum])
 |d::ad,cs,h,s,hs=>by
  obtain⟨h1,h2,h3⟩:=h d (by simp)
  obtain⟨cs',hc'⟩:∃cs',cs'=dn n gs cs (mkA d):=⟨_,rfl⟩
  have hl:cs'.length=cs.length:=by rw[hc'];exact jB
  have at':∀t,cs'.getD t 0=if t=d.1 then(cs.getD d.1 0+d.2.1*pf (λt=>cs.getD t 0) d.2.2) % n else cs.getD t 0:=by
   intro t
   rw[hc']
   simp only[mkA,dn,mO,aFI,<- aLe]
   by_cases e:t=d.1
   ·subst e;rw[aAG rfl];simp[List.getD,h2]
   ·rw[aAC e];simp[List.getD,aBK (Ne.symm e)]
  have ih:=uD (n:=n) (gs:=gs) (P:=P) (ad:=ad) (cs:=cs') (λx hx=>by rw[hl];exact h x (by simp[hx])) s (by lia)
  rw[aAO,fO,<- hc']
  refine ih.trans ?_
  have e1:Cg n (isum ad (λt=>cs'.getD t 0) s) (isum ad (λt=>cs.getD t 0) s):=pS λx hx t ht=>by
   have:t≠d.1:=λe=>h1 (e▸(h x (by simp[hx])).2.2 t ht)
   rw[at',aAC this]
   exact Cg.rfl
  refine(Cg.add Cg.rfl e1).trans ?_
  rw[at']
  simp only[isum,aAO,aCF]
  by_cases e:s=d.1
  ·rw[aAG e,aAG e.symm,e]
   exact(Cg.add Cg.mod Cg.rfl).trans (Cg.of_eq (by lia))
  ·rw[aAC e,aAC (Ne.symm e)]
   exact Cg.of_eq (by lia)
theorem rP{n w:Int}{gs:List Int}:∀{P:List Nat} {cs:List Int},P.Nodup->(∀s∈P,s < cs.length)->∀s,s < cs.length->Cg n ((rn n gs (P.map λs=>Dd.scale s w) cs).getD s 0) (if s∈P then cs.getD s 0*w else cs.getD s 0)
 |[],cs,_,_,s,_=>Cg.of_eq (by simp[rn])
 |p::P,cs,nd,h,s,hs=>by
  have hp:=h p (by simp)
  rw[aAO,fO]
  have at':∀t,(dn n gs cs (.scale p w)).getD t 0=if t=p then cs.getD p 0*w % n else cs.getD t 0:=by
   intro t
   simp only[dn]
   by_cases e:t=p
   ·subst e;rw[aAG rfl];simp[List.getD,hp]
   ·rw[aAC e];simp[List.getD,aBK (Ne.symm e)]
  have hl:(dn n gs cs (.scale p w)).length=cs.length:=jB
  obtain⟨hnp,nd'⟩:=aEG.mp nd
  refine(rP nd' (λx hx=>by rw[hl];exact h x (by simp[hx])) s (by lia)).trans ?_
  rw[at']
  by_cases e:s=p
  ·subst e
   rw[aAC hnp,aAG rfl,aAG (by simp)]
   exact Cg.mod
  ·rw[aAC e]
   have:(s∈p::P)=(s∈P):=by simp[e]
   simp only[this]
   exact Cg.rfl
noncomputable def rnd(n w:Int)(row:List Dd)(ad:List (Nat×Int×List Nat))(P:List Nat):List Dd:=row++ad.map mkA++bDs n row++P.map λs=>.scale s w
theorem aDz{row:List Dd}{ad:List (Nat×Int×List Nat)}{P:List Nat}(hn:2<=n)(ok:∀d∈row,OkD n G S d)(hb:Brg n gs S row f)(nd:P.Nodup)(hP:∀s∈P,s < S)(ha:∀d∈ad,d.1∉P/\d.1 < S/\∀t∈d.2.2,t∈P)
  (hc:Rs n cs)(hl:cs.length=S):∀s,s < S->Cg n ((rn n gs (rnd n w row ad P) cs).getD s 0) (if s∈P then cs.getD s 0*w else cs.getD s 0+isum ad (λt=>cs.getD t 0+f t) s):=by
 have h0:0 < n:=by lia
 intro s hs
 obtain⟨c1,e1⟩:∃c1,c1=rn n gs row cs:=⟨_,rfl⟩
 have r1:Rs n c1:=by rw[e1];exact Rs.rn h0 hc
 have l1:c1.length=S:=by rw[e1,dM];exact hl
 have k1:∀s,s < S->Cg n (c1.getD s 0) (cs.getD s 0+f s):=by rw[e1];exact hb cs hc hl
 obtain⟨c2,e2⟩:∃c2,c2=rn n gs (ad.map mkA) c1:=⟨_,rfl⟩
 have r2:Rs n c2:=by rw[e2];exact Rs.rn h0 r1
 have l2:c2.length=S:=by rw[e2,dM];exact l1
 have k2:∀s,s < S->Cg n (c2.getD s 0) (c1.getD s 0+isum ad (λt=>c1.getD t 0) s):=by rw[e2];exact λs hs=>uD (P:=P) (by rw[l1];exact ha) s (by lia)
 have ks:∀s,Cg n (isum ad (λt=>c1.getD t 0) s) (isum ad (λt=>cs.getD t 0+f t) s):=λs=>pS λd hd t ht=>k1 t (hP t ((ha d hd).2.2 t ht))
 obtain⟨y,ey⟩:∃y:List Int,y=(List.range S).map λs=>(cs.getD s 0+isum ad (λt=>cs.getD t 0+f t) s) % n:=⟨_,rfl⟩
 have ry:Rs n y:=by
  intro c hc
  rw[ey]at hc
  obtain⟨s,_,rfl⟩:=aBC.mp hc
  exact⟨aAZ _ (by lia),aAR _ h0⟩
 have ly:y.length=S:=by rw[ey];simp
 have ky:∀s,s < S->y.getD s 0=(cs.getD s 0+isum ad (λt=>cs.getD t 0+f t) s) % n:=by intro s hs;rw[ey];simp[hs]
 have ec:rn n gs row y=c2:=by
  refine aId (Rs.rn h0 ry) r2 (by rw[dM,ly,l2]) λs hs=>?_
  rw[dM,ly]at hs
  refine(hb y ry ly s hs).trans ?_
  refine Cg.trans ?_ (k2 s hs).symm
  rw[ky s hs]
  refine(Cg.add Cg.mod Cg.rfl).trans ?_
  refine Cg.trans (Cg.of_eq ?_) (Cg.add (k1 s hs).symm (ks s).symm)
  lia
 have e3:rn n gs (bDs n row) c2=y:=by rw[<- ec];exact vI h0 ry (by rw[ly];exact ok)
 unfold rnd
 rw[bM,bM,bM,<- e1,<- e2,e3]
 refine(rP nd (by rw[ly];exact hP) s (by lia)).trans ?_
 rw[ky s hs]
 by_cases hp:s∈P
 ·rw[aAG hp,aAG hp]
  refine(Cg.mul Cg.mod Cg.rfl).trans (Cg.of_eq ?_)
  rw[xB (λd hd e=>(ha d hd).1 (e▸hp)),Int.add_zero]
 ·rw[aAC hp,aAC hp]
  exact Cg.mod
theorem aAt{w:Int}{x v:Nat->Int}{s m:Nat}:∀{ad:List (Nat×Int×List Nat)},sg m (λj=>isum ad (λt=>x t*w ^ j+v t) s)=(ad.map λd=>if d.1=s then d.2.1*sg m (λj=>pf (λt=>x t*w ^ j+v t) d.2.2)else 0).sum
 |[]=>by
  simp only[isum,List.map_nil,List.sum_nil]
  induction m with
  |zero=>rfl
  |succ m ih=>rw[fY,ih];rfl
 |d::ad=>by
  have ih:=aAt (w:=w) (x:=x) (v:=v) (s:=s) (m:=m) (ad:=ad)
  rw[aAO,aCF,<- ih]
  have:sg m (λj=>isum (d::ad) (λt=>x t*w ^ j+v t) s)=sg m (λj=>(if d.1=s then d.2.1*pf (λt=>x t*w ^ j+v t) d.2.2 else 0)+isum ad (λt=>x t*w ^ j+v t) s):=by
   congr 1
  rw[this,zE]
  congr 1
  by_cases e:d.1=s
  ·simp only[aAG e];exact vZ
  ·simp only[aAC e]
   clear this ih
   induction m with
   |zero=>rfl
   |succ m ih=>rw[fY,ih];rfl
theorem zX{u:Int}{row:List Dd}{ad:List (Nat×Int×List Nat)}{P:List Nat}(hn:2<=n)(hw:Rt n w m)(ok:∀d∈row,OkD n G S d)(hb:Brg n gs S row f)(nd:P.Nodup)(hP:∀s∈P,s < S)(ha:∀d∈ad,d.1∉P/\d.1 < S/\(∀t∈d.2.2,t∈P)/\d.2.2.length < m) :
  Brg n gs S (List.replicate m (rnd n w row ad P)).flatten λs=>if s∈P then 0 else(ad.map λd=>if d.1=s then d.2.1*(m*pf f d.2.2)else 0).sum:=by
 have h0:0 < n:=by lia
 intro cs hc hl
 have key:∀i,Rs n (rn n gs (List.replicate i (rnd n w row ad P)).flatten cs)/\(rn n gs (List.replicate i (rnd n w row ad P)).flatten cs).length=S/\∀s,s < S->Cg n ((rn n gs (List.replicate i (rnd n w row ad P)).flatten cs).getD s 0) (if s∈P then cs.getD s 0*w ^ i else cs.getD s 0+sg i λj=>isum ad (λt=>cs.getD t 0*w ^ j+f t) s):=by
  intro i
  refine⟨Rs.rn h0 hc,by rw[dM];exact hl,?_⟩
  induction i with
  |zero =>
   intro s hs
   refine Cg.of_eq ?_
   simp[rn,sg]
  |succ i ih =>
   intro s hs
   rw[List.replicate_succ',aGH,List.flatten_singleton,bM]
   obtain⟨X,eX⟩:∃X,X=rn n gs (List.replicate i (rnd n w row ad P)).flatten cs:=⟨_,rfl⟩
   rw[<- eX]at ih ⊢
   have rX:Rs n X:=by rw[eX];exact Rs.rn h0 hc
   have lX:X.length=S:=by rw[eX,dM];exact hl
   refine(aDz hn ok hb nd hP (λd hd=>⟨(ha d hd).1,(ha d hd).2.1,(ha d hd).2.2.1⟩) rX lX s hs).trans ?_
   by_cases hp:s∈P
   ·have:=ih s hs
    rw[aAG hp]at this ⊢
    rw[aAG hp]
    exact(Cg.mul this Cg.rfl).trans (Cg.of_eq (by rw[aDA];grind))
   ·have:=ih s hs
    rw[aAC hp]at this ⊢
    rw[aAC hp,fY]
    refine(Cg.add this (pS (h:=λt=>cs.getD t 0*w ^ i+f t) λd hd t ht=>?_)).trans (Cg.of_eq (show _=cs.getD s 0+(sg i (λj=>isum ad (λt=>cs.getD t 0*w ^ j+f t) s)+isum ad (λt=>cs.getD t 0*w ^ i+f t) s) by lia))
    have tp:=(ha d hd).2.2.1 t ht
    have:=ih t (hP t tp)
    rw[aAG tp]at this
    exact Cg.add this Cg.rfl
 intro s hs
 refine((key m).2.2 s hs).trans ?_
 dsimp only
 by_cases hp:s∈P
 ·rw[aAG hp,aAG hp]
  exact(Cg.mul Cg.rfl hw.one).trans (Cg.of_eq (by lia))
 ·rw[aAC hp,aAC hp]
  refine Cg.add Cg.rfl ?_
  rw[aAt]
  have all:∀ad':List (Nat×Int×List Nat),(∀d∈ad',d.2.2.length < m)->Cg n ((ad'.map λd=>if d.1=s then d.2.1*sg m (λj=>pf (λt=>cs.getD t 0*w ^ j+f t) d.2.2)else 0).sum) ((ad'.map λd=>if d.1=s then d.2.1*(m*pf f d.2.2)else 0).sum):=by
   intro ad'
   induction ad' with
   |nil=>intro _;exact Cg.rfl
   |cons d ad' ih =>
    intro h
    rw[aAO,aAO,aCF,aCF]
    refine Cg.add ?_ (ih λx hx=>h x (by simp[hx]))
    by_cases e:d.1=s
    ·rw[aAG e,aAG e]
     refine Cg.mul Cg.rfl ?_
     have:=polysum hw (x:=λt=>cs.getD t 0) (v:=f) d.2.2 0 (by have:=h d (by simp);lia)
     rw[aAG rfl]at this
     refine Cg.trans (Cg.of_eq ?_) this
     congr 1
     funext i
     simp
    ·rw[aAC e,aAC e]
     exact Cg.rfl
  exact all ad λd hd=>(ha d hd).2.2.2
end LS
section
open PySem PySem.Spec PyProof.Rows
namespace L2
open AutoSeq1 (wpAny_loadPart')
variable{E:Value->Shared->Prop}{r:Addr}{a:Int}{u:Tok}{n:Nat}
theorem pH{R:Result->Shared->Prop}{b:Int}{t v:Tok}(hh:A.handled=none)(hr:IsRange s.heap r a b c t u v)(hsmall:Builtin.Range.small a b c=true)
  (hn:Builtin.Range.rangeSize a b c=n)(hlen:n<=2 ^ 24)(S:Addr)(c₀:Nat)(hS:s.heap.get? S=some {cls:=.type "list",data:=.seq #[] c₀})
  (hR:∀h' tk acc' c',(∀b o,b≠S->s.heap.get? b=some o->h'.get? b=some o)->h'.get? S=some {cls:=.type "list",dict:=none,data:=.seq acc' c',slots:=#[]} ->
   ItemsOf (λi v=>∃t,v=.int (a+i*c) t) acc' n->R (.ok (.ret (.ref S))) {s with heap:=h',toks:=tk}) :
  codeAny (model prog w) A (.builtin "list.__iadd__" ⟨[.ref S,.ref r],[]⟩) R s:=by
 refine aFS F.entry_list_iadd ?_
 rw[aGE F.plain_list_iadd _]
 show wpAny _ A.in1 (Builtin.List.listExtendWith (.ref S) (.ref r) (.ref S)) _ _ _
 exact wpAny_extend_range (R:=R) hh hr hsmall hn hlen S _ c₀ hS hR
theorem tF{Q:List Value->Shared->Prop}{b:Int}{t v:Tok}(hh:A.handled=none)(hr:IsRange s.heap r a b c t u v)(hsmall:Builtin.Range.small a b c=true)
  (hn:Builtin.Range.rangeSize a b c=n)(hlen:n<=2 ^ 24)
  (hQ:∀s' acc,(∀b o,s.heap.get? b=some o->s'.heap.get? b=some o)->s'.gens=s.gens->s'.drawn=s.drawn->s'.os=s.os->s.heap.objs.size<=s'.heap.objs.size->ItemsOf (λi v=>∃t,v=.int (a+i*c) t) acc n->Q acc.toList s') :
  wpAny (model prog w) A (collect (.ref r)) Q E s:=by
 unfold collect
 refine aAB (wpAny_runValue (aFS F.entry_proto_collect ?_))
 rw[aGE F.plain_proto_collect _]
 show wpAny _ A.in1 (newList [] >>= λl=>again (.builtin "list.__iadd__" ⟨[l,.ref r],[]⟩)) _ _ s
 refine aAB (aBY ?_)
 have hS₁:(s.heap.push {cls:=.type "list",data:=.seq ([]:List Value).toArray}).get? s.heap.objs.size=some {cls:=.type "list",data:=.seq ([]:List Value).toArray}:=aAE _ rfl
 refine aAF ⟨plainId_quiet F.plain_list_iadd _,pH (s:={s with heap:=s.heap.push {cls:=.type "list",data:=.seq ([]:List Value).toArray}}) hh (aAA _ hr) hsmall hn hlen s.heap.objs.size _ hS₁ λh' tk acc' c' kp hS' hacc=>?_⟩
 show wpAny _ A (load s.heap.objs.size >>= _) _ _ _
 refine aAB (wpAny_load hS' ?_)
 exact aAF (hQ _ acc' (λb o e=>kp b o (aAV (aAJ e)) (aAA _ e)) rfl rfl rfl (Nat.le_of_lt (aAJ hS')) hacc)
theorem mY(r:Addr)(a b c:Int)(t u v:Tok)(n:Nat)(hsmall:Builtin.Range.small a b c=true)(hn:Builtin.Range.rangeSize a b c=n)(hlen:n<=2 ^ 24) :
  Meets (Builtin.«tuple.__new__» ⟨[.type "tuple",.ref r],[]⟩)
   (λA R s=>A.handled=none/\IsRange s.heap r a b c t u v/\∀(s':Shared) (acc:Array Value),(∀b o,s.heap.get? b=some o->s'.heap.get? b=some o)->s'.gens=s.gens->s'.drawn=s.drawn->s'.os=s.os->s.heap.objs.size<=s'.heap.objs.size->ItemsOf (λi v=>∃t,v=.int (a+i*c) t) acc n ->
    R (.ok (.ret (.ref s'.heap.objs.size))) {s' with heap:=s'.heap.push {cls:=.type "tuple",data:=.seq acc}}) :=
 .of_wp λprog w A R s h=>by
  obtain⟨hh,hr,h⟩:=h
  have hsub:=sub_tuple_self
  have hinit:=init_tuple_lookup
  have hmh:=madeHere_tuple
  have hT:s.TypeIs (.ref r) "range":=⟨_,hr,rfl⟩
  have hh1:A.in1.handled=none:=hh
  wp_walk using aGG hT,tF hh1 hr hsmall hn hlen
  intro s' acc hk hg hd hos hle hacc
  show wpAny _ _ (Builtin.Tuple.tupleExact acc.toList.toArray >>= λv=>ret v) _ _ _
  unfold Builtin.Tuple.tupleExact
  refine aAB (aBY ?_ (show acc.toList.toArray.size<=sizeLine by simp only[Array.toArray_toList];rw[hacc.1,aBA];lia))
  refine aAF ⟨_,rfl,?_⟩
  have e:acc.toList.toArray=acc:=by simp
  rw[e]
  exact h s' acc hk hg hd hos hle hacc
theorem nZ{b:Int}{t v:Tok}(hh:A.handled=none)(hr:IsRange s.heap r a b c t u v)(hsmall:Builtin.Range.small a b c=true)
  (hn:Builtin.Range.rangeSize a b c=n)(hlen:n<=2 ^ 24)
  (h:∀(h':Heap) (tk:Nat) (acc:Array Value),(∀b o,s.heap.get? b=some o->h'.get? b=some o)->s.heap.objs.size<=h'.objs.size->ItemsOf (λi v=>∃t,v=.int (a+i*c) t) acc n->Q (.ref h'.objs.size) {s with heap:=h'.push {cls:=.type "tuple",data:=.seq acc},toks:=tk}) :
  wpAny (model prog w) A (call (.type "tuple") [.ref r]) Q E s:=by
 refine aEL F.called_tuple (by decide) (F.typeCall_tuple_1 _) (F.newCall_tuple_1 _) (λobj=>aGF obj _) F.entry_tuple_new
  (mY r a b c t u v n hsmall hn hlen) ⟨hh,hr,λs' acc hk hg hd hos hle hacc=>⟨⟨_,aAE _ rfl,rfl⟩,?_⟩⟩
 obtain⟨h',g',d',tk',os'⟩:=s'
 have e1:g'=s.gens:=hg
 have e2:d'=s.drawn:=hd
 have e3:os'=s.os:=hos
 subst e1 e2 e3
 exact h h' tk' acc hk hle hacc
theorem wV:CallR X (.type "range") (λxs H Q=>∃i j,xs=[.int i,.int j]/\∀p,H p=none->Q (.ref p) (upd H p (.rng i j))):=by
 intro pins s σ H xs us Q I r h
 obtain⟨i,j,e,q⟩:=h
 subst e
 obtain⟨u1,u2,rfl,r1,r2⟩:=r.two
 obtain⟨t1,rfl⟩:=r1
 obtain⟨t2,rfl⟩:=r2
 refine call_range_2 ⟨.ref s.heap.objs.size,upd H s.heap.objs.size (.rng i j),?_,rfl,q _ (I.hok.fresh (aAH _))⟩
 exact I.laid (λb u e=>aAA _ e) (aAH _) ⟨_,_,_,aAE _ rfl⟩
end L2
namespace EV
open L2
variable{K:Frag}{a b:Expr}{g:FE}
noncomputable def rInts2(lo:Int)(n:Nat):List Int:=(List.range n).map λk=>lo+(k:Nat)
variable{lo:Int}{n:Nat}
theorem zU :rngD lo n=(rInts2 lo n).map D.int:=by unfold rngD rInts2;rw[aBP];rfl
theorem zK{acc:Array Value}(h:ItemsOf (λi v=>∃t,v=.int (lo+i*1) t) acc n):Vals ((rInts2 lo n).map V.int) acc.toList:=by
 have key:∀(l:List Value) (k:Nat),(∀j v,l[j]?=some v->∃t,v=Value.int (lo+((k+j:Nat):Int)) t)->Vals ((List.range' k l.length).map λi=>V.int (lo+(i:Nat))) l:=by
  intro l
  induction l with
  |nil=>intro k _;exact .nil
  |cons x r ih =>
   intro k hk
   rw[aBQ,List.range'_succ,aAO]
   refine .cons ?_ (ih (k+1) λj v e=>?_)
   ·obtain⟨t,e⟩:=hk 0 x rfl
    exact⟨t,by simpa using e⟩
   ·obtain⟨t,e'⟩:=hk (j+1) v (by simpa using e)
    exact⟨t,by rw[e'];congr 2;lia⟩
 have hl:acc.toList.length=n:=h.1
 have:=key acc.toList 0 λj v e=>by
  obtain⟨t,e'⟩:=h.2 j v (by simpa using e)
  exact⟨t,by rw[e'];first|rfl|(congr 1 <;> lia)⟩
 rw[hl]at this
 unfold rInts2
 rw[aBP,List.range_eq_range']
 exact this
noncomputable def rTR:List V->Hp->VK->Prop:=λxs H Q=>∃p i j,xs=[.ref p]/\H p=some (.rng i j)/\(-1000000<=i/\i<=1000000 /\ -1000000<=j/\j<=1000000)/\∀l,H l=none->Q (.ref l) (upd H l (.tup ((rInts2 i (j - i).toNat).map V.int)))
theorem vU(hc:X.calm=true):CallR X (.type "tuple") rTR:=by
 intro pins s σ H xs us Q I r h
 obtain⟨p,i,j,rfl,hq,⟨h0,h1,h2,h3⟩,q⟩:=h
 obtain⟨u,rfl,rx⟩:=vals1 r
 cases rx
 obtain⟨t,u,v,ho⟩:=(show ObjOk X.prog X.w H s.heap p (.rng i j)from I.hok p _ hq)
 refine nZ (n:=(j - i).toNat) (I.ok.hd hc) ho (small_one (by lia) (by lia) (by lia) (by lia)) (by rw[rangeSize_one];split <;> lia) (by lia) λh' tk acc kp hle hacc=>?_
 refine⟨.ref h'.objs.size,_,I.laid (t':=tk) (λb o e=>aAA _ (kp b o e)) hle (show ObjOk X.prog X.w _ _ _ (.tup ((rInts2 i (j - i).toNat).map V.int))from⟨by rw[aBA];simp[rInts2];lia,acc.toList,zK hacc,_,aAE _ rfl,rfl,0,by simp⟩),rfl,q _ (I.hok.fresh hle)⟩
noncomputable def cTR(w u:W)(M:Mm):Oc W:=match w,u with
 |.d (.int i),.d (.int j)=>if -1000000<=i/\i<=1000000 /\ -1000000<=j/\j<=1000000 then okD (.tup (rngD i (j - i).toNat)) M else .bad
 |_,_=>.bad
noncomputable abbrev eTupleRange2(f g:FE):FE:=e2 cTR f g
theorem wE:bootBuiltins "tuple"=some (.type "tuple"):=by first|rfl|kernel_rfl
theorem qC(hc:X.calm=true)(hm:X.mg "tuple"=none)(hm2:X.mg "range"=none)(ha:Ev X K Z a f)(hb:Ev X K Z b g)(hg:Gl X "tuple":=by rfl)(hg2:Gl X "range":=by rfl)(hs:starEach [a,b] X.env=[(false,eval a X.env),(false,eval b X.env)]:=by rfl)(hs3:starEach [b] X.env=[(false,eval b X.env)]:=by rfl)
  (hs2:starEach [.Call (.Name "range" p2) [a,b] [] pos2] X.env=[(false,eval (.Call (.Name "range" p2) [a,b] [] pos2) X.env)]:=by rfl):Ev X K Z (.Call (.Name "tuple" p) [.Call (.Name "range" p2) [a,b] [] pos2] [] pos) (eTupleRange2 f g):=by
 refine⟨ha.k,cqE (lG (vU hc) hg hm wE (cM (lG wV hg2 hm2 kS (cM ha.h (cM hb.h fE hs3) (by rw[hs,hs3])) (by decide) (by decide) (by rw[hs,hs3]) (by rw[hs3];rfl)) fE hs2) (by decide) (by decide) hs2 rfl) ?_⟩
 rintro σ H Q ⟨μ,M,L,hr,lr,p⟩
 refine⟨μ,M,L,hr,lr,p.bind.imp λμ1 H1 M1 w e1 hr1 _ p1 v rw'=>?_⟩
 refine⟨μ1,M1,L,hr1,lr.ext hr.lsts e1,p1.bind.imp λμ2 H2 M2 u e2 hr2 _ p2 v2 ru=>?_⟩
 have rw':=rw'.ext hr1.lsts e2
 cases w with
 |ref i=>exact p2.elim
 |d x=>cases x with
  |int i=>cases u with
   |ref j=>exact p2.elim
   |d y=>cases y with
    |int j =>
     simp only[cTR]at p2
     split at p2
     ·rename_i hz
      simp only[Rw,Rp]at rw' ru
      subst rw' ru
      refine⟨i,j,rfl,λq hq=>⟨q,i,j,rfl,eT,hz,?_⟩⟩
      have p3:=Pst.mono (iI (o:=.rng i j) hr2 hq) p2
      rw[zU]at p3
      exact lC (hr2.lay hq) Rps.ints p3
     ·exact p2.elim
    |_=>exact p2.elim
  |_=>exact p2.elim
variable{EX:D->Mm->Prop}
theorem aQd{i j:Int}{Q:W->Mm->Prop}(hz : -1000000<=i/\i<=1000000 /\ -1000000<=j/\j<=1000000)(q:Q (.d (.tup (rngD i (j - i).toNat))) M):Okx EX (cTR (.d (.int i)) (.d (.int j)) M) Q:=by
 simp only[cTR];rw[aAG hz];exact aO q
end EV
end
namespace EV
open PySem
variable{P:List Value->Prop}
theorem exS(h:∀a us,us.length=k->P (a::us)):∀us:List Value,us.length=k+1->P us
 |a::us,e=>h a us (Nat.succ.inj e)
theorem ex0(h:P [])(us:List Value)(e:us.length=0):P us:=by rw[List.eq_nil_of_length_eq_zero e];exact h
theorem ex1(h:∀a,P [a]):∀us:List Value,us.length=1->P us:=exS λa=>ex0 (P:=λus=>P (a::us)) (h a)
theorem ex2(h:∀a b,P [a,b]):∀us:List Value,us.length=2->P us:=exS λa=>ex1 (P:=λus=>P (a::us)) (h a)
theorem ex3(h:∀a b c,P [a,b,c]):∀us:List Value,us.length=3->P us:=exS λa=>ex2 (P:=λus=>P (a::us)) (h a)
theorem ex4(h:∀a b c d,P [a,b,c,d]):∀us:List Value,us.length=4->P us:=exS λa=>ex3 (P:=λus=>P (a::us)) (h a)
theorem ex5(h:∀a b c d e,P [a,b,c,d,e]):∀us:List Value,us.length=5->P us:=exS λa=>ex4 (P:=λus=>P (a::us)) (h a)
theorem ex6(h:∀a b c d e f,P [a,b,c,d,e,f]):∀us:List Value,us.length=6->P us:=exS λa=>ex5 (P:=λus=>P (a::us)) (h a)
theorem ex7(h:∀a b c d e f g,P [a,b,c,d,e,f,g]):∀us:List Value,us.length=7->P us:=exS λa=>ex6 (P:=λus=>P (a::us)) (h a)
end EV
set_option maxHeartbeats 4000000
section
open PySem PySem.Spec PyProof.Rows
namespace ZP
variable{E:Value->Shared->Prop}
noncomputable abbrev IsTrip(h:Heap)(T:Addr)(a b c:Value):Prop:=h.get? T=some {cls:=.type "tuple",data:=.seq #[a,b,c]}
set_option genSizeOf false in
set_option genInjectivity false in
structure Ap3(z TI TO i1 i2 i3 l1 l2 l3:Addr):Prop where
 z_TI:z≠TI
 z_TO:z≠TO
 z_i1:z≠i1
 z_i2:z≠i2
 z_i3:z≠i3
 TI_z:TI≠z
 TI_TO:TI≠TO
 TI_i1:TI≠i1
 TI_i2:TI≠i2
 TI_i3:TI≠i3
 TO_z:TO≠z
 TO_TI:TO≠TI
 TO_i1:TO≠i1
 TO_i2:TO≠i2
 TO_i3:TO≠i3
 i1_z:i1≠z
 i1_TI:i1≠TI
 i1_TO:i1≠TO
 i1_i2:i1≠i2
 i1_i3:i1≠i3
 i2_z:i2≠z
 i2_TI:i2≠TI
 i2_TO:i2≠TO
 i2_i1:i2≠i1
 i2_i3:i2≠i3
 i3_z:i3≠z
 i3_TI:i3≠TI
 i3_TO:i3≠TO
 i3_i1:i3≠i1
 i3_i2:i3≠i2
 l1_z:l1≠z
 l1_TI:l1≠TI
 l1_TO:l1≠TO
 l1_i1:l1≠i1
 l1_i2:l1≠i2
 l1_i3:l1≠i3
 l2_z:l2≠z
 l2_TI:l2≠TI
 l2_TO:l2≠TO
 l2_i1:l2≠i1
 l2_i2:l2≠i2
 l2_i3:l2≠i3
 l3_z:l3≠z
 l3_TI:l3≠TI
 l3_TO:l3≠TO
 l3_i1:l3≠i1
 l3_i2:l3≠i2
 l3_i3:l3≠i3
structure Zs3(h:Heap)(z TI TO i1 i2 i3 l1 l2 l3:Addr)(i:Nat)(xs ys us:Array Value):Prop where
 z:∃f0 f1,h.get? z=some (zobj TI TO f0 f1)/\(f0=.none\/∃T:Nat,f0=rawInt T)
 ti:IsTrip h TI (.ref i1) (.ref i2) (.ref i3)
 to:∃a b c,IsTrip h TO a b c
 a:It1 h i1 l1 i xs
 b:It1 h i2 l2 i ys
 c:It1 h i3 l3 i us
end ZP
namespace L2
end L2
namespace EV
open L2
variable{EX:D->Mm->Prop}{K:Frag}{a b c:Expr}{g k:FE}{tg:Expr}
end EV
namespace RT
variable{E:Value->Shared->Prop}
end RT
namespace L2
end L2
namespace EV
open L2
variable{K:Frag}{a:Expr}{EX:D->Mm->Prop}
end EV
end
namespace EV
open PySem
end EV
section
open PySem PySem.Spec PyProof.Rows
namespace L2
structure CompOkC(p:Str)(N0:List Str)(sc0:Scope)(scope:Scope)(Nc:List Str)(js:List (Option Nat)):Prop where
 kind:scope.kind=.function
 one:scope.names.filter (λy=>y.2==.cell)=[(p,.cell)]
 pc:scope.names.lookup p=some .cell
 names:∀y∈scope.names,y.2=.local->scope.names.lookup y.1=some .local
 free:∀y∈scope.names,y.2=.free->sc0.names.lookup y.1=some .cell
 len:js.length=Nc.length
 slots:∀p∈Nc.zip js,∀j∈p.2,N0[j]?=some p.1/\scope.names.lookup p.1=some .free/\sc0.names.lookup p.1=some .cell
variable{σ:St}{H₂:Hp}{scope:Scope}{js:List (Option Nat)}{Cc:Addr}{p:Str}{tg iter elt:Expr}{ifs:List Expr}{js:List (Option Nat)}{g:TG}{ti:TT}{wi:TI}{pn:Str}
end L2
namespace EV
open L2
variable{K:Frag}{pn:Str}
end EV
namespace L2
end L2
namespace EV
open L2
variable{K:Frag}{EX:D->Mm->Prop}
end EV
namespace L2
open PySem.W PySem.Calls Builtin Builtin.ObjectAttr
variable{e:Expr}
end L2
namespace L2
end L2
namespace EV
open L2
variable{K:Frag}{a:Expr}{EX:D->Mm->Prop}
end EV
end
namespace EV
open PySem
variable{EX:D->Mm->Prop}{gg:FG}{Q:W->Mm->Prop}
end EV
section
open PySem PySem.Spec PyProof.Rows
namespace L2
variable{M:Model}{E:Value->Shared->Prop}{env':Env}{L e:Addr}{P:Addr->Prop}{Q:Unit->Shared->Prop}{σ:List (Option V)}{scope:Scope}{H₂:Hp}{tg iter elt:Expr}{ifs:List Expr}{js:List (Option Nat)}{g:TG}{ti:TT}{wi:TI}
end L2
namespace EV
open L2
variable{K:Frag}
end EV
namespace L2
structure RoomH(k:Nat)(A:Around):Prop where
 dp:A.depth+3*k+5 < recursionLimit
 un:A.units+16*k+200 < cLine
structure FnOkH(P:Program)(w:World)(K:Frag)(mg:Str->Option Value)(base:Heap)(k:Nat)(f:Addr)(fd:FuncData)(ps:List Str)(sp:Sp):Prop where
 len:∀vs H Q E,sp vs H Q E->vs.length=ps.length
 run:∀(A:Around) (outer:List Env) (s:Shared) (H:Hp) (args:Args) (us:List Value) (vs:List V) (Q:VK) (E:XK),RoomH k A->Env0 P w K mg base A outer s H->BindsTo s fd args (ps.zip us)->Vals vs us->sp vs H Q E ->
  codeAny (model P w) A (.call (.ref f) args) (CR CX0 outer P w H s Q E) s
variable{k:Nat}{f:Addr}{e:Expr}{es:List Expr}{t:TA}
end L2
namespace EV
open L2
variable{K:Frag}{e:Expr}{es:List Expr}{fs:FA}{EX:D->Mm->Prop}{Q:W->Mm->Prop}{gg:FG}
end EV
namespace L2
variable{E:Value->Shared->Prop}
end L2
namespace EV
open L2
variable{K:Frag}{EX:D->Mm->Prop}{Q:W->Mm->Prop}
end EV
set_option maxHeartbeats 4000000
namespace L2
variable{E:Value->Shared->Prop}{tg:Expr}
end L2
namespace EV
open L2
variable{EX:D->Mm->Prop}{K:Frag}{a b tg:Expr}{g:FE}
end EV
end
namespace EV
open PySem
variable{EX:D->Mm->Prop}{gg:FG}{Q:W->Mm->Prop}
theorem Okx.self{o:Oc α}{Q:α->Mm->Prop}(h:Okx EX o Q):Okx EX o λa M=>o=.ok a M/\Q a M:=by
 unfold Okx at h ⊢
 cases o with
 |ok a M=>exact⟨rfl,h⟩
 |ex x M=>exact h
 |bad=>exact h
theorem Chk.app{s:Src}{J:Mm}(h:Chk s M):Chk s (M++J):=λt e=>by
 have:=h t e
 cases t with
 |one t =>
  show(M++J)[t]?=_
  rw[aAS (aAD.mp this).1]
  exact this
 |two t ys =>
  show(M++J)[t]?=_
  rw[aAS (aAD.mp this).1]
  exact this
theorem jJ(h:Okx EX (fi L M) λs M1=>∃g:D->D,s.ds.length<=16777216/\Chk s M1/\(∀d∈s.ds,∀acc,Ok (f (some (.d d)::outL js L) (M1++[acc])) λw M'=>w=.d (g d)/\M'=M1++[acc])/\Q (.d (.lst (s.ds.map g))) M1):Okx EX (eComp (none::js) fi (gN 0) tYes f L M) Q:=by
 refine eH (λi acc L' M'=>∃s M1 g,fi L M=.ok s M1/\(s.ds.length<=16777216/\Chk s M1/\(∀d∈s.ds,∀acc,Ok (f (some (.d d)::outL js L) (M1++[acc])) λw M'=>w=.d (g d)/\M'=M1++[acc])/\Q (.d (.lst (s.ds.map g))) M1)/\acc=(s.ds.take i).map g/\M'=M1/\∃a,L'=a::outL js L) (h.self.mono ?_)
 rintro s M1 ⟨e,g,hz,hc,hf,q⟩
 refine⟨⟨s,M1,g,e,⟨hz,hc,hf,q⟩,rfl,rfl,none,rfl⟩,?_,hz,?_,?_⟩
 ·rintro i acc L' M' hi ⟨s',M1',g',e',_,rfl,rfl,_⟩
  rw[e]at e'
  cases e'
  exact⟨rfl,hc.app,by simp;lia⟩
 ·rintro i d acc L' M' hd ⟨s',M1',g',e',⟨_,_,hf',q'⟩,rfl,rfl,a,rfl⟩
  rw[e]at e'
  cases e'
  refine yH (aO ⟨λ_=>(hf' d (aBJ hd) _).mono ?_,λh=>by cases h⟩)
  rintro _ _ ⟨rfl,rfl⟩
  refine⟨_,_,rfl,rfl,s,_,g',e,⟨hz,hc,hf',q'⟩,?_,rfl,_,rfl⟩
  rw[aCC,hd];simp
 ·rintro acc L' M' ⟨s',M1',g',e',⟨_,_,_,q'⟩,rfl,rfl,_⟩
  rw[e]at e'
  cases e'
  rw[aCT]
  exact q'
end EV
section
open PySem PySem.Spec PyProof.Rows
namespace EV
open L2
variable{K:Frag}{EX:D->Mm->Prop}{Q:W->Mm->Prop}
end EV
namespace L2
variable{e st:Expr}{ts:TO}
end L2
namespace EV
open L2
variable{K:Frag}{e st:Expr}{fs:FO}{EX:D->Mm->Prop}{Q:W->Mm->Prop}
end EV
end
namespace EV
open PySem
end EV
section
open PySem PySem.Spec PyProof.Rows
namespace L2
variable{o i:Expr}{ti:TE}
end L2
namespace EV
open L2
variable{K:Frag}{o i:Expr}{fi:FE}{EX:D->Mm->Prop}{Q:Out->Mm->Prop}
end EV
namespace L2
variable{E:Value->Shared->Prop}{o:Expr}{lo hi:Option Expr}{tl th:TO}
end L2
namespace EV
open L2
variable{K:Frag}{o:Expr}{lo hi:Option Expr}{fl fh:FO}{EX:D->Mm->Prop}
end EV
namespace L2
variable{tg:Expr}
end L2
namespace EV
open L2
variable{EX:D->Mm->Prop}{K:Frag}{a b c tg:Expr}
end EV
end
namespace HT
open PySem PyProof.Rows
noncomputable def RcLt(A:Around)(s:Shared)(v w:Value)(r:Bool):Prop:=∀(prog:Program) (wo:World) (E:Value->Shared->Prop) (Q:Value->Shared->Prop),Q (.bool r) s->wpAny (model prog wo) A (richCompare .Lt v w) Q E s
inductive LtOk(A:Around)(s:Shared):List Value->List Value->Bool->Prop where
 |nn:LtOk A s [] [] false
 |nc {w ws:_}:LtOk A s [] (w::ws) true
 |cn {v vs:_}:LtOk A s (v::vs) [] false
 |eq {v w vs ws r:_}:SeqAt.EqAt A s v w true->LtOk A s vs ws r->LtOk A s (v::vs) (w::ws) r
 |ne {v w vs ws r:_}:SeqAt.EqAt A s v w false->RcLt A s v w r->LtOk A s (v::vs) (w::ws) r
section
open PySem.SeqAt
open PySem.AutoSeq1 (wpAny_loadPart')
open PySem.MeetsSeq PySem.MeetsSeq2 PySem.MeetsSeq3
end
variable{E:Value->Shared->Prop}
end HT
section
open PySem PySem.Spec PyProof.Rows
namespace EV
open L2
variable{K:Frag}
noncomputable def ltE(x y:D):Option Bool:=match x,y with
 |.int a,.int b=>some (decide (a < b))
 |.bl a,.bl b=>some (decide (b2i a < b2i b))
 |.tup xs,.tup ys=>match intsOf xs,intsOf ys with
  |some ns,some ms=>some (HT.lexLt ns ms)
  |_,_=>none
 |_,_=>none
noncomputable def ltT:List D->List D->Option Bool
 |[],[]=>some false
 |[],_::_=>some true
 |_::_,[]=>some false
 |x::xs,y::ys=>if eqD x y=true then ltT xs ys else ltE x y
theorem aOl{σ:St}(I:L2.Inv X pins σ H s)(hk:X.K=K)(hu:A.units < cLine){x y:D}{u:V}{v' u':Value}{r:Bool}(hx:Rp K μ H x v)(hy:Rp K μ H y u)(qx:RelV v v')(qy:RelV u u')(h:ltE x y=some r):HT.RcLt A s v' u' r:=by
 unfold ltE at h
 split at h
 ·simp only[Rp]at hx hy
  subst hx hy
  obtain⟨t,rfl⟩:=qx
  obtain⟨t',rfl⟩:=qy
  cases h
  exact λprog w E Q q=>HT.rcLt_int A s _ _ _ _ prog w E Q q
 ·simp only[Rp]at hx hy
  subst hx hy
  cases qx
  cases qy
  cases h
  exact λprog w E Q q=>(lt_bool q:wpAny (model prog w) A (compareOp .Lt _ _) Q E s)
 ·rename_i xs ys
  split at h
  ·rename_i ns ms q1 q2
   cases h
   have e1:=gR q1
   have e2:=gR q2
   subst e1 e2
   simp only[Rp]at hx hy
   obtain⟨a,vs,rfl,h1,r1⟩:=hx
   obtain⟨b,us,rfl,h2,r2⟩:=hy
   have e1:=jA r1
   have e2:=jA r2
   subst e1 e2
   cases qx
   cases qy
   obtain⟨its,t1,p1,_⟩:=I.tuple (SqT.of h1)
   obtain⟨its2,t2,p2,_⟩:=I.tuple (SqT.of h2)
   exact λprog w E Q q=>(HT.lt_tupInts p1 p2 (by simpa using mM t1) (by simpa using mM t2) hu q:wpAny (model prog w) A (compareOp .Lt _ _) Q E s)
  ·cases h
 ·cases h
theorem aHt{pins:List (Addr×Obj)}{σ:St}{μ:List Addr}{H:Hp}{s:Shared}{A:Around}{r:Bool}(I:L2.Inv X pins σ H s)(hk:X.K=K)(hu:A.units+60 < cLine):∀{xs ys:List D} {vs us:List V} {vs' us':List Value},Rps K μ H xs vs->Rps K μ H ys us->Vals vs vs'->Vals us us'->deps xs<=50->deps ys<=50->ltT xs ys=some r->HT.LtOk A s vs' us' r
 |[],[],_,_,_,_,hx,hy,qx,qy,_,_,h=>by
  simp only[Rps]at hx hy;subst hx hy;cases qx;cases qy;cases h;exact .nn
 |[],_::_,_,_,_,_,hx,hy,qx,qy,_,_,h=>by
  simp only[Rps]at hx hy;obtain⟨_,_,rfl,_,_⟩:=hy;subst hx;cases qx;cases qy;cases h;exact .nc
 |_::_,[],_,_,_,_,hx,hy,qx,qy,_,_,h=>by
  simp only[Rps]at hx hy;obtain⟨_,_,rfl,_,_⟩:=hx;subst hy;cases qx;cases qy;cases h;exact .cn
 |x::xs,y::ys,_,_,_,_,hx,hy,qx,qy,mx,my,h=>by
  simp only[Rps]at hx hy
  obtain⟨v,vr,rfl,e1,e2⟩:=hx
  obtain⟨u,ur,rfl,f1,f2⟩:=hy
  simp only[deps]at mx my
  cases qx with
  |cons q1 q2 =>
   cases qy with
   |cons p1 p2 =>
    have he:=aEu I hk x A y v u _ _ (by lia) (by lia) (by lia) e1 f1 q1 p1
    simp only[ltT]at h
    split at h
    ·rename_i hq
     rw[hq]at he
     exact .eq he (aHt I hk hu e2 f2 q2 p2 (by lia) (by lia) h)
    ·rename_i hq
     rw[Bool.not_eq_true]at hq
     rw[hq]at he
     exact .ne he (aOl I hk (by lia) e1 f1 q1 p1 h)
variable{EX:D->Mm->Prop}{Q:W->Mm->Prop}
end EV
set_option maxHeartbeats 4000000
end
namespace L2
open PySem PySem.W PyProof.Rows
noncomputable def krun{α:Type}(lt:Nat->Nat->Bool):KasT α->α
 |.ret a=>a
 |.ask i j k=>krun lt (k (lt i j))
noncomputable def kok{α:Type}(lt:Nat->Nat->Bool)(n:Nat):KasT α->Prop
 |.ret _=>True
 |.ask i j k=>i < n/\j < n/\kok lt n (k (lt i j))
theorem gW{α β:Type}{lt:Nat->Nat->Bool}{f:α->KasT β}:∀t:KasT α,krun lt (t.bind f)=krun lt (f (krun lt t))
 |.ret _=>rfl
 |.ask i j k=>gW (k (lt i j))
theorem gH{α β:Type}{lt:Nat->Nat->Bool}{n:Nat}{f:α->KasT β}:∀t:KasT α,kok lt n t->kok lt n (f (krun lt t))->kok lt n (t.bind f)
 |.ret _,_,h=>h
 |.ask i j k,⟨a,b,c⟩,h=>⟨a,b,gH (k (lt i j)) c h⟩
theorem kwp{α:Type}{lt:Nat->Nat->Bool}{n:Nat}{cmp:Nat->Nat->(Bool->Shared->Prop)->Shared->Prop}{Q:α->Shared->Prop}{s:Shared}(hc:∀i j (C:Bool->Shared->Prop),i < n->j < n->C (lt i j) s->cmp i j C s) :
  ∀t:KasT α,kok lt n t->Q (krun lt t) s->t.kasWp cmp Q s
 |.ret _,_,h=>h
 |.ask i j k,⟨a,b,c⟩,h=>hc i j _ a b (kwp hc (k (lt i j)) c h)
structure Lin(lt:Nat->Nat->Bool)(n:Nat):Prop where
 tot:∀i j,i < n->j < n->i≠j->lt i j=!lt j i
 tr:∀i j k,i < n->j < n->k < n->lt i j=true->lt j k=true->lt i k=true
structure PPm(n:Nat)(p:Array Nat):Prop where
 sz:p.size=n
 pm:p.toList.Perm (List.range n)
variable{lt:Nat->Nat->Bool}{n:Nat}{p:Array Nat}
theorem PPm.lo(h:PPm n p)(hn:0 < n)(i:Nat):p.getD i 0 < n:=by
 by_cases hi:i < p.size
 ·have:p.getD i 0∈p.toList:=by simp[Array.getD,hi]
  exact aCE.mp (h.pm.mem_iff.mp this)
 ·simp[Array.getD,hi];exact hn
theorem PPm.ne(h:PPm n p)(hij:i < j)(hj:j < n):p.getD i 0≠p.getD j 0:=by
 have nd:p.toList.Nodup:=h.pm.nodup_iff.mpr List.nodup_range
 have hz:=h.sz
 have h1:i < p.size:=by lia
 have h2:j < p.size:=by lia
 have:=aBM.mp nd i j (by simpa using h1) (by simpa using h2) hij
 simpa[Array.getD,h1,h2]using this
theorem PPm.of(h:PPm n p){q:Array Nat}(hq:q.Perm p)(hz:q.size=p.size):PPm n q:=⟨hz.trans h.sz,(Array.perm_iff_toList_perm.mp hq).trans h.pm⟩
noncomputable def SPf(lt:Nat->Nat->Bool)(p:Array Nat)(m:Nat):Prop:=∀i j,i < j->j < m->lt (p.getD i 0) (p.getD j 0)=true
theorem SPf.succ(L:Lin lt n)(h:PPm n p)(s:SPf lt p m)(h1:1<=m)(hm:m < n)(c:lt (p.getD (m - 1) 0) (p.getD m 0)=true):SPf lt p (m+1):=by
 have hn:0 < n:=by lia
 intro i j hij hj
 by_cases e:j < m
 ·exact s i j hij e
 ·have:j=m:=by lia
  subst this
  by_cases e:i=j - 1
  ·subst e;exact c
  ·exact L.tr _ _ _ (h.lo hn _) (h.lo hn _) (h.lo hn _) (s i (j - 1) (by lia) (by lia)) c
theorem SPf.one:SPf lt p 1:=λi j a b=>by lia
theorem yW(L:Lin lt n)(h:PPm n p):∀(f m:Nat),1<=m->m+f<=n->SPf lt p m->kok lt n (kas_asc p f m)/\m<=krun lt (kas_asc p f m)/\krun lt (kas_asc p f m)<=m+f/\SPf lt p (krun lt (kas_asc p f m))/\(krun lt (kas_asc p f m) < m+f->lt (p.getD (krun lt (kas_asc p f m)) 0) (p.getD (krun lt (kas_asc p f m) - 1) 0)=true)
 |0,m,h1,h2,s=>⟨trivial,aAH _,aAH _,s,λz=>absurd z (by show ¬m < m+0;lia)⟩
 |f+1,m,h1,h2,s=>by
  have hn:0 < n:=by lia
  cases c:lt (p.getD m 0) (p.getD (m - 1) 0)with
  |true =>
   have e:krun lt (kas_asc p (f+1) m)=m:=by
    show krun lt (if lt (p.getD m 0) (p.getD (m - 1) 0)=true then _ else _)=m
    rw[aAG c];rfl
   rw[e]
   exact⟨⟨h.lo hn _,h.lo hn _,by simp only[c,aBT];trivial⟩,aAH _,by lia,s,λ_=>c⟩
  |false =>
   have e:krun lt (kas_asc p (f+1) m)=krun lt (kas_asc p f (m+1)):=by
    show krun lt (if lt (p.getD m 0) (p.getD (m - 1) 0)=true then _ else _)=_
    rw[c];rfl
   have c':lt (p.getD (m - 1) 0) (p.getD m 0)=true:=by
    rw[L.tot _ _ (h.lo hn _) (h.lo hn _) (h.ne (by lia) (by lia)),c];rfl
   obtain⟨a1,a2,a3,a4,a5⟩:=yW L h f (m+1) (by lia) (by lia) (s.succ L h h1 (by lia) c')
   rw[e]
   refine⟨⟨h.lo hn _,h.lo hn _,?_⟩,by lia,by lia,a4,λz=>a5 (by lia)⟩
   simp only[c,aAY,aCG]
   exact a1
noncomputable def DPf(lt:Nat->Nat->Bool)(p:Array Nat)(m:Nat):Prop:=∀i j,i < j->j < m->lt (p.getD j 0) (p.getD i 0)=true
theorem aAj(L:Lin lt n)(h:PPm n p):∀(f m:Nat),2<=m->m+f<=n->DPf lt p m->∃k,kok lt n (kas_desc f p m 0)/\krun lt (kas_desc f p m 0)=(p,k,0)/\m<=k/\k<=m+f/\DPf lt p k
 |0,m,h1,h2,s=>⟨m,trivial,rfl,aAH _,aAH _,s⟩
 |f+1,m,h1,h2,s=>by
  have hn:0 < n:=by lia
  cases c:lt (p.getD m 0) (p.getD (m - 1) 0)with
  |true =>
   have s':DPf lt p (m+1):=by
    intro i j hij hj
    by_cases e:j < m
    ·exact s i j hij e
    ·have:j=m:=by lia
     subst this
     by_cases e:i=j - 1
     ·subst e;exact c
     ·exact L.tr _ _ _ (h.lo hn _) (h.lo hn _) (h.lo hn _) c (s i (j - 1) (by lia) (by lia))
   obtain⟨k,a1,a2,a3,a4,a5⟩:=aAj L h f (m+1) (by lia) (by lia) s'
   refine⟨k,⟨h.lo hn _,h.lo hn _,?_⟩,?_,by lia,by lia,a5⟩
   ·simp only[c,aBT,gt_iff_lt,aCP,aCG];exact a1
   ·simp only[kas_desc,krun,c,aBT,gt_iff_lt,aCP,aCG];exact a2
  |false =>
   have c':lt (p.getD (m - 1) 0) (p.getD m 0)=true:=by
    rw[L.tot _ _ (h.lo hn _) (h.lo hn _) (h.ne (by lia) (by lia)),c];rfl
   refine⟨m,⟨h.lo hn _,h.lo hn _,?_⟩,?_,aAH _,by lia,s⟩
   ·simp only[c,aAY,aCG]
    exact⟨h.lo hn _,h.lo hn _,by simp only[c',aBT];trivial⟩
   ·simp only[kas_desc,krun,c,c',aAY,aCG,aBT]
theorem jY(q:Array Nat)(k:Nat):q.getD k 0=(q[k]?).getD 0:=by simp
theorem nQ(hm:m<=p.size)(k:Nat):(kas_rev p 0 m).getD k 0=if k < m then p.getD (m - 1 - k) 0 else p.getD k 0:=by
 have:=getElem?_mirror_all (xs:=p) (i:=0) (j:=m) hm k
 unfold kas_rev
 rw[jY,this,jY,jY]
 by_cases h:k < m
 ·rw[aAG ⟨by lia,h⟩,aAG h];congr 2;lia
 ·rw[aAC (by lia),aAC h]
theorem aBu{l:Nat}(hk:k < p.size)(hl:l<=k)(i:Nat):(bubble p k (k - l)).getD i 0=if i=l then p.getD k 0 else if l < i/\i<=k then p.getD (i - 1) 0 else p.getD i 0:=by
 have:=getElem?_bubble (xs:=p) hk (k - l) (by lia) i
 rw[jY,this,jY,jY,jY]
 rw[show k - (k - l)=l by lia]
 split
 ·rfl
 ·split <;> rfl
theorem rQ(L:Lin lt n)(h:PPm n p){k:Nat}(hk:k < n)(s:SPf lt p k):∀(f l r:Nat),r - l<=f->l<=r->r<=k->(∀i,i < l->lt (p.getD i 0) (p.getD k 0)=true)->(∀i,r<=i->i < k->lt (p.getD k 0) (p.getD i 0)=true) ->
  ∃m,kok lt n (kas_place p k f l r)/\krun lt (kas_place p k f l r)=m/\m<=k/\(∀i,i < m->lt (p.getD i 0) (p.getD k 0)=true)/\(∀i,m<=i->i < k->lt (p.getD k 0) (p.getD i 0)=true)
 |0,l,r,h0,h1,h2,a,b=>⟨l,trivial,rfl,by lia,a,λi hi hk=>b i (by lia) hk⟩
 |f+1,l,r,h0,h1,h2,a,b=>by
  have hn:0 < n:=by lia
  by_cases g:l>=r
  ·refine⟨l,?_,?_,by lia,a,λi hi hk=>b i (by lia) hk⟩
   ·simp only[kas_place];rw[aAG g];trivial
   ·simp only[kas_place];rw[aAG g];rfl
  ·have hm:(l+r) / 2 < k:=by lia
   cases c:lt (p.getD k 0) (p.getD ((l+r) / 2) 0)with
   |true =>
    obtain⟨m,q1,q2,q3⟩:=rQ L h hk s f l ((l+r) / 2) (by lia) (by lia) (by lia) a (λi hi hik=>by
     by_cases e:i=(l+r) / 2
     ·subst e;exact c
     ·exact L.tr _ _ _ (h.lo hn _) (h.lo hn _) (h.lo hn _) c (s _ i (by lia) hik))
    refine⟨m,?_,?_,q3⟩
    ·simp only[kas_place];rw[aAC g]
     exact⟨h.lo hn _,h.lo hn _,by simp only[c,aBT];exact q1⟩
    ·simp only[kas_place];rw[aAC g]
     simp only[krun,c,aBT];exact q2
   |false =>
    have c':lt (p.getD ((l+r) / 2) 0) (p.getD k 0)=true:=by
     rw[L.tot _ _ (h.lo hn _) (h.lo hn _) (h.ne hm hk),c];rfl
    obtain⟨m,q1,q2,q3⟩:=rQ L h hk s f ((l+r) / 2+1) r (by lia) (by lia) h2 (λi hi=>by
     by_cases e:i=(l+r) / 2
     ·subst e;exact c'
     ·exact L.tr _ _ _ (h.lo hn _) (h.lo hn _) (h.lo hn _) (s i _ (by lia) hm) c') b
    refine⟨m,?_,?_,q3⟩
    ·simp only[kas_place];rw[aAC g]
     exact⟨h.lo hn _,h.lo hn _,by simp only[c,aAY,aCG];exact q1⟩
    ·simp only[kas_place];rw[aAC g]
     simp only[krun,c,aAY,aCG];exact q2
theorem aHd(L:Lin lt n):∀(f:Nat) (p:Array Nat) (k:Nat),PPm n p->k+f=n->SPf lt p k->kok lt n (kas_bin f p k)/\PPm n (krun lt (kas_bin f p k))/\SPf lt (krun lt (kas_bin f p k)) n
 |0,p,k,h,e,s=>by
  have:k=n:=by lia
  subst this
  exact⟨trivial,h,s⟩
 |f+1,p,k,h,e,s=>by
  have hk:k < n:=by lia
  have hz:=h.sz
  obtain⟨m,q1,q2,q3,q4,q5⟩:=rQ L h hk s k 0 k (by lia) (by lia) (aAH _) (λi hi=>by lia) (λi h1 h2=>by lia)
  have hb:PPm n (bubble p k (k - m)):=h.of (bubble_perm _ _ _) (bubble_size _ _ _)
  have sb:SPf lt (bubble p k (k - m)) (k+1):=by
   intro i j hij hj
   rw[aBu (by lia) q3,aBu (by lia) q3]
   by_cases ei:i=m
   ·subst ei
    rw[aAG rfl,aAC (by lia),aAG (by lia)]
    exact q5 _ (by lia) (by lia)
   ·rw[aAC ei]
    by_cases ej:j=m
    ·rw[aAG ej,aAC (by lia)]
     exact q4 i (by lia)
    ·rw[aAC ej]
     by_cases hi:m < i/\i<=k
     ·rw[aAG hi,aAG (by lia)]
      exact s _ _ (by lia) (by lia)
     ·rw[aAC hi]
      by_cases hj2:m < j/\j<=k
      ·rw[aAG hj2]
       exact s _ _ (by lia) (by lia)
      ·rw[aAC hj2]
       exact s _ _ hij (by lia)
  obtain⟨r1,r2,r3⟩:=aHd L f (bubble p k (k - m)) (k+1) hb (by lia) sb
  have er:krun lt (kas_bin (f+1) p k)=krun lt (kas_bin f (bubble p k (k - m)) (k+1)):=by
   show krun lt ((kas_place p k k 0 k).bind _)=_
   rw[gW,q2]
  rw[er]
  refine⟨gH _ q1 ?_,r2,r3⟩
  rw[q2]
  exact r1
theorem aEi:PPm n (List.toArray (List.range n)):=⟨by simp,by simp⟩
theorem lB(L:Lin lt n)(h2:2<=n):kok lt n (kas_sort n)/\PPm n (krun lt (kas_sort n))/\SPf lt (krun lt (kas_sort n)) n:=by
 have hn:0 < n:=by lia
 obtain⟨p,hp⟩:∃p,p=List.toArray (List.range n):=⟨_,rfl⟩
 have h:PPm n p:=by rw[hp];exact aEi
 have hz:=h.sz
 obtain⟨a1,a2,a3,a4,a5⟩:=yW L h (n - 1) 1 (by lia) (by lia) SPf.one
 obtain⟨m,hm⟩:∃m,m=krun lt (kas_asc p (n - 1) 1):=⟨_,rfl⟩
 rw[<- hm]at a2 a3 a4 a5
 have key:∃r:Nat×Array Nat,kok lt n (kas_count n p)/\krun lt (kas_count n p)=r/\PPm n r.2/\1<=r.1/\r.1<=n/\SPf lt r.2 r.1:=by
  unfold kas_count
  rw[gW,<- hm]
  by_cases e:(m==n)=true
  ·refine⟨(m,p),gH _ a1 ?_,?_,h,by lia,by lia,a4⟩
   ·rw[<- hm,aAG e];trivial
   ·rw[aAG e];rfl
  ·by_cases g:m > 1
   ·have c:lt (p.getD 0 0) (p.getD (m - 1) 0)=true:=a4 0 (m - 1) (by lia) (by lia)
    refine⟨(m,p),gH _ a1 ?_,?_,h,by lia,by lia,a4⟩
    ·rw[<- hm,aAC e,aAG g]
     exact⟨h.lo hn _,h.lo hn _,by rw[c];trivial⟩
    ·rw[aAC e,aAG g]
     simp only[krun,c,aBT]
   ·have m1:m=1:=by lia
    have nm:m≠n:=by simpa using e
    have c:=a5 (by lia)
    rw[m1]at c
    have d2:DPf lt p 2:=λi j hij hj=>by
     have:i=0:=by lia
     have:j=1:=by lia
     subst i j
     exact c
    obtain⟨k,d1,d2,d3,d4,d5⟩:=aAj L h (n - 2) 2 (by lia) (by lia) d2
    have hq:PPm n (kas_rev p 0 k):=h.of (mirror_perm _ _ _ _) (mirror_size _ _ _ _)
    have sq:SPf lt (kas_rev p 0 k) k:=λi j hij hj=>by
     rw[nQ (by lia),nQ (by lia),aAG (by lia),aAG hj]
     exact d5 _ _ (by lia) (by lia)
    obtain⟨b1,b2,b3,b4,_⟩:=yW L hq (n - k) k (by lia) (by lia) sq
    have et:kas_descPart 1 n p=(kas_desc (n - (1+1)) p (1+1) 0).bind λr=>if r.2.2 > 0 then kas_tail3 r.2.1 n (kas_rev r.1 (r.2.1 - (r.2.2+1)) r.2.1)else kas_tail3 r.2.1 n r.1:=rfl
    refine⟨(krun lt (kas_asc (kas_rev p 0 k) (n - k) k),kas_rev p 0 k),gH _ a1 ?_,?_,hq,by lia,by lia,b4⟩
    ·rw[<- hm,aAC e,aAC g,m1,et]
     refine gH _ d1 ?_
     rw[d2]
     simp only[gt_iff_lt,aCP,aCG]
     exact gH _ b1 trivial
    ·rw[aAC e,aAC g,m1,et,gW,d2]
     simp only[gt_iff_lt,aCP,aCG]
     unfold kas_tail3
     rw[gW]
     rfl
 obtain⟨r,k1,k2,k3,k4,k5,k6⟩:=key
 have es:krun lt (kas_sort n)=krun lt (if r.1 < n then kas_bin (n - max r.1 1) r.2 (max r.1 1)else .ret r.2):=by
  unfold kas_sort
  rw[gW,<- hp,k2]
 have eo:kok lt n (if r.1 < n then kas_bin (n - max r.1 1) r.2 (max r.1 1)else .ret r.2)->kok lt n (kas_sort n):=λz=>by
  unfold kas_sort
  rw[<- hp]
  refine gH _ k1 ?_
  rw[k2]
  exact z
 rw[es]
 by_cases g:r.1 < n
 ·rw[aAG g]at eo ⊢
  rw[Nat.max_eq_left k4]at eo ⊢
  obtain⟨r1,r2,r3⟩:=aHd L (n - r.1) r.2 r.1 k3 (by lia) k6
  exact⟨eo r1,r2,r3⟩
 ·rw[aAC g]at eo ⊢
  have:r.1=n:=by lia
  rw[this]at k6
  exact⟨eo trivial,k3,k6⟩
end L2
section
open PySem PySem.Spec PyProof.Rows
namespace L2
open PySem.W
variable{E:Value->Shared->Prop}{lt:Nat->Nat->Bool}
noncomputable def underway(h:Heap)(a:Addr)(vs:List Value):Heap:=((h.update a (Obj.mapSeq λ_=>#[])).push (seqObj "tuple" vs.toArray 0)).push (seqObj "list" #[] 0)
variable{vs:List Value}
theorem aKo{a:Addr}{n:Nat}{P:PySem.Fin->Shared->Prop}(ho:s.heap.get? a=some (seqObj "list" vs.toArray n))(h2:2<=vs.length)(h64:vs.length < 64)(L:Lin lt vs.length)
  (hk:∀Q:SortKind->Shared->Prop,Q (tuples' false) {s with heap:=underway s.heap a vs}->wpAny (model prog w) A (keyKind' vs.toArray) Q (λ_ _=>False) {s with heap:=underway s.heap a vs})
  (hc:∀(i j:Nat) (C:Bool->Shared->Prop),i < vs.length->j < vs.length->C (lt i j) {s with heap:=underway s.heap a vs}->kas_ask prog w A (tuples' false) vs i j C {s with heap:=underway s.heap a vs})
  (h:P (.done (.ret .none)) {s with heap:=sortedHeap s.heap a vs (List.toArray ((krun lt (kas_sort vs.length)).toList.map λi=>vs.getD i Value.none))}) :
  wpAny (model prog w) A (Builtin.«list.sort» ⟨[.ref a],[]⟩) P E s:=by
 obtain⟨k1,k2,k3⟩:=lB L h2
 have la:a < s.heap.objs.size:=aAJ ho
 obtain⟨c,hc1⟩:∃c,(s.heap.update a (Obj.mapSeq λ_=>(#[]:Array Value))).get? a=some (seqObj "list" #[] c):=⟨_,get?_update_seq ho λ_=>#[]⟩
 have hu:(underway s.heap a vs).get? a=some (seqObj "list" #[] c):=aAA _ (aAA _ hc1)
 have few:vs.toArray.size<=sizeLine:=by rw[aAI,aBA];lia
 rw[list_sort_plain]
 refine aAB (listItems_at ho rfl (aAB (listUpdate_at ho rfl (aAB (seqEpoch_at hc1 rfl (aAB (aGL (aAB (wpAny_newList (aBN ?_) (aDW _))) few)))) few (aDW _))))
 show wpAny (model prog w) A _ P E {s with heap:=underway s.heap a vs}
 dsimp only
 have big:¬vs.toArray.size < 2:=by rw[aAI];lia
 rw[aAC big,aAC big]
 refine aAB (aDC (hk (λκ s'=>κ=tuples' false/\s'={s with heap:=underway s.heap a vs}) ⟨rfl,rfl⟩) ?_ λ_ _ x=>x.elim)
 rintro κ s' ⟨rfl,rfl⟩
 have run:=kat_run (prog:=prog) (w:=w) (A:=A) (E:=E) (ks:=vs) (vs:=vs) (κ:=tuples' false) (Q:=λst' s'=>s'={s with heap:=underway s.heap a vs}/\failedOf st'=none/\(arrOf st').map (·.2)=List.toArray ((krun lt (kas_sort vs.length)).toList.map λi=>vs.getD i Value.none)) (G:=λp s'=>s'={s with heap:=underway s.heap a vs}/\p=krun lt (kas_sort vs.length)) rfl h2 h64
  (λp st' s' q1 q2 q3 q4=>⟨q4.1,q3,by rw[kat_snds rfl q2,q4.2]⟩) (kwp hc (kas_sort vs.length) k1 ⟨rfl,rfl⟩)
 refine aAB (aDC run ?_ λ_ _ e=>e)
 rintro⟨⟨⟩,st'⟩ s' ⟨rfl,hf,hout⟩
 dsimp only
 rw[hout]
 have hz:(List.toArray ((krun lt (kas_sort vs.length)).toList.map λi=>vs.getD i Value.none)).size<=sizeLine:=by rw[aAI,aAL,aDH,k2.sz,aBA];lia
 refine aAB (seqEpoch_at hu rfl (aAB (listUpdate_at hu rfl ?_ (aDW _) (Nat.le_succ_of_le hz))))
 rw[hf]
 simp only[bne_self_eq_false,aAY,aCG]
 exact aAF h
theorem aCz{Q:Value->Shared->Prop}(hl:s.heap.IsList l vs.toArray)(h2:2<=vs.length)(h64:vs.length < 64)(L:Lin lt vs.length)
  (hk:∀h',(∀b o,s.heap.get? b=some o->h'.get? b=some o)->∀Q:SortKind->Shared->Prop,Q (tuples' false) {s with heap:=h'}->wpAny (model prog w) A.in1.in1 (keyKind' vs.toArray) Q (λ_ _=>False) {s with heap:=h'})
  (hc:∀h',(∀b o,s.heap.get? b=some o->h'.get? b=some o)->∀(i j:Nat) (C:Bool->Shared->Prop),i < vs.length->j < vs.length->C (lt i j) {s with heap:=h'}->kas_ask prog w A.in1.in1 (tuples' false) vs i j C {s with heap:=h'})
  (h:Q (.ref (s.heap.objs.size+1)) {s with heap:=sortedAll s.heap vs (List.toArray ((krun lt (kas_sort vs.length)).toList.map λi=>vs.getD i Value.none))}) :
  wpAny (model prog w) A (call (.builtin "sorted") [.ref l]) Q E s:=by
 have few:vs.length<=sizeLine:=by rw[aBA];lia
 refine Calls.call_function_entry (id:="sorted") kind_sorted plain_sorted entry_sorted (args_sorted1 (.ref l)) ?_
 unfold Builtin.«sorted»
 refine aAB (m:=checkCount "sorted" 1 1 _) (aAF (aAB (collect_list hl (aAB (wpAny_newList ?_ few)) few)))
 generalize eg:(s.heap.push (seqObj "list" #[] 0)).update s.heap.objs.size (Obj.mapSeq (·++vs.toArray))=G
 have gz:G.objs.size=s.heap.objs.size+1:=by rw[<- eg,Heap.size_update,size_push']
 have go:(G.push (seqObj "list" vs.toArray 0)).get? G.objs.size=some (seqObj "list" vs.toArray 0):=aAE _ rfl
 have old:∀b o,s.heap.get? b=some o->(underway (G.push (seqObj "list" vs.toArray 0)) G.objs.size vs).get? b=some o:=λb o e=>by
  have hb:=aAJ e
  have e1:G.get? b=some o:=by rw[<- eg,Heap.get?_update_ne _ _ _ _ (aAV hb)];exact aAA _ e
  have e2:((G.push (seqObj "list" vs.toArray 0)).update G.objs.size (Obj.mapSeq λ_=>(#[]:Array Value))).get? b=some o:=by rw[Heap.get?_update_ne _ _ _ _ (aAV (by rw[gz];exact aDS hb))];exact aAA _ e1
  exact aAA _ (aAA _ e2)
 show wpAny _ _ _ _ _ {s with heap:=G.push (seqObj "list" vs.toArray 0)}
 refine aAB (aBN (aBW slot_list_sort ⟨_,go,rfl⟩ entry_list_sort (aKo (s:={s with heap:=G.push (seqObj "list" vs.toArray 0)}) go h2 h64 L (hk _ old) (hc _ old) ⟨_,rfl,?_⟩) (args_list_sort _)))
 refine aAF ⟨.ref _,rfl,?_⟩
 have z:=h
 unfold sortedAll at z
 rw[eg]at z
 rw[gz]
 exact z
end L2
namespace EV
open L2 PySem.W
theorem aNd{vs ws:List Value}{r:Bool}(h:HT.LtOk A s vs ws r):∀{i:Nat} {Q:Bool->Shared->Prop},Q r s->KatLex prog w A false (decide (vs.length < ws.length)) Q (vs.zip ws) i s:=by
 induction h with
 |nn=>intro i Q q;exact q
 |nc=>intro i Q q;exact kat_nil (by simpa using q)
 |cn=>intro i Q q;exact kat_nil (by simpa using q)
 |eq he ht ih =>
  intro i Q q
  have:=ih (i:=i+1) q
  simp only[aBQ,Nat.add_lt_add_iff_right]
  exact kat_cons (he prog w _ _ (kat_yes this))
 |ne he ht =>
  intro i Q q
  exact kat_cons (he prog w _ _ (kat_no (kat_one _ _ (ht prog w _ _ (show W.BoolBack Q (.bool _) s from q)))))
noncomputable def tl:D->List D
 |.tup xs=>xs
 |_=>[]
noncomputable def tLt(xs:List D)(i j:Nat):Bool:=ltT (tl (xs.getD i .non)) (tl (xs.getD j .non))==some true
structure TS(xs:List D):Prop where
 l2:2<=xs.length
 l64:xs.length < 64
 it:∀x∈xs,∃ys zs,x=.tup (.tup ys::zs)/\deps (.tup ys::zs)<=50
 so:∀i j,i < xs.length->j < xs.length->ltT (tl (xs.getD i .non)) (tl (xs.getD j .non))≠none
 lin:Lin (tLt xs) xs.length
noncomputable def srtP(xs:List D):List Nat:=(krun (tLt xs) (kas_sort xs.length)).toList
noncomputable def srtT(xs:List D):List D:=(srtP xs).map λi=>xs.getD i .non
variable{K:Frag}
theorem aBx{pins:List (Addr×Obj)}{σ:St}{s:Shared}(I:L2.Inv X pins σ H s)(hk:X.K=K):∀{ds:List D} {vs:List V} {us:List Value},Rps K μ H ds vs->Vals vs us->(∀x∈ds,∃ys zs,x=D.tup (.tup ys::zs)/\deps (.tup ys::zs)<=50) ->
  ∃fs,KatTups s.heap us fs/\fs.length=us.length/\∀f∈fs,∃a o,f=Value.ref a/\s.heap.get? a=some o/\o.cls=.type "tuple"
 |[],_,_,h,q,_=>by simp only[Rps]at h;subst h;cases q;exact⟨[],trivial,rfl,by simp⟩
 |x::ds,_,_,h,q,t=>by
  simp only[Rps]at h
  obtain⟨v,vr,rfl,e1,e2⟩:=h
  cases q with
  |cons q1 q2 =>
   obtain⟨fs,k1,k2,k3⟩:=aBx I hk e2 q2 (λy hy=>t y (aBZ _ hy))
   obtain⟨ys,zs,rfl,_⟩:=t x (aCO ..)
   simp only[Rp,Rps]at e1
   obtain⟨a,ws,rfl,h1,v1,wr,rfl,⟨b,vs2,rfl,h2,_⟩,_⟩:=e1
   cases q1
   obtain⟨its,t1,⟨o,g,gc,n,gd⟩,_⟩:=I.tuple (SqT.of (K:=X.K) h1)
   obtain⟨its2,t2,⟨o2,g2,gc2,_⟩,_⟩:=I.tuple (SqT.of (K:=X.K) h2)
   cases t1 with
   |cons r1 r2 =>
    cases r1
    refine⟨.ref b::fs,KatTups.cons g gc gd (by simp) k1,by simp[k2],?_⟩
    intro f hf
    rcases aAU.mp hf with rfl|hf
    ·exact⟨b,o2,rfl,g2,gc2⟩
    ·exact k3 f hf
theorem oC{l:List α}{d x:α}(h:l[i]?=some x):l.getD i d=x:=by simp[List.getD,h]
theorem xX(hu:X.A.units+101 < cLine):CallR X (.builtin "sorted") (λxs H Q=>∃p vs μ ds,xs=[.ref p]/\SqL X.K H p vs/\Rps X.K μ H ds vs/\TS ds/\∀l,H l=none->Q (.ref l) (upd H l (.lst ((srtP ds).map λi=>vs.getD i V.non)))):=by
 intro pins s σ H xs us Q I r h
 obtain⟨p,vs,μ,ds,rfl,hq,hr,T,q⟩:=h
 obtain⟨u,rfl,rx⟩:=vals1 r
 cases rx
 obtain⟨its,r',pl,hz⟩:=I.list hq
 have l1:ds.length=vs.length:=hr.length
 have l2:vs.length=its.length:=r'.length
 have T2:=T.l2
 have T64:=T.l64
 have hlen:its.length=ds.length:=by lia
 refine aCz (lt:=tLt ds) pl.isList (by lia) (by lia) (by rw[hlen];exact T.lin) ?_ ?_ ?_
 ·intro h' old Q' q'
  have I':=I.kept (t':=s.toks) old
  obtain⟨fs,k1,k2,k3⟩:=aBx I' rfl hr r' T.it
  refine kat_kind (T:=.type "tuple") k1 (by lia) (λv hv=>?_) (by decide) q'
  obtain⟨a,o,rfl,g,gc⟩:=k3 v hv
  have this:Looks (model X.prog X.w) h' (typeOf (.ref a)) o.cls:=(Looks.ld g).andThen .now
  rw[gc]at this
  exact this
 ·intro h' old i j C hi hj c
  have I':=I.kept (t':=s.toks) old
  have item:∀i,i < its.length->∃x u zs us,ds.getD i .non=.tup zs/\its.getD i Value.none=.ref x/\Rps X.K μ H zs us/\SqT X.K H x us/\deps zs<=50/\u=x:=by
   intro i hi
   obtain⟨d,hd⟩:∃d,ds[i]?=some d:=⟨_,aAQ (by lia)⟩
   obtain⟨v,hv,rv⟩:=hr.get hd
   obtain⟨u,hu',ru⟩:=r'.get hv
   obtain⟨ys,zs,rfl,hdep⟩:=T.it d (aBJ hd)
   simp only[Rp]at rv
   obtain⟨a,ws,rfl,h1,h2⟩:=rv
   cases ru
   exact⟨a,a,_,ws,oC hd,oC hu',h2,SqT.of h1,hdep,rfl⟩
  obtain⟨x,_,zs,us,e1,e2,e3,e4,e5,_⟩:=item i hi
  obtain⟨y,_,zs',us',f1,f2,f3,f4,f5,_⟩:=item j hj
  obtain⟨n1,t1,⟨o1,g1,_,m1,d1⟩,_⟩:=I'.tuple e4
  obtain⟨n2,t2,⟨o2,g2,_,m2,d2⟩,_⟩:=I'.tuple f4
  unfold kas_ask
  rw[e2,f2]
  have hs:=T.so i j (by lia) (by lia)
  rw[e1,f1]at hs
  simp only[tl]at hs
  cases hl:ltT zs zs' with
  |none=>exact(hs hl).elim
  |some b =>
   have hb:tLt ds i j=b:=by
    unfold tLt
    rw[e1,f1]
    simp only[tl,hl]
    cases b <;> rfl
   rw[hb]at c
   refine kat_lt g1 d1 g2 d2 ?_
   have lk:=aHt (A:=X.A.in1.in1) I' rfl (by show X.A.units+1+1+60 < cLine;lia) e3 f3 t1 t2 e5 f5 hl
   have:=aNd (prog:=X.prog) (w:=X.w) lk (i:=0) c
   simpa using this
 ·obtain⟨c,hc⟩:=sortedAll_at s.heap its (List.toArray ((krun (tLt ds) (kas_sort its.length)).toList.map λi=>its.getD i Value.none))
  have sz:=(lB T.lin T.l2).2.1
  have vv:Vals ((srtP ds).map λi=>vs.getD i V.non) ((srtP ds).map λi=>its.getD i Value.none):=by
   have key:∀l:List Nat,(∀i∈l,i < ds.length)->Vals (l.map λi=>vs.getD i V.non) (l.map λi=>its.getD i Value.none):=by
    intro l
    induction l with
    |nil=>intro _;exact .nil
    |cons i l ih =>
     intro hl
     have hi:=hl i (aCO ..)
     obtain⟨v,hv⟩:∃v,vs[i]?=some v:=⟨_,aAQ (by lia)⟩
     obtain⟨u,hu',ru⟩:=r'.get hv
     refine .cons ?_ (ih λj hj=>hl j (aBZ _ hj))
     show RelV (vs.getD i V.non) (its.getD i Value.none)
     rw[oC hv,oC hu']
     exact ru
   exact key _ λi hi=>aCE.mp (sz.pm.mem_iff.mp hi)
  rw[hlen]at hc ⊢
  refine⟨.ref (s.heap.objs.size+1),_,I.laid (t':=s.toks) (λb o e=>sortedAll_old e) (aFH _) (show ObjOk X.prog X.w _ _ _ (.lst ((srtP ds).map λi=>vs.getD i V.non))from⟨?_,_,c,vv,hc⟩),rfl,q _ (I.hok.fresh (aFH _))⟩
  rw[aBA,aAL]
  have:(srtP ds).length=ds.length:=by unfold srtP;rw[aDH,sz.sz]
  lia
open Classical in
noncomputable def cSortTT(ws:List W)(M:Mm):Oc W:=match ws with
 |[w]=>match lr M w with
  |some xs=>if TS xs then okD (.lst (srtT xs)) M else .bad
  |none=>.bad
 |_=>.bad
theorem Rps.pick{ds:List D}{vs:List V}(h:Rps K μ H ds vs):∀l:List Nat,(∀i∈l,i < ds.length)->Rps K μ H (l.map λi=>ds.getD i .non) (l.map λi=>vs.getD i V.non)
 |[],_=>.nil
 |i::l,hl=>by
  obtain⟨d,hd⟩:∃d,ds[i]?=some d:=⟨_,aAQ (hl i (aCO ..))⟩
  obtain⟨v,hv,rv⟩:=h.get hd
  have:=Rps.cons rv (h.pick l λj hj=>hl j (aBZ _ hj))
  rw[aAO,aAO,oC hd,oC hv]
  exact this
theorem uW{ds:List D}(T:TS ds):∀i∈srtP ds,i < ds.length:=λi hi=>aCE.mp ((lB T.lin T.l2).2.1.pm.mem_iff.mp hi)
theorem callSortTT(hc:X.calm=true)(hu:X.A.units+101 < cLine):ClG X K Z (.builtin "sorted") cSortTT:=λhk=>by
 refine⟨_,hk▸xX hu,?_⟩
 intro μ H M ws vs Q hr rx p
 match ws,rx,p with
 |[],_,p=>exact p.elim
 |[w],⟨v,r,e1,e2,e3⟩,p =>
  cases e3;subst e1
  simp only[cSortTT]at p
  cases q:lr M w with
  |none=>rw[q]at p;exact p.elim
  |some xs =>
   rw[q]at p
   simp only at p
   split at p
   ·rename_i T
    obtain⟨a,us,rfl,h1,r1⟩:=xL hr e2 q
    exact⟨a,us,μ,xs,rfl,h1,r1,T,iD hr (r1.pick _ (uW T)) p⟩
   ·exact p.elim
 |_::_::_,_,p=>exact p.elim
variable{EX:D->Mm->Prop}{Q:W->Mm->Prop}{x:W}
theorem aCy{xs:List D}(h:lr M x=some xs)(T:TS xs)(q:Q (.d (.lst (srtT xs))) M):Okx EX (cSortTT [x] M) Q:=by
 unfold cSortTT
 simp only[h]
 rw[aAG T]
 exact aO q
theorem aKx{xs:List D}(T:TS xs):(srtT xs).Pairwise λa b=>ltT (tl a) (tl b)=some true:=by
 obtain⟨_,sz,so⟩:=lB T.lin T.l2
 refine aBM.mpr λi j hi hj hij=>?_
 have hz:(srtP xs).length=xs.length:=by unfold srtP;rw[aDH,sz.sz]
 simp only[srtT,aAL]at hi hj
 have:=so i j hij (by lia)
 have gi:∀k,k < (srtP xs).length->(krun (tLt xs) (kas_sort xs.length)).getD k 0=(srtP xs)[k]! := by
  intro k hk
  unfold srtP at hk ⊢
  simp[Array.getD]at hk ⊢
  simp[hk]
 simp only[srtT,List.getElem_map]
 rw[gi i hi,gi j hj]at this
 simp only[tLt,beq_iff_eq]at this
 simpa[hi,hj]using this
end EV
namespace EV
open L2
variable{K:Frag}{o:Expr}
theorem aDj:MtR X "int.bit_length" (λx xs H Q=>∃i,x=.int i/\xs=[]/\Q (.int (Builtin.Int.intBits i:Nat)) H):=by
 intro pins s σ H x vs v us Q I rx rv h
 obtain⟨i,rfl,rfl,q⟩:=h
 obtain⟨t,rfl⟩:=rx
 cases rv
 exact call_int_bit_length ⟨.int _,H,I.tok _,⟨_,rfl⟩,q⟩
noncomputable def pBitlen(x:W)(M:Mm):Oc W:=match x with
 |.d (.int i)=>okD (.int (Builtin.Int.intBits i:Nat)) M
 |_=>.bad
theorem aDw{cpos:Pos}(ho:Ev X K Z o fo)(hbase:attributeBase o "bit_length" X.env (eval o X.env)=eval o X.env:=by rfl)(hline:(apos.endLine==cpos.line)=true:=by rfl) :
  Ev X K Z (.Call (.Attribute o "bit_length" apos) [] [] cpos) (e1 pBitlen fo):=by
 have h:=aOq PySem.F.plainAttrs_int slot_int_bit_length type_int_bit_length aDj ho.h hbase hline
 rw[ho.k]at h
 refine⟨ho.k,cqE h ?_⟩
 rintro σ H Q ⟨μ,M,L,hr,lr,p⟩
 refine⟨μ,M,L,hr,lr,p.bind.imp λμ1 H1 M1 x e1 hr1 _ p1 v rx=>?_⟩
 cases x with
 |ref k=>exact p1.elim
 |d x =>
  cases x with
  |int i =>
   simp only[Rw,Rp]at rx
   subst rx
   exact⟨rfl,i,rfl,rfl,p1 μ1 H1 .refl hr1 _ (by simp[Rw,Rp])⟩
  |_=>exact p1.elim
variable{EX:D->Mm->Prop}{Q:W->Mm->Prop}
theorem aCh{i:Int}(q:Q (.d (.int (Builtin.Int.intBits i:Nat))) M):Okx EX (pBitlen (.d (.int i)) M) Q:=aO q
end EV
set_option maxHeartbeats 1000000
namespace L2
open AutoSeq1 (wpAny_loadPart')
theorem aFn(a b:Value):checkTypeCall "enumerate" ⟨[a],[(Str.ofString "start",b)]⟩=pure ():=by kernel_rfl
theorem aEl(a b:Value):checkBuiltinCall "enumerate.__new__" ⟨[.type "enumerate",a],[(Str.ofString "start",b)]⟩=pure ():=by kernel_rfl
theorem aIm(o a b:Value):argsOk "object.__init__" ⟨[o,a],[(Str.ofString "start",b)]⟩:=by
 unfold argsOk;rw[signature?_of (id:="object.__init__") (n:=['_','_','t','i','n','i','_','_']) (o:=['t','c','e','j','b','o']) (by kernel_rfl) F.owner_object];kernel_rfl
theorem xU(l:Addr)(items:Array Value)(c:Int)(t:Tok)(h0:0<=c)(h1:c < 1000000) :
  Meets (Builtin.«enumerate.__new__» ⟨[.type "enumerate",.ref l],[(Str.ofString "start",.int c t)]⟩) (λ_ R s=>s.heap.IsTuple l items/\R (.ok (.ret (.ref (eH1 false s.heap l).objs.size))) {s with heap:=eH2 false s.heap l c}) :=
 .of_wp λprog w A R s h=>by
  obtain⟨hp,g,d,tk,os⟩:=s;obtain⟨hl,h⟩:=h
  have hsub:=sub_enumerate
  have hL:Heap.IsTuple (Shared.heap ⟨hp,g,d,tk,os⟩) l items:=hl
  have hfit:(!Builtin.SmallTypes.fitsIndex c)=false:=by
   unfold Builtin.SmallTypes.fitsIndex
   simp
   lia
  wp_walk
  refine wpAny_stack_any λst=>aAF ?_
  split
  ·rename_i k _ _ _ _ _
   cases(k==Value.type "enumerate") <;> (wp_walk using aCK hL;exact⟨_,rfl,h⟩)
  ·wp_walk using aCK hL
   exact⟨_,rfl,h⟩
variable{E:Value->Shared->Prop}
theorem initK{self a b:Value}:Meets (Builtin.«object.__init__» ⟨[self,a],[(Str.ofString "start",b)]⟩) (λ_ R s=>s.TypeIs self "enumerate"/\R (.ok (.ret .none)) s):=by
 have hl:=aEY.init.lookup
 have hm:=aEY.made
 refine Meets.of_wp λprog w A R s ⟨hT,hq⟩=>?_
 repeat(any_goals (first|assumption|wp_step))
 exact⟨_,rfl,hq⟩
end L2
namespace L2
variable{E:Value->Shared->Prop}
theorem aAc{t:Tok}(h0:0<=c)(h1:c < 1000000)(hl:s.heap.IsTuple l items)
  (h:∀h',IsEnum h' (s.heap.objs.size+1) s.heap.objs.size c .none->It0 false h' s.heap.objs.size l 0->(∀q o,s.heap.get? q=some o->h'.get? q=some o)->Q (.ref (s.heap.objs.size+1)) {s with heap:=h'}) :
  wpAny (model prog w) A (call (.type "enumerate") [.ref l] [(Str.ofString "start",.int c t)]) Q E s:=by
 obtain⟨z1,f1,f2,f3⟩:=wH false s.heap l c
 have ft:=aEY
 obtain⟨k,tl,hmro⟩:=ft.mro
 have hmade:=ft.made
 have hsub:=ft.sub
 have hct:=aFn (.ref l) (.int c t)
 have g1:=ft.notType
 have g2:=ft.canCreate
 refine wpAny_call (codeAny_of_tree (show wpAny _ _ (callAny (.type "enumerate") _) _ _ _ from aAF ⟨Code.quiet_builtin _ (by decide +kernel),aFS F.entry_type_call ?_⟩))
 rw[Around.under_plain (weight_type_call_type "enumerate" [.ref l] [(Str.ofString "start",.int c t)]) (units_type_call_type "enumerate" [.ref l] [(Str.ofString "start",.int c t)])]
 repeat(any_goals (first|assumption|wp_step))
 have hN:=xU l items c t h0 h1 prog w A.in1 (λr s'=>r=.ok (.ret (.ref (s.heap.objs.size+1)))/\s'={s with heap:=eH2 false s.heap l c}) s ⟨hl,by rw[z1],rfl⟩
 refine aFV (R:=λr s'=>r=.ok (.ret (.ref (s.heap.objs.size+1)))/\s'={s with heap:=eH2 false s.heap l c}) (codeAny_call_builtin ft.plain F.entry_enumerate_new (aCH (aEl (.ref l) (.int c t)) hN)) ?_
 rintro _ _ ⟨rfl,rfl⟩
 have hT:Shared.TypeIs {s with heap:=eH2 false s.heap l c} (.ref (s.heap.objs.size+1)) "enumerate":=⟨_,f1,rfl⟩
 have hli:=ft.init.lookup
 have hbi:=ft.init.bind (.ref (s.heap.objs.size+1))
 repeat(any_goals (first|assumption|wp_step))
 have hI:=initK (self:=.ref (s.heap.objs.size+1)) (a:=.ref l) (b:=.int c t) prog w A.in1 (λr s'=>r=.ok (.ret .none)/\s'={s with heap:=eH2 false s.heap l c}) {s with heap:=eH2 false s.heap l c} ⟨hT,rfl,rfl⟩
 refine aFV (R:=λr s'=>r=.ok (.ret .none)/\s'={s with heap:=eH2 false s.heap l c}) (codeAny_call_builtin ft.init.plain F.entry_object_init (ft.init.check _ _ _ _ _ _ _ _ hT (aIm (.ref (s.heap.objs.size+1)) (.ref l) (.int c t)) hI)) ?_
 rintro _ _ ⟨rfl,rfl⟩
 have hq:=h _ f1 f2 f3
 repeat(any_goals (first|assumption|wp_step))
end L2
set_option maxHeartbeats 4000000
namespace L2
theorem aJl{M:Model}{E:Value->Shared->Prop}{T:String}{args:List (Bool×Sem Value)}{kws:List (Option Str×Sem Value)}(h1:args.any (·.1)=false)(h2:kws.any (·.1.isNone)=false)
  (h:wpAny M A (evalArgs (.type T) true args kws) (λa s₁=>wpAny M A (call (.type T) a.pos a.kw) Q E s₁) E s):wpAny M A (callWith pos (.type T) [] args kws) Q E s:=by
 unfold callWith
 refine aAB (aBN (aDC h (λa s₁ z=>aAB (aEB ?_)) λ_ _ x=>x));simp only[h1,h2,Bool.or_false]
 exact aAB (aAF (aAB (aDC z (λr s₂ hr=>aAB (aBN (wpAny_point (aAF hr)))) λ_ _ x=>x)))
theorem aFk{elts:List Expr}{x1}{a e:Expr}{kp:Pos}(hg:Gl X "enumerate")(hm:X.mg "enumerate"=none)(ha:PE X a ta)(he:PE X e te)(hs:starEach [a] X.env=[(false,eval a X.env)]) :
  PI X (.Tuple elts x1 tpos) (.Call (.Name "enumerate" p) [a] [⟨some "start",e,kp⟩] pos) (λσ H R=>ta σ H λx H1=>te σ H1 λy H2=>∃l xs c,x=.ref l/\y=.int c/\0<=c/\c < 1000000/\SqB false X.K H2 l xs/\R (Ite false X.K l c xs) H2):=by
 intro pins s σ H R I h
 refine aCY (hG I hg hm nH (aJl (by rw[hs];rfl) (by rfl) ?_))
 have hA:=cM ha fE hs pos pins s σ H (λvs H1=>match vs with|[x]=>te σ H1 (λy H2=>∃l xs c,x=.ref l/\y=.int c/\0<=c/\c < 1000000/\SqB false X.K H2 l xs/\R (Ite false X.K l c xs) H2)|_=>False) I h
 rw[hs]at hA ⊢
 refine evalArgs_kwB (by rfl) (thn hA λus s1 ⟨vs,H1,I1,r1,hr⟩=>?_)
 match vs,r1,hr with
 |[],_,hr=>exact hr.elim
 |_::_::_,_,hr=>exact hr.elim
 |[x],r1,hr =>
 obtain⟨u,rfl,rx⟩:=vals1 r1
 refine thn (aJw (nm:=some "start") (kpos:=kp) he aMd pos pins s1 σ H1 (λys H2=>match ys with|[y]=>∃l xs c,x=.ref l/\y=.int c/\0<=c/\c < 1000000/\SqB false X.K H2 l xs/\R (Ite false X.K l c xs) H2|_=>False) I1 hr) λws s2 ⟨ys,H2,I2,r2,hq⟩=>?_
 match ys,r2,hq with
 |[],_,hq=>exact hq.elim
 |_::_::_,_,hq=>exact hq.elim
 |[y],r2,hq =>
 obtain⟨l,xs,c,rfl,rfl,c0,c1,sx,hq⟩:=hq
 obtain⟨u2,rfl,⟨t,rfl⟩⟩:=vals1 r2
 cases rx
 obtain⟨its,q1,p1,z1⟩:=sx.inv I2
 have hl:l < s2.heap.objs.size:=p1.lt
 have hne:s2.heap.objs.size+1≠s2.heap.objs.size:=Nat.succ_ne_self _
 have hes:l≠s2.heap.objs.size+1:=aAV (aDS hl)
 have his:l≠s2.heap.objs.size:=aAV hl
 show wpAny _ _ (call (.type "enumerate") [.ref l] [(Str.ofString "start",.int c t)]) _ _ _
 refine aAc c0 c1 p1 λh' a1 a2 k=>?_
 have tz:tne false (s2.heap.objs.size+1) s2.heap.objs.size l c 0 h':=⟨⟨_,by simpa using a1⟩,a2⟩
 refine(lQ (P:=X.prog) (w:=X.w) (K:=X.K) (elts:=elts) (x1:=x1) (pos:=tpos) c hne hes his xs).self _ 0 _ _ _ tz ?_
 refine⟨s2.heap.objs.size+1,_,_,_,H2,rfl,I2.kept (t':=s2.toks) λq o e=>k q o e,lQ c hne hes his xs,tz,λq hb=>?_,hq⟩
 refine I2.fpOk ?_ (I2.hok.fresh ?_) <;>
 ·simp only[aAU,aBL,aCU]at hb
  rcases hb with rfl|rfl <;> (show(_:Nat)<=(_:Nat);lia)
end L2
namespace EV
open L2
variable{K:Frag}{a b:Expr}{g:FE}
noncomputable def iEnumK(f g:FE):FI:=λL M=>(f L M).bind λx M1=>(g L M1).bind λy M2=>match x,y with
 |.d (.tup xs),.d (.int c)=>if 0<=c/\c < 1000000 then .ok ⟨enumT c xs,none⟩ M2 else .bad
 |_,_=>.bad
theorem aHj{p:Addr}{xs:List D}(h1:H p=some (.tup vs))(r1:Rps K μ H xs vs):ItOk K μ H ⟨enumT c xs,none⟩ (Ite false K p c vs):=by
 refine⟨λμ2 H2=>H2 p=some (.tup vs)/\Rps K μ2 H2 xs vs,⟨h1,r1⟩,λμ1 H1 μ2 H2 l z e=>⟨e.keep _ _ (λq=>by obtain⟨us,q⟩:=l p q;rw[z.1]at q;cases q) z.1,Rps.ext l e _ _ z.2⟩,λμ3 H3 M3 i hr3 hS hc=>⟨λd hd=>?_,λhl=>?_⟩⟩
 ·obtain⟨x,hx,rfl⟩:=lI hd
  obtain⟨u,hu,ru⟩:=hS.2.get hx
  refine⟨⟨SqT.of hS.1,(aAD.mp hu).1⟩,λx' H4 hy4=>?_⟩
  obtain⟨T,u',hT,rfl,hu',rfl⟩:=hy4
  rw[hu]at hu';cases hu'
  exact nC hr3 hT (by simp[Rp]) ru
 ·refine⟨SqT.of hS.1,?_⟩
  simp only[eN]at hl
  rw[<- hS.2.length]
  exact hl
theorem aEd{elts:List Expr}{x1}{kp:Pos}(hm:X.mg "enumerate"=none)(ha:Ev X K Z a f)(hb:Ev X K Z b g)(hg:Gl X "enumerate":=by rfl)(hs:starEach [a] X.env=[(false,eval a X.env)]:=by rfl) :
  Ei X K Z (.Tuple elts x1 tpos) (.Call (.Name "enumerate" p) [a] [⟨some "start",b,kp⟩] pos) (iEnumK f g):=by
 have h':=aFk (elts:=elts) (x1:=x1) (tpos:=tpos) (p:=p) (pos:=pos) (kp:=kp) hg hm ha.h hb.h hs
 rw[ha.k]at h'
 refine⟨ha.k,cqI h' ?_⟩
 rintro σ H R ⟨μ,M,L,hr,lr,p⟩
 refine⟨μ,M,L,hr,lr,p.bind.imp λμ1 H1 M1 w e1 hr1 _ p1 v rx=>?_⟩
 refine⟨μ1,M1,L,hr1,lr.ext hr.lsts e1,p1.bind.imp λμ2 H2 M2 y e2 hr2 _ p2 u ry=>?_⟩
 cases w with
 |ref i=>exact p2.elim
 |d x =>
  cases x with
  |tup xs =>
   cases y with
   |ref i=>exact p2.elim
   |d y =>
    cases y with
    |int c =>
     dsimp only at p2
     split at p2
     ·rename_i hc
      have rx:=rx.ext hr1.lsts e2
      simp only[Rw,Rp]at rx ry
      obtain⟨q,vs,rfl,h1,r1⟩:=rx
      exact⟨q,vs,c,rfl,ry,hc.1,hc.2,SqT.of h1,p2 μ2 H2 .refl hr2 _ (aHj h1 r1)⟩
     ·exact p2.elim
    |_=>exact p2.elim
  |_=>exact p2.elim
variable{fa:Addr}
theorem xM{Fm:Fn}{i:Int}{tk:Tok}{e:Expr}{es:List Expr}{fs:FA}(Gf:FnOk X.prog X.w X.K X.mg X.base CX0 k fa fd ps (spF K Z0 m Fm))(hr:Room k X.A)(hm:X.mg x=some (.ref fa))(hk:keepIn X.K (.ref fa)=true)(hb:Binds X.K fd ps [.int i tk])
  (ha:Ea X K Z0 (e::es) fs)(hg:Gl X x:=by rfl)(hdb:(x==("__debug__":Str))=false:=by decide)(he:starEach (e::es) X.env=(false,eval e X.env)::starEach es X.env:=by rfl)(hpl:(backTo pos (starEach es X.env)).any (·.1)=false:=by rfl)
  (hlen:∀ws M,ws.length≠m->Fm ws M=.bad:=by intro ws M h;first|exact aAC h|rfl):Ev X K Z0 (.Call (.Name x p) (e::es) [] pos) (eA Fm (aDef fs [.int i])):=by
 refine⟨ha.k,cqE (aAv (dvs:=[.int i]) Gf hr hg hm hk hb (.cons ⟨tk,rfl⟩ .nil) pass0 ha.h hdb he hpl) ?_⟩
 rintro σ H Q ⟨μ,M,L,hr,lr,p⟩
 refine⟨μ,M,L,hr,lr,p.bind.bind.imp λμ1 H1 M1 ws e1 hr1 _ p1 vs rx=>?_⟩
 have rx':=rx.append (us:=[.d (.int i)]) (zs:=[.int i]) ⟨.int i,[],rfl,by simp[Rw,Rp],rfl⟩
 have p2:Pst K Z0 μ1 H1 (Fm (ws++[.d (.int i)]) M1) (Wk K Q):=p1 μ1 H1 .refl hr1
 refine⟨?_,μ1,M1,ws++[.d (.int i)],hr1,rx',p2⟩
 by_cases hw:(ws++[W.d (.int i)]).length=m
 ·rw[<- rx'.length];exact hw
 ·rw[hlen _ M1 hw]at p2;exact p2.elim
variable{EX:D->Mm->Prop}
theorem aCp(h:Okx EX (f L M) λx M1=>Okx EX (g L M1) λy M2=>∃xs c,x=.d (.tup xs)/\y=.d (.int c)/\(0<=c/\c < 1000000)/\QI ⟨enumT c xs,none⟩ M2):Okx EX (iEnumK f g L M) QI :=
 aM (h.mono λx M1 z=>aM (z.mono λy M2 ⟨xs,c,e1,e2,hc,q⟩=>by subst e1 e2;dsimp only;rw[aAG hc];exact aO q))
variable{K:Frag}
theorem aFu{mg:Str->Option Value}(hf:FunG K x qual st fa fd)(S:FnScope N ps (defScope st))
  (hb:∀(cdv:Value) (A:Around) (outer:List Env) (s:Shared) (H:Hp) (E:XK),Room k (A.deeper (envOfC qual (defScope st) s.heap.objs.size fa cdv))->Ess (cxOf CX0 P w K mg base N qual (defScope st) fa cdv A outer s H E).nox K Z0 (defBody st) F) :
  FnOk P w K mg base CX0 (k+1) fa fd ps (spF K Z0 ps.length (fnD ps.length N.length F)):=by
 obtain⟨oc,od,dV,kV,doc,pm,an,cdv,ct,osl,rfl,lk,hcd⟩:=hf.ex
 refine aLj lk hcd S (λvs H Q E h=>h.1) λA outer s H vs Q E hr hsp=>⟨_,(hb cdv A outer s H E hr).h.nox,?_⟩
 obtain⟨hv,μ,M,ws,hr,rx,p⟩:=hsp
 refine⟨μ,M,_,hr,sB rx,?_⟩
 unfold fnD at p
 rw[aAG (by rw[rx.length];exact hv)]at p
 cases q:F (ws.map some++List.replicate (N.length - ws.length) none) M with
 |bad=>rw[q]at p;exact p
 |ex z M'=>rw[q]at p;exact p
 |ok o M' =>
  rw[q]at p
  simp only[gQ]at p
  intro μ1 H1 e1 hr1
  have hb:=hr1.back e1
  rw[hr.len]at hb
  cases o with
  |nx L'=>exact λσ' lr'=>p μ H1 e1.back hb _ (by simp[Rw,Rp])
  |bk L'=>exact p.elim
  |ct L'=>exact p.elim
  |rt w =>
   intro v rv
   have hsub:∀a,a∈μ->a∈μ1:=λa ha=>by rw[<- e1.take]at ha;exact aDU ha
   cases w with
   |d x=>exact p μ H1 e1.back hb v (Rp.sub hsub x v rv)
   |ref i =>
    simp only[retc]at p
    split at p
    ·rename_i hi
     obtain⟨a,qa,rfl⟩:=rv
     refine p μ H1 e1.back hb _ ⟨a,?_,rfl⟩
     rw[<- hr.len]at hi
     have:=e1.pre i μ[i] (by simp[hi])
     rw[qa]at this;cases this
     simp[hi]
    ·rename_i hi
     cases q2:M'[i]? with
     |none=>simp only[q2]at p;exact p.elim
     |some ds =>
      simp only[q2]at p
      obtain⟨a,qa,rfl⟩:=rv
      obtain⟨a',vs',qa',h1,r1⟩:=hr1.at q2
      rw[qa]at qa';cases qa'
      refine p μ H1 e1.back hb _ ?_
      simp only[Rw,Rp]
      refine⟨a,vs',rfl,h1,λha=>?_,Rps.sub hsub _ _ r1⟩
      obtain⟨j,hj,ej⟩:=aDV.mp ha
      have h2:=e1.pre j a (by rw[<- ej];simp[hj])
      have l1:=(aAD.mp qa).1
      have l2:=(aAD.mp h2).1
      have g1:=(aAD.mp qa).2
      have g2:=(aAD.mp h2).2
      have pw:=aBM.mp hr1.nd
      rw[hr.len]at hj
      exact pw j i l2 l1 (by lia) (g2.trans g1.symm)
end EV
namespace L2
variable{E:Value->Shared->Prop}
theorem aKe:fillsInplaceSlot (.type "list") "add" (Operator.Add==.Add)=pure false:=by
 unfold fillsInplaceSlot
 show(typeLookup (.type "list") (dunderI "add") >>= _)=_
 rw[F.slot_list_iadd.lookup]
 rfl
theorem aIr:seqSlot? (.type "list") (dunderI "add")=pure (some (.builtin "list.__iadd__")):=by
 unfold seqSlot?
 rw[F.slot_list_iadd.lookup]
 rfl
theorem aKt:fillsNumberSlot (.type "list") "add"=pure false:=by
 first|exact noFill_list_add|(unfold fillsNumberSlot;kernel_rfl)
theorem aDt{a b:Value}(ha:s.TypeIs a "list")(hb:s.TypeIs b "list")(hc:wpAny (model prog w) A (call (.builtin "list.__iadd__") [a,b]) Q E s):wpAny (model prog w) A (inplaceOp .Add a b) Q E s:=by
 unfold inplaceOp
 refine aBN (aAB (aGG ha (aAB (aCH aKe ?_))))
 show wpAny (model prog w) A (if false=true then _ else _) Q E s
 rw[aAC (by decide)]
 exact aAB (wpAny_binaryOp1_none (nm:="add") ha hb aKt (aAB (aCH aIr (aAB (aDE hc)))))
noncomputable def ipL:TIp:=λx y H Q=>∃l b xs zs,x=.ref l/\y=.ref b/\H l=some (.lst xs)/\H b=some (.lst zs)/\xs.length+zs.length<=sizeLine/\Q (.ref l) (upd H l (.lst (xs++zs)))
theorem aJz:PIp X .Add ipL:=by
 intro pins s σ H x y v u Q I r1 r2 h
 obtain⟨l,b,xs,zs,rfl,rfl,hH,hB,hz,q⟩:=h
 cases r1
 cases r2
 obtain⟨z,its,n,r,hl,e⟩:=I.lstM hH
 obtain⟨z2,its2,n2,r2,hl2,e2⟩:=I.lstM hB
 have hsz:its.toArray.size+its2.toArray.size<=sizeLine:=by rw[aAI,aAI];lia
 have hno:¬(!its.toArray.isEmpty&&Builtin.List.listTooLong (its.toArray.size+its2.toArray.size))=true:=by rw[notLongL hsz,Bool.and_false];decide
 refine aDt ⟨_,e,rfl⟩ ⟨_,e2,rfl⟩ (aED F.slot_list_iadd ⟨_,e,rfl⟩ F.entry_list_iadd (F.args_list_iadd_2 _ _) (AutoSeq1.list___iadd___list_list_0 l its.toArray n b its2.toArray n2 hno (by rw[aAI];lia) (by lia)) ⟨e,e2,?_⟩)
 refine⟨.ref l,_,I.lset (its':=its++its2) hH e (by simp) (r.append r2) ?_,rfl,q⟩;rw[aAX];lia
end L2
namespace EV
open L2
variable{K:Frag}{e:Expr}
noncomputable def sAugL(i:Nat)(f:FE):FS:=λL M=>(eV i L M).bind λx _=>(f L M).bind λy M1=>match x with
 |.ref k=>match M1[k]?,lv M1 y with
  |some xs,some ys=>if xs.length+ys.length<=16777216 then .ok (.nx (L.set i (some (.ref k)))) (M1.set k (xs++ys))else .bad
  |_,_=>.bad
 |_=>.bad
theorem aIn(hN:X.N.Nodup)(he:Ev X K Z e f)(hi:X.N[i]?=some x:=by rfl)(hx:Loc X.env.scope x:=by first|exact Or.inl rfl|exact Or.inr rfl)
  (hf:X.fn x=true\/X.env.scope.names.lookup x=some .local:=by first|exact .inl rfl|exact .inr rfl|assumption):Es X K Z (.AugAssign (.Name x pos') .Add e pos) (sAugL i f):=by
 refine⟨he.k,cqS (aOy hN hi hx he.h aJz hf) ?_⟩
 rintro E σ H ⟨μ,M,L,hr,lr,p⟩
 unfold sAugL eV at p
 cases q:L[i]? with
 |none=>rw[q]at p;exact p.elim
 |some o =>
  cases o with
  |none=>rw[q]at p;exact p.elim
  |some w =>
   rw[q]at p
   obtain⟨v,q1,q2⟩:=lr.ent i w q
   refine⟨v,q1,μ,M,L,hr,lr,(show Pst K Z μ H ((f L M).bind _) _ from p).bind.imp λμ1 H1 M1 y e1 hr1 _ p1 u ru=>?_⟩
   cases w with
   |d w=>exact p1.elim
   |ref k =>
    cases k1:M1[k]? with
    |none=>simp only[k1]at p1;exact p1.elim
    |some xs =>
     cases k2:lv M1 y with
     |none=>simp only[k1,k2]at p1;exact p1.elim
     |some ys =>
      simp only[k1,k2]at p1
      split at p1
      ·rename_i hz
       obtain⟨a,qa,rfl⟩:=Rw.ext hr.lsts e1 q2
       obtain⟨a',vs,qa',h1,r1⟩:=hr1.at k1
       rw[qa]at qa';cases qa'
       obtain⟨b,us,rfl,h2,r2⟩:=qX hr1 ru k2
       refine⟨a,b,vs,us,rfl,rfl,h1,h2,by rw[<- r1.length,<- r2.length,aBA];exact hz,?_⟩
       have x:=eY (H:=H1) (o:=.lst (vs++us)) qa
       exact p1 μ1 _ x (hr1.set qa (r1.append r2)) _ (LR.set ((lr.ext hr.lsts e1).ext hr1.lsts x) ⟨a,qa,rfl⟩)
      ·exact p1.elim
variable{EX:D->Mm->Prop}
theorem aJg(h:L[i]?=some (some (.ref k)))(z:Okx EX (f L M) λy M1=>∃xs ys,M1[k]?=some xs/\lv M1 y=some ys/\xs.length+ys.length<=16777216/\QS (.nx (L.set i (some (.ref k)))) (M1.set k (xs++ys))):Okx EX (sAugL i f L M) QS:=by
 unfold sAugL eV
 rw[h]
 exact aM (aO (aM (z.mono λy M1 ⟨xs,ys,e1,e2,hz,q⟩=>by simp only[e1,e2];rw[aAG hz];exact aO q)))
end EV
set_option maxHeartbeats 4000000
namespace L2
noncomputable def nR3(a b c:Int):Nat:=(if a < b then(b - a - 1) / c+1 else 0).toNat
variable{a b:Int}
theorem aBy(hc:0 < c):Builtin.Range.rangeSize a b c=(nR3 a b c:Nat):=by
 unfold Builtin.Range.rangeSize nR3
 rw[aAG hc]
 split
 ·have:0<=(b - a - 1) / c:=Int.ediv_nonneg (by lia) (by lia)
  lia
 ·rfl
theorem zZ(hc:0 < c)(h1 : -1000000<=a)(h2:b<=1000000):nR3 a b c<=2000000:=by
 unfold nR3
 split
 ·have:(b - a - 1) / c<=b - a - 1:=Int.ediv_le_self _ (by lia)
  lia
 ·lia
theorem aHp(hc:0 < c)(hc2:c<=1000)(h1 : -1000000<=a)(h2:a<=1000000)(h3 : -1000000<=b)(h4:b<=1000000):Builtin.Range.small a b c=true:=by
 have hn:=zZ (a:=a) (b:=b) hc h1 h4
 unfold Builtin.Range.small
 rw[aBy hc,fits62 (a:=a) (by lia) (by lia),fits62 (a:=b) (by lia) (by lia),fits62 (a:=c) (by lia) (by lia),fits62 (a:=(nR3 a b c:Nat)) (by lia) (by lia),aAG hc,fits62 (a:=b+(c - 1)) (by lia) (by lia)]
 simp
noncomputable def r3(a b c:Int):List Int:=(List.range (nR3 a b c)).map λi=>a+(i:Nat)*c
theorem aIx{lo:Int}{n:Nat}{acc:Array Value}(h:ItemsOf (λi v=>∃t,v=.int (lo+i*c) t) acc n):Vals (((List.range n).map λi=>lo+(i:Nat)*c).map V.int) acc.toList:=by
 have key:∀(l:List Value) (k:Nat),(∀j v,l[j]?=some v->∃t,v=Value.int (lo+((k+j:Nat):Int)*c) t)->Vals ((List.range' k l.length).map λi=>V.int (lo+(i:Nat)*c)) l:=by
  intro l
  induction l with
  |nil=>intro k _;exact .nil
  |cons x r ih =>
   intro k hk
   rw[aBQ,List.range'_succ,aAO]
   refine .cons ?_ (ih (k+1) λj v e=>?_)
   ·obtain⟨t,e⟩:=hk 0 x rfl
    exact⟨t,by simpa using e⟩
   ·obtain⟨t,e'⟩:=hk (j+1) v (by simpa using e)
    exact⟨t,by rw[e'];rw[show k+1+j=k+(j+1) by lia]⟩
 have hl:acc.toList.length=n:=h.1
 have:=key acc.toList 0 λj v e=>by
  obtain⟨t,e'⟩:=h.2 j v (by simpa using e)
  exact⟨t,by rw[e',Nat.zero_add]⟩
 rw[hl]at this
 rw[aBP,List.range_eq_range']
 exact this
variable{a b c:Expr}{ta:TA}
theorem aEp(hc:X.calm=true)(hm:X.mg "list"=none)(hm2:X.mg "range"=none)(ha:PA X [a,b,c] ta)(hg:Gl X "list")(hg2:Gl X "range")
  (hs:starEach [a,b,c] X.env=(false,eval a X.env)::starEach [b,c] X.env)(hs3:((backTo pos2 (starEach [b,c] X.env)).any λx=>x.fst)=false)
  (hs2:starEach [.Call (.Name "range" p2) [a,b,c] [] pos2] X.env=(false,eval (.Call (.Name "range" p2) [a,b,c] [] pos2) X.env)::starEach [] X.env) :
  PE X (.Call (.Name "list" p) [.Call (.Name "range" p2) [a,b,c] [] pos2] [] pos) (λσ H Q=>ta σ H λvs H1=>∃i j k:Int,vs=[.int i,.int j,.int k]/\((0 < k/\k<=1000) /\ -1000000<=i/\i<=1000000 /\ -1000000<=j/\j<=1000000)/\∀l,H1 l=none->Q (.ref l) (upd H1 l (.lst ((r3 i j k).map V.int)))):=by
 intro pins s σ H Q I h
 refine aCY (hG I hg hm EV.zJ ?_ (by decide) (by decide))
 refine aBO ?_ hs2 rfl
 rw[hs2]
 show wpAny _ _ (spliced ((false,eval _ X.env)::backTo pos (starEach [] X.env))) _ _ s
 refine Calls.spliced_cons ?_
 refine aCY (hG I hg2 hm2 EV.kS ?_ (by decide) (by decide))
 refine aBO (thn (ha pos2 pins s σ H _ I h) λus s1 ⟨vs,H1,I1,r1,q1⟩=>?_) hs hs3
 obtain⟨i,j,k,e,⟨⟨k0,k1⟩,z1,z2,z3,z4⟩,q⟩:=q1
 subst e
 cases r1 with
 |cons r rr =>
  cases rr with
  |cons r' rr =>
   cases rr with
   |cons r'' rr =>
    cases rr
    obtain⟨t,rfl⟩:=r
    obtain⟨t',rfl⟩:=r'
    obtain⟨t'',rfl⟩:=r''
    refine call_range_3 (by lia) ?_ (.inl (PyProof.noPylong_small (by lia)))
    refine Calls.spliced_nil ?_
    have I2:Inv X pins σ H1 {s1 with heap:=s1.heap.push {cls:=.type "range",data:=.fields #[.int i t,.int j t',.int k t'']},toks:=s1.toks}:=I1.kept λb o e=>aAA _ e
    refine call_list_range (n:=nR3 i j k) (I2.ok.hd hc) (IsRange.new ..) (aHp k0 k1 z1 z2 z3 z4) (aBy k0) (by have:=zZ (a:=i) (b:=j) k0 z1 z4;lia) λh' tk acc' c' kp hS hacc=>?_
    refine⟨.ref _,_,I2.laid (t':=tk) kp (aAH _) (show ObjOk X.prog X.w _ h' _ (.lst ((r3 i j k).map V.int))from⟨by rw[aBA];have:=zZ (a:=i) (b:=j) k0 z1 z4;simp[r3];lia,acc'.toList,c',aIx hacc,by simpa using hS⟩),rfl,q _ (I2.hok.fresh (aAH _))⟩
end L2
namespace EV
open L2
variable{EX:D->Mm->Prop}{K:Frag}{a b c:Expr}
noncomputable def eListRange3(fa fb fc:FE):FE:=λL M=>(fa L M).bind λw M1=>(fb L M1).bind λu M2=>(fc L M2).bind λz M3=>match w,u,z with
 |.d (.int i),.d (.int j),.d (.int k)=>if(0 < k/\k<=1000) /\ -1000000<=i/\i<=1000000 /\ -1000000<=j/\j<=1000000 then okD (.lst ((r3 i j k).map D.int)) M3 else .bad
 |_,_,_=>.bad
theorem sU(hk:X.calm=true)(hm:X.mg "list"=none)(hm2:X.mg "range"=none)(ha:Ev X K Z a fa)(hb:Ev X K Z b fb)(hc:Ev X K Z c fc)(hg:Gl X "list":=by rfl)(hg2:Gl X "range":=by rfl)(hs:starEach [a,b,c] X.env=(false,eval a X.env)::starEach [b,c] X.env:=by rfl)(hs1:starEach [b,c] X.env=(false,eval b X.env)::starEach [c] X.env:=by rfl)(hs3:starEach [c] X.env=(false,eval c X.env)::starEach [] X.env:=by rfl)(hs4:((backTo pos2 (starEach [b,c] X.env)).any λx=>x.fst)=false:=by rfl)
  (hs2:starEach [.Call (.Name "range" p2) [a,b,c] [] pos2] X.env=(false,eval (.Call (.Name "range" p2) [a,b,c] [] pos2) X.env)::starEach [] X.env:=by rfl):Ev X K Z (.Call (.Name "list" p) [.Call (.Name "range" p2) [a,b,c] [] pos2] [] pos) (eListRange3 fa fb fc):=by
 refine⟨ha.k,cqE (aEp hk hm hm2 (cM ha.h (cM hb.h (cM hc.h fE hs3) hs1) hs) hg hg2 hs hs4 hs2) ?_⟩
 rintro σ H R ⟨μ,M,L,hr,lr,p⟩
 refine⟨μ,M,L,hr,lr,p.bind.imp λμ1 H1 M1 w e1 hr1 _ p1 v rw'=>?_⟩
 refine⟨μ1,M1,L,hr1,lr.ext hr.lsts e1,p1.bind.imp λμ2 H2 M2 u e2 hr2 _ p2 v2 ru=>?_⟩
 refine⟨μ2,M2,L,hr2,lr.ext hr.lsts (e1.trans e2),p2.bind.imp λμ3 H3 M3 z e3 hr3 _ p3 v3 rz=>?_⟩
 have rw':=rw'.ext hr1.lsts (e2.trans e3)
 have ru:=ru.ext hr2.lsts e3
 split at p3
 ·skip
  split at p3
  ·rename_i hz
   simp only[Rw,Rp]at rw' ru rz
   subst rw' ru rz
   exact⟨_,_,_,rfl,hz,iD hr3 Rps.ints p3⟩
  ·exact p3.elim
 ·exact p3.elim
variable{Q:W->Mm->Prop}
theorem aOo(h:Okx EX (fa L M) λw M1=>Okx EX (fb L M1) λu M2=>Okx EX (fc L M2) λz M3=>∃i j k:Int,w=.d (.int i)/\u=.d (.int j)/\z=.d (.int k)/\((0 < k/\k<=1000) /\ -1000000<=i/\i<=1000000 /\ -1000000<=j/\j<=1000000)/\Q (.d (.lst ((r3 i j k).map D.int))) M3):Okx EX (eListRange3 fa fb fc L M) Q :=
 aM (h.mono λw M1 z=>aM (z.mono λu M2 z=>aM (z.mono λy M3 ⟨i,j,k,e1,e2,e3,hz,q⟩=>by subst e1 e2 e3;simp only;rw[aAG hz];exact aO q)))
end EV
end
namespace K94
open PySem L2 EV
noncomputable def top(i:Nat):Stmt:=PySem.Challenge.pw_lentshelf_k94_whole_trees_and_sayings.main.body.getD i (.Pass ⟨0,0,0,0⟩)
noncomputable abbrev cP:Stmt:=top 6
noncomputable abbrev dU:Stmt:=top 8
noncomputable abbrev fZ:Stmt:=top 9
noncomputable abbrev bT:Stmt:=top 11
noncomputable abbrev cO:Stmt:=top 12
noncomputable abbrev dC:Stmt:=top 14
noncomputable abbrev bP:Stmt:=top 15
noncomputable abbrev bQ:Stmt:=top 16
noncomputable abbrev iO:Stmt:=top 17
noncomputable abbrev aY:Stmt:=top 18
noncomputable abbrev dB:Stmt:=top 19
noncomputable abbrev bV:Stmt:=top 20
noncomputable abbrev dZ:Stmt:=top 22
noncomputable abbrev iM:Stmt:=top 23
noncomputable abbrev dX:Stmt:=top 25
noncomputable abbrev bZ:Stmt:=top 26
noncomputable abbrev iV:Stmt:=top 28
noncomputable abbrev bG:Stmt:=top 29
noncomputable abbrev bJ:Stmt:=top 30
noncomputable abbrev dY:Stmt:=top 31
noncomputable abbrev bI:Stmt:=top 32
noncomputable abbrev cH:Stmt:=top 33
noncomputable abbrev cC:Stmt:=top 35
noncomputable abbrev aX:Stmt:=top 36
noncomputable abbrev gD:Stmt:=top 37
noncomputable abbrev bX:Stmt:=top 38
noncomputable abbrev cS:Stmt:=top 39
noncomputable abbrev bF:Stmt:=top 40
noncomputable abbrev bH:Stmt:=top 41
noncomputable abbrev lW:Stmt:=top 43
noncomputable abbrev iQ:Stmt:=top 44
noncomputable abbrev cD:Stmt:=top 45
noncomputable abbrev fG:Stmt:=top 47
noncomputable abbrev hX:Stmt:=top 48
noncomputable abbrev bU:Stmt:=top 49
noncomputable abbrev bA:Stmt:=top 50
noncomputable abbrev cE:Stmt:=top 51
noncomputable abbrev gB:Stmt:=top 53
noncomputable abbrev eW:Stmt:=top 54
noncomputable abbrev eS:Stmt:=top 55
noncomputable abbrev dH:Stmt:=top 56
noncomputable abbrev dD:Stmt:=top 57
noncomputable abbrev eU:Stmt:=top 58
noncomputable abbrev fK:Stmt:=top 59
noncomputable abbrev dJ:Stmt:=top 60
noncomputable abbrev kN:Stmt:=top 61
noncomputable def b_0:FS :=
 (sRt (e2 pIn (e2 pIx (eV 0) (eC (.int 0))) (eA mkT (aCons (eC (.str "num")) (aCons (eC (.str "given")) (aCons (eC (.str "one")) aNil))))))
noncomputable def eK:Fn:=fnD 1 1 b_0
theorem iN{ws:List W}(h:ws.length≠1):eK ws M=.bad:=aAC h
noncomputable def b_1:FS :=
 (sSeq (sPar 2 3 (aCons (eV 0) (aCons (e2 pMod (eV 1) (eV 0)) aNil)))
  (sSeq (sAs (eA mkT (aCons (eC (.int 0)) (aCons (eC (.int 1)) aNil))) (gT 2 (gsCons (gN 4) (gsCons (gN 5) gsNil))))
  (sSeq (whileD (EV.tB (e2 pGt (eV 3) (eC (.int 0))))
  (sSeq (sAs (e2 pDiv (eV 2) (eV 3)) (gN 6))
  (sSeq (sPar 2 3 (aCons (eV 3) (aCons (e2 pSub (eV 2) (e2 pMulA (eV 6) (eV 3))) aNil)))
  (sPar 4 5 (aCons (eV 5) (aCons (e2 pSub (eV 4) (e2 pMulA (eV 6) (eV 5))) aNil))))) NW)
  (sSeq (sIf (EV.tB (e2 pNe (eV 2) (eC (.int 1))))
  (sRt (eC .non))
  sNil)
  (sRt (e2 pMod (eV 4) (eV 0)))))))
noncomputable def eM:Fn:=fnD 2 7 b_1
theorem iC{ws:List W}(h:ws.length≠2):eM ws M=.bad:=aAC h
noncomputable def b_2:FS :=
 (sSeq (sAs (e2 pMod (eC (.int 1)) (eV 0)) (gN 3))
  (sSeq (sAs (e2 pMod (eV 1) (eV 0)) (gN 4))
  (sSeq (sAs (eV 2) (gN 5))
  (sSeq (whileD (EV.tB (e2 pGt (eV 5) (eC (.int 0))))
  (sSeq (sIf (EV.tB (e2 pEq (e2 pMod (eV 5) (eC (.int 2))) (eC (.int 1))))
  (sAs (e2 pMod (e2 pMulA (eV 3) (eV 4)) (eV 0)) (gN 3))
  sNil)
  (sSeq (sAs (e2 pMod (e2 pMulA (eV 4) (eV 4)) (eV 0)) (gN 4))
  (sAs (e2 pDiv (eV 5) (eC (.int 2))) (gN 5)))) NW)
  (sRt (eV 3))))))
noncomputable def lE:Fn:=fnD 3 6 b_2
theorem tU{ws:List W}(h:ws.length≠3):lE ws M=.bad:=aAC h
noncomputable def b_4:FS :=
 (sSeq (sIf (EV.tB (e2 pEq (e2 pIx (eV 1) (eC (.int 0))) (eC (.str "scale"))))
  (sRt (eA mkT (aCons (eC (.str "scale")) (aCons (e2 pIx (eV 1) (eC (.int 1))) (aCons (eA eM (aCons (eV 0) (aCons (e2 pIx (eV 1) (eC (.int 2))) aNil))) aNil)))))
  sNil)
  (sRt (eA mkT (aCons (eC (.str "add")) (aCons (e2 pIx (eV 1) (eC (.int 1))) (aCons (e2 pMod (e1 pNeg (e2 pIx (eV 1) (eC (.int 2)))) (eV 0)) (aCons (e2 pIx (eV 1) (eC (.int 3))) (aCons (e2 pIx (eV 1) (eC (.int 4))) aNil))))))))
noncomputable def fD:Fn:=fnD 2 2 b_4
theorem sI{ws:List W}(h:ws.length≠2):fD ws M=.bad:=aAC h
noncomputable def b_3:FS :=
 (sRt (eA cTup (aCons (eComp [none,some 0] (iRv (eV 1)) (gN 0) EV.tYes (eA fD (aCons (eV 1) (aCons (eV 0) aNil)))) aNil)))
noncomputable def cZ:Fn:=fnD 2 2 b_3
theorem fJ{ws:List W}(h:ws.length≠2):cZ ws M=.bad:=aAC h
noncomputable def b_8:FS :=
 (sSeq (sIf (EV.tB (e2 pEq (eV 1) (eC (.str "less"))))
  (sRt (e2 pAdd (eV 2) (eA cZ (aCons (eV 0) (aCons (eV 3) aNil)))))
  sNil)
  (sRt (e2 pAdd (eV 2) (eV 3))))
noncomputable def kP:Fn:=fnD 4 4 b_8
theorem xS{ws:List W}(h:ws.length≠4):kP ws M=.bad:=aAC h
noncomputable def b_9:FS :=
 (sRt (e2 pAdd (e2 pAdd (e2 pAdd (eV 1) (eV 2)) (eA cZ (aCons (eV 0) (aCons (eV 1) aNil)))) (eA cZ (aCons (eV 0) (aCons (eV 2) aNil)))))
noncomputable def cQ:Fn:=fnD 3 3 b_9
theorem gY{ws:List W}(h:ws.length≠3):cQ ws M=.bad:=aAC h
noncomputable def b_7:FS :=
 (sSeq (sIf (EV.tB (e2 pEq (e2 pIx (eV 1) (eC (.int 0))) (eC (.str "num"))))
  (sRt (eA mkT (aCons (eC (.str "add")) (aCons (eV 2) (aCons (e2 pMod (e2 pIx (eV 1) (eC (.int 1))) (eV 0)) (aCons (eA mkT aNil) (aCons (eV 3) aNil)))))))
  sNil)
  (sRt (eA mkT (aCons (eC (.str "add")) (aCons (eV 2) (aCons (eC (.int 1)) (aCons (eA mkT (aCons (e2 pIx (eV 1) (eC (.int 1))) aNil)) (aCons (eV 3) aNil))))))))
noncomputable def cN:Fn:=fnD 4 4 b_7
theorem kE{ws:List W}(h:ws.length≠4):cN ws M=.bad:=aAC h
noncomputable def b_5(r_bring_by:Fn):FS :=
 (sSeq (sIf (tV (eA eK (aCons (eV 1) aNil)))
  (sRt (eA mkT (aCons (eA cN (aCons (eV 0) (aCons (eV 1) (aCons (eV 2) (aCons (eA mkT (aCons (eV 3) aNil)) aNil))))) aNil)))
  sNil)
  (sSeq (sIf (EV.tB (e2 pEq (e2 pIx (eV 1) (eC (.int 0))) (eC (.str "times"))))
  (sRt (eA cQ (aCons (eV 0) (aCons (eA r_bring_by (aCons (eV 0) (aCons (e2 pIx (eV 1) (eC (.int 2))) (aCons (eV 4) (aCons (eV 3) (aCons (eV 2) aNil)))))) (aCons (eA r_bring_by (aCons (eV 0) (aCons (e2 pIx (eV 1) (eC (.int 1))) (aCons (eV 2) (aCons (eV 4) (aCons (eV 3) aNil)))))) aNil)))))
  sNil)
  (sRt (eA kP (aCons (eV 0) (aCons (e2 pIx (eV 1) (eC (.int 0))) (aCons (eA r_bring_by (aCons (eV 0) (aCons (e2 pIx (eV 1) (eC (.int 1))) (aCons (eV 2) (aCons (eV 3) (aCons (eV 4) aNil)))))) (aCons (eA r_bring_by (aCons (eV 0) (aCons (e2 pIx (eV 1) (eC (.int 2))) (aCons (eV 2) (aCons (eV 3) (aCons (eV 4) aNil)))))) aNil))))))))
noncomputable def cI:Nat->Fn
 |0=>λ_ _=>.bad
 |d+1=>fnD 5 5 (b_5 (cI d))
theorem fM:∀{d:Nat} {ws:List W} {M:Mm},ws.length≠5->cI d ws M=.bad
 |0,_,_,_=>by simp only[cI]
 |d+1,_,_,h=>by simp only[cI];exact aAC h
noncomputable def b_6(r_bring_alone:Fn):FS :=
 (sSeq (sIf (tV (eA eK (aCons (eV 1) aNil)))
  (sRt (eA mkT (aCons (eA cN (aCons (eV 0) (aCons (eV 1) (aCons (eV 2) (aCons (eA mkT aNil) aNil))))) aNil)))
  sNil)
  (sSeq (sIf (EV.tB (e2 pEq (e2 pIx (eV 1) (eC (.int 0))) (eC (.str "times"))))
  (sRt (eA cQ (aCons (eV 0) (aCons (eA r_bring_alone (aCons (eV 0) (aCons (e2 pIx (eV 1) (eC (.int 2))) (aCons (eV 4) (aCons (eV 3) (aCons (eV 2) aNil)))))) (aCons (eA (cI 50) (aCons (eV 0) (aCons (e2 pIx (eV 1) (eC (.int 1))) (aCons (eV 2) (aCons (eV 4) (aCons (eV 3) aNil)))))) aNil)))))
  sNil)
  (sRt (eA kP (aCons (eV 0) (aCons (e2 pIx (eV 1) (eC (.int 0))) (aCons (eA r_bring_alone (aCons (eV 0) (aCons (e2 pIx (eV 1) (eC (.int 1))) (aCons (eV 2) (aCons (eV 3) (aCons (eV 4) aNil)))))) (aCons (eA r_bring_alone (aCons (eV 0) (aCons (e2 pIx (eV 1) (eC (.int 2))) (aCons (eV 2) (aCons (eV 3) (aCons (eV 4) aNil)))))) aNil))))))))
noncomputable def bC:Nat->Fn
 |0=>λ_ _=>.bad
 |d+1=>fnD 5 5 (b_6 (bC d))
theorem fB:∀{d:Nat} {ws:List W} {M:Mm},ws.length≠5->bC d ws M=.bad
 |0,_,_,_=>by simp only[bC]
 |d+1,_,_,h=>by simp only[bC];exact aAC h
noncomputable def b_a(r_how_many:Fn):FS :=
 (sSeq (sIf (tV (eA eK (aCons (eV 0) aNil)))
  (sRt (eC (.int 1)))
  sNil)
  (sSeq (sAs (e2 pAdd (eA r_how_many (aCons (e2 pIx (eV 0) (eC (.int 1))) aNil)) (eA r_how_many (aCons (e2 pIx (eV 0) (eC (.int 2))) aNil))) (gN 1))
  (sSeq (sIf (EV.tB (e2 pEq (e2 pIx (eV 0) (eC (.int 0))) (eC (.str "times"))))
  (sRt (e2 pMulA (eC (.int 2)) (eV 1)))
  sNil)
  (sRt (eV 1)))))
noncomputable def cJ:Nat->Fn
 |0=>λ_ _=>.bad
 |d+1=>fnD 1 2 (b_a (cJ d))
theorem jM:∀{d:Nat} {ws:List W} {M:Mm},ws.length≠1->cJ d ws M=.bad
 |0,_,_,_=>by simp only[cJ]
 |d+1,_,_,h=>by simp only[cJ];exact aAC h
noncomputable def b_b:FS :=
 (sSeq (sIf (EV.tB (e2 pGt (eA (cJ 50) (aCons (eV 2) aNil)) (eV 3)))
  sBad
  sNil)
  (sRt (eA mkT (aCons (eV 0) (aCons (eV 1) (aCons (eC (.int 3)) (aCons (eA (bC 50) (aCons (eV 0) (aCons (eV 2) (aCons (eC (.int 0)) (aCons (eC (.int 1)) (aCons (eC (.int 2)) aNil)))))) aNil)))))))
noncomputable def fP:Fn:=fnD 4 4 b_b
theorem qN{ws:List W}(h:ws.length≠4):fP ws M=.bad:=aAC h
noncomputable def b_c:FS :=
 (sSeq (sIf (EV.tB (e2 pNe (eA lE (aCons (eV 0) (aCons (eV 1) (aCons (eV 2) aNil)))) (eC (.int 1))))
  (sRt (eC (.bl false)))
  sNil)
  (sSeq (sFor (iR2 (eC (.int 1)) (eV 2)) (gN 3)
  (sIf (EV.tB (e2 pIs (eA eM (aCons (eV 0) (aCons (e2 pSub (eA lE (aCons (eV 0) (aCons (eV 1) (aCons (eV 3) aNil)))) (eC (.int 1))) aNil))) (eC .non)))
  (sRt (eC (.bl false)))
  sNil))
  (sRt (eC (.bl true)))))
noncomputable def jH:Fn:=fnD 3 4 b_c
theorem wS{ws:List W}(h:ws.length≠3):jH ws M=.bad:=aAC h
noncomputable def b_d:FS :=
 (sSeq (sFor (iR1 (eV 0)) (gN 2)
  (sIf (tV (eA jH (aCons (eV 0) (aCons (eV 2) (aCons (eV 1) aNil)))))
  (sRt (eV 2))
  sNil))
  (sRt (eC .non)))
noncomputable def rM:Fn:=fnD 2 3 b_d
theorem aFt{ws:List W}(h:ws.length≠2):rM ws M=.bad:=aAC h
noncomputable def b_e:FS :=
 (sSeq (sAs (eA rM (aCons (eV 0) (aCons (eV 1) aNil))) (gN 2))
  (sSeq (sIf (EV.tB (e2 pIs (eV 2) (eC .non)))
  sBad
  sNil)
  (sRt (eV 2))))
noncomputable def jI:Fn:=fnD 2 3 b_e
theorem xP{ws:List W}(h:ws.length≠2):jI ws M=.bad:=aAC h
noncomputable def b_f:FS :=
 (sSeq (sAs (eA eM (aCons (eV 0) (aCons (eV 1) aNil))) (gN 5))
  (sSeq (sAs (eA mkT aNil) (gN 6))
  (sSeq (sFor (iE (eV 3)) (gT 2 (gsCons (gN 7) (gsCons (gN 8) gsNil)))
  (sAs (e2 pAdd (eV 6) (eV 8)) (gN 6)))
  (sSeq (sAs (eA cZ (aCons (eV 0) (aCons (eV 6) aNil))) (gN 9))
  (sSeq (sAs (e2 pAdd (eV 6) (eA cTup (aCons (eComp [none,none,none,none,none,some 0,some 5] (iE (eV 4)) (gT 5 (gsCons (gN 0) (gsCons (gN 1) (gsCons (gN 2) (gsCons (gN 3) (gsCons (gN 4) gsNil)))))) EV.tYes (eA mkT (aCons (eC (.str "add")) (aCons (eV 1) (aCons (e2 pMod (e2 pMulA (eV 6) (eV 2)) (eV 5)) (aCons (eV 3) (aCons (eV 4) aNil))))))) aNil))) (gN 6))
  (sSeq (sAs (e2 pAdd (e2 pAdd (eV 6) (eV 9)) (eA cTup (aCons (eComp [none,none,some 2] (iE (eV 3)) (gT 2 (gsCons (gN 0) (gsCons (gN 1) gsNil))) EV.tYes (eA mkT (aCons (eC (.str "scale")) (aCons (eV 0) (aCons (eV 2) aNil))))) aNil))) (gN 6))
  (sRt (e2 pMulA (eV 6) (eV 1)))))))))
noncomputable def gG:Fn:=fnD 5 10 b_f
theorem tE{ws:List W}(h:ws.length≠5):gG ws M=.bad:=aAC h
noncomputable def b_10:FS :=
 (sRt (eIf (EV.tB (e2 pEq (eV 0) (eC (.int 2)))) (eC (.int 1)) (eC (.int 2))))
noncomputable def iU:Fn:=fnD 1 1 b_10
theorem iZ{ws:List W}(h:ws.length≠1):iU ws M=.bad:=aAC h
noncomputable def b_14:FS :=
 (sSeq (sAs (eA cListR (aCons (eV 0) aNil)) (gN 1))
  (sSeq (sAs (eA cLen (aCons (eV 0) aNil)) (gN 2))
  (sSeq (sAs (eC (.int 1)) (gN 3))
  (sSeq (whileD (EV.tB (e2 pLt (eV 3) (eV 2)))
  (sSeq (sFor (iR1 (eV 2)) (gN 4)
  (sIf (EV.tB (e2 pGt (e2 pAnd (eV 4) (eV 3)) (eC (.int 0))))
  (sAugS (λi j=>i - j) (eV 1) (eV 4) (e2 pIx (eV 1) (e2 pSub (eV 4) (eV 3))))
  sNil))
  (sAs (e2 pMulA (eV 3) (eC (.int 2))) (gN 3))) NW)
  (sRt (eV 1))))))
noncomputable def eF:Fn:=fnD 1 5 b_14
theorem oJ{ws:List W}(h:ws.length≠1):eF ws M=.bad:=aAC h
noncomputable def b_13:FS :=
 (sSeq (sAs (eIf (EV.tB (e2 pEq (eA iU (aCons (eV 0) aNil)) (eC (.int 1)))) (eC (.int 2)) (eC (.int 4))) (gN 3))
  (sSeq (sAs (eA mkR aNil) (gN 4))
  (sSeq (sFor (iR1 (eV 3)) (gN 5)
  (sFor (iR1 (eV 3)) (gN 6)
  (sSeq (sAs (eIf (EV.tAnd (EV.tB (e2 pLt (eV 6) (eV 0))) (EV.tB (e2 pLt (eV 5) (eV 0)))) (e2 pIx (eV 1) (e2 pAdd (e2 pMulA (eV 6) (eV 0)) (eV 5))) (eC (.int 0))) (gN 7))
  (sEx (eM1 pAppend (eV 4) (e2 pAnd (e2 pShr (eV 7) (eV 2)) (eC (.int 1))))))))
  (sRt (eV 4)))))
noncomputable def iX:Fn:=fnD 3 8 b_13
theorem wR{ws:List W}(h:ws.length≠3):iX ws M=.bad:=aAC h
noncomputable def b_15:FS :=
 (sRt (eA cTup (aCons (eComp [none,some 0] (iR1 (e1 pBitlen (eV 0))) (gN 0) (EV.tB (e2 pEq (e2 pAnd (e2 pShr (eV 1) (eV 0)) (eC (.int 1))) (eC (.int 1)))) (eV 0)) aNil)))
noncomputable def gI:Fn:=fnD 1 1 b_15
theorem tD{ws:List W}(h:ws.length≠1):gI ws M=.bad:=aAC h
noncomputable def b_12:FS :=
 (sSeq (sAs (eA eF (aCons (eA iX (aCons (eV 1) (aCons (eV 2) (aCons (eV 3) aNil)))) aNil)) (gN 4))
  (sSeq (sAs (eComp [none,none,some 0] (iEnum (eV 4)) (gT 2 (gsCons (gN 0) (gsCons (gN 1) gsNil))) EV.tYes (eA mkT (aCons (eA gI (aCons (eV 0) aNil)) (aCons (e2 pMod (eV 1) (eV 2)) aNil)))) (gN 5))
  (sRt (eA cTup (aCons (eComp [none,none] (iE (eA cSortTT (aCons (eV 5) aNil))) (gT 2 (gsCons (gN 0) (gsCons (gN 1) gsNil))) (EV.tB (e2 pNe (eV 1) (eC (.int 0)))) (eA mkT (aCons (eV 1) (aCons (eV 0) aNil)))) aNil)))))
noncomputable def fL:Fn:=fnD 4 6 b_12
theorem rD{ws:List W}(h:ws.length≠4):fL ws M=.bad:=aAC h
noncomputable def b_11:FS :=
 (sRt (eA cTup (aCons (eComp [none,some 0,some 1,some 2] (iR1 (eA iU (aCons (eV 1) aNil))) (gN 0) EV.tYes (eA fL (aCons (eV 1) (aCons (eV 2) (aCons (eV 3) (aCons (eV 0) aNil)))))) aNil)))
noncomputable def eB:Fn:=fnD 3 3 b_11
theorem kA{ws:List W}(h:ws.length≠3):eB ws M=.bad:=aAC h
noncomputable def b_16(r_tree_worth:Fn):FS :=
 (sSeq (sIf (EV.tB (e2 pEq (e2 pIx (eV 1) (eC (.int 0))) (eC (.str "leaf"))))
  (sRt (e2 pIx (eV 2) (e2 pIx (eV 1) (eC (.int 1)))))
  sNil)
  (sSeq (sAs (eA r_tree_worth (aCons (eV 0) (aCons (e2 pIx (eV 1) (eC (.int 2))) (aCons (eV 2) aNil)))) (gN 3))
  (sSeq (sAs (eA r_tree_worth (aCons (eV 0) (aCons (e2 pIx (eV 1) (eC (.int 3))) (aCons (eV 2) aNil)))) (gN 4))
  (sRt (e2 pIx (e2 pIx (eV 1) (eC (.int 1))) (e2 pAdd (e2 pMulA (eV 3) (eV 0)) (eV 4)))))))
noncomputable def bS:Nat->Fn
 |0=>λ_ _=>.bad
 |d+1=>fnD 3 5 (b_16 (bS d))
theorem hZ:∀{d:Nat} {ws:List W} {M:Mm},ws.length≠3->bS d ws M=.bad
 |0,_,_,_=>by simp only[bS]
 |d+1,_,_,h=>by simp only[bS];exact aAC h
noncomputable def b_18:FS :=
 (sRt (e2 pAdd (e2 pMulA (eC (.int 2)) (eA iU (aCons (eV 0) aNil))) (eC (.int 1))))
noncomputable def jK:Fn:=fnD 1 1 b_18
theorem oM{ws:List W}(h:ws.length≠1):jK ws M=.bad:=aAC h
noncomputable def b_19(r_tree_deeds:Fn):FS :=
 (sSeq (sAs (eA iU (aCons (eV 1) aNil)) (gN 3))
  (sSeq (sIf (EV.tB (e2 pEq (e2 pIx (eV 2) (eC (.int 0))) (eC (.str "leaf"))))
  (sRt (eV 3))
  sNil)
  (sSeq (sAs (eA cSum (aCons (eComp [none] (iE (eA eB (aCons (eV 0) (aCons (eV 1) (aCons (e2 pIx (eV 2) (eC (.int 1))) aNil))))) (gN 0) EV.tYes (eA cLen (aCons (eV 0) aNil))) aNil)) (gN 4))
  (sSeq (sAs (e2 pAdd (eA r_tree_deeds (aCons (eV 0) (aCons (eV 1) (aCons (e2 pIx (eV 2) (eC (.int 2))) aNil)))) (eA r_tree_deeds (aCons (eV 0) (aCons (eV 1) (aCons (e2 pIx (eV 2) (eC (.int 3))) aNil))))) (gN 5))
  (sRt (e2 pMulA (eA jK (aCons (eV 1) aNil)) (e2 pAdd (e2 pAdd (e2 pMulA (eC (.int 2)) (eV 5)) (eV 4)) (e2 pMulA (eC (.int 2)) (eV 3)))))))))
noncomputable def bW:Nat->Fn
 |0=>λ_ _=>.bad
 |d+1=>fnD 3 6 (b_19 (bW d))
theorem iA:∀{d:Nat} {ws:List W} {M:Mm},ws.length≠3->bW d ws M=.bad
 |0,_,_,_=>by simp only[bW]
 |d+1,_,_,h=>by simp only[bW];exact aAC h
noncomputable def b_1b:FS :=
 (sRt (e2 pAddR (eA mkL (aCons (eA mkT (aCons (e2 pIx (eV 0) (eC (.int 0))) (aCons (eV 1) aNil))) aNil)) (eComp [none] (iE (eSl (eV 0) (oAt (eC (.int 1))) oNo)) (gN 0) EV.tYes (eA mkT (aCons (eV 0) (aCons (eA mkT aNil) aNil))))))
noncomputable def dS:Fn:=fnR 2 2 b_1b
theorem kB{ws:List W}(h:ws.length≠2):dS ws M=.bad:=aAC h
noncomputable def b_1c:FS :=
 (sSeq (sAs (eA mkR aNil) (gN 5))
  (sSeq (sFor (iZip (eV 3) (eA eB (aCons (eV 0) (aCons (eV 1) (aCons (eV 2) aNil))))) (gT 2 (gsCons (gN 6) (gsCons (gN 7) gsNil)))
  (sFor (iE (eV 7)) (gT 2 (gsCons (gN 8) (gsCons (gN 9) gsNil)))
  (sEx (eM1 pAppend (eV 5) (eA mkT (aCons (eC (.str "add")) (aCons (eV 6) (aCons (eV 8) (aCons (eA mkT aNil) (aCons (eA cTup (aCons (eA cSorted (aCons (eComp [none,some 4] (iE (eV 9)) (gN 0) EV.tYes (e2 pIx (eV 1) (eV 0))) aNil)) aNil)) aNil))))))))))
  (sRt (eA cTup (aCons (eV 5) aNil)))))
noncomputable def eQ:Fn:=fnD 5 10 b_1c
theorem oZ{ws:List W}(h:ws.length≠5):eQ ws M=.bad:=aAC h
noncomputable def b_1a(r_tree_row:Fn):FS :=
 (sSeq (sIf (EV.tB (e2 pEq (e2 pIx (eV 3) (eC (.int 0))) (eC (.str "leaf"))))
  (sSeq (sAs (e2 pMulA (eA iU (aCons (eV 1) aNil)) (e2 pIx (eV 3) (eC (.int 1)))) (gN 7))
  (sRt (eA cTup (aCons (eComp [none,none] (iEnumK (eV 4) (eV 7)) (gT 2 (gsCons (gN 0) (gsCons (gN 1) gsNil))) EV.tYes (eA mkT (aCons (eC (.str "add")) (aCons (eV 1) (aCons (eC (.int 1)) (aCons (eA mkT (aCons (eV 0) aNil)) (aCons (eA mkT aNil) aNil))))))) aNil))))
  sNil)
  (sSeq (sAs (eA dS (aCons (eV 5) (aCons (eA r_tree_row (aCons (eV 0) (aCons (eV 1) (aCons (eV 2) (aCons (e2 pIx (eV 3) (eC (.int 2))) (aCons (eV 5) (aCons (eV 4) (aCons (eV 6) aNil)))))))) aNil))) (gN 8))
  (sSeq (sAugL 8 (eA dS (aCons (eV 6) (aCons (eA r_tree_row (aCons (eV 0) (aCons (eV 1) (aCons (eV 2) (aCons (e2 pIx (eV 3) (eC (.int 3))) (aCons (eV 6) (aCons (eV 4) (aCons (eV 5) aNil)))))))) aNil))))
  (sRt (eA gG (aCons (eV 0) (aCons (eA jK (aCons (eV 1) aNil)) (aCons (eV 2) (aCons (eV 8) (aCons (eA eQ (aCons (eV 0) (aCons (eV 1) (aCons (e2 pIx (eV 3) (eC (.int 1))) (aCons (eV 4) (aCons (e2 pAdd (eV 5) (eV 6)) aNil)))))) aNil))))))))))
noncomputable def cR:Nat->Fn
 |0=>λ_ _=>.bad
 |d+1=>fnD 7 9 (b_1a (cR d))
theorem jU:∀{d:Nat} {ws:List W} {M:Mm},ws.length≠7->cR d ws M=.bad
 |0,_,_,_=>by simp only[cR]
 |d+1,_,_,h=>by simp only[cR];exact aAC h
noncomputable def b_17:FS :=
 (sSeq (sAs (eA iU (aCons (eV 1) aNil)) (gN 5))
  (sSeq (sAs (eA jI (aCons (eV 0) (aCons (eA jK (aCons (eV 1) aNil)) aNil))) (gN 6))
  (sSeq (sIf (EV.tB (e2 pGt (eA (bW 50) (aCons (eV 0) (aCons (eV 1) (aCons (eV 3) aNil)))) (eV 4)))
  sBad
  sNil)
  (sSeq (sAs (eComp [none,some 5] (iE (eA mkT (aCons (eC (.int 0)) (aCons (eV 5) (aCons (e2 pMulA (eC (.int 2)) (eV 5)) aNil))))) (gN 0) EV.tYes (eTupleRange2 (eV 0) (e2 pAdd (eV 0) (eV 1)))) (gTL 3 (gsCons (gN 7) (gsCons (gN 8) (gsCons (gN 9) gsNil)))))
  (sRt (eA mkT (aCons (eV 0) (aCons (eV 2) (aCons (e2 pMulA (eC (.int 3)) (eV 5)) (aCons (eA (cR 50) (aCons (eV 0) (aCons (eV 1) (aCons (eV 6) (aCons (eV 3) (aCons (eV 7) (aCons (eV 8) (aCons (eV 9) aNil)))))))) aNil))))))))))
noncomputable def eG:Fn:=fnD 5 10 b_17
theorem oH{ws:List W}(h:ws.length≠5):eG ws M=.bad:=aAC h
noncomputable def b_1f:FS :=
 (sSeq (sAs (eC (.int 1)) (gN 2))
  (sSeq (sFor (iE (eV 0)) (gN 3)
  (sAs (e2 pMulA (eV 2) (e2 pIx (eV 1) (eV 3))) (gN 2)))
  (sRt (eV 2))))
noncomputable def eL:Fn:=fnD 2 4 b_1f
theorem kZ{ws:List W}(h:ws.length≠2):eL ws M=.bad:=aAC h
noncomputable def b_1e:FS :=
 (sSeq (sPar 4 5 (aCons (e2 pIx (eV 1) (eC (.int 1))) (aCons (e2 pIx (eV 1) (eC (.int 2))) aNil)))
  (sSeq (sAs (e2 pIx (eV 3) (eV 4)) (gN 6))
  (sSeq (sIf (EV.tB (e2 pEq (e2 pIx (eV 1) (eC (.int 0))) (eC (.str "scale"))))
  (sAs (e2 pMulA (eV 6) (eV 5)) (gN 6))
  (sAs (e2 pAdd (eV 6) (e2 pMulA (e2 pMulA (eV 5) (eA eL (aCons (e2 pIx (eV 1) (eC (.int 3))) (aCons (eV 2) aNil)))) (eA eL (aCons (e2 pIx (eV 1) (eC (.int 4))) (aCons (eV 3) aNil))))) (gN 6)))
  (sRt (e2 pAdd (e2 pAdd (eSl (eV 3) oNo (oAt (eV 4))) (eA mkT (aCons (e2 pMod (eV 6) (eV 0)) aNil))) (eSl (eV 3) (oAt (e2 pAdd (eV 4) (eC (.int 1)))) oNo))))))
noncomputable def oA:Fn:=fnD 4 7 b_1e
theorem aEx{ws:List W}(h:ws.length≠4):oA ws M=.bad:=aAC h
noncomputable def b_1d:FS :=
 (sSeq (sFor (iE (e2 pIx (eV 0) (eC (.int 3)))) (gN 3)
  (sAs (eA oA (aCons (e2 pIx (eV 0) (eC (.int 0))) (aCons (eV 3) (aCons (eV 1) (aCons (eV 2) aNil))))) (gN 2)))
  (sRt (eV 2)))
noncomputable def xZ:Fn:=fnD 3 4 b_1d
theorem aJf{ws:List W}(h:ws.length≠3):xZ ws M=.bad:=aAC h
noncomputable def b_20(r_holds:Fn):FS :=
 (sSeq (sAs (e2 pIx (eV 0) (eC (.int 0))) (gN 2))
  (sSeq (sIf (EV.tB (e2 pEq (eV 2) (eC (.str "yes"))))
  (sRt (e2 pEq (e2 pIx (eV 1) (e2 pIx (eV 0) (eC (.int 1)))) (eC (.int 1))))
  sNil)
  (sSeq (sIf (EV.tB (e2 pEq (eV 2) (eC (.str "not"))))
  (sRt (e1 pNot (eA r_holds (aCons (e2 pIx (eV 0) (eC (.int 1))) (aCons (eV 1) aNil)))))
  sNil)
  (sSeq (sIf (EV.tB (e2 pEq (eV 2) (eC (.str "and"))))
  (sRt (eAnd (eA r_holds (aCons (e2 pIx (eV 0) (eC (.int 1))) (aCons (eV 1) aNil))) (eA r_holds (aCons (e2 pIx (eV 0) (eC (.int 2))) (aCons (eV 1) aNil)))))
  sNil)
  (sSeq (sIf (EV.tB (e2 pEq (eV 2) (eC (.str "or"))))
  (sRt (eOr (eA r_holds (aCons (e2 pIx (eV 0) (eC (.int 1))) (aCons (eV 1) aNil))) (eA r_holds (aCons (e2 pIx (eV 0) (eC (.int 2))) (aCons (eV 1) aNil)))))
  sNil)
  (sRt (e2 pGe (eA cLen (aCons (eComp [none,some 1] (iE (e2 pIx (eV 0) (eC (.int 2)))) (gN 0) (tV (eA r_holds (aCons (eV 0) (aCons (eV 1) aNil)))) (eV 0)) aNil)) (e2 pIx (eV 0) (eC (.int 1))))))))))
noncomputable def fA:Nat->Fn
 |0=>λ_ _=>.bad
 |d+1=>fnD 2 3 (b_20 (fA d))
theorem fX:∀{d:Nat} {ws:List W} {M:Mm},ws.length≠2->fA d ws M=.bad
 |0,_,_,_=>by simp only[fA]
 |d+1,_,_,h=>by simp only[fA];exact aAC h
noncomputable def b_24:FS :=
 (sSeq (sAs (eA eM (aCons (eV 0) (aCons (eV 1) aNil))) (gN 2))
  (sSeq (sIf (EV.tB (e2 pIs (eV 2) (eC .non)))
  sBad
  sNil)
  (sRt (eV 2))))
noncomputable def jQ:Fn:=fnD 2 3 b_24
theorem qG{ws:List W}(h:ws.length≠2):jQ ws M=.bad:=aAC h
noncomputable def b_23:FS :=
 (sSeq (sAs (eA mkR (aCons (e2 pMod (e2 pIx (eV 1) (eC (.int 0))) (eV 0)) aNil)) (gN 2))
  (sSeq (sAs (eV 1) (gN 3))
  (sSeq (sAs (eC (.int 1)) (gN 4))
  (sSeq (sFor (iR2 (eC (.int 1)) (eA cLen (aCons (eV 1) aNil))) (gN 5)
  (sSeq (sAs (eComp [none,none] (iZip (eV 3) (eSl (eV 3) (oAt (eC (.int 1))) oNo)) (gT 2 (gsCons (gN 0) (gsCons (gN 1) gsNil))) EV.tYes (e2 pSub (eV 1) (eV 0))) (gN 3))
  (sSeq (sAs (e2 pMod (e2 pMulA (eV 4) (eA jQ (aCons (eV 0) (aCons (eV 5) aNil)))) (eV 0)) (gN 4))
  (sEx (eM1 pAppend (eV 2) (e2 pMod (e2 pMulA (e2 pIx (eV 3) (eC (.int 0))) (eV 4)) (eV 0)))))))
  (sRt (eV 2))))))
noncomputable def hV:Fn:=fnD 2 6 b_23
theorem nY{ws:List W}(h:ws.length≠2):hV ws M=.bad:=aAC h
noncomputable def b_22:FS :=
 (sSeq (sAs (eA cLen (aCons (eV 2) aNil)) (gN 3))
  (sSeq (sAs (e2 pIx (eV 2) (eC (.int 0))) (gN 4))
  (sSeq (sFor (iE (eSl (eV 2) (oAt (eC (.int 1))) oNo)) (gN 5)
  (sAs (eA mkT (aCons (eC (.str "sum")) (aCons (eV 4) (aCons (eV 5) aNil)))) (gN 4)))
  (sSeq (sAs (eA hV (aCons (eV 0) (aCons (eComp [none,some 1] (iR1 (e2 pAdd (eV 3) (eC (.int 1)))) (gN 0) EV.tYes (eIf (EV.tB (e2 pGe (eV 0) (eV 1))) (eC (.int 1)) (eC (.int 0)))) aNil))) (gN 6))
  (sSeq (sAs (eA mkT (aCons (eC (.str "num")) (aCons (e2 pIx (eV 6) (eV 3)) aNil))) (gN 7))
  (sSeq (sFor (iDown (eV 3)) (gN 8)
  (sAs (eA mkT (aCons (eC (.str "sum")) (aCons (eA mkT (aCons (eC (.str "num")) (aCons (e2 pIx (eV 6) (eV 8)) aNil))) (aCons (eA mkT (aCons (eC (.str "times")) (aCons (eA mkT (aCons (eC (.str "less")) (aCons (eV 4) (aCons (eA mkT (aCons (eC (.str "num")) (aCons (eV 8) aNil))) aNil)))) (aCons (eV 7) aNil)))) aNil)))) (gN 7)))
  (sRt (eV 7))))))))
noncomputable def jS:Fn:=fnD 3 9 b_22
theorem qU{ws:List W}(h:ws.length≠3):jS ws M=.bad:=aAC h
noncomputable def b_21(r_said:Fn):FS :=
 (sSeq (sAs (e2 pIx (eV 1) (eC (.int 0))) (gN 2))
  (sSeq (sIf (EV.tB (e2 pEq (eV 2) (eC (.str "yes"))))
  (sRt (eA mkT (aCons (eC (.str "given")) (aCons (e2 pIx (eV 1) (eC (.int 1))) aNil))))
  sNil)
  (sSeq (sIf (EV.tB (e2 pEq (eV 2) (eC (.str "not"))))
  (sRt (eA mkT (aCons (eC (.str "less")) (aCons (eA mkT (aCons (eC (.str "num")) (aCons (eC (.int 1)) aNil))) (aCons (eA r_said (aCons (eV 0) (aCons (e2 pIx (eV 1) (eC (.int 1))) aNil))) aNil)))))
  sNil)
  (sSeq (sIf (EV.tB (e2 pEq (eV 2) (eC (.str "least"))))
  (sRt (eA jS (aCons (eV 0) (aCons (e2 pIx (eV 1) (eC (.int 1))) (aCons (eComp [none,some 0] (iE (e2 pIx (eV 1) (eC (.int 2)))) (gN 0) EV.tYes (eA r_said (aCons (eV 1) (aCons (eV 0) aNil)))) aNil)))))
  sNil)
  (sSeq (sAs (eA r_said (aCons (eV 0) (aCons (e2 pIx (eV 1) (eC (.int 1))) aNil))) (gN 3))
  (sSeq (sAs (eA r_said (aCons (eV 0) (aCons (e2 pIx (eV 1) (eC (.int 2))) aNil))) (gN 4))
  (sSeq (sIf (EV.tB (e2 pEq (eV 2) (eC (.str "and"))))
  (sRt (eA mkT (aCons (eC (.str "times")) (aCons (eV 3) (aCons (eV 4) aNil)))))
  sNil)
  (sRt (eA mkT (aCons (eC (.str "less")) (aCons (eA mkT (aCons (eC (.str "sum")) (aCons (eV 3) (aCons (eV 4) aNil)))) (aCons (eA mkT (aCons (eC (.str "times")) (aCons (eV 3) (aCons (eV 4) aNil)))) aNil))))))))))))
noncomputable def gM:Nat->Fn
 |0=>λ_ _=>.bad
 |d+1=>fnD 2 5 (b_21 (gM d))
theorem kY:∀{d:Nat} {ws:List W} {M:Mm},ws.length≠2->gM d ws M=.bad
 |0,_,_,_=>by simp only[gM]
 |d+1,_,_,h=>by simp only[gM];exact aAC h
noncomputable def b_25:FS :=
 (sSeq (sAs (e2 pAdd (e2 pMulA (eC (.int 7919)) (eV 1)) (eC (.int 11))) (gN 2))
  (sSeq (sIf (EV.tB (e2 pLt (eV 1) (eA cLen (aCons (eV 0) aNil))))
  (sAs (e2 pIx (eV 0) (eV 1)) (gN 2))
  (sIf (EV.tB (e2 pGt (eA cLen (aCons (eV 0) aNil)) (eC (.int 0))))
  (sAs (e2 pAdd (eV 2) (e2 pMulA (e2 pMod (e2 pIx (eV 0) (e2 pMod (eV 1) (eA cLen (aCons (eV 0) aNil)))) (eC (.int 2147483629))) (eC (.int 69623)))) (gN 2))
  sNil))
  (sSeq (sAs (e2 pAdd (e2 pMod (e2 pAdd (e2 pMulA (e2 pMod (eV 2) (eC (.int 2147483629))) (eC (.int 48271))) (e2 pMulA (eC (.int 40692)) (eV 1))) (eC (.int 2147483629))) (eC (.int 1))) (gN 3))
  (sRt (eA mkR (aCons (e2 pIx (eA mkL (aCons (eC (.int 0)) (aCons (eV 2) aNil))) (eA cInt (aCons (e2 pGe (eV 2) (e2 pPow (eC (.int 10)) (eC (.int 18)))) aNil))) (aCons (eV 3) (aCons (eC (.int 0)) aNil))))))))
noncomputable def pU:Fn:=fnR 2 4 b_25
theorem aCr{ws:List W}(h:ws.length≠2):pU ws M=.bad:=aAC h
noncomputable def b_26:FS :=
 (sSeq (sIf (EV.tB (e2 pGt (e2 pIx (eV 0) (eC (.int 0))) (eC (.int 0))))
  (sSeq (sAs (e2 pMod (e2 pIx (eV 0) (eC (.int 0))) (eV 1)) (gN 2))
  (sSeq (sAs (e2 pDiv (e2 pIx (eV 0) (eC (.int 0))) (eV 1)) (gS (eV 0) (eC (.int 0))))
  (sRt (eV 2))))
  sNil)
  (sSeq (sAs (e2 pAdd (e2 pIx (eV 0) (eC (.int 2))) (eC (.int 1))) (gS (eV 0) (eC (.int 2))))
  (sSeq (sAs (e2 pMod (e2 pMulA (e2 pAdd (e2 pIx (eV 0) (eC (.int 1))) (e2 pMulA (eC (.int 104729)) (e2 pIx (eV 0) (eC (.int 2))))) (eC (.int 69623))) (eC (.int 2147483647))) (gN 3))
  (sSeq (sAs (e2 pAdd (e2 pMod (e2 pAdd (e2 pMulA (eV 3) (eC (.int 48271))) (eC (.int 30103))) (eC (.int 2147483629))) (eC (.int 1))) (gS (eV 0) (eC (.int 1))))
  (sRt (e2 pMod (e2 pDiv (e2 pAdd (e2 pMulA (eV 3) (eC (.int 2147483647))) (e2 pIx (eV 0) (eC (.int 1)))) (eC (.int 8191))) (eV 1)))))))
noncomputable def dO:Fn:=fnD 2 4 b_26
theorem dE{ws:List W}(h:ws.length≠2):dO ws M=.bad:=aAC h
noncomputable def b_27:FS :=
 (sSeq (sAs (eA dO (aCons (eV 0) (aCons (eC (.int 4)) aNil))) (gN 2))
  (sSeq (sIf (EV.tB (e2 pEq (eV 2) (eC (.int 0))))
  (sRt (e2 pIx (eA mkL (aCons (eC (.int 0)) (aCons (e2 pMod (eC (.int 1)) (eV 1)) (aCons (e2 pSub (eV 1) (eC (.int 1))) (aCons (e2 pMod (e2 pSub (eV 1) (eC (.int 2))) (eV 1)) aNil))))) (eA dO (aCons (eV 0) (aCons (eC (.int 4)) aNil)))))
  sNil)
  (sRt (eA dO (aCons (eV 0) (aCons (eV 1) aNil))))))
noncomputable def kO:Fn:=fnD 2 3 b_27
theorem zM{ws:List W}(h:ws.length≠2):kO ws M=.bad:=aAC h
noncomputable def b_28:FS :=
 (sRt (eA cTup (aCons (eComp [none,some 0,some 1] (iR1 (eV 2)) (gN 0) EV.tYes (eA kO (aCons (eV 1) (aCons (eV 2) aNil)))) aNil)))
noncomputable def jG:Fn:=fnD 3 3 b_28
theorem xW{ws:List W}(h:ws.length≠3):jG ws M=.bad:=aAC h
noncomputable def b_29(r_l_saying:Fn):FS :=
 (sSeq (sIf (EV.tOr (EV.tB (e2 pEq (eV 1) (eC (.int 0)))) (EV.tB (e2 pEq (eA dO (aCons (eV 0) (aCons (eC (.int 4)) aNil))) (eC (.int 0)))))
  (sRt (eA mkT (aCons (eC (.str "yes")) (aCons (eA dO (aCons (eV 0) (aCons (eC (.int 4)) aNil))) aNil))))
  sNil)
  (sSeq (sAs (e2 pIx (eA mkL (aCons (eC (.str "and")) (aCons (eC (.str "or")) aNil))) (eA dO (aCons (eV 0) (aCons (eC (.int 2)) aNil)))) (gN 2))
  (sSeq (sAs (eA r_l_saying (aCons (eV 0) (aCons (e2 pSub (eV 1) (eC (.int 1))) aNil))) (gN 3))
  (sRt (eA mkT (aCons (eV 2) (aCons (eV 3) (aCons (eA r_l_saying (aCons (eV 0) (aCons (e2 pSub (eV 1) (eC (.int 1))) aNil))) aNil))))))))
noncomputable def cU:Nat->Fn
 |0=>λ_ _=>.bad
 |d+1=>fnD 2 4 (b_29 (cU d))
theorem jL:∀{d:Nat} {ws:List W} {M:Mm},ws.length≠2->cU d ws M=.bad
 |0,_,_,_=>by simp only[cU]
 |d+1,_,_,h=>by simp only[cU];exact aAC h
noncomputable def b_2a(r_l_tree:Fn):FS :=
 (sSeq (sIf (EV.tB (e2 pEq (e2 pIx (eV 0) (eC (.int 0))) (eC (.str "yes"))))
  (sRt (eA mkT (aCons (eC (.str "leaf")) (aCons (e2 pIx (eV 0) (eC (.int 1))) aNil))))
  sNil)
  (sSeq (sAs (e2 pIx (eA mkL (aCons (eA mkT (aCons (eC (.int 0)) (aCons (eC (.int 1)) (aCons (eC (.int 1)) (aCons (eC (.int 1)) aNil))))) (aCons (eA mkT (aCons (eC (.int 0)) (aCons (eC (.int 0)) (aCons (eC (.int 0)) (aCons (eC (.int 1)) aNil))))) aNil))) (eA cInt (aCons (e2 pEq (e2 pIx (eV 0) (eC (.int 0))) (eC (.str "and"))) aNil))) (gN 1))
  (sRt (eA mkT (aCons (eC (.str "node")) (aCons (eV 1) (aCons (eA r_l_tree (aCons (e2 pIx (eV 0) (eC (.int 1))) aNil)) (aCons (eA r_l_tree (aCons (e2 pIx (eV 0) (eC (.int 2))) aNil)) aNil))))))))
noncomputable def eI:Nat->Fn
 |0=>λ_ _=>.bad
 |d+1=>fnD 1 2 (b_2a (eI d))
theorem mL:∀{d:Nat} {ws:List W} {M:Mm},ws.length≠1->eI d ws M=.bad
 |0,_,_,_=>by simp only[eI]
 |d+1,_,_,h=>by simp only[eI];exact aAC h
noncomputable def b_2b:FS :=
 (sRt (e2 pAdd (eA mkT (aCons (eC (.str "node")) (aCons (eA cTup (aCons (eComp [none] (iE (e2 pIx (eV 0) (eC (.int 1)))) (gN 0) EV.tYes (e2 pSub (eC (.int 1)) (eV 0))) aNil)) aNil))) (eSl (eV 0) (oAt (eC (.int 2))) oNo)))
noncomputable def mX:Fn:=fnD 1 1 b_2b
theorem aCo{ws:List W}(h:ws.length≠1):mX ws M=.bad:=aAC h
noncomputable def b_2c:FS :=
 (sSeq (sAs (eA mkL (aCons (eA eG (aDef (aCons (eV 0) (aCons (eC (.int 2)) (aCons (eC (.int 4)) (aCons (eV 2) aNil)))) [.int 5000])) (aCons (eA fP (aDef (aCons (eV 0) (aCons (eC (.int 4)) (aCons (eA (gM 50) (aCons (eV 0) (aCons (eV 1) aNil))) aNil))) [.int 5000])) aNil))) (gN 5))
  (sSeq (sFor (iE (eV 4)) (gN 6)
  (sSeq (sAs (eA cTup (aCons (eComp [none,some 6] (iR1 (eC (.int 4))) (gN 0) EV.tYes (e2 pAnd (e2 pShr (eV 1) (eV 0)) (eC (.int 1)))) aNil)) (gN 7))
  (sSeq (sAs (eA cInt (aCons (eA (fA 50) (aCons (eV 1) (aCons (eV 7) aNil))) aNil)) (gN 8))
  (sSeq (sIf (EV.tB (e2 pNe (eA (bS 50) (aCons (eC (.int 2)) (aCons (eV 2) (aCons (eV 7) aNil)))) (eV 8)))
  (sRt (eC (.bl false)))
  sNil)
  (sFor (iE (eV 5)) (gN 9)
  (sIf (EV.tB (e2 pNe (eA xZ (aCons (eV 9) (aCons (eV 7) (aCons (eV 3) aNil)))) (e2 pAdd (eA mkT (aCons (e2 pMod (e2 pAdd (e2 pIx (eV 3) (eC (.int 0))) (eV 8)) (eV 0)) aNil)) (eSl (eV 3) (oAt (eC (.int 1))) oNo))))
  (sRt (eC (.bl false)))
  sNil))))))
  (sRt (eC (.bl true)))))
noncomputable def jE:Fn:=fnD 5 10 b_2c
theorem xJ{ws:List W}(h:ws.length≠5):jE ws M=.bad:=aAC h
noncomputable def b_2d:FS :=
 (sSeq (sFor (iR1 (eA cMax2 (aCons (eC (.int 3)) (aCons (eA cMin2 (aCons (eC (.int 5)) (aCons (eA cLen (aCons (eV 0) aNil)) aNil))) aNil)))) (gN 1)
  (sSeq (sAs (eA pU (aCons (eV 0) (aCons (eV 1) aNil))) (gN 2))
  (sSeq (sAs (e2 pIx (eInts [7,13,19,31,49,91,97,133,1801,247]) (eA dO (aCons (eV 2) (aCons (eC (.int 10)) aNil)))) (gN 3))
  (sSeq (sAs (eA (cU 50) (aCons (eV 2) (aCons (e2 pIx (eA mkL (aCons (eC (.int 1)) (aCons (eC (.int 1)) (aCons (eC (.int 1)) (aCons (eC (.int 2)) aNil))))) (eA dO (aCons (eV 2) (aCons (eC (.int 4)) aNil)))) aNil))) (gN 4))
  (sSeq (sAs (eA (eI 50) (aCons (eV 4) aNil)) (gN 5))
  (sSeq (sIf (EV.tAnd (EV.tB (e2 pNe (e2 pIx (eV 4) (eC (.int 0))) (eC (.str "yes")))) (EV.tB (e2 pEq (eA dO (aCons (eV 2) (aCons (eC (.int 2)) aNil))) (eC (.int 0)))))
  (sPar 4 5 (aCons (eA mkT (aCons (eC (.str "not")) (aCons (eV 4) aNil))) (aCons (eA mX (aCons (eV 5) aNil)) aNil)))
  sNil)
  (sSeq (sAs (e2 pNe (eComp [none] (iE (eSl (eV 5) (oAt (eC (.int 2))) oNo)) (gN 0) (EV.tB (e2 pEq (e2 pIx (eV 0) (eC (.int 0))) (eC (.str "node")))) (eV 0)) (eA mkL aNil)) (gN 6))
  (sSeq (sAs (eListRange3 (e2 pMulA (eA dO (aCons (eV 2) (aCons (eC (.int 3)) aNil))) (eA cInt (aCons (eV 6) aNil))) (eC (.int 16)) (e2 pIx (eA mkL (aCons (eC (.int 1)) (aCons (eC (.int 5)) aNil))) (eA cInt (aCons (eV 6) aNil)))) (gN 7))
  (sIf (EV.tNot (tV (eA jE (aCons (eV 3) (aCons (eV 4) (aCons (eV 5) (aCons (eA jG (aCons (eV 2) (aCons (eV 3) (aCons (eC (.int 3)) aNil)))) (aCons (eV 7) aNil))))))))
  (sRt (eC (.bl false)))
  sNil)))))))))
  (sRt (eC (.bl true))))
noncomputable def qL:Fn:=fnD 1 8 b_2d
set_option genInjectivity false in
set_option genSizeOf false in
structure Adr where
 a_0:Addr
 d_0:FuncData
 a_1:Addr
 d_1:FuncData
 a_2:Addr
 d_2:FuncData
 a_3:Addr
 d_3:FuncData
 a_4:Addr
 d_4:FuncData
 a_5:Addr
 d_5:FuncData
 a_6:Addr
 d_6:FuncData
 a_7:Addr
 d_7:FuncData
 a_8:Addr
 d_8:FuncData
 a_9:Addr
 d_9:FuncData
 a_a:Addr
 d_a:FuncData
 a_b:Addr
 d_b:FuncData
 t_program_of:Tok
 a_c:Addr
 d_c:FuncData
 a_d:Addr
 d_d:FuncData
 a_e:Addr
 d_e:FuncData
 a_f:Addr
 d_f:FuncData
 a_10:Addr
 d_10:FuncData
 a_11:Addr
 d_11:FuncData
 a_12:Addr
 d_12:FuncData
 a_13:Addr
 d_13:FuncData
 a_14:Addr
 d_14:FuncData
 a_15:Addr
 d_15:FuncData
 a_16:Addr
 d_16:FuncData
 a_17:Addr
 d_17:FuncData
 t_tree_program:Tok
 a_18:Addr
 d_18:FuncData
 a_19:Addr
 d_19:FuncData
 a_1a:Addr
 d_1a:FuncData
 a_1b:Addr
 d_1b:FuncData
 a_1c:Addr
 d_1c:FuncData
 a_1d:Addr
 d_1d:FuncData
 a_1e:Addr
 d_1e:FuncData
 a_1f:Addr
 d_1f:FuncData
 a_20:Addr
 d_20:FuncData
 a_21:Addr
 d_21:FuncData
 a_22:Addr
 d_22:FuncData
 a_23:Addr
 d_23:FuncData
 a_24:Addr
 d_24:FuncData
 a_25:Addr
 d_25:FuncData
 a_26:Addr
 d_26:FuncData
 a_27:Addr
 d_27:FuncData
 a_28:Addr
 d_28:FuncData
 a_29:Addr
 d_29:FuncData
 a_2a:Addr
 d_2a:FuncData
 a_2b:Addr
 d_2b:FuncData
 a_2c:Addr
 d_2c:FuncData
 a_2d:Addr
 d_2d:FuncData
structure Tx(K:Frag)(mg:Str->Option Value)(a:Adr):Prop where
 f_0:Fun K "is_single" "is_single" cP a.a_0 a.d_0
 b_0:Binds K a.d_0 aGX []
 k_0:keepIn K (.ref a.a_0)=true
 m_0:mg "is_single"=some (.ref a.a_0)
 f_1:Fun K "inverse" "inverse" dU a.a_1 a.d_1
 b_1:Binds K a.d_1 ["n","k"] []
 k_1:keepIn K (.ref a.a_1)=true
 m_1:mg "inverse"=some (.ref a.a_1)
 f_2:Fun K "power" "power" fZ a.a_2 a.d_2
 b_2:Binds K a.d_2 aGY []
 k_2:keepIn K (.ref a.a_2)=true
 m_2:mg "power"=some (.ref a.a_2)
 f_3:Fun K "deeds_back" "deeds_back" bT a.a_3 a.d_3
 b_3:Binds K a.d_3 aGZ []
 k_3:keepIn K (.ref a.a_3)=true
 m_3:mg "deeds_back"=some (.ref a.a_3)
 f_4:Fun K "deed_back" "deed_back" cO a.a_4 a.d_4
 b_4:Binds K a.d_4 aHA []
 k_4:keepIn K (.ref a.a_4)=true
 m_4:mg "deed_back"=some (.ref a.a_4)
 f_5:Fun K "bring_by" "bring_by" dC a.a_5 a.d_5
 b_5:Binds K a.d_5 aHB []
 k_5:keepIn K (.ref a.a_5)=true
 m_5:mg "bring_by"=some (.ref a.a_5)
 f_6:Fun K "bring_alone" "bring_alone" bP a.a_6 a.d_6
 b_6:Binds K a.d_6 aHB []
 k_6:keepIn K (.ref a.a_6)=true
 m_6:mg "bring_alone"=some (.ref a.a_6)
 f_7:Fun K "single_deed" "single_deed" bQ a.a_7 a.d_7
 b_7:Binds K a.d_7 aHC []
 k_7:keepIn K (.ref a.a_7)=true
 m_7:mg "single_deed"=some (.ref a.a_7)
 f_8:Fun K "both" "both" iO a.a_8 a.d_8
 b_8:Binds K a.d_8 aHD []
 k_8:keepIn K (.ref a.a_8)=true
 m_8:mg "both"=some (.ref a.a_8)
 f_9:Fun K "there_and_back" "there_and_back" aY a.a_9 a.d_9
 b_9:Binds K a.d_9 aHE []
 k_9:keepIn K (.ref a.a_9)=true
 m_9:mg "there_and_back"=some (.ref a.a_9)
 f_a:Fun K "how_many" "how_many" dB a.a_a a.d_a
 b_a:Binds K a.d_a aGX []
 k_a:keepIn K (.ref a.a_a)=true
 m_a:mg "how_many"=some (.ref a.a_a)
 f_b:FunD K "program_of" "program_of" bV a.a_b a.d_b (.int 5000 a.t_program_of)
 b_b:Binds K a.d_b aHF []
 bd_program_of:Binds K a.d_b aHF [.int 5000 a.t_program_of]
 k_b:keepIn K (.ref a.a_b)=true
 m_b:mg "program_of"=some (.ref a.a_b)
 f_c:Fun K "is_root" "is_root" dZ a.a_c a.d_c
 b_c:Binds K a.d_c aHG []
 k_c:keepIn K (.ref a.a_c)=true
 m_c:mg "is_root"=some (.ref a.a_c)
 f_d:Fun K "root" "root" iM a.a_d a.d_d
 b_d:Binds K a.d_d aHH []
 k_d:keepIn K (.ref a.a_d)=true
 m_d:mg "root"=some (.ref a.a_d)
 f_e:Fun K "root_of" "root_of" dX a.a_e a.d_e
 b_e:Binds K a.d_e aHH []
 k_e:keepIn K (.ref a.a_e)=true
 m_e:mg "root_of"=some (.ref a.a_e)
 f_f:Fun K "rounds_by" "rounds_by" bZ a.a_f a.d_f
 b_f:Binds K a.d_f aHI []
 k_f:keepIn K (.ref a.a_f)=true
 m_f:mg "rounds_by"=some (.ref a.a_f)
 f_10:Fun K "bits" "bits" iV a.a_10 a.d_10
 b_10:Binds K a.d_10 ["k"] []
 k_10:keepIn K (.ref a.a_10)=true
 m_10:mg "bits"=some (.ref a.a_10)
 f_11:Fun K "polynomials" "polynomials" bG a.a_11 a.d_11
 b_11:Binds K a.d_11 aHJ []
 k_11:keepIn K (.ref a.a_11)=true
 m_11:mg "polynomials"=some (.ref a.a_11)
 f_12:Fun K "polynomial" "polynomial" bJ a.a_12 a.d_12
 b_12:Binds K a.d_12 aHK []
 k_12:keepIn K (.ref a.a_12)=true
 m_12:mg "polynomial"=some (.ref a.a_12)
 f_13:Fun K "bit_row" "bit_row" dY a.a_13 a.d_13
 b_13:Binds K a.d_13 aHL []
 k_13:keepIn K (.ref a.a_13)=true
 m_13:mg "bit_row"=some (.ref a.a_13)
 f_14:Fun K "term_numbers" "term_numbers" bI a.a_14 a.d_14
 b_14:Binds K a.d_14 ["row"] []
 k_14:keepIn K (.ref a.a_14)=true
 m_14:mg "term_numbers"=some (.ref a.a_14)
 f_15:Fun K "places_of" "places_of" cH a.a_15 a.d_15
 b_15:Binds K a.d_15 aHM []
 k_15:keepIn K (.ref a.a_15)=true
 m_15:mg "places_of"=some (.ref a.a_15)
 f_16:Fun K "tree_worth" "tree_worth" cC a.a_16 a.d_16
 b_16:Binds K a.d_16 aHN []
 k_16:keepIn K (.ref a.a_16)=true
 m_16:mg "tree_worth"=some (.ref a.a_16)
 f_17:FunD K "tree_program" "tree_program" aX a.a_17 a.d_17 (.int 5000 a.t_tree_program)
 b_17:Binds K a.d_17 aHO []
 bd_tree_program:Binds K a.d_17 aHO [.int 5000 a.t_tree_program]
 k_17:keepIn K (.ref a.a_17)=true
 m_17:mg "tree_program"=some (.ref a.a_17)
 f_18:Fun K "order" "order" gD a.a_18 a.d_18
 b_18:Binds K a.d_18 ["k"] []
 k_18:keepIn K (.ref a.a_18)=true
 m_18:mg "order"=some (.ref a.a_18)
 f_19:Fun K "tree_deeds" "tree_deeds" bX a.a_19 a.d_19
 b_19:Binds K a.d_19 aHP []
 k_19:keepIn K (.ref a.a_19)=true
 m_19:mg "tree_deeds"=some (.ref a.a_19)
 f_1a:Fun K "tree_row" "tree_row" cS a.a_1a a.d_1a
 b_1a:Binds K a.d_1a aHQ []
 k_1a:keepIn K (.ref a.a_1a)=true
 m_1a:mg "tree_row"=some (.ref a.a_1a)
 f_1b:Fun K "bringers_to" "bringers_to" bF a.a_1b a.d_1b
 b_1b:Binds K a.d_1b aHR []
 k_1b:keepIn K (.ref a.a_1b)=true
 m_1b:mg "bringers_to"=some (.ref a.a_1b)
 f_1c:Fun K "table_deeds" "table_deeds" bH a.a_1c a.d_1c
 b_1c:Binds K a.d_1c aHS []
 k_1c:keepIn K (.ref a.a_1c)=true
 m_1c:mg "table_deeds"=some (.ref a.a_1c)
 f_1d:Fun K "run" "run" lW a.a_1d a.d_1d
 b_1d:Binds K a.d_1d aHT []
 k_1d:keepIn K (.ref a.a_1d)=true
 m_1d:mg "run"=some (.ref a.a_1d)
 f_1e:Fun K "done" "done" iQ a.a_1e a.d_1e
 b_1e:Binds K a.d_1e aHU []
 k_1e:keepIn K (.ref a.a_1e)=true
 m_1e:mg "done"=some (.ref a.a_1e)
 f_1f:Fun K "product_of" "product_of" cD a.a_1f a.d_1f
 b_1f:Binds K a.d_1f aHV []
 k_1f:keepIn K (.ref a.a_1f)=true
 m_1f:mg "product_of"=some (.ref a.a_1f)
 f_20:Fun K "holds" "holds" fG a.a_20 a.d_20
 b_20:Binds K a.d_20 aHW []
 k_20:keepIn K (.ref a.a_20)=true
 m_20:mg "holds"=some (.ref a.a_20)
 f_21:Fun K "said" "said" hX a.a_21 a.d_21
 b_21:Binds K a.d_21 aHX []
 k_21:keepIn K (.ref a.a_21)=true
 m_21:mg "said"=some (.ref a.a_21)
 f_22:Fun K "said_least" "said_least" bU a.a_22 a.d_22
 b_22:Binds K a.d_22 aHY []
 k_22:keepIn K (.ref a.a_22)=true
 m_22:mg "said_least"=some (.ref a.a_22)
 f_23:Fun K "step_numbers" "step_numbers" bA a.a_23 a.d_23
 b_23:Binds K a.d_23 ["n","row"] []
 k_23:keepIn K (.ref a.a_23)=true
 m_23:mg "step_numbers"=some (.ref a.a_23)
 f_24:Fun K "inverse_of" "inverse_of" cE a.a_24 a.d_24
 b_24:Binds K a.d_24 aHZ []
 k_24:keepIn K (.ref a.a_24)=true
 m_24:mg "inverse_of"=some (.ref a.a_24)
 f_25:Fun K "_law_box" "_law_box" gB a.a_25 a.d_25
 b_25:Binds K a.d_25 aIA []
 k_25:keepIn K (.ref a.a_25)=true
 m_25:mg "_law_box"=some (.ref a.a_25)
 f_26:Fun K "_law_take" "_law_take" eW a.a_26 a.d_26
 b_26:Binds K a.d_26 aIB []
 k_26:keepIn K (.ref a.a_26)=true
 m_26:mg "_law_take"=some (.ref a.a_26)
 f_27:Fun K "_law_rest" "_law_rest" eS a.a_27 a.d_27
 b_27:Binds K a.d_27 aIC []
 k_27:keepIn K (.ref a.a_27)=true
 m_27:mg "_law_rest"=some (.ref a.a_27)
 f_28:Fun K "_law_rests" "_law_rests" dH a.a_28 a.d_28
 b_28:Binds K a.d_28 aID []
 k_28:keepIn K (.ref a.a_28)=true
 m_28:mg "_law_rests"=some (.ref a.a_28)
 f_29:Fun K "_law_saying" "_law_saying" dD a.a_29 a.d_29
 b_29:Binds K a.d_29 aIE []
 k_29:keepIn K (.ref a.a_29)=true
 m_29:mg "_law_saying"=some (.ref a.a_29)
 f_2a:Fun K "_law_tree" "_law_tree" eU a.a_2a a.d_2a
 b_2a:Binds K a.d_2a aIF []
 k_2a:keepIn K (.ref a.a_2a)=true
 m_2a:mg "_law_tree"=some (.ref a.a_2a)
 f_2b:Fun K "_law_not" "_law_not" fK a.a_2b a.d_2b
 b_2b:Binds K a.d_2b aIG []
 k_2b:keepIn K (.ref a.a_2b)=true
 m_2b:mg "_law_not"=some (.ref a.a_2b)
 f_2c:Fun K "_law_right" "_law_right" dJ a.a_2c a.d_2c
 b_2c:Binds K a.d_2c aIH []
 k_2c:keepIn K (.ref a.a_2c)=true
 m_2c:mg "_law_right"=some (.ref a.a_2c)
 f_2d:Fun K "law" "law" kN a.a_2d a.d_2d
 b_2d:Binds K a.d_2d aII []
 k_2d:keepIn K (.ref a.a_2d)=true
 m_2d:mg "law"=some (.ref a.a_2d)
 z_enumerate:mg "enumerate"=none
 z_int:mg "int"=none
 z_len:mg "len"=none
 z_list:mg "list"=none
 z_max:mg "max"=none
 z_min:mg "min"=none
 z_range:mg "range"=none
 z_reversed:mg "reversed"=none
 z_sorted:mg "sorted"=none
 z_sum:mg "sum"=none
 z_tuple:mg "tuple"=none
 z_zip:mg "zip"=none
theorem vH:FnScope aGX aGX (defScope cP):=by constructor<;>first|rfl|decide +kernel
theorem fC:FnScope ["n","k","high","low","past","now","times"] ["n","k"] (defScope dU):=by constructor<;>first|rfl|decide +kernel
theorem hW:FnScope ["n","k","e","told","square","left"] aGY (defScope fZ):=by constructor<;>first|rfl|decide +kernel
theorem sQ:FnScope aGZ aGZ (defScope bT):=by constructor<;>first|rfl|decide +kernel
theorem vO:FnScope aHA aHA (defScope cO):=by constructor<;>first|rfl|decide +kernel
theorem wU:FnScope aHB aHB (defScope dC):=by constructor<;>first|rfl|decide +kernel
theorem rZ:FnScope aHB aHB (defScope bP):=by constructor<;>first|rfl|decide +kernel
theorem qZ:FnScope aHC aHC (defScope bQ):=by constructor<;>first|rfl|decide +kernel
theorem aJn:FnScope aHD aHD (defScope iO):=by constructor<;>first|rfl|decide +kernel
theorem mZ:FnScope aHE aHE (defScope aY):=by constructor<;>first|rfl|decide +kernel
theorem oX:FnScope ["expr","many"] aGX (defScope dB):=by constructor<;>first|rfl|decide +kernel
theorem tH:FnScope aHF aHF (defScope bV):=by constructor<;>first|rfl|decide +kernel
theorem qO:FnScope ["n","w","m","i"] aHG (defScope dZ):=by constructor<;>first|rfl|decide +kernel
theorem aAk:FnScope ["n","m","w"] aHH (defScope iM):=by constructor<;>first|rfl|decide +kernel
theorem rJ:FnScope ["n","m","w"] aHH (defScope dX):=by constructor<;>first|rfl|decide +kernel
theorem cL:FnScope aIJ aHI (defScope bZ):=by constructor<;>first|rfl|decide +kernel
theorem aJq:FnScope ["k"] ["k"] (defScope iV):=by constructor<;>first|rfl|decide +kernel
theorem qE:FnScope aHJ aHJ (defScope bG):=by constructor<;>first|rfl|decide +kernel
theorem iP:FnScope aIK aHK (defScope bJ):=by constructor<;>first|rfl|decide +kernel
theorem fV:FnScope ["k","table","bit","room","row","b","a","entry"] aHL (defScope dY):=by constructor<;>first|rfl|decide +kernel
theorem cX:FnScope ["row","numbers","many","step","chosen"] ["row"] (defScope bI):=by constructor<;>first|rfl|decide +kernel
theorem vX:FnScope aHM aHM (defScope cH):=by constructor<;>first|rfl|decide +kernel
theorem iL:FnScope ["k","tree","values","one","other"] aHN (defScope cC):=by constructor<;>first|rfl|decide +kernel
theorem cW:FnScope aIL aHO (defScope aX):=by constructor<;>first|rfl|decide +kernel
theorem aFb:FnScope ["k"] ["k"] (defScope gD):=by constructor<;>first|rfl|decide +kernel
theorem gC:FnScope aIM aHP (defScope bX):=by constructor<;>first|rfl|decide +kernel
theorem iJ:FnScope aIN aHQ (defScope cS):=by constructor<;>first|rfl|decide +kernel
theorem qK:FnScope aHR aHR (defScope bF):=by constructor<;>first|rfl|decide +kernel
theorem dN:FnScope aIO aHS (defScope bH):=by constructor<;>first|rfl|decide +kernel
theorem zC:FnScope ["program","givens","contents","deed"] aHT (defScope lW):=by constructor<;>first|rfl|decide +kernel
theorem nF:FnScope ["n","deed","givens","contents","shelf","number","lies"] aHU (defScope iQ):=by constructor<;>first|rfl|decide +kernel
theorem gA:FnScope ["places","numbers","told","place"] aHV (defScope cD):=by constructor<;>first|rfl|decide +kernel
theorem wG:FnScope ["saying","answers","word"] aHW (defScope fG):=by constructor<;>first|rfl|decide +kernel
theorem pO:FnScope aIP aHX (defScope hX):=by constructor<;>first|rfl|decide +kernel
theorem cG:FnScope aIQ aHY (defScope bU):=by constructor<;>first|rfl|decide +kernel
theorem cK:FnScope aIR ["n","row"] (defScope bA):=by constructor<;>first|rfl|decide +kernel
theorem mF:FnScope ["n","number","told"] aHZ (defScope cE):=by constructor<;>first|rfl|decide +kernel
theorem kU:FnScope ["_law_script","_law_k","_law_cell","_law_seed"] aIA (defScope gB):=by constructor<;>first|rfl|decide +kernel
theorem oD:FnScope ["_law_box_here","_law_many","_law_digit","_law_one"] aIB (defScope eW):=by constructor<;>first|rfl|decide +kernel
theorem tK:FnScope ["_law_box_here","_law_n","_law_form"] aIC (defScope eS):=by constructor<;>first|rfl|decide +kernel
theorem zS:FnScope aID aID (defScope dH):=by constructor<;>first|rfl|decide +kernel
theorem kK:FnScope ["_law_box_here","_law_deep","_law_word","_law_one"] aIE (defScope dD):=by constructor<;>first|rfl|decide +kernel
theorem tQ:FnScope ["_law_saying_here","_law_table"] aIF (defScope eU):=by constructor<;>first|rfl|decide +kernel
theorem aGd:FnScope aIG aIG (defScope fK):=by constructor<;>first|rfl|decide +kernel
theorem fS:FnScope aIS aIH (defScope dJ):=by constructor<;>first|rfl|decide +kernel
theorem jR:FnScope aIT aII (defScope kN):=by constructor<;>first|rfl|decide +kernel
variable{K:Frag}{mg:Str->Option Value}{a:Adr}
theorem jP(T:Tx K mg a):FnOk P w K mg base CX0 1 a.a_0 a.d_0 aGX (spF K Z0 1 eK) :=
 bK (k:=0) T.f_0 vH λcdv A outer s H E hr=>show Ess _ K Z0 (defBody cP) b_0 from
  (aF (aJ (oE opIn (aK (aB 0) aC) (aQ (aA aP (aA aP (aA aP aD)))) (by with_unfolding_all rfl))))
theorem jT(T:Tx K mg a):FnOk P w K mg base CX0 1 a.a_1 a.d_1 ["n","k"] (spF K Z0 2 eM) :=
 bK (k:=0) T.f_1 fC λcdv A outer s H E hr=>show Ess _ K Z0 (defBody dU) b_1 from
  (aE (sH (i:=2) (j:=3) rfl fC.nd (aA (aB 0) (aA (aI opMod (aB 1) (aB 0)) aD)))
  (aE (qH (aQ (aA aC (aA aC aD))) (iT rfl (aW (aN (i:=4) fC.nd) (aW (aN (i:=5) fC.nd) fN))))
  (aE (sA NW aBE (aS opGt (aB 3) aC (nomark _))
  (aE (aL (i:=6) fC.nd (aI opDiv (aB 2) (aB 3)))
  (aE (sH (i:=2) (j:=3) rfl fC.nd (aA (aB 3) (aA (aI opSub (aB 2) (aI opMulA (aB 6) (aB 3))) aD)))
  (aF (sH (i:=4) (j:=5) rfl fC.nd (aA (aB 5) (aA (aI opSub (aB 4) (aI opMulA (aB 6) (aB 5))) aD)))))))
  (aE (bN (aS (opNe (aT hr)) (aB 2) aC (nomark _))
  (aF (aJ qT))
  aR)
  (aF (aJ (aI opMod (aB 4) (aB 0))))))))
theorem wP(T:Tx K mg a):FnOk P w K mg base CX0 1 a.a_2 a.d_2 aGY (spF K Z0 3 lE) :=
 bK (k:=0) T.f_2 hW λcdv A outer s H E hr=>show Ess _ K Z0 (defBody fZ) b_2 from
  (aE (aL (i:=3) hW.nd (aI opMod aC (aB 0)))
  (aE (aL (i:=4) hW.nd (aI opMod (aB 1) (aB 0)))
  (aE (aL (i:=5) hW.nd (aB 2))
  (aE (sA NW aBE (aS opGt (aB 5) aC (nomark _))
  (aE (bN (aS (opEq (aT hr)) (aI opMod (aB 5) aC) aC (nomark _))
  (aF (aL (i:=3) hW.nd (aI opMod (aI opMulA (aB 3) (aB 4)) (aB 0))))
  aR)
  (aE (aL (i:=4) hW.nd (aI opMod (aI opMulA (aB 4) (aB 4)) (aB 0)))
  (aF (aL (i:=5) hW.nd (aI opDiv (aB 5) aC))))))
  (aF (aJ (aB 3)))))))
theorem uM(T:Tx K mg a):FnOk P w K mg base CX0 2 a.a_4 a.d_4 aHA (spF K Z0 2 fD) :=
 bK (k:=1) T.f_4 vO λcdv A outer s H E hr=>show Ess _ K Z0 (defBody cO) b_4 from
  (aE (bN (aS (opEq (aT hr)) (aK (aB 1) aC) aP (nomark _))
  (aF (aJ (aQ (aA aP (aA (aK (aB 1) aC) (aA (aG ((jT T).mono (by lia)) hr T.m_1 T.k_1 T.b_1 (aA (aB 0) (aA (aK (aB 1) aC) aD)) (hlen:=λ_ _ h=>iC h)) aD))))))
  aR)
  (aF (aJ (aQ (aA aP (aA (aK (aB 1) aC) (aA (aI opMod (aPg (aK (aB 1) aC)) (aB 0)) (aA (aK (aB 1) aC) (aA (aK (aB 1) aC) aD)))))))))
theorem gE(T:Tx K mg a):FnOk P w K mg base CX0 3 a.a_3 a.d_3 aGZ (spF K Z0 2 cZ) :=
 bK (k:=2) T.f_3 sQ λcdv A outer s H E hr=>show Ess _ K Z0 (defBody bT) b_3 from
  (aF (aJ (cA callTup rfl T.z_tuple dR (aA (cV rfl (CompOk.of (N0:=aGZ) (sc0:=defScope bT) (Nc:=["deed","n"]) (js:=[none,some 0]) (by decide +kernel)) (aOg T.z_reversed (aB 1)) (λ_ _ _ _ _ _=>(aN (i:=0) (show(["deed","n"]:List Str).Nodup by decide +kernel))) (λ_ _ _ _ _ _=>dF) (λ_ _ _ _ _ _=>(aG ((uM T).mono (by lia)) hr T.m_4 T.k_4 T.b_4 (aA (aB 1) (aA (aB 0) aD)) (hlen:=λ_ _ h=>sI h)))) aD))))
theorem aBs(T:Tx K mg a):FnOk P w K mg base CX0 4 a.a_8 a.d_8 aHD (spF K Z0 4 kP) :=
 bK (k:=3) T.f_8 aJn λcdv A outer s H E hr=>show Ess _ K Z0 (defBody iO) b_8 from
  (aE (bN (aS (opEq (aT hr)) (aB 1) aP (nomark _))
  (aF (aJ (aI opAdd (aB 2) (aG ((gE T).mono (by lia)) hr T.m_3 T.k_3 T.b_3 (aA (aB 0) (aA (aB 3) aD)) (hlen:=λ_ _ h=>fJ h)))))
  aR)
  (aF (aJ (aI opAdd (aB 2) (aB 3)))))
theorem iH(T:Tx K mg a):FnOk P w K mg base CX0 4 a.a_9 a.d_9 aHE (spF K Z0 3 cQ) :=
 bK (k:=3) T.f_9 mZ λcdv A outer s H E hr=>show Ess _ K Z0 (defBody aY) b_9 from
  (aF (aJ (aI opAdd (aI opAdd (aI opAdd (aB 1) (aB 2)) (aG ((gE T).mono (by lia)) hr T.m_3 T.k_3 T.b_3 (aA (aB 0) (aA (aB 1) aD)) (hlen:=λ_ _ h=>fJ h))) (aG ((gE T).mono (by lia)) hr T.m_3 T.k_3 T.b_3 (aA (aB 0) (aA (aB 2) aD)) (hlen:=λ_ _ h=>fJ h)))))
theorem kT(T:Tx K mg a):FnOk P w K mg base CX0 1 a.a_7 a.d_7 aHC (spF K Z0 4 cN) :=
 bK (k:=0) T.f_7 qZ λcdv A outer s H E hr=>show Ess _ K Z0 (defBody bQ) b_7 from
  (aE (bN (aS (opEq (aT hr)) (aK (aB 1) aC) aP (nomark _))
  (aF (aJ (aQ (aA aP (aA (aB 2) (aA (aI opMod (aK (aB 1) aC) (aB 0)) (aA (aQ aD) (aA (aB 3) aD))))))))
  aR)
  (aF (aJ (aQ (aA aP (aA (aB 2) (aA aC (aA (aQ (aA (aK (aB 1) aC) aD)) (aA (aB 3) aD)))))))))
theorem kG(T:Tx K mg a):∀d:Nat,FnOk P w K mg base CX0 (d+4) a.a_5 a.d_5 aHB (spF K Z0 5 (cI (d)))
 |0=>iS rfl
 |d+1=>by
  have ih:=kG T d
  have ih_bring_by:=ih
  rw[show d+1+4=(d+4)+1 by lia]
  exact bK (k:=d+4) T.f_5 wU λcdv A outer s H E hr=>show Ess _ K Z0 (defBody dC) (b_5 (cI d))from
  (aE (bN (oI (aG ((jP T).mono (by lia)) hr T.m_0 T.k_0 T.b_0 (aA (aB 1) aD) (hlen:=λ_ _ h=>iN h)))
  (aF (aJ (aQ (aA (aG ((kT T).mono (by lia)) hr T.m_7 T.k_7 T.b_7 (aA (aB 0) (aA (aB 1) (aA (aB 2) (aA (aQ (aA (aB 3) aD)) aD)))) (hlen:=λ_ _ h=>kE h)) aD))))
  aR)
  (aE (bN (aS (opEq (aT hr)) (aK (aB 1) aC) aP (nomark _))
  (aF (aJ (aG ((iH T).mono (by lia)) hr T.m_9 T.k_9 T.b_9 (aA (aB 0) (aA (aG ih_bring_by hr T.m_5 T.k_5 T.b_5 (aA (aB 0) (aA (aK (aB 1) aC) (aA (aB 4) (aA (aB 3) (aA (aB 2) aD))))) (hlen:=λ_ _ h=>fM h)) (aA (aG ih_bring_by hr T.m_5 T.k_5 T.b_5 (aA (aB 0) (aA (aK (aB 1) aC) (aA (aB 2) (aA (aB 4) (aA (aB 3) aD))))) (hlen:=λ_ _ h=>fM h)) aD))) (hlen:=λ_ _ h=>gY h))))
  aR)
  (aF (aJ (aG ((aBs T).mono (by lia)) hr T.m_8 T.k_8 T.b_8 (aA (aB 0) (aA (aK (aB 1) aC) (aA (aG ih_bring_by hr T.m_5 T.k_5 T.b_5 (aA (aB 0) (aA (aK (aB 1) aC) (aA (aB 2) (aA (aB 3) (aA (aB 4) aD))))) (hlen:=λ_ _ h=>fM h)) (aA (aG ih_bring_by hr T.m_5 T.k_5 T.b_5 (aA (aB 0) (aA (aK (aB 1) aC) (aA (aB 2) (aA (aB 3) (aA (aB 4) aD))))) (hlen:=λ_ _ h=>fM h)) aD)))) (hlen:=λ_ _ h=>xS h))))))
theorem yA(d:Nat)(T:Tx K mg a):FnOk P w K mg base CX0 (d+4) a.a_5 a.d_5 aHB (spF K Z0 5 (cI d)):=(kG T d)
theorem hU(T:Tx K mg a):∀d:Nat,FnOk P w K mg base CX0 (d+54) a.a_6 a.d_6 aHB (spF K Z0 5 (bC (d)))
 |0=>iS rfl
 |d+1=>by
  have ih:=hU T d
  have ih_bring_alone:=ih
  rw[show d+1+54=(d+54)+1 by lia]
  exact bK (k:=d+54) T.f_6 rZ λcdv A outer s H E hr=>show Ess _ K Z0 (defBody bP) (b_6 (bC d))from
  (aE (bN (oI (aG ((jP T).mono (by lia)) hr T.m_0 T.k_0 T.b_0 (aA (aB 1) aD) (hlen:=λ_ _ h=>iN h)))
  (aF (aJ (aQ (aA (aG ((kT T).mono (by lia)) hr T.m_7 T.k_7 T.b_7 (aA (aB 0) (aA (aB 1) (aA (aB 2) (aA (aQ aD) aD)))) (hlen:=λ_ _ h=>kE h)) aD))))
  aR)
  (aE (bN (aS (opEq (aT hr)) (aK (aB 1) aC) aP (nomark _))
  (aF (aJ (aG ((iH T).mono (by lia)) hr T.m_9 T.k_9 T.b_9 (aA (aB 0) (aA (aG ih_bring_alone hr T.m_6 T.k_6 T.b_6 (aA (aB 0) (aA (aK (aB 1) aC) (aA (aB 4) (aA (aB 3) (aA (aB 2) aD))))) (hlen:=λ_ _ h=>fB h)) (aA (aG ((yA 50 T).mono (by lia)) hr T.m_5 T.k_5 T.b_5 (aA (aB 0) (aA (aK (aB 1) aC) (aA (aB 2) (aA (aB 4) (aA (aB 3) aD))))) (hlen:=λ_ _ h=>fM h)) aD))) (hlen:=λ_ _ h=>gY h))))
  aR)
  (aF (aJ (aG ((aBs T).mono (by lia)) hr T.m_8 T.k_8 T.b_8 (aA (aB 0) (aA (aK (aB 1) aC) (aA (aG ih_bring_alone hr T.m_6 T.k_6 T.b_6 (aA (aB 0) (aA (aK (aB 1) aC) (aA (aB 2) (aA (aB 3) (aA (aB 4) aD))))) (hlen:=λ_ _ h=>fB h)) (aA (aG ih_bring_alone hr T.m_6 T.k_6 T.b_6 (aA (aB 0) (aA (aK (aB 1) aC) (aA (aB 2) (aA (aB 3) (aA (aB 4) aD))))) (hlen:=λ_ _ h=>fB h)) aD)))) (hlen:=λ_ _ h=>xS h))))))
theorem sD(d:Nat)(T:Tx K mg a):FnOk P w K mg base CX0 (d+54) a.a_6 a.d_6 aHB (spF K Z0 5 (bC d)):=(hU T d)
theorem kI(T:Tx K mg a):∀d:Nat,FnOk P w K mg base CX0 (d+1) a.a_a a.d_a aGX (spF K Z0 1 (cJ (d)))
 |0=>iS rfl
 |d+1=>by
  have ih:=kI T d
  have ih_how_many:=ih
  rw[show d+1+1=(d+1)+1 by lia]
  exact bK (k:=d+1) T.f_a oX λcdv A outer s H E hr=>show Ess _ K Z0 (defBody dB) (b_a (cJ d))from
  (aE (bN (oI (aG ((jP T).mono (by lia)) hr T.m_0 T.k_0 T.b_0 (aA (aB 0) aD) (hlen:=λ_ _ h=>iN h)))
  (aF (aJ aC))
  aR)
  (aE (aL (i:=1) oX.nd (aI opAdd (aG ih_how_many hr T.m_a T.k_a T.b_a (aA (aK (aB 0) aC) aD) (hlen:=λ_ _ h=>jM h)) (aG ih_how_many hr T.m_a T.k_a T.b_a (aA (aK (aB 0) aC) aD) (hlen:=λ_ _ h=>jM h))))
  (aE (bN (aS (opEq (aT hr)) (aK (aB 0) aC) aP (nomark _))
  (aF (aJ (aI opMulA aC (aB 1))))
  aR)
  (aF (aJ (aB 1))))))
theorem wM(d:Nat)(T:Tx K mg a):FnOk P w K mg base CX0 (d+1) a.a_a a.d_a aGX (spF K Z0 1 (cJ d)):=(kI T d)
theorem sL(T:Tx K mg a):FnOk P w K mg base CX0 105 a.a_b a.d_b aHF (spF K Z0 4 fP) :=
 aFu (k:=104) T.f_b.g tH λcdv A outer s H E hr=>show Ess _ K Z0 (defBody bV) b_b from
  (aE (bN (aS opGt (aG ((wM 50 T).mono (by lia)) hr T.m_a T.k_a T.b_a (aA (aB 2) aD) (hlen:=λ_ _ h=>jM h)) (aB 3) (nomark _))
  (aF vW)
  aR)
  (aF (aJ (aQ (aA (aB 0) (aA (aB 1) (aA aC (aA (aG ((sD 50 T).mono (by lia)) hr T.m_6 T.k_6 T.b_6 (aA (aB 0) (aA (aB 2) (aA aC (aA aC (aA aC aD))))) (hlen:=λ_ _ h=>fB h)) aD))))))))
theorem zP(T:Tx K mg a):FnOk P w K mg base CX0 2 a.a_c a.d_c aHG (spF K Z0 3 jH) :=
 bK (k:=1) T.f_c qO λcdv A outer s H E hr=>show Ess _ K Z0 (defBody dZ) b_c from
  (aE (bN (aS (opNe (aT hr)) (aG ((wP T).mono (by lia)) hr T.m_2 T.k_2 T.b_2 (aA (aB 0) (aA (aB 1) (aA (aB 2) aD))) (hlen:=λ_ _ h=>tU h)) aC (nomark _))
  (aF (aJ oR))
  aR)
  (aE (eO aBE rfl (uB T.z_range aC (aB 2)) (aN (i:=3) qO.nd)
  (aF (bN (aS opIs (aG ((jT T).mono (by lia)) hr T.m_1 T.k_1 T.b_1 (aA (aB 0) (aA (aI opSub (aG ((wP T).mono (by lia)) hr T.m_2 T.k_2 T.b_2 (aA (aB 0) (aA (aB 1) (aA (aB 3) aD))) (hlen:=λ_ _ h=>tU h)) aC) aD)) (hlen:=λ_ _ h=>iC h)) qT (nomark _))
  (aF (aJ oR))
  aR)))
  (aF (aJ oR))))
theorem aIt(T:Tx K mg a):FnOk P w K mg base CX0 3 a.a_d a.d_d aHH (spF K Z0 2 rM) :=
 bK (k:=2) T.f_d aAk λcdv A outer s H E hr=>show Ess _ K Z0 (defBody iM) b_d from
  (aE (eO aBE rfl (dW T.z_range (aB 0)) (aN (i:=2) aAk.nd)
  (aF (bN (oI (aG ((zP T).mono (by lia)) hr T.m_c T.k_c T.b_c (aA (aB 0) (aA (aB 2) (aA (aB 1) aD))) (hlen:=λ_ _ h=>wS h)))
  (aF (aJ (aB 2)))
  aR)))
  (aF (aJ qT)))
theorem zW(T:Tx K mg a):FnOk P w K mg base CX0 4 a.a_e a.d_e aHH (spF K Z0 2 jI) :=
 bK (k:=3) T.f_e rJ λcdv A outer s H E hr=>show Ess _ K Z0 (defBody dX) b_e from
  (aE (aL (i:=2) rJ.nd (aG ((aIt T).mono (by lia)) hr T.m_d T.k_d T.b_d (aA (aB 0) (aA (aB 1) aD)) (hlen:=λ_ _ h=>aFt h)))
  (aE (bN (aS opIs (aB 2) qT (nomark _))
  (aF vW)
  aR)
  (aF (aJ (aB 2)))))
theorem vT(T:Tx K mg a):FnOk P w K mg base CX0 4 a.a_f a.d_f aHI (spF K Z0 5 gG) :=
 bK (k:=3) T.f_f cL λcdv A outer s H E hr=>show Ess _ K Z0 (defBody bZ) b_f from
  (aE (aL (i:=5) cL.nd (aG ((jT T).mono (by lia)) hr T.m_1 T.k_1 T.b_1 (aA (aB 0) (aA (aB 1) aD)) (hlen:=λ_ _ h=>iC h)))
  (aE (aL (i:=6) cL.nd (aQ aD))
  (aE (eO aBE rfl (kJ (aB 3)) (iT rfl (aW (aN (i:=7) cL.nd) (aW (aN (i:=8) cL.nd) fN)))
  (aF (aL (i:=6) cL.nd (aI opAdd (aB 6) (aB 8)))))
  (aE (aL (i:=9) cL.nd (aG ((gE T).mono (by lia)) hr T.m_3 T.k_3 T.b_3 (aA (aB 0) (aA (aB 6) aD)) (hlen:=λ_ _ h=>fJ h)))
  (aE (aL (i:=6) cL.nd (aI opAdd (aB 6) (cA callTup rfl T.z_tuple dR (aA (cV rfl (CompOk.of (N0:=aIJ) (sc0:=defScope bZ) (Nc:=aIU) (js:=[none,none,none,none,none,some 0,some 5]) (by decide +kernel)) (kJ (aB 4)) (λ_ _ _ _ _ _=>(iT rfl (aW (aN (i:=0) (show(aIU:List Str).Nodup by decide +kernel)) (aW (aN (i:=1) (show(aIU:List Str).Nodup by decide +kernel)) (aW (aN (i:=2) (show(aIU:List Str).Nodup by decide +kernel)) (aW (aN (i:=3) (show(aIU:List Str).Nodup by decide +kernel)) (aW (aN (i:=4) (show(aIU:List Str).Nodup by decide +kernel)) fN))))))) (λ_ _ _ _ _ _=>dF) (λ_ _ _ _ _ _=>(aQ (aA aP (aA (aB 1) (aA (aI opMod (aI opMulA (aB 6) (aB 2)) (aB 5)) (aA (aB 3) (aA (aB 4) aD)))))))) aD))))
  (aE (aL (i:=6) cL.nd (aI opAdd (aI opAdd (aB 6) (aB 9)) (cA callTup rfl T.z_tuple dR (aA (cV rfl (CompOk.of (N0:=aIJ) (sc0:=defScope bZ) (Nc:=aIV) (js:=[none,none,some 2]) (by decide +kernel)) (kJ (aB 3)) (λ_ _ _ _ _ _=>(iT rfl (aW (aN (i:=0) (show(aIV:List Str).Nodup by decide +kernel)) (aW (aN (i:=1) (show(aIV:List Str).Nodup by decide +kernel)) fN)))) (λ_ _ _ _ _ _=>dF) (λ_ _ _ _ _ _=>(aQ (aA aP (aA (aB 0) (aA (aB 2) aD)))))) aD))))
  (aF (aJ (aI opMulA (aB 6) (aB 1))))))))))
theorem lN(T:Tx K mg a):FnOk P w K mg base CX0 1 a.a_10 a.d_10 ["k"] (spF K Z0 1 iU) :=
 bK (k:=0) T.f_10 aJq λcdv A outer s H E hr=>show Ess _ K Z0 (defBody iV) b_10 from
  (aF (aJ (aBm (aS (opEq (aT hr)) (aB 0) aC (nomark _)) aC aC)))
theorem pC(T:Tx K mg a):FnOk P w K mg base CX0 1 a.a_14 a.d_14 ["row"] (spF K Z0 1 eF) :=
 bK (k:=0) T.f_14 cX λcdv A outer s H E hr=>show Ess _ K Z0 (defBody bI) b_14 from
  (aE (aL (i:=1) cX.nd (cA callListR rfl T.z_list aKb (aA (aB 0) aD)))
  (aE (aL (i:=2) cX.nd (cY callLen rfl T.z_len aCX (aA (aB 0) aD)))
  (aE (aL (i:=3) cX.nd aC)
  (aE (sA NW aBE (aS opLt (aB 3) (aB 2) (nomark _))
  (aE (eO aBE rfl (dW T.z_range (aB 2)) (aN (i:=4) cX.nd)
  (aF (bN (aS opGt (aI opAnd (aB 4) (aB 3)) aC (nomark _))
  (aF (aJr aNg (aB 1) (aB 4) (aK (aB 1) (aI opSub (aB 4) (aB 3)))))
  aR)))
  (aF (aL (i:=3) cX.nd (aI opMulA (aB 3) aC)))))
  (aF (aJ (aB 1)))))))
theorem zY(T:Tx K mg a):FnOk P w K mg base CX0 2 a.a_13 a.d_13 aHL (spF K Z0 3 iX) :=
 bK (k:=1) T.f_13 fV λcdv A outer s H E hr=>show Ess _ K Z0 (defBody dY) b_13 from
  (aE (aL (i:=3) fV.nd (aBm (aS (opEq (aT hr)) (aG ((lN T).mono (by lia)) hr T.m_10 T.k_10 T.b_10 (aA (aB 0) aD) (hlen:=λ_ _ h=>iZ h)) aC (nomark _)) aC aC))
  (aE (aL (i:=4) fV.nd (pM aD))
  (aE (eO aBE rfl (dW T.z_range (aB 3)) (aN (i:=5) fV.nd)
  (aF (eO aBE rfl (dW T.z_range (aB 3)) (aN (i:=6) fV.nd)
  (aE (aL (i:=7) fV.nd (aBm (aNu (aHx (aS opLt (aB 6) (aB 0) (nomark _)) (aCf (aS opLt (aB 5) (aB 0) (nomark _))))) (aK (aB 1) (aI opAdd (aI opMulA (aB 6) (aB 0)) (aB 5))) aC))
  (aF (vD (nV (aB 4) (aI opAnd (aI opShr (aB 7) (aB 2)) aC))))))))
  (aF (aJ (aB 4))))))
theorem vB(T:Tx K mg a):FnOk P w K mg base CX0 1 a.a_15 a.d_15 aHM (spF K Z0 1 gI) :=
 bK (k:=0) T.f_15 vX λcdv A outer s H E hr=>show Ess _ K Z0 (defBody cH) b_15 from
  (aF (aJ (cA callTup rfl T.z_tuple dR (aA (cV rfl (CompOk.of (N0:=aHM) (sc0:=defScope cH) (Nc:=["place","chosen"]) (js:=[none,some 0]) (by decide +kernel)) (dW T.z_range (aDw (aB 0))) (λ_ _ _ _ _ _=>(aN (i:=0) (show(["place","chosen"]:List Str).Nodup by decide +kernel))) (λ_ _ _ _ _ _=>(pW (aS (opEq (aT hr)) (aI opAnd (aI opShr (aB 1) (aB 0)) aC) aC (nomark _)))) (λ_ _ _ _ _ _=>(aB 0))) aD))))
theorem tG(T:Tx K mg a):FnOk P w K mg base CX0 3 a.a_12 a.d_12 aHK (spF K Z0 4 fL) :=
 bK (k:=2) T.f_12 iP λcdv A outer s H E hr=>show Ess _ K Z0 (defBody bJ) b_12 from
  (aE (aL (i:=4) iP.nd (aG ((pC T).mono (by lia)) hr T.m_14 T.k_14 T.b_14 (aA (aG ((zY T).mono (by lia)) hr T.m_13 T.k_13 T.b_13 (aA (aB 1) (aA (aB 2) (aA (aB 3) aD))) (hlen:=λ_ _ h=>wR h)) aD) (hlen:=λ_ _ h=>oJ h)))
  (aE (aAz (i:=5) iP.nd rfl (CompOk.of (N0:=aIK) (sc0:=defScope bJ) (Nc:=aIW) (js:=[none,none,some 0]) (by decide +kernel)) (aIz T.z_enumerate (aB 4)) (λ_ _ _ _ _ _=>(iT rfl (aW (aN (i:=0) (show(aIW:List Str).Nodup by decide +kernel)) (aW (aN (i:=1) (show(aIW:List Str).Nodup by decide +kernel)) fN)))) (λ_ _ _ _ _ _=>dF) (λ_ _ _ _ _ _=>(aQ (aA (aG ((vB T).mono (by lia)) hr T.m_15 T.k_15 T.b_15 (aA (aB 0) aD) (hlen:=λ_ _ h=>tD h)) (aA (aI opMod (aB 1) (aB 2)) aD)))))
  (aF (aJ (cA callTup rfl T.z_tuple dR (aA (cV rfl (CompOk.of (N0:=aIK) (sc0:=defScope bJ) (Nc:=aIX) (js:=[none,none]) (by decide +kernel)) (kJ (cY (callSortTT rfl (aT hr)) rfl T.z_sorted uH (aA (aB 5) aD))) (λ_ _ _ _ _ _=>(iT rfl (aW (aN (i:=0) (show(aIX:List Str).Nodup by decide +kernel)) (aW (aN (i:=1) (show(aIX:List Str).Nodup by decide +kernel)) fN)))) (λ_ _ _ _ _ _=>(pW (aS (opNe (aT hr)) (aB 1) aC (nomark _)))) (λ_ _ _ _ _ _=>(aQ (aA (aB 1) (aA (aB 0) aD))))) aD))))))
theorem kR(T:Tx K mg a):FnOk P w K mg base CX0 4 a.a_11 a.d_11 aHJ (spF K Z0 3 eB) :=
 bK (k:=3) T.f_11 qE λcdv A outer s H E hr=>show Ess _ K Z0 (defBody bG) b_11 from
  (aF (aJ (cA callTup rfl T.z_tuple dR (aA (cV rfl (CompOk.of (N0:=aHJ) (sc0:=defScope bG) (Nc:=["bit","n","k","table"]) (js:=[none,some 0,some 1,some 2]) (by decide +kernel)) (dW T.z_range (aG ((lN T).mono (by lia)) hr T.m_10 T.k_10 T.b_10 (aA (aB 1) aD) (hlen:=λ_ _ h=>iZ h))) (λ_ _ _ _ _ _=>(aN (i:=0) (show(["bit","n","k","table"]:List Str).Nodup by decide +kernel))) (λ_ _ _ _ _ _=>dF) (λ_ _ _ _ _ _=>(aG ((tG T).mono (by lia)) hr T.m_12 T.k_12 T.b_12 (aA (aB 1) (aA (aB 2) (aA (aB 3) (aA (aB 0) aD)))) (hlen:=λ_ _ h=>rD h)))) aD))))
theorem iF(T:Tx K mg a):∀d:Nat,FnOk P w K mg base CX0 (d+0) a.a_16 a.d_16 aHN (spF K Z0 3 (bS (d)))
 |0=>iS rfl
 |d+1=>by
  have ih:=iF T d
  have ih_tree_worth:=ih
  rw[show d+1+0=(d+0)+1 by lia]
  exact bK (k:=d+0) T.f_16 iL λcdv A outer s H E hr=>show Ess _ K Z0 (defBody cC) (b_16 (bS d))from
  (aE (bN (aS (opEq (aT hr)) (aK (aB 1) aC) aP (nomark _))
  (aF (aJ (aK (aB 2) (aK (aB 1) aC))))
  aR)
  (aE (aL (i:=3) iL.nd (aG ih_tree_worth hr T.m_16 T.k_16 T.b_16 (aA (aB 0) (aA (aK (aB 1) aC) (aA (aB 2) aD))) (hlen:=λ_ _ h=>hZ h)))
  (aE (aL (i:=4) iL.nd (aG ih_tree_worth hr T.m_16 T.k_16 T.b_16 (aA (aB 0) (aA (aK (aB 1) aC) (aA (aB 2) aD))) (hlen:=λ_ _ h=>hZ h)))
  (aF (aJ (aK (aK (aB 1) aC) (aI opAdd (aI opMulA (aB 3) (aB 0)) (aB 4))))))))
theorem sV(d:Nat)(T:Tx K mg a):FnOk P w K mg base CX0 (d+0) a.a_16 a.d_16 aHN (spF K Z0 3 (bS d)):=(iF T d)
theorem qV(T:Tx K mg a):FnOk P w K mg base CX0 2 a.a_18 a.d_18 ["k"] (spF K Z0 1 jK) :=
 bK (k:=1) T.f_18 aFb λcdv A outer s H E hr=>show Ess _ K Z0 (defBody gD) b_18 from
  (aF (aJ (aI opAdd (aI opMulA aC (aG ((lN T).mono (by lia)) hr T.m_10 T.k_10 T.b_10 (aA (aB 0) aD) (hlen:=λ_ _ h=>iZ h))) aC)))
theorem iK(T:Tx K mg a):∀d:Nat,FnOk P w K mg base CX0 (d+4) a.a_19 a.d_19 aHP (spF K Z0 3 (bW (d)))
 |0=>iS rfl
 |d+1=>by
  have ih:=iK T d
  have ih_tree_deeds:=ih
  rw[show d+1+4=(d+4)+1 by lia]
  exact bK (k:=d+4) T.f_19 gC λcdv A outer s H E hr=>show Ess _ K Z0 (defBody bX) (b_19 (bW d))from
  (aE (aL (i:=3) gC.nd (aG ((lN T).mono (by lia)) hr T.m_10 T.k_10 T.b_10 (aA (aB 1) aD) (hlen:=λ_ _ h=>iZ h)))
  (aE (bN (aS (opEq (aT hr)) (aK (aB 2) aC) aP (nomark _))
  (aF (aJ (aB 3)))
  aR)
  (aE (aL (i:=4) gC.nd (cY (callSum rfl) rfl T.z_sum aPf (aA (cV rfl (CompOk.of (N0:=aIM) (sc0:=defScope bX) (Nc:=["terms"]) (js:=[none]) (by decide +kernel)) (kJ (aG ((kR T).mono (by lia)) hr T.m_11 T.k_11 T.b_11 (aA (aB 0) (aA (aB 1) (aA (aK (aB 2) aC) aD))) (hlen:=λ_ _ h=>kA h))) (λ_ _ _ _ _ _=>(aN (i:=0) (show(["terms"]:List Str).Nodup by decide +kernel))) (λ_ _ _ _ _ _=>dF) (λ_ _ _ _ _ _=>(cY callLen rfl T.z_len aCX (aA (aB 0) aD)))) aD)))
  (aE (aL (i:=5) gC.nd (aI opAdd (aG ih_tree_deeds hr T.m_19 T.k_19 T.b_19 (aA (aB 0) (aA (aB 1) (aA (aK (aB 2) aC) aD))) (hlen:=λ_ _ h=>iA h)) (aG ih_tree_deeds hr T.m_19 T.k_19 T.b_19 (aA (aB 0) (aA (aB 1) (aA (aK (aB 2) aC) aD))) (hlen:=λ_ _ h=>iA h))))
  (aF (aJ (aI opMulA (aG ((qV T).mono (by lia)) hr T.m_18 T.k_18 T.b_18 (aA (aB 1) aD) (hlen:=λ_ _ h=>oM h)) (aI opAdd (aI opAdd (aI opMulA aC (aB 5)) (aB 4)) (aI opMulA aC (aB 3))))))))))
theorem sN(d:Nat)(T:Tx K mg a):FnOk P w K mg base CX0 (d+4) a.a_19 a.d_19 aHP (spF K Z0 3 (bW d)):=(iK T d)
theorem kX(T:Tx K mg a):FnOk P w K mg base CX0 1 a.a_1b a.d_1b aHR (spF K Z0 2 dS) :=
 aEq (k:=0) T.f_1b qK λcdv A outer s H E hr=>show Ess _ K Z0 (defBody bF) b_1b from
  (aF (aJ (aI opAddR (jZ (aA (aQ (aA (aK (aB 0) aC) (aA (aB 1) aD))) aD)) (cV rfl (CompOk.of (N0:=aHR) (sc0:=defScope bF) (Nc:=["shelf"]) (js:=[none]) (by decide +kernel)) (kJ (gK (aB 0) (oS aC) oV)) (λ_ _ _ _ _ _=>(aN (i:=0) (show(["shelf"]:List Str).Nodup by decide +kernel))) (λ_ _ _ _ _ _=>dF) (λ_ _ _ _ _ _=>(aQ (aA (aB 0) (aA (aQ aD) aD))))))))
theorem rF(T:Tx K mg a):FnOk P w K mg base CX0 5 a.a_1c a.d_1c aHS (spF K Z0 5 eQ) :=
 bK (k:=4) T.f_1c dN λcdv A outer s H E hr=>show Ess _ K Z0 (defBody bH) b_1c from
  (aE (aL (i:=5) dN.nd (pM aD))
  (aE (eO aBE rfl (aGe T.z_zip (aB 3) (aG ((kR T).mono (by lia)) hr T.m_11 T.k_11 T.b_11 (aA (aB 0) (aA (aB 1) (aA (aB 2) aD))) (hlen:=λ_ _ h=>kA h))) (iT rfl (aW (aN (i:=6) dN.nd) (aW (aN (i:=7) dN.nd) fN)))
  (aF (eO aBE rfl (kJ (aB 7)) (iT rfl (aW (aN (i:=8) dN.nd) (aW (aN (i:=9) dN.nd) fN)))
  (aF (vD (nV (aB 5) (aQ (aA aP (aA (aB 6) (aA (aB 8) (aA (aQ aD) (aA (cA callTup rfl T.z_tuple dR (aA (cY (callSorted rfl) rfl T.z_sorted uH (aA (cV rfl (CompOk.of (N0:=aIO) (sc0:=defScope bH) (Nc:=["place","places"]) (js:=[none,some 4]) (by decide +kernel)) (kJ (aB 9)) (λ_ _ _ _ _ _=>(aN (i:=0) (show(["place","places"]:List Str).Nodup by decide +kernel))) (λ_ _ _ _ _ _=>dF) (λ_ _ _ _ _ _=>(aK (aB 1) (aB 0)))) aD)) aD)) aD))))))))))))
  (aF (aJ (cA callTup rfl T.z_tuple dR (aA (aB 5) aD))))))
theorem kD(T:Tx K mg a):∀d:Nat,FnOk P w K mg base CX0 (d+5) a.a_1a a.d_1a aHQ (spF K Z0 7 (cR (d)))
 |0=>iS rfl
 |d+1=>by
  have ih:=kD T d
  have ih_tree_row:=ih
  rw[show d+1+5=(d+5)+1 by lia]
  exact bK (k:=d+5) T.f_1a iJ λcdv A outer s H E hr=>show Ess _ K Z0 (defBody cS) (b_1a (cR d))from
  (aE (bN (aS (opEq (aT hr)) (aK (aB 3) aC) aP (nomark _))
  (aE (aL (i:=7) iJ.nd (aI opMulA (aG ((lN T).mono (by lia)) hr T.m_10 T.k_10 T.b_10 (aA (aB 1) aD) (hlen:=λ_ _ h=>iZ h)) (aK (aB 3) aC)))
  (aF (aJ (cA callTup rfl T.z_tuple dR (aA (cV rfl (CompOk.of (N0:=aIN) (sc0:=defScope cS) (Nc:=["given","shelf"]) (js:=[none,none]) (by decide +kernel)) (aEd T.z_enumerate (aB 4) (aB 7)) (λ_ _ _ _ _ _=>(iT rfl (aW (aN (i:=0) (show(["given","shelf"]:List Str).Nodup by decide +kernel)) (aW (aN (i:=1) (show(["given","shelf"]:List Str).Nodup by decide +kernel)) fN)))) (λ_ _ _ _ _ _=>dF) (λ_ _ _ _ _ _=>(aQ (aA aP (aA (aB 1) (aA aC (aA (aQ (aA (aB 0) aD)) (aA (aQ aD) aD)))))))) aD)))))
  aR)
  (aE (aL (i:=8) iJ.nd (aG ((kX T).mono (by lia)) hr T.m_1b T.k_1b T.b_1b (aA (aB 5) (aA (aG ih_tree_row hr T.m_1a T.k_1a T.b_1a (aA (aB 0) (aA (aB 1) (aA (aB 2) (aA (aK (aB 3) aC) (aA (aB 5) (aA (aB 4) (aA (aB 6) aD))))))) (hlen:=λ_ _ h=>jU h)) aD)) (hlen:=λ_ _ h=>kB h)))
  (aE (aIn (i:=8) iJ.nd (aG ((kX T).mono (by lia)) hr T.m_1b T.k_1b T.b_1b (aA (aB 6) (aA (aG ih_tree_row hr T.m_1a T.k_1a T.b_1a (aA (aB 0) (aA (aB 1) (aA (aB 2) (aA (aK (aB 3) aC) (aA (aB 6) (aA (aB 4) (aA (aB 5) aD))))))) (hlen:=λ_ _ h=>jU h)) aD)) (hlen:=λ_ _ h=>kB h)))
  (aF (aJ (aG ((vT T).mono (by lia)) hr T.m_f T.k_f T.b_f (aA (aB 0) (aA (aG ((qV T).mono (by lia)) hr T.m_18 T.k_18 T.b_18 (aA (aB 1) aD) (hlen:=λ_ _ h=>oM h)) (aA (aB 2) (aA (aB 8) (aA (aG ((rF T).mono (by lia)) hr T.m_1c T.k_1c T.b_1c (aA (aB 0) (aA (aB 1) (aA (aK (aB 3) aC) (aA (aB 4) (aA (aI opAdd (aB 5) (aB 6)) aD))))) (hlen:=λ_ _ h=>oZ h)) aD))))) (hlen:=λ_ _ h=>tE h)))))))
theorem wF(d:Nat)(T:Tx K mg a):FnOk P w K mg base CX0 (d+5) a.a_1a a.d_1a aHQ (spF K Z0 7 (cR d)):=(kD T d)
theorem pA(T:Tx K mg a):FnOk P w K mg base CX0 56 a.a_17 a.d_17 aHO (spF K Z0 5 eG) :=
 aFu (k:=55) T.f_17.g cW λcdv A outer s H E hr=>show Ess _ K Z0 (defBody aX) b_17 from
  (aE (aL (i:=5) cW.nd (aG ((lN T).mono (by lia)) hr T.m_10 T.k_10 T.b_10 (aA (aB 1) aD) (hlen:=λ_ _ h=>iZ h)))
  (aE (aL (i:=6) cW.nd (aG ((zW T).mono (by lia)) hr T.m_e T.k_e T.b_e (aA (aB 0) (aA (aG ((qV T).mono (by lia)) hr T.m_18 T.k_18 T.b_18 (aA (aB 1) aD) (hlen:=λ_ _ h=>oM h)) aD)) (hlen:=λ_ _ h=>xP h)))
  (aE (bN (aS opGt (aG ((sN 50 T).mono (by lia)) hr T.m_19 T.k_19 T.b_19 (aA (aB 0) (aA (aB 1) (aA (aB 3) aD))) (hlen:=λ_ _ h=>iA h)) (aB 4) (nomark _))
  (aF vW)
  aR)
  (aE (qH (cV rfl (CompOk.of (N0:=aIL) (sc0:=defScope aX) (Nc:=["at","many"]) (js:=[none,some 5]) (by decide +kernel)) (kJ (aQ (aA aC (aA (aB 5) (aA (aI opMulA aC (aB 5)) aD))))) (λ_ _ _ _ _ _=>(aN (i:=0) (show(["at","many"]:List Str).Nodup by decide +kernel))) (λ_ _ _ _ _ _=>dF) (λ_ _ _ _ _ _=>(qC rfl T.z_tuple T.z_range (aB 0) (aI opAdd (aB 0) (aB 1))))) (aJc rfl (aW (aN (i:=7) cW.nd) (aW (aN (i:=8) cW.nd) (aW (aN (i:=9) cW.nd) fN)))))
  (aF (aJ (aQ (aA (aB 0) (aA (aB 2) (aA (aI opMulA aC (aB 5)) (aA (aG ((wF 50 T).mono (by lia)) hr T.m_1a T.k_1a T.b_1a (aA (aB 0) (aA (aB 1) (aA (aB 6) (aA (aB 3) (aA (aB 7) (aA (aB 8) (aA (aB 9) aD))))))) (hlen:=λ_ _ h=>jU h)) aD)))))))))))
theorem mD(T:Tx K mg a):FnOk P w K mg base CX0 1 a.a_1f a.d_1f aHV (spF K Z0 2 eL) :=
 bK (k:=0) T.f_1f gA λcdv A outer s H E hr=>show Ess _ K Z0 (defBody cD) b_1f from
  (aE (aL (i:=2) gA.nd aC)
  (aE (eO aBE rfl (kJ (aB 0)) (aN (i:=3) gA.nd)
  (aF (aL (i:=2) gA.nd (aI opMulA (aB 2) (aK (aB 1) (aB 3))))))
  (aF (aJ (aB 2)))))
theorem aKn(T:Tx K mg a):FnOk P w K mg base CX0 2 a.a_1e a.d_1e aHU (spF K Z0 4 oA) :=
 bK (k:=1) T.f_1e nF λcdv A outer s H E hr=>show Ess _ K Z0 (defBody iQ) b_1e from
  (aE (sH (i:=4) (j:=5) rfl nF.nd (aA (aK (aB 1) aC) (aA (aK (aB 1) aC) aD)))
  (aE (aL (i:=6) nF.nd (aK (aB 3) (aB 4)))
  (aE (bN (aS (opEq (aT hr)) (aK (aB 1) aC) aP (nomark _))
  (aF (aL (i:=6) nF.nd (aI opMulA (aB 6) (aB 5))))
  (aF (aL (i:=6) nF.nd (aI opAdd (aB 6) (aI opMulA (aI opMulA (aB 5) (aG ((mD T).mono (by lia)) hr T.m_1f T.k_1f T.b_1f (aA (aK (aB 1) aC) (aA (aB 2) aD)) (hlen:=λ_ _ h=>kZ h))) (aG ((mD T).mono (by lia)) hr T.m_1f T.k_1f T.b_1f (aA (aK (aB 1) aC) (aA (aB 3) aD)) (hlen:=λ_ _ h=>kZ h)))))))
  (aF (aJ (aI opAdd (aI opAdd (gK (aB 3) oV (oS (aB 4))) (aQ (aA (aI opMod (aB 6) (aB 0)) aD))) (gK (aB 3) (oS (aI opAdd (aB 4) aC)) oV)))))))
theorem aMt(T:Tx K mg a):FnOk P w K mg base CX0 3 a.a_1d a.d_1d aHT (spF K Z0 3 xZ) :=
 bK (k:=2) T.f_1d zC λcdv A outer s H E hr=>show Ess _ K Z0 (defBody lW) b_1d from
  (aE (eO aBE rfl (kJ (aK (aB 0) aC)) (aN (i:=3) zC.nd)
  (aF (aL (i:=2) zC.nd (aG ((aKn T).mono (by lia)) hr T.m_1e T.k_1e T.b_1e (aA (aK (aB 0) aC) (aA (aB 3) (aA (aB 1) (aA (aB 2) aD)))) (hlen:=λ_ _ h=>aEx h)))))
  (aF (aJ (aB 2))))
theorem mR(T:Tx K mg a):∀d:Nat,FnOk P w K mg base CX0 (d+0) a.a_20 a.d_20 aHW (spF K Z0 2 (fA (d)))
 |0=>iS rfl
 |d+1=>by
  have ih:=mR T d
  have ih_holds:=ih
  rw[show d+1+0=(d+0)+1 by lia]
  exact bK (k:=d+0) T.f_20 wG λcdv A outer s H E hr=>show Ess _ K Z0 (defBody fG) (b_20 (fA d))from
  (aE (aL (i:=2) wG.nd (aK (aB 0) aC))
  (aE (bN (aS (opEq (aT hr)) (aB 2) aP (nomark _))
  (aF (aJ (oE (opEq (aT hr)) (aK (aB 1) (aK (aB 0) aC)) aC (nomark _))))
  aR)
  (aE (bN (aS (opEq (aT hr)) (aB 2) aP (nomark _))
  (aF (aJ (aOz (aG ih_holds hr T.m_20 T.k_20 T.b_20 (aA (aK (aB 0) aC) (aA (aB 1) aD)) (hlen:=λ_ _ h=>fX h)))))
  aR)
  (aE (bN (aS (opEq (aT hr)) (aB 2) aP (nomark _))
  (aF (aJ (aOa (aG ih_holds hr T.m_20 T.k_20 T.b_20 (aA (aK (aB 0) aC) (aA (aB 1) aD)) (hlen:=λ_ _ h=>fX h)) (aHh (aG ih_holds hr T.m_20 T.k_20 T.b_20 (aA (aK (aB 0) aC) (aA (aB 1) aD)) (hlen:=λ_ _ h=>fX h))))))
  aR)
  (aE (bN (aS (opEq (aT hr)) (aB 2) aP (nomark _))
  (aF (aJ (aPo (aG ih_holds hr T.m_20 T.k_20 T.b_20 (aA (aK (aB 0) aC) (aA (aB 1) aD)) (hlen:=λ_ _ h=>fX h)) (aHh (aG ih_holds hr T.m_20 T.k_20 T.b_20 (aA (aK (aB 0) aC) (aA (aB 1) aD)) (hlen:=λ_ _ h=>fX h))))))
  aR)
  (aF (aJ (oE opGe (cY callLen rfl T.z_len aCX (aA (cV rfl (CompOk.of (N0:=["saying","answers","word"]) (sc0:=defScope fG) (Nc:=["part","answers"]) (js:=[none,some 1]) (by decide +kernel)) (kJ (aK (aB 0) aC)) (λ_ _ _ _ _ _=>(aN (i:=0) (show(["part","answers"]:List Str).Nodup by decide +kernel))) (λ_ _ _ _ _ _=>(pW (oI (aG ih_holds hr T.m_20 T.k_20 T.b_20 (aA (aB 0) (aA (aB 1) aD)) (hlen:=λ_ _ h=>fX h))))) (λ_ _ _ _ _ _=>(aB 0))) aD)) (aK (aB 0) aC) (nomark _)))))))))
theorem aHv(d:Nat)(T:Tx K mg a):FnOk P w K mg base CX0 (d+0) a.a_20 a.d_20 aHW (spF K Z0 2 (fA d)):=(mR T d)
theorem sK(T:Tx K mg a):FnOk P w K mg base CX0 2 a.a_24 a.d_24 aHZ (spF K Z0 2 jQ) :=
 bK (k:=1) T.f_24 mF λcdv A outer s H E hr=>show Ess _ K Z0 (defBody cE) b_24 from
  (aE (aL (i:=2) mF.nd (aG ((jT T).mono (by lia)) hr T.m_1 T.k_1 T.b_1 (aA (aB 0) (aA (aB 1) aD)) (hlen:=λ_ _ h=>iC h)))
  (aE (bN (aS opIs (aB 2) qT (nomark _))
  (aF vW)
  aR)
  (aF (aJ (aB 2)))))
theorem pJ(T:Tx K mg a):FnOk P w K mg base CX0 3 a.a_23 a.d_23 ["n","row"] (spF K Z0 2 hV) :=
 bK (k:=2) T.f_23 cK λcdv A outer s H E hr=>show Ess _ K Z0 (defBody bA) b_23 from
  (aE (aL (i:=2) cK.nd (pM (aA (aI opMod (aK (aB 1) aC) (aB 0)) aD)))
  (aE (aL (i:=3) cK.nd (aB 1))
  (aE (aL (i:=4) cK.nd aC)
  (aE (eO aBE rfl (uB T.z_range aC (cY callLen rfl T.z_len aCX (aA (aB 1) aD))) (aN (i:=5) cK.nd)
  (aE (aAz (i:=3) cK.nd rfl (CompOk.of (N0:=aIR) (sc0:=defScope bA) (Nc:=["ahead","later"]) (js:=[none,none]) (by decide +kernel)) (aGe T.z_zip (aB 3) (gK (aB 3) (oS aC) oV)) (λ_ _ _ _ _ _=>(iT rfl (aW (aN (i:=0) (show(["ahead","later"]:List Str).Nodup by decide +kernel)) (aW (aN (i:=1) (show(["ahead","later"]:List Str).Nodup by decide +kernel)) fN)))) (λ_ _ _ _ _ _=>dF) (λ_ _ _ _ _ _=>(aI opSub (aB 1) (aB 0))))
  (aE (aL (i:=4) cK.nd (aI opMod (aI opMulA (aB 4) (aG ((sK T).mono (by lia)) hr T.m_24 T.k_24 T.b_24 (aA (aB 0) (aA (aB 5) aD)) (hlen:=λ_ _ h=>qG h))) (aB 0)))
  (aF (vD (nV (aB 2) (aI opMod (aI opMulA (aK (aB 3) aC) (aB 4)) (aB 0))))))))
  (aF (aJ (aB 2)))))))
theorem tI(T:Tx K mg a):FnOk P w K mg base CX0 4 a.a_22 a.d_22 aHY (spF K Z0 3 jS) :=
 bK (k:=3) T.f_22 cG λcdv A outer s H E hr=>show Ess _ K Z0 (defBody bU) b_22 from
  (aE (aL (i:=3) cG.nd (cY callLen rfl T.z_len aCX (aA (aB 2) aD)))
  (aE (aL (i:=4) cG.nd (aK (aB 2) aC))
  (aE (eO aBE rfl (kJ (gK (aB 2) (oS aC) oV)) (aN (i:=5) cG.nd)
  (aF (aL (i:=4) cG.nd (aQ (aA aP (aA (aB 4) (aA (aB 5) aD)))))))
  (aE (aL (i:=6) cG.nd (aG ((pJ T).mono (by lia)) hr T.m_23 T.k_23 T.b_23 (aA (aB 0) (aA (cV rfl (CompOk.of (N0:=aIQ) (sc0:=defScope bU) (Nc:=["j","k"]) (js:=[none,some 1]) (by decide +kernel)) (dW T.z_range (aI opAdd (aB 3) aC)) (λ_ _ _ _ _ _=>(aN (i:=0) (show(["j","k"]:List Str).Nodup by decide +kernel))) (λ_ _ _ _ _ _=>dF) (λ_ _ _ _ _ _=>(aBm (aS opGe (aB 0) (aB 1) (nomark _)) aC aC))) aD)) (hlen:=λ_ _ h=>nY h)))
  (aE (aL (i:=7) cG.nd (aQ (aA aP (aA (aK (aB 6) (aB 3)) aD))))
  (aE (eO aBE rfl (aJp T.z_reversed T.z_range (aB 3)) (aN (i:=8) cG.nd)
  (aF (aL (i:=7) cG.nd (aQ (aA aP (aA (aQ (aA aP (aA (aK (aB 6) (aB 8)) aD))) (aA (aQ (aA aP (aA (aQ (aA aP (aA (aB 4) (aA (aQ (aA aP (aA (aB 8) aD))) aD)))) (aA (aB 7) aD)))) aD)))))))
  (aF (aJ (aB 7)))))))))
theorem oY(T:Tx K mg a):∀d:Nat,FnOk P w K mg base CX0 (d+4) a.a_21 a.d_21 aHX (spF K Z0 2 (gM (d)))
 |0=>iS rfl
 |d+1=>by
  have ih:=oY T d
  have ih_said:=ih
  rw[show d+1+4=(d+4)+1 by lia]
  exact bK (k:=d+4) T.f_21 pO λcdv A outer s H E hr=>show Ess _ K Z0 (defBody hX) (b_21 (gM d))from
  (aE (aL (i:=2) pO.nd (aK (aB 1) aC))
  (aE (bN (aS (opEq (aT hr)) (aB 2) aP (nomark _))
  (aF (aJ (aQ (aA aP (aA (aK (aB 1) aC) aD)))))
  aR)
  (aE (bN (aS (opEq (aT hr)) (aB 2) aP (nomark _))
  (aF (aJ (aQ (aA aP (aA (aQ (aA aP (aA aC aD))) (aA (aG ih_said hr T.m_21 T.k_21 T.b_21 (aA (aB 0) (aA (aK (aB 1) aC) aD)) (hlen:=λ_ _ h=>kY h)) aD))))))
  aR)
  (aE (bN (aS (opEq (aT hr)) (aB 2) aP (nomark _))
  (aF (aJ (aG ((tI T).mono (by lia)) hr T.m_22 T.k_22 T.b_22 (aA (aB 0) (aA (aK (aB 1) aC) (aA (cV rfl (CompOk.of (N0:=aIP) (sc0:=defScope hX) (Nc:=["part","n"]) (js:=[none,some 0]) (by decide +kernel)) (kJ (aK (aB 1) aC)) (λ_ _ _ _ _ _=>(aN (i:=0) (show(["part","n"]:List Str).Nodup by decide +kernel))) (λ_ _ _ _ _ _=>dF) (λ_ _ _ _ _ _=>(aG ih_said hr T.m_21 T.k_21 T.b_21 (aA (aB 1) (aA (aB 0) aD)) (hlen:=λ_ _ h=>kY h)))) aD))) (hlen:=λ_ _ h=>qU h))))
  aR)
  (aE (aL (i:=3) pO.nd (aG ih_said hr T.m_21 T.k_21 T.b_21 (aA (aB 0) (aA (aK (aB 1) aC) aD)) (hlen:=λ_ _ h=>kY h)))
  (aE (aL (i:=4) pO.nd (aG ih_said hr T.m_21 T.k_21 T.b_21 (aA (aB 0) (aA (aK (aB 1) aC) aD)) (hlen:=λ_ _ h=>kY h)))
  (aE (bN (aS (opEq (aT hr)) (aB 2) aP (nomark _))
  (aF (aJ (aQ (aA aP (aA (aB 3) (aA (aB 4) aD))))))
  aR)
  (aF (aJ (aQ (aA aP (aA (aQ (aA aP (aA (aB 3) (aA (aB 4) aD)))) (aA (aQ (aA aP (aA (aB 3) (aA (aB 4) aD)))) aD)))))))))))))
theorem aKy(d:Nat)(T:Tx K mg a):FnOk P w K mg base CX0 (d+4) a.a_21 a.d_21 aHX (spF K Z0 2 (gM d)):=(oY T d)
theorem aHk(T:Tx K mg a):FnOk P w K mg base CX0 1 a.a_25 a.d_25 aIA (spF K Z0 2 pU) :=
 aEq (k:=0) T.f_25 kU λcdv A outer s H E hr=>show Ess _ K Z0 (defBody gB) b_25 from
  (aE (aL (i:=2) kU.nd (aI opAdd (aI opMulA aC (aB 1)) aC))
  (aE (bN (aS opLt (aB 1) (cY callLen rfl T.z_len aCX (aA (aB 0) aD)) (nomark _))
  (aF (aL (i:=2) kU.nd (aK (aB 0) (aB 1))))
  (aF (bN (aS opGt (cY callLen rfl T.z_len aCX (aA (aB 0) aD)) aC (nomark _))
  (aF (aL (i:=2) kU.nd (aI opAdd (aB 2) (aI opMulA (aI opMod (aK (aB 0) (aI opMod (aB 1) (cY callLen rfl T.z_len aCX (aA (aB 0) aD)))) aC) aC))))
  aR)))
  (aE (aL (i:=3) kU.nd (aI opAdd (aI opMod (aI opAdd (aI opMulA (aI opMod (aB 2) aC) aC) (aI opMulA aC (aB 1))) aC) aC))
  (aF (aJ (pM (aA (aK (jZ (aA aC (aA (aB 2) aD))) (cA callInt rfl T.z_int qP (aA (oE opGe (aB 2) (aI opPow aC aC) (nomark _)) aD))) (aA (aB 3) (aA aC aD)))))))))
theorem eD(T:Tx K mg a):FnOk P w K mg base CX0 1 a.a_26 a.d_26 aIB (spF K Z0 2 dO) :=
 bK (k:=0) T.f_26 oD λcdv A outer s H E hr=>show Ess _ K Z0 (defBody eW) b_26 from
  (aE (bN (aS opGt (aK (aB 0) aC) aC (nomark _))
  (aE (aL (i:=2) oD.nd (aI opMod (aK (aB 0) aC) (aB 1)))
  (aE (qH (aI opDiv (aK (aB 0) aC) (aB 1)) (zI (aB 0) aC))
  (aF (aJ (aB 2)))))
  aR)
  (aE (qH (aI opAdd (aK (aB 0) aC) aC) (zI (aB 0) aC))
  (aE (aL (i:=3) oD.nd (aI opMod (aI opMulA (aI opAdd (aK (aB 0) aC) (aI opMulA aC (aK (aB 0) aC))) aC) aC))
  (aE (qH (aI opAdd (aI opMod (aI opAdd (aI opMulA (aB 3) aC) aC) aC) aC) (zI (aB 0) aC))
  (aF (aJ (aI opMod (aI opDiv (aI opAdd (aI opMulA (aB 3) aC) (aK (aB 0) aC)) aC) (aB 1))))))))
theorem aDq(T:Tx K mg a):FnOk P w K mg base CX0 2 a.a_27 a.d_27 aIC (spF K Z0 2 kO) :=
 bK (k:=1) T.f_27 tK λcdv A outer s H E hr=>show Ess _ K Z0 (defBody eS) b_27 from
  (aE (aL (i:=2) tK.nd (aG ((eD T).mono (by lia)) hr T.m_26 T.k_26 T.b_26 (aA (aB 0) (aA aC aD)) (hlen:=λ_ _ h=>dE h)))
  (aE (bN (aS (opEq (aT hr)) (aB 2) aC (nomark _))
  (aF (aJ (aK (jZ (aA aC (aA (aI opMod aC (aB 1)) (aA (aI opSub (aB 1) aC) (aA (aI opMod (aI opSub (aB 1) aC) (aB 1)) aD))))) (aG ((eD T).mono (by lia)) hr T.m_26 T.k_26 T.b_26 (aA (aB 0) (aA aC aD)) (hlen:=λ_ _ h=>dE h)))))
  aR)
  (aF (aJ (aG ((eD T).mono (by lia)) hr T.m_26 T.k_26 T.b_26 (aA (aB 0) (aA (aB 1) aD)) (hlen:=λ_ _ h=>dE h))))))
theorem yM(T:Tx K mg a):FnOk P w K mg base CX0 3 a.a_28 a.d_28 aID (spF K Z0 3 jG) :=
 bK (k:=2) T.f_28 zS λcdv A outer s H E hr=>show Ess _ K Z0 (defBody dH) b_28 from
  (aF (aJ (cA callTup rfl T.z_tuple dR (aA (cV rfl (CompOk.of (N0:=aID) (sc0:=defScope dH) (Nc:=aIY) (js:=[none,some 0,some 1]) (by decide +kernel)) (dW T.z_range (aB 2)) (λ_ _ _ _ _ _=>(aN (i:=0) (show(aIY:List Str).Nodup by decide +kernel))) (λ_ _ _ _ _ _=>dF) (λ_ _ _ _ _ _=>(aG ((aDq T).mono (by lia)) hr T.m_27 T.k_27 T.b_27 (aA (aB 1) (aA (aB 2) aD)) (hlen:=λ_ _ h=>zM h)))) aD))))
theorem kC(T:Tx K mg a):∀d:Nat,FnOk P w K mg base CX0 (d+1) a.a_29 a.d_29 aIE (spF K Z0 2 (cU (d)))
 |0=>iS rfl
 |d+1=>by
  have ih:=kC T d
  have ih_l_saying:=ih
  rw[show d+1+1=(d+1)+1 by lia]
  exact bK (k:=d+1) T.f_29 kK λcdv A outer s H E hr=>show Ess _ K Z0 (defBody dD) (b_29 (cU d))from
  (aE (bN (aNu (aQi (aS (opEq (aT hr)) (aB 1) aC (nomark _)) (aOc (aS (opEq (aT hr)) (aG ((eD T).mono (by lia)) hr T.m_26 T.k_26 T.b_26 (aA (aB 0) (aA aC aD)) (hlen:=λ_ _ h=>dE h)) aC (nomark _)))))
  (aF (aJ (aQ (aA aP (aA (aG ((eD T).mono (by lia)) hr T.m_26 T.k_26 T.b_26 (aA (aB 0) (aA aC aD)) (hlen:=λ_ _ h=>dE h)) aD)))))
  aR)
  (aE (aL (i:=2) kK.nd (aK (jZ (aA aP (aA aP aD))) (aG ((eD T).mono (by lia)) hr T.m_26 T.k_26 T.b_26 (aA (aB 0) (aA aC aD)) (hlen:=λ_ _ h=>dE h))))
  (aE (aL (i:=3) kK.nd (aG ih_l_saying hr T.m_29 T.k_29 T.b_29 (aA (aB 0) (aA (aI opSub (aB 1) aC) aD)) (hlen:=λ_ _ h=>jL h)))
  (aF (aJ (aQ (aA (aB 2) (aA (aB 3) (aA (aG ih_l_saying hr T.m_29 T.k_29 T.b_29 (aA (aB 0) (aA (aI opSub (aB 1) aC) aD)) (hlen:=λ_ _ h=>jL h)) aD)))))))))
theorem xC(d:Nat)(T:Tx K mg a):FnOk P w K mg base CX0 (d+1) a.a_29 a.d_29 aIE (spF K Z0 2 (cU d)):=(kC T d)
theorem mC(T:Tx K mg a):∀d:Nat,FnOk P w K mg base CX0 (d+0) a.a_2a a.d_2a aIF (spF K Z0 1 (eI (d)))
 |0=>iS rfl
 |d+1=>by
  have ih:=mC T d
  have ih_l_tree:=ih
  rw[show d+1+0=(d+0)+1 by lia]
  exact bK (k:=d+0) T.f_2a tQ λcdv A outer s H E hr=>show Ess _ K Z0 (defBody eU) (b_2a (eI d))from
  (aE (bN (aS (opEq (aT hr)) (aK (aB 0) aC) aP (nomark _))
  (aF (aJ (aQ (aA aP (aA (aK (aB 0) aC) aD)))))
  aR)
  (aE (aL (i:=1) tQ.nd (aK (jZ (aA (aQ (aA aC (aA aC (aA aC (aA aC aD))))) (aA (aQ (aA aC (aA aC (aA aC (aA aC aD))))) aD))) (cA callInt rfl T.z_int qP (aA (oE (opEq (aT hr)) (aK (aB 0) aC) aP (nomark _)) aD))))
  (aF (aJ (aQ (aA aP (aA (aB 1) (aA (aG ih_l_tree hr T.m_2a T.k_2a T.b_2a (aA (aK (aB 0) aC) aD) (hlen:=λ_ _ h=>mL h)) (aA (aG ih_l_tree hr T.m_2a T.k_2a T.b_2a (aA (aK (aB 0) aC) aD) (hlen:=λ_ _ h=>mL h)) aD)))))))))
theorem aCq(d:Nat)(T:Tx K mg a):FnOk P w K mg base CX0 (d+0) a.a_2a a.d_2a aIF (spF K Z0 1 (eI d)):=(mC T d)
theorem aHo(T:Tx K mg a):FnOk P w K mg base CX0 1 a.a_2b a.d_2b aIG (spF K Z0 1 mX) :=
 bK (k:=0) T.f_2b aGd λcdv A outer s H E hr=>show Ess _ K Z0 (defBody fK) b_2b from
  (aF (aJ (aI opAdd (aQ (aA aP (aA (cA callTup rfl T.z_tuple dR (aA (cV rfl (CompOk.of (N0:=aIG) (sc0:=defScope fK) (Nc:=["_law_entry"]) (js:=[none]) (by decide +kernel)) (kJ (aK (aB 0) aC)) (λ_ _ _ _ _ _=>(aN (i:=0) (show(["_law_entry"]:List Str).Nodup by decide +kernel))) (λ_ _ _ _ _ _=>dF) (λ_ _ _ _ _ _=>(aI opSub aC (aB 0)))) aD)) aD))) (gK (aB 0) (oS aC) oV))))
theorem zO(T:Tx K mg a):FnOk P w K mg base CX0 106 a.a_2c a.d_2c aIH (spF K Z0 5 jE) :=
 bK (k:=105) T.f_2c fS λcdv A outer s H E hr=>show Ess _ K Z0 (defBody dJ) b_2c from
  (aE (aL (i:=5) fS.nd (jZ (aA (xM ((pA T).mono (by lia)) hr T.m_17 T.k_17 T.bd_tree_program (aA (aB 0) (aA aC (aA aC (aA (aB 2) aD)))) (hlen:=λ_ _ h=>oH h)) (aA (xM ((sL T).mono (by lia)) hr T.m_b T.k_b T.bd_program_of (aA (aB 0) (aA aC (aA (aG ((aKy 50 T).mono (by lia)) hr T.m_21 T.k_21 T.b_21 (aA (aB 0) (aA (aB 1) aD)) (hlen:=λ_ _ h=>kY h)) aD))) (hlen:=λ_ _ h=>qN h)) aD))))
  (aE (eO aBE rfl (kJ (aB 4)) (aN (i:=6) fS.nd)
  (aE (aL (i:=7) fS.nd (cA callTup rfl T.z_tuple dR (aA (cV rfl (CompOk.of (N0:=aIS) (sc0:=defScope dJ) (Nc:=["_law_i","_law_number"]) (js:=[none,some 6]) (by decide +kernel)) (dW T.z_range aC) (λ_ _ _ _ _ _=>(aN (i:=0) (show(["_law_i","_law_number"]:List Str).Nodup by decide +kernel))) (λ_ _ _ _ _ _=>dF) (λ_ _ _ _ _ _=>(aI opAnd (aI opShr (aB 1) (aB 0)) aC))) aD)))
  (aE (aL (i:=8) fS.nd (cA callInt rfl T.z_int qP (aA (aG ((aHv 50 T).mono (by lia)) hr T.m_20 T.k_20 T.b_20 (aA (aB 1) (aA (aB 7) aD)) (hlen:=λ_ _ h=>fX h)) aD)))
  (aE (bN (aS (opNe (aT hr)) (aG ((sV 50 T).mono (by lia)) hr T.m_16 T.k_16 T.b_16 (aA aC (aA (aB 2) (aA (aB 7) aD))) (hlen:=λ_ _ h=>hZ h)) (aB 8) (nomark _))
  (aF (aJ oR))
  aR)
  (aF (eO aBE rfl (kJ (aB 5)) (aN (i:=9) fS.nd)
  (aF (bN (aS (opNe (aT hr)) (aG ((aMt T).mono (by lia)) hr T.m_1d T.k_1d T.b_1d (aA (aB 9) (aA (aB 7) (aA (aB 3) aD))) (hlen:=λ_ _ h=>aJf h)) (aI opAdd (aQ (aA (aI opMod (aI opAdd (aK (aB 3) aC) (aB 8)) (aB 0)) aD)) (gK (aB 3) (oS aC) oV)) (nomark _))
  (aF (aJ oR))
  aR))))))))
  (aF (aJ oR))))
theorem aPi(T:Tx K mg a):FnOk P w K mg base CX0 107 a.a_2d a.d_2d aII (spF K Z0 1 qL) :=
 bK (k:=106) T.f_2d jR λcdv A outer s H E hr=>show Ess _ K Z0 (defBody kN) b_2d from
  (aE (eO aBE rfl (dW T.z_range (cY (callMax2 rfl) rfl T.z_max aNa (aA aC (aA (cY (callMin2 rfl) rfl T.z_min aOf (aA aC (aA (cY callLen rfl T.z_len aCX (aA (aB 0) aD)) aD))) aD)))) (aN (i:=1) jR.nd)
  (aE (aL (i:=2) jR.nd (aG ((aHk T).mono (by lia)) hr T.m_25 T.k_25 T.b_25 (aA (aB 0) (aA (aB 1) aD)) (hlen:=λ_ _ h=>aCr h)))
  (aE (aL (i:=3) jR.nd (aK (aKz (ns:=[7,13,19,31,49,91,97,133,1801,247]) (by repeat constructor)) (aG ((eD T).mono (by lia)) hr T.m_26 T.k_26 T.b_26 (aA (aB 2) (aA aC aD)) (hlen:=λ_ _ h=>dE h))))
  (aE (aL (i:=4) jR.nd (aG ((xC 50 T).mono (by lia)) hr T.m_29 T.k_29 T.b_29 (aA (aB 2) (aA (aK (jZ (aA aC (aA aC (aA aC (aA aC aD))))) (aG ((eD T).mono (by lia)) hr T.m_26 T.k_26 T.b_26 (aA (aB 2) (aA aC aD)) (hlen:=λ_ _ h=>dE h))) aD)) (hlen:=λ_ _ h=>jL h)))
  (aE (aL (i:=5) jR.nd (aG ((aCq 50 T).mono (by lia)) hr T.m_2a T.k_2a T.b_2a (aA (aB 4) aD) (hlen:=λ_ _ h=>mL h)))
  (aE (bN (aNu (aHx (aS (opNe (aT hr)) (aK (aB 4) aC) aP (nomark _)) (aCf (aS (opEq (aT hr)) (aG ((eD T).mono (by lia)) hr T.m_26 T.k_26 T.b_26 (aA (aB 2) (aA aC aD)) (hlen:=λ_ _ h=>dE h)) aC (nomark _)))))
  (aF (sH (i:=4) (j:=5) rfl jR.nd (aA (aQ (aA aP (aA (aB 4) aD))) (aA (aG ((aHo T).mono (by lia)) hr T.m_2b T.k_2b T.b_2b (aA (aB 5) aD) (hlen:=λ_ _ h=>aCo h)) aD))))
  aR)
  (aE (aL (i:=6) jR.nd (oE (opNe (aT hr)) (cV rfl (CompOk.of (N0:=aIT) (sc0:=defScope kN) (Nc:=["_law_part"]) (js:=[none]) (by decide +kernel)) (kJ (gK (aB 5) (oS aC) oV)) (λ_ _ _ _ _ _=>(aN (i:=0) (show(["_law_part"]:List Str).Nodup by decide +kernel))) (λ_ _ _ _ _ _=>(pW (aS (opEq (aT hr)) (aK (aB 0) aC) aP (nomark _)))) (λ_ _ _ _ _ _=>(aB 0))) (jZ aD) (nomark _)))
  (aE (aL (i:=7) jR.nd (sU rfl T.z_list T.z_range (aI opMulA (aG ((eD T).mono (by lia)) hr T.m_26 T.k_26 T.b_26 (aA (aB 2) (aA aC aD)) (hlen:=λ_ _ h=>dE h)) (cA callInt rfl T.z_int qP (aA (aB 6) aD))) aC (aK (jZ (aA aC (aA aC aD))) (cA callInt rfl T.z_int qP (aA (aB 6) aD)))))
  (aF (bN (aPd (oI (aG ((zO T).mono (by lia)) hr T.m_2c T.k_2c T.b_2c (aA (aB 3) (aA (aB 4) (aA (aB 5) (aA (aG ((yM T).mono (by lia)) hr T.m_28 T.k_28 T.b_28 (aA (aB 2) (aA (aB 3) (aA aC aD))) (hlen:=λ_ _ h=>xW h)) (aA (aB 7) aD))))) (hlen:=λ_ _ h=>xJ h))))
  (aF (aJ oR))
  aR))))))))))
  (aF (aJ oR)))
open PySem L2 EV LS
local macro_rules | `(tactic| rfl') => `(tactic| repeat decreasing_trivial_pre_omega)
local macro_rules | `(tactic| decreasing_trivial_pre_omega) => `(tactic| with_reducible first
 | apply oP
 | apply zN
 | apply yH
 | apply aLm
 | refine aQb (by with_unfolding_all exact rfl) ?_
 | apply aPt
 | apply aPm
 | apply aLn
 | apply aLy
 | apply aLk
 | apply uL
 | apply aLg
 | apply aEm
 | apply aLw
 | apply aLo
 | apply aBa
 | apply aGi
 | apply aHf
 | apply aHr
 | (refine aMb ?hz ?_; case hz=>(with_unfolding_all first | exact rfl | decide | ((try simp only [aAN,true_and,and_true,aAL,aBQ,aDP,aAX,aDM]) <;> lia)))
 | (refine oF ?hz ?_; case hz=>(with_unfolding_all first | decide | ((try simp only [mulOk,aAN,aAL,aBQ,aDP,aAX,aDM]) <;> lia)))
 | apply aEf
 | apply aGu
 | apply aMa
 | apply aEt
 | apply aGm
 | refine fR (by with_unfolding_all exact rfl) ?_
 | refine iW (by with_unfolding_all exact rfl) ?_
 | refine vJ (by with_unfolding_all exact rfl) ?_
 | refine pY (by assumption) (by with_unfolding_all exact rfl) ?_
 | refine pY (aBI (by simpa only [aEF])) (by with_unfolding_all exact rfl) ?_
 | apply aAn
 | apply aBd
 | apply aGj
 | apply aLr
 | apply aAo
 | apply aEj
 | apply aFm
 | apply aLf
 | refine aGs (by with_unfolding_all exact rfl) (by with_unfolding_all simp) ?_
 | refine aEv (by with_unfolding_all exact rfl) (by with_unfolding_all simp) ?_
 | refine aEh (by with_unfolding_all exact rfl) (by with_unfolding_all simp) ?_
 | apply aCe
 | apply aBr
 | apply aAu
 | apply aAw
 | apply aAy
 | apply aIl
 | apply aGl
 | apply aLi
 | apply aLv
 | apply aIe
 | apply aGw
 | apply aHm
 | apply aFs
 | apply aIk
 | apply aFl
 | refine aLz (s:=⟨[],none⟩) ?_
 | apply aGz
 | apply aAr
 | apply yD
 | apply vK
 | apply aBc
 | apply aLt
 | apply aHn
 | apply aEb
 | apply aCc
 | refine aLx (by with_unfolding_all exact rfl) ?_
 | refine aIb (by with_unfolding_all exact rfl) ?_
 | refine ⟨_,rfl,?_⟩
 | refine ⟨_,_,_,_,rfl,rfl,by assumption,by with_unfolding_all exact rfl,?_⟩
 | refine ⟨_,_,_,_,rfl,rfl,aBI (by simpa only [aEF]),by with_unfolding_all exact rfl,?_⟩
 | refine aAb (by with_unfolding_all decide) ?_
 | refine mK (by with_unfolding_all decide) ?_
 | refine ⟨fun h=>absurd h (by with_unfolding_all decide),fun _=>?_⟩
 | refine ⟨fun _=>?_,fun h=>absurd h (by with_unfolding_all decide)⟩
 | refine ⟨_,_,rfl,?_⟩
 | refine ⟨_,_,_,rfl,?_⟩)
variable{b:Nat}{m:Int}
theorem dI(h:Bx M b)(h0:0 < m)(h1:m < 18446744073709551616):Ok (dO [.ref b,.d (.int m)] M) λw M'=>∃d:Int,w=.d (.int d)/\0<=d/\d < m/\Nx b M M':=by
 have hb:=h.lt
 obtain⟨x,y,z,e⟩:=h
 refine aU rfl ?_
 unfold b_26
 rfl'
 refine nS (λhx=>?_) (λhx=>?_)
 ·rfl'
  refine⟨aAZ _ (by lia),aAR _ h0,x / m,y,z,?_⟩
  rw[aCM (by simp)];rfl
 ·rfl'
  refine⟨aAZ _ (by lia),aAR _ h0,?_⟩
  rw[aCM (by simp)]
  exact⟨_,_,_,by rw[aCN];rfl⟩
theorem aFz{k:Int}(h0:0<=k)(hl:ns.length<=63):Ok (pU [.d (.fz (ns.map D.int)),.d (.int k)] M) λw M'=>∃x y z,w=.ref M.length/\M'=M++[[.int x,.int y,.int z]]:=by
 refine aEe rfl ?_
 have at_:∀i:Int,0<=i->i < (ns.length:Int)->∃n,atI (ns.map D.int) i=some (.int n):=λi a b=>by
  have hi:i.toNat < ns.length:=by lia
  refine⟨ns[i.toNat],?_⟩
  simp only[atI,ixN,aAL]
  rw[aAG a,aAG b]
  simp[hi]
 unfold b_25
 rfl'
 refine nS (λhx=>?_) (λhx=>?_)
 ·rw[aAL]at hx
  obtain⟨n,e⟩:=at_ k h0 hx
  rfl'
  refine vJ e ?_
  rfl'
  refine iW (atBox _) ?_
  rfl'
  exact⟨M.length,[.int _,.int _,.int _],rfl,aAH _,aEP,_,_,_,rfl,by rw[List.take_left]⟩
 ·rfl'
  refine nS (λhy=>?_) (λhy=>?_)
  ·rw[aAL]at hy
   obtain⟨n,e⟩:=at_ (k % ns.length) (aAZ _ (by lia)) (aAR _ hy)
   rfl'
   rw[aAL]
   refine vJ e ?_
   rfl'
   refine iW (atBox _) ?_
   rfl'
   exact⟨M.length,[.int _,.int _,.int _],rfl,aAH _,aEP,_,_,_,rfl,by rw[List.take_left]⟩
  ·rfl'
   refine iW (atBox _) ?_
   rfl'
   exact⟨M.length,[.int _,.int _,.int _],rfl,aAH _,aEP,_,_,_,rfl,by rw[List.take_left]⟩
theorem aDv(hb:Bx M b)(h2:2<=m)(hn:m<=1000000):Ok (kO [.ref b,.d (.int m)] M) λw M'=>∃r:Int,w=.d (.int r)/\0<=r/\r < m/\Nx b M M':=by
 have n:=Nx.refl hb
 unfold kO
 refine aU rfl ?_
 unfold b_27
 rfl'
 (refine(dI hb (by lia) (by lia)).mono ?_;rintro _ _ ⟨d1,rfl,l_d1,u_d1,n'⟩;replace n:=n.trans n';replace hb:=n'.bx hb;clear n')
 rfl'
 refine nS (λ_=>?_) (λ_=>?_)
 ·rfl'
  (refine(dI hb (by lia) (by lia)).mono ?_;rintro _ _ ⟨d2,rfl,l_d2,u_d2,n'⟩;replace n:=n.trans n';replace hb:=n'.bx hb;clear n')
  have e1:(1:Int) % m=1:=aBX (by lia) (by lia)
  obtain⟨w,ew,hw⟩:=at4 l_d2 u_d2 (.int 0) (.int (1 % m)) (.int (m - 1)) (.int ((m - 2) % m))
  refine iW ew ?_
  rcases hw with rfl|rfl|rfl|rfl
  ·rfl'
   rw[n.take]
   exact⟨by lia,by lia,n⟩
  ·rfl'
   rw[n.take]
   exact⟨by lia,by lia,n⟩
  ·rfl'
   rw[n.take]
   exact⟨by lia,by lia,n⟩
  ·rfl'
   rw[n.take]
   exact⟨aAZ _ (by lia),aAR _ (by lia),n⟩
 ·rfl'
  (refine(dI hb (by lia) (by lia)).mono ?_;rintro _ _ ⟨d2,rfl,l_d2,u_d2,n'⟩;replace n:=n.trans n';replace hb:=n'.bx hb;clear n')
  rfl'
  rw[n.take]
  exact⟨l_d2,u_d2,n⟩
theorem zT(hb:Bx M b)(h2:2<=n)(hn:n<=1000000)(m0:0<=m)(m1:m < 1000):Ok (jG [.ref b,.d (.int n),.d (.int m)] M) λw M'=>∃cs:List Int,w=.d (intsD cs)/\(cs.length:Int)=m/\Rs n cs/\Nx b M M':=by
 unfold jG
 refine aU rfl ?_
 unfold b_28
 rfl'
 refine eH (λi acc L' M'=>∃cs:List Int,acc=cs.map D.int/\cs.length=i/\Rs n cs/\Nx b M M'/\Bx M' b/\∃a,L'=[a,some (.ref b),some (.d (.int n))]) ?_
 rfl'
 refine⟨by simp only[in62,aAN];lia,⟨[],rfl,rfl,(λc h=>by cases h),Nx.refl hb,hb,none,rfl⟩,?_,by simp only[rngD,aAL,aCS];lia,?_,?_⟩
 ·rintro i acc L' M' hi ⟨cs,rfl,hl,_,n',_⟩
  exact⟨n'.len,(λt e=>by cases e),by simp[hl]⟩
 ·rintro i d acc _ M1 hx ⟨cs,rfl,hl,hr,n',hb',a,rfl⟩
  obtain⟨hi,rfl⟩:=eR hx
  rfl'
  refine(aDv (hb'.app (J:=[cs.map D.int])) h2 hn).mono ?_
  rintro _ _ ⟨r,rfl,l,u,n2⟩
  obtain⟨M2,rfl,n3⟩:=n2.unapp hb'.lt
  refine⟨_,M2,rfl,rfl,cs++[r],by simp,by simp[hl],?_,n'.trans n3,n3.bx hb',_,rfl⟩
  intro c hc
  rcases aDQ.mp hc with hc|hc
  ·exact hr c hc
  ·rw[aCL.mp hc];exact⟨l,u⟩
 ·rintro acc _ M1 ⟨cs,rfl,hl,hr,n',hb',a,rfl⟩
  rfl'
  refine gO (xs:=cs.map D.int) rfl ?_
  rfl'
  rw[n'.take]
  simp only[rngD,aAL,aCS]at hl
  exact⟨by lia,hr,n'⟩
local macro_rules | `(tactic| rfl') => `(tactic| repeat decreasing_trivial_pre_omega)
local macro_rules | `(tactic| decreasing_trivial_pre_omega) => `(tactic| with_reducible first
 | refine oP ?_ | refine zN ?_ | refine yH ?_ | refine aLm ?_ | refine aQb (by with_unfolding_all exact rfl) ?_ | refine aPt ?_ | refine aPm ?_ | refine aLn ?_ | refine aLy ?_ | refine aLk ?_ | refine uL ?_ | refine aLg ?_ | refine aEm ?_ | refine aLw ?_ | refine aLo ?_
 | refine ok_nx ?_ | refine ok_noX ?_ | refine aBa ?_ | refine ok_isX ?_ | refine ok_fld ?_ | refine ok_sRaise ?_ | refine aGi ?_ | refine ok_ltA ?_ | refine aHf ?_ | refine aHr ?_ | (refine aMb ?hz ?_; case hz=>(with_unfolding_all first | exact rfl | decide | ((try simp only [aAN,true_and,and_true,aAL,aBQ,aDP,aAX,aDM]) <;> lia))) | (refine oF ?hz ?_; case hz=>(with_unfolding_all first | decide | ((try simp only [mulOk,aAN,aAL,aBQ,aDP,aAX,aDM]) <;> lia))) | refine aEf ?_ | refine aGu ?_ | refine ok_eqB ?_ | refine ok_neB ?_ | refine aMa ?_ | refine ok_isnot ?_ | refine ok_isnotB ?_ | refine aEt ?_ | refine aGm ?_
 | refine fR (by with_unfolding_all exact rfl) ?_ | refine iW (by with_unfolding_all exact rfl) ?_ | refine vJ (by with_unfolding_all exact rfl) ?_ | refine pY (by assumption) (by with_unfolding_all exact rfl) ?_ | refine pY (aBI (by simpa only [aEF])) (by with_unfolding_all exact rfl) ?_
 | refine aAn ?_ | refine aBd ?_ | refine aGj ?_ | refine aLr ?_ | refine aAo ?_ | refine aEj ?_ | refine aFm ?_ | refine aLf ?_
 | refine aGs (by with_unfolding_all exact rfl) (by with_unfolding_all simp) ?_ | refine aEv (by with_unfolding_all exact rfl) (by with_unfolding_all simp) ?_ | refine aEh (by with_unfolding_all exact rfl) (by with_unfolding_all simp) ?_ | refine aCe ?_
 | refine aBr ?_ | refine aAu ?_ | refine aAw ?_ | refine ok_lenR (by assumption) ?_ | refine aAy ?_ | refine ok_intI ?_ | refine aIl ?_ | refine aGl ?_
 | refine aLi ?_ | refine aLv ?_ | refine ok_SlR ?_ | refine aIe ?_ | refine aGw ?_ | refine aHm ?_ | refine aFs ?_ | refine aIk ?_ | refine aFl ?_ | refine aLz (s:=⟨[],none⟩) ?_ | refine aGz ?_ | refine aAr ?_ | refine ok_iZip3 ?_ | refine ok_tupRev (by with_unfolding_all (simp <;> lia)) ?_ | refine ok_iDown ?_ | refine ok_iDown2 ?_ | refine ok_eRev ?_ | refine ok_sDel ?_ | refine ok_iR3 ?_ | refine ok_ltNi ?_ | refine ok_gCut ?_ | refine yD ?_ | refine vK ?_ | refine ok_pick ?_ | refine ok_trim ?_ | refine ok_forW ?_ | refine aBc ?_ | refine ok_par3 ?_ | refine aLt ?_ | refine aHn ?_ | refine aEb ?_ | refine ok_bk ?_ | refine ok_ct ?_
 | refine ok_isi (by with_unfolding_all exact rfl) ?_ | refine aCc ?_ | refine aLx (by with_unfolding_all exact rfl) ?_ | refine aIb (by with_unfolding_all exact rfl) ?_ | refine ⟨_,rfl,?_⟩ | refine ⟨_,_,_,_,rfl,rfl,by assumption,by with_unfolding_all exact rfl,?_⟩ | refine ⟨_,_,_,_,rfl,rfl,aBI (by simpa only [aEF]),by with_unfolding_all exact rfl,?_⟩
 | refine aAb (by with_unfolding_all decide) ?_ | refine mK (by with_unfolding_all decide) ?_ | refine ⟨fun h=>absurd h (by with_unfolding_all decide),fun _=>?_⟩ | refine ⟨fun _=>?_,fun h=>absurd h (by with_unfolding_all decide)⟩ | refine ⟨_,_,rfl,?_⟩ | refine ⟨_,_,_,rfl,?_⟩)
noncomputable def rm(k:Nat):Nat:=if k=2 then 2 else 4
noncomputable def bt(k:Nat):Nat:=if k=2 then 1 else 2
noncomputable def ent(k:Nat)(t:List Nat)(a b:Nat):Nat:=if a < k/\b < k then pl t (a*k+b)else 0
noncomputable def bv(e bit:Nat):Nat:=e / 2 ^ bit % 2
noncomputable def rowOf(k:Nat)(t:List Nat)(bit:Nat):List Nat:=(List.range (rm k*rm k)).map λc=>bv (ent k t (c % rm k) (c / rm k)) bit
noncomputable def plc(c:Nat):List Nat:=(List.range 4).filter λp=>c / 2 ^ p % 2=1
theorem qI(x y:Nat):Builtin.bitAnd (x:Int) (y:Int)=((x &&& y:Nat):Int):=by
 unfold Builtin.bitAnd
 rw[aGK (aGM x),aGK (aGM y)]
 simp
theorem mG(x:Nat):Builtin.bitAnd (x:Int) 1=((x % 2:Nat):Int):=by
 have:=qI x 1
 rw[Nat.and_one_is_mod]at this
 exact this
theorem aBo(x p:Nat):(x:Int) / 2 ^ p=((x / 2 ^ p:Nat):Int):=by simp
theorem fT :Ok (iU [.d (.int k)] M) λw M'=>w=.d (.int (bt k:Nat))/\M'=M:=by
 unfold iU
 refine aU rfl ?_
 unfold b_10
 unfold bt
 rfl'
 refine wJ (λh=>?_) (λh=>?_)
 ·have h:k=2:=by simp at h;lia
  rfl'
  exact⟨by rw[aAG h];rfl,by simp⟩
 ·have h:¬k=2:=by simp at h;lia
  rfl'
  exact⟨by rw[aAC h];rfl,by simp⟩
theorem yY:∀c,c < 16->(List.range (Builtin.Int.intBits (c:Nat))).filter (λp=>c / 2 ^ p % 2=1)=plc c:=by decide
theorem aCt:∀c,c < 16->Builtin.Int.intBits (c:Nat)<=4:=by decide
variable{c:Nat}
theorem xV(hc:c < 16):Ok (gI [.d (.int c)] M) λw M'=>w=.d (natsD (plc c))/\M'=M:=by
 have hb:=aCt c hc
 unfold gI
 refine aU rfl ?_
 unfold b_15
 rfl'
 refine eH (λi acc L' M'=>acc=((List.range i).filter λp=>c / 2 ^ p % 2=1).map (λp=>D.int (p:Nat))/\M'=M/\∃a,L'=[a,some (.d (.int c))]) ?_
 rfl'
 refine aCh ?_
 rfl'
 refine⟨by simp only[in62,aAN];lia,⟨rfl,rfl,none,rfl⟩,?_,by simp[rngD];lia,?_,?_⟩
 ·rintro i acc L' M' hi ⟨rfl,rfl,a,rfl⟩
  refine⟨rfl,(λt e=>by cases e),?_⟩
  have:=aFR (λp=>decide (c / 2 ^ p % 2=1)) (List.range i)
  simpa using this
 ·rintro i d acc _ M' hx ⟨rfl,rfl,a,rfl⟩
  obtain⟨hi,rfl⟩:=eR hx
  rfl'
  have e1:decide (Builtin.bitAnd ((c:Int) / 2 ^ (0+(i:Nat):Int).toNat) 1=1)=decide (c / 2 ^ i % 2=1):=by
   rw[show(0+(i:Nat):Int).toNat=i by lia,aBo,mG]
   congr 1
   apply propext
   lia
  rw[e1]
  refine⟨λh=>?_,λh=>?_⟩
  ·rfl'
   refine⟨_,_,rfl,rfl,?_,rfl,_,rfl⟩
   rw[aDO,aFA,aBV]
   simp[aFF h]
  ·refine⟨_,rfl,?_,rfl,_,rfl⟩
   rw[aDO,aFA,aBV]
   simp[aGQ h]
 ·rintro acc _ M' ⟨rfl,rfl,a,rfl⟩
  rfl'
  rw[show(rngD 0 ((Builtin.Int.intBits (c:Nat):Nat):Int).toNat).length=Builtin.Int.intBits (c:Nat) by simp[rngD],yY c hc]
  refine gO (xs:=(plc c).map λp=>D.int (p:Nat)) rfl ?_
  rfl'
  exact⟨rfl,by simp⟩
theorem vN(h:i < t.length):atI (t.map λk=>D.int (k:Nat)) (i:Nat)=some (.int (pl t i:Nat)):=by
 simp only[atI,ixN]
 rw[aAG (by lia),aAG (by simp;lia),Option.bind_some,aCD,aAP,aAQ h]
 simp[pl,h]
theorem zA{x y:Nat}(hx:x < k)(hy:y < k):x*k+y < k*k:=by
 have:(x+1)*k<=k*k:=Nat.mul_le_mul_right k hx
 rw[Nat.add_mul]at this
 lia
theorem uO{bit:Nat}(hl:t.length=k*k):Ok (iX [.d (.int k),.d (natsD t),.d (.int bit)] M) λw M'=>w=.d (.lst ((rowOf k t bit).map λx=>D.int (x:Nat)))/\M'=M:=by
 have hr:rm k=2\/rm k=4:=by unfold rm;split <;> simp
 unfold iX
 refine aU rfl ?_
 unfold b_13
 rfl'
 refine fT.mono ?_
 rintro _ M ⟨rfl,rfl⟩
 rfl'
 refine Ok.mono (Q:=λw M1=>w=.d (.int (rm k:Nat))/\M1=M) ?_ ?_
 ·refine wJ (λh=>?_) (λh=>?_)
  ·have:k=2:=by simp[bt]at h;split at h <;> simp_all
   subst this
   rfl'
   exact⟨rfl,rfl⟩
  ·have:¬k=2:=by intro e;subst e;simp[bt]at h
   rfl'
   exact⟨by simp[rm,this],rfl⟩
 rintro _ M ⟨rfl,rfl⟩
 obtain⟨r,er⟩:∃r,r=rm k:=⟨_,rfl⟩
 obtain⟨f,hf⟩:∃f:Nat->D,f=λc=>D.int ((bv (ent k t (c % r) (c / r)) bit:Nat):Int):=⟨_,rfl⟩
 rw[<- er]at hr ⊢
 rfl'
 refine⟨by simp only[in62,aAN];lia,?_⟩
 refine dL (λb L M'=>M'=M++[(List.range (b*r)).map f]/\∃o5 o6 o7,L=[some (.d (.int k)),some (.d (natsD t)),some (.d (.int bit)),some (.d (.int r)),some (.ref M.length),o5,o6,o7]) ⟨by simp,none,none,none,rfl⟩ (λi L M _ _ t e=>by cases e) ?_ ?_
 ·rintro b _ _ _ hb ⟨rfl,o5,o6,o7,rfl⟩
  obtain⟨hb,rfl⟩:=eR hb
  have hb:b < r:=by lia
  rw[show(0:Int)+(b:Nat)=(b:Nat) by lia]
  rfl'
  refine⟨by simp only[in62,aAN];lia,?_⟩
  refine dL (λa L M'=>M'=M++[(List.range (b*r+a)).map f]/\∃o6 o7,L=[some (.d (.int k)),some (.d (natsD t)),some (.d (.int bit)),some (.d (.int r)),some (.ref M.length),some (.d (.int b)),o6,o7]) ⟨by simp,_,_,rfl⟩ (λi L M _ _ t e=>by cases e) ?_ ?_
  ·rintro a _ _ _ ha ⟨rfl,o6,o7,rfl⟩
   obtain⟨ha,rfl⟩:=eR ha
   have ha:a < r:=by lia
   have em:(b*r+a) % r=a:=by rw[aDY,Nat.mul_add_mod,aFM ha]
   have ed:(b*r+a) / r=b:=by rw[aDY,Nat.mul_add_div (by lia),Nat.div_eq_of_lt ha,Nat.add_zero]
   rw[show(0:Int)+(a:Nat)=(a:Nat) by lia]
   have g0:(M++[(List.range (b*r+a)).map f])[M.length]?=some ((List.range (b*r+a)).map f):=by simp
   have hbr:b*r+a<=16:=by
    rcases hr with h|h <;> rw[h]at hb ha ⊢ <;> lia
   refine yH (oP (Ok.mono (Q:=λo M1=>M1=M++[(List.range (b*r+a)).map f]/\o=.nx [some (.d (.int k)),some (.d (natsD t)),some (.d (.int bit)),some (.d (.int r)),some (.ref M.length),some (.d (.int b)),some (.d (.int a)),some (.d (.int (ent k t a b:Nat)))]) ?_ ?_))
   ·refine zN (aEj (Ok.mono (Q:=λc M1=>c=decide (a < k/\b < k)/\M1=M++[(List.range (b*r+a)).map f]) ?_ ?_))
    ·rfl'
     refine⟨λh=>?_,λh=>?_⟩
     ·rfl'
      refine⟨?_,rfl⟩
      simp at h ⊢
      lia
     ·refine⟨?_,rfl⟩
      simp at h ⊢
      lia
    rintro _ _ ⟨rfl,rfl⟩
    refine wJ (λh=>?_) (λh=>?_)
    ·have h:=aFF h
     unfold natsD
     rfl'
     rw[show(a:Int)*(k:Int)+(b:Int)=((a*k+b:Nat):Int) by simp]
     refine fR (vN (by rw[hl];exact zA h.1 h.2)) ?_
     rfl'
     exact⟨rfl,by simp[ent,h,natsD]⟩
    ·have h:=aGQ h
     rfl'
     exact⟨rfl,by simp[ent,h]⟩
   rintro _ _ ⟨rfl,rfl⟩
   rfl'
   rw[show(bit:Int).toNat=bit by lia,aBo,mG]
   refine tP g0 (by simp;lia) ?_
   refine⟨?_,_,_,rfl⟩
   rw[<- Nat.add_assoc,aDO,aBV]
   simp[hf,em,ed,bv]
  ·rintro _ _ ⟨rfl,o6,o7,rfl⟩
   refine⟨?_,_,_,_,rfl⟩
   simp only[rngD,aAL,aCS,aCD]
   rw[Nat.add_mul,Nat.one_mul]
 ·rintro _ _ ⟨rfl,o5,o6,o7,rfl⟩
  rfl'
  refine aBz (xs:=(rowOf k t bit).map λx=>D.int (x:Nat)) (by lia) ?_ ?_
  ·simp only[rngD,aAL,aCS,aCD]
   rw[er,rowOf,aBP,<- er]
   simp[hf,aCQ]
  ·exact⟨rfl,by simp⟩
noncomputable def stp(s:Nat)(l:List Int)(c:Nat):List Int:=if 0 < c &&& s then l.set c (l.getD c 0 - l.getD (c - s) 0)else l
noncomputable def stm(s:Nat)(l:List Int):List Int:=(List.range l.length).foldl (stp s) l
noncomputable def mbj(l:List Int):Nat->List Int
 |0=>l
 |j+1=>stm (2 ^ j) (mbj l j)
variable{s:Nat}{l:List Int}
theorem aIs :(stp s l c).length=l.length:=by unfold stp;split <;> simp
theorem qJ{s:Nat}:∀(cs:List Nat) (l:List Int),(cs.foldl (stp s) l).length=l.length
 |[],_=>rfl
 |c::cs,l=>by rw[aGC,qJ cs,aIs]
theorem pV{l:List Int}:∀j,(mbj l j).length=l.length
 |0=>rfl
 |j+1=>by show(stm _ _).length=_;unfold stm;rw[qJ,pV j]
theorem aMi:∀j,j < 4->∀c,c < 16->0 < c &&& 2 ^ j->2 ^ j<=c:=by decide
theorem aHe(h:i < l.length):atI (l.map D.int) (i:Nat)=some (.int (l.getD i 0)):=by
 simp only[atI,ixN]
 rw[aAG (by lia),aAG (by simp;lia),Option.bind_some,aCD,aAP,aAQ h]
 simp[h]
variable{q:Nat}
theorem aCl(hl:l.length=2 ^ q)(hq:q<=4):Ok (eF [.d (.lst (l.map D.int))] M) λw M'=>w=.d (.lst ((mbj l q).map D.int))/\M'=M:=by
 have h16:2 ^ q<=2 ^ 4:=aDB (by lia) hq
 have h16:l.length<=16:=by lia
 unfold eF
 refine aU rfl ?_
 unfold b_14
 rfl'
 refine aJo (xs:=l.map D.int) rfl ?_
 rfl'
 refine(oG (QS:=λo M'=>M'=M++[(mbj l q).map D.int]/\∃o3 o4,o=.nx [some (.d (.lst (l.map D.int))),some (.ref M.length),some (.d (.int (l.length:Nat))),o3,o4]) (I:=λm L M'=>∃j,j<=q/\m=q - j/\M'=M++[(mbj l j).map D.int]/\∃o4,L=[some (.d (.lst (l.map D.int))),some (.ref M.length),some (.d (.int (l.length:Nat))),some (.d (.int (2 ^ j:Nat))),o4]) ?_ NW q _ _ ⟨0,by lia,by lia,rfl,none,by simp⟩ (by rw[aHz];lia)).mono ?_
 ·rintro m L M' ⟨j,hj,rfl,rfl,o4,rfl⟩
  rfl'
  refine⟨λh=>?_,λh=>?_⟩
  ·have hjq:j < q:=by
    refine Classical.byContradiction λc=>?_
    have:j=q:=by lia
    subst this
    rw[hl]at h
    simp at h
   rfl'
   refine⟨by simp only[in62,aAN];lia,?_⟩
   refine dL (λc L M'=>M'=M++[((List.range c).foldl (stp (2 ^ j)) (mbj l j)).map D.int]/\∃o4,L=[some (.d (.lst (l.map D.int))),some (.ref M.length),some (.d (.int (l.length:Nat))),some (.d (.int (2 ^ j:Nat))),o4]) ⟨rfl,o4,rfl⟩ (λi L M _ _ t e=>by cases e) ?_ ?_
   ·rintro c _ _ _ hc ⟨rfl,o4,rfl⟩
    obtain⟨hc,rfl⟩:=eR hc
    have hc:c < l.length:=by lia
    rw[show(0:Int)+(c:Nat)=(c:Nat) by lia]
    obtain⟨g,hg⟩:∃g,g=(List.range c).foldl (stp (2 ^ j)) (mbj l j):=⟨_,rfl⟩
    have gl:g.length=l.length:=by rw[hg,qJ,pV]
    have es:(List.range (c+1)).foldl (stp (2 ^ j)) (mbj l j)=stp (2 ^ j) g c:=by rw[aDO,List.foldl_append,<- hg];rfl
    rw[es,<- hg]
    have g0:(M++[g.map D.int])[M.length]?=some (g.map D.int):=by simp
    rfl'
    rw[qI]
    refine nS (λh=>?_) (λh=>?_)
    ·have h:0 < c &&& 2 ^ j:=by lia
     have hle:=aMi j (by lia) c (by lia) h
     refine vK ?_
     rfl'
     refine⟨M.length,c,g.map D.int,g.getD c 0,rfl,rfl,g0,by lia,by simp[gl,hc],?_⟩
     rfl'
     rw[show(c:Int) - ((2 ^ j:Nat):Int)=((c - 2 ^ j:Nat):Int) by lia]
     refine pY g0 (aHe (Nat.lt_of_le_of_lt (Nat.sub_le _ _) (by lia))) ?_
     refine⟨_,g.map D.int,rfl,g0,by simp;lia,?_⟩
     refine⟨?_,_,rfl⟩
     unfold stp
     rw[aAG h]
     simp
    ·rfl'
     refine⟨?_,_,rfl⟩
     unfold stp
     rw[aAC (by lia)]
   ·rintro _ _ ⟨rfl,o4,rfl⟩
    rfl'
    refine⟨q - (j+1),by lia,j+1,by lia,rfl,?_,o4,?_⟩
    ·simp only[rngD,aAL,aCS,aCD]
     show _=M++[(stm (2 ^ j) (mbj l j)).map D.int]
     unfold stm
     rw[pV]
    ·rw[Nat.pow_succ]
     simp
  ·have:j=q:=by
    refine Classical.byContradiction λc=>?_
    have h2:2 ^ j < 2 ^ q:=Nat.pow_lt_pow_right (by lia) (by lia)
    rw[hl]at h
    exact aGQ h (Int.ofNat_lt.mpr h2)
   subst this
   exact⟨rfl,_,_,rfl⟩
 ·rintro _ _ ⟨rfl,o3,o4,rfl⟩
  rfl'
  refine aBz (xs:=(mbj l q).map D.int) (by lia) (by simp) ?_
  exact⟨rfl,by simp⟩
noncomputable def sub(l:List Int)(c:Nat):Int:=((List.range l.length).map λc'=>if c' &&& c=c' then l.getD c' 0 else 0).sum
theorem mob4(a b c d:Int):∀i,i < 4->sub (mbj [a,b,c,d] 2) i=[a,b,c,d].getD i 0:=by
 intro i hi
 have:mbj [a,b,c,d] 2=[a,b - a,c - a,d - c - (b - a)]:=by simp[mbj,stm,stp,List.range,List.range.loop]
 rw[this]
 have:i=0\/i=1\/i=2\/i=3:=by lia
 rcases this with rfl|rfl|rfl|rfl <;> simp[sub,List.range,List.range.loop] <;> lia
theorem mob16(a0 a1 a2 a3 a4 a5 a6 a7 a8 a9 b0 b1 b2 b3 b4 b5:Int):∀i,i < 16->sub (mbj [a0,a1,a2,a3,a4,a5,a6,a7,a8,a9,b0,b1,b2,b3,b4,b5] 4) i=[a0,a1,a2,a3,a4,a5,a6,a7,a8,a9,b0,b1,b2,b3,b4,b5].getD i 0:=by
 intro i hi
 generalize h:mbj [a0,a1,a2,a3,a4,a5,a6,a7,a8,a9,b0,b1,b2,b3,b4,b5] 4=m
 simp[mbj,stm,stp,List.range,List.range.loop]at h
 subst h
 have:i=0\/i=1\/i=2\/i=3\/i=4\/i=5\/i=6\/i=7\/i=8\/i=9\/i=10\/i=11\/i=12\/i=13\/i=14\/i=15:=by lia
 rcases this with rfl|rfl|rfl|rfl|rfl|rfl|rfl|rfl|rfl|rfl|rfl|rfl|rfl|rfl|rfl|rfl <;> simp[sub,List.range,List.range.loop] <;> lia
theorem mob(hl:l.length=2 ^ q)(hq:q=2\/q=4)(hi:i < 2 ^ q):sub (mbj l q) i=l.getD i 0:=by
 rcases hq with rfl|rfl
 ·match l,hl with
  |[a,b,c,d],_=>exact mob4 a b c d i hi
 ·match l,hl with
  |[a0,a1,a2,a3,a4,a5,a6,a7,a8,a9,b0,b1,b2,b3,b4,b5],_=>exact mob16 a0 a1 a2 a3 a4 a5 a6 a7 a8 a9 b0 b1 b2 b3 b4 b5 i hi
theorem tN:∀xs ys:List Nat,HT.lexLt (xs.map λk:Nat=>(k:Int)) (ys.map λk:Nat=>(k:Int))=lexN xs ys
 |[],[]=>rfl
 |[],_::_=>rfl
 |_::_,[]=>rfl
 |x::xs,y::ys=>by
  simp only[aAO,HT.lexLt,lexN,tN xs ys]
  by_cases h:x=y
  ·subst h;simp
  ·have:¬((x:Int)=(y:Int)):=by lia
   rw[aAC h,aAC this]
   simp
theorem xA:∀xs ys:List Nat,eqDs (xs.map λk=>D.int (k:Nat)) (ys.map λk=>D.int (k:Nat))=decide (xs=ys)
 |[],[]=>rfl
 |[],_::_=>by simp[eqDs]
 |_::_,[]=>by simp[eqDs]
 |x::xs,y::ys=>by
  simp only[aAO,eqDs,eqD,xA xs ys]
  by_cases h:x=y
  ·subst h;simp
  ·have:¬((x:Int)=(y:Int)):=by lia
   simp[h,this]
theorem aDr(xs:List Nat):deps (xs.map λk=>D.int (k:Nat))=0:=by induction xs with|nil=>rfl|cons x r ih=>simp[deps,dep,ih]
theorem aAa(xs:List Nat):intsOf (xs.map λk=>D.int (k:Nat))=some (xs.map λk:Nat=>(k:Int)):=by
 have:=mP (xs.map λk:Nat=>(k:Int))
 rw[aBP]at this
 exact this
theorem aJu(xs ys:List Nat):ltE (natsD xs) (natsD ys)=some (lexN xs ys):=by
 simp only[ltE,natsD,aAa,tN]
theorem aKp(xs ys:List Nat):eqD (natsD xs) (natsD ys)=decide (xs=ys):=by
 simp only[natsD,eqD,xA]
noncomputable def itm(n:Int)(m:List Int)(c:Nat):D:=.tup [natsD (plc c),.int (m.getD c 0 % n)]
noncomputable def itms(n:Int)(m:List Int):List D:=(List.range m.length).map (itm n m)
variable{m:List Int}
theorem lS(h:i < m.length):(itms n m).getD i .non=itm n m i:=by simp[itms,h]
theorem uZ(a b:List Nat)(x y:Int):ltT [natsD a,.int x] [natsD b,.int y]=some (if a=b then decide (x < y)else lexN a b):=by
 simp only[ltT,aKp,aAN,aJu]
 by_cases h:a=b
 ·rw[aAG h,aAG h]
  by_cases e:x=y
  ·subst e;simp[eqD]
  ·simp[eqD,e,ltE]
 ·rw[aAC h,aAC h]
theorem uV:∀i,i < 16->∀j,j < 16->plc i=plc j->i=j:=by decide
theorem kW(h16:m.length<=16)(hi:i < m.length)(hj:j < m.length)(ne:i≠j):EV.tLt (itms n m) i j=lexN (plc i) (plc j):=by
 unfold EV.tLt
 rw[lS hi,lS hj]
 simp only[itm,tl,uZ]
 rw[aAC (λe=>ne (uV i (by lia) j (by lia) e))]
 cases lexN (plc i) (plc j) <;> rfl
theorem aIu{a b:List Nat}(h:a≠b):lexN a b=!lexN b a:=by
 cases h1:lexN a b with
 |true =>
  cases h2:lexN b a with
  |false=>rfl
  |true=>have:=gZ h1 h2;rw[gF]at this;cases this
 |false =>
  cases h2:lexN b a with
  |true=>rfl
  |false=>exact(h (qY h1 h2)).elim
theorem pK(h2:2<=m.length)(h16:m.length<=16):TS (itms n m):=by
 have hl:(itms n m).length=m.length:=by simp[itms]
 refine⟨by lia,by lia,?_,?_,?_⟩
 ·intro x hx
  obtain⟨c,_,rfl⟩:=aBC.mp hx
  exact⟨_,_,rfl,by simp[dep,deps,aDr]⟩
 ·intro i j hi hj
  rw[lS (by lia),lS (by lia)]
  simp only[itm,tl,uZ]
  simp
 ·rw[hl]
  have irr:∀i,i < m.length->EV.tLt (itms n m) i i=false:=by
   intro i hi
   unfold EV.tLt
   rw[lS hi]
   simp[itm,tl,uZ]
  refine⟨?_,?_⟩
  ·intro i j hi hj ne
   rw[kW h16 hi hj ne,kW h16 hj hi (Ne.symm ne)]
   exact aIu λe=>ne (uV i (by lia) j (by lia) e)
  ·intro i j k hi hj hk h1 h2
   have n1:i≠j:=by rintro rfl;rw[irr i hi]at h1;cases h1
   have n2:j≠k:=by rintro rfl;rw[irr j hj]at h2;cases h2
   rw[kW h16 hi hj n1]at h1
   rw[kW h16 hj hk n2]at h2
   have h3:=gZ h1 h2
   have n3:i≠k:=by rintro rfl;rw[gF]at h3;cases h3
   rw[kW h16 hi hk n3]
   exact h3
noncomputable def encJ(x:Int×Nat):D:=.tup [.int x.1,natsD (plc x.2)]
noncomputable def rowJ(n:Int)(m:List Int):List (Int×Nat):=(srtP (itms n m)).map λi=>(m.getD i 0 % n,i)
theorem wT(h2:2<=m.length)(h16:m.length<=16):srtT (itms n m)=(rowJ n m).map λx=>.tup [natsD (plc x.2),.int x.1]:=by
 have T:=pK (n:=n) h2 h16
 have hl:(itms n m).length=m.length:=by simp[itms]
 unfold srtT rowJ
 rw[aBP]
 refine aEU λi hi=>?_
 have:=uW T i hi
 rw[lS (by lia)]
 rfl
theorem lM(h2:2<=m.length)(h16:m.length<=16):(rowJ n m).Perm ((List.range m.length).map λi=>(m.getD i 0 % n,i)):=by
 have T:=pK (n:=n) h2 h16
 have hl:(itms n m).length=m.length:=by simp[itms]
 have:=(lB T.lin T.l2).2.1.pm
 rw[hl]at this
 unfold rowJ srtP
 rw[hl]
 exact this.map _
theorem aKs(h2:2<=m.length)(h16:m.length<=16):(rowJ n m).Pairwise λx y=>lexN (plc x.2) (plc y.2)=true:=by
 have T:=pK (n:=n) h2 h16
 have hl:(itms n m).length=m.length:=by simp[itms]
 have h:=aKx T
 rw[wT h2 h16,aGU]at h
 have nd:(rowJ n m).Pairwise λx y=>x.2≠y.2:=by
  have np:=(lB T.lin T.l2).2.1.pm.nodup_iff.mpr List.nodup_range
  unfold rowJ
  rw[aGU]
  exact np
 have rg:∀x∈rowJ n m,x.2 < 16:=by
  intro x hx
  obtain⟨i,hi,rfl⟩:=aBC.mp hx
  have:=uW T i hi
  show i < 16
  lia
 have hh:=aBM.mp h
 have nn:=aBM.mp nd
 refine aBM.mpr λi j hi hj hij=>?_
 have h1:=hh i j hi hj hij
 have h3:=nn i j hi hj hij
 simp only[tl,uZ]at h1
 rw[aAC (λe=>h3 (uV _ (rg _ (List.getElem_mem hi)) _ (rg _ (List.getElem_mem hj)) e))]at h1
 exact Option.some.inj h1
noncomputable def gS(c:Nat)(x:Int×Nat):Int:=if x.2 &&& c=x.2 then x.1 else 0
theorem aFi{l':List Int}(h:l.Perm l'):l.sum=l'.sum:=by
 induction h with
 |nil=>rfl
 |cons x _ ih=>simp[ih]
 |swap x y l=>simp;lia
 |trans _ _ h1 h2=>exact h1.trans h2
theorem yK{c:Nat}:∀l:List (Int×Nat),((l.filter λx=>!decide (x.1=0)).map (gS c)).sum=(l.map (gS c)).sum
 |[]=>rfl
 |x::l=>by
  rw[List.filter_cons]
  by_cases h:x.1=0
  ·have:gS c x=0:=by unfold gS;rw[h];split <;> rfl
   simp[h,this]
   exact yK l
  ·simp[h]
   exact yK l
theorem aEw{n:Int}{m:List Int}{c:Nat}:∀l:List Nat,Cg n ((l.map λi=>gS c (m.getD i 0 % n,i)).sum) ((l.map λi=>if i &&& c=i then m.getD i 0 else 0).sum)
 |[]=>Cg.rfl
 |i::l=>by
  rw[aAO,aAO,aCF,aCF]
  refine Cg.add ?_ (aEw l)
  unfold gS
  dsimp only
  split
  ·exact Cg.mod
  ·exact Cg.rfl
theorem aFx(h2:2<=m.length)(h16:m.length<=16):Cg n ((((rowJ n m).filter λx=>!decide (x.1=0)).map (gS c)).sum) (sub m c):=by
 rw[yK,aFi ((lM h2 h16).map (gS c)),aBP]
 exact aEw _
noncomputable def qOf(k:Nat):Nat:=if k=2 then 2 else 4
theorem aNz:rm k*rm k=2 ^ qOf k:=by unfold rm qOf;split <;> rfl
theorem sR:qOf k=2\/qOf k=4:=by unfold qOf;split <;> simp
structure Pol(n:Int)(k:Nat)(t:List Nat)(bit:Nat)(ts:List (Int×Nat)):Prop where
 rng:∀x∈ts,1<=x.1/\x.1 < n/\x.2 < 2 ^ qOf k
 srt:ts.Pairwise λx y=>lexN (plc x.2) (plc y.2)=true
 sm:∀c,c < 2 ^ qOf k->Cg n ((ts.map (gS c)).sum) (bv (ent k t (c % rm k) (c / rm k)) bit:Nat)
 len:ts.length<=2 ^ qOf k
theorem pG{bit:Nat}(hn:2<=n)(hl:t.length=k*k) :
  Ok (fL [.d (.int n),.d (.int k),.d (natsD t),.d (.int bit)] M) λw M'=>∃ts,w=.d (.tup (ts.map encJ))/\Pol n k t bit ts/\M'=M:=by
 obtain⟨l,el⟩:∃l:List Int,l=(rowOf k t bit).map λx:Nat=>(x:Int):=⟨_,rfl⟩
 have ll:l.length=2 ^ qOf k:=by rw[el,aAL,rowOf,aAL,aCS,aNz]
 obtain⟨m,em⟩:∃m,m=mbj l (qOf k):=⟨_,rfl⟩
 have lm:m.length=2 ^ qOf k:=by rw[em,pV,ll]
 have h2:2<=m.length:=by rw[lm];rcases sR (k:=k)with h|h <;> rw[h] <;> decide
 have h16:m.length<=16:=by rw[lm];rcases sR (k:=k)with h|h <;> rw[h] <;> decide
 unfold fL
 refine aU rfl ?_
 unfold b_12
 rfl'
 refine(uO hl).mono ?_
 rintro _ M ⟨rfl,rfl⟩
 rw[show(rowOf k t bit).map (λx=>D.int (x:Nat))=l.map D.int by rw[el,aBP];rfl]
 rfl'
 refine(aCl ll (by rcases sR (k:=k)with h|h <;> lia)).mono ?_
 rintro _ M ⟨rfl,rfl⟩
 rw[<- em]
 rfl'
 refine eH (λi acc L' M'=>acc=(List.range i).map (itm n m)/\M'=M/\∃a b,L'=[a,b,some (.d (.int n))]) ?_
 rfl'
 refine⟨⟨rfl,rfl,none,none,rfl⟩,?_,by simp[eN];lia,?_,?_⟩
 ·rintro i acc L' M' hi ⟨rfl,rfl,a,b,rfl⟩
  exact⟨rfl,(λt e=>by cases e),by simp⟩
 ·rintro i d acc _ M' hx ⟨rfl,rfl,a,b,rfl⟩
  obtain⟨x,hx1,rfl⟩:=lI hx
  rw[aAP,aAM]at hx1
  obtain⟨v,hv,rfl⟩:=hx1
  have hi:=(aAD.mp hv).1
  rw[show(0:Int)+(i:Nat)=(i:Nat) by lia]
  rfl'
  refine(xV (by lia)).mono ?_
  rintro _ _ ⟨rfl,rfl⟩
  rfl'
  refine⟨_,_,rfl,rfl,?_,rfl,_,_,rfl⟩
  rw[aDO,aBV]
  simp[itm,hv]
 rintro acc _ M' ⟨rfl,rfl,a,b,rfl⟩
 rw[show(enumT 0 (m.map D.int)).length=m.length by simp[eN]]
 rfl'
 obtain⟨J,eJ⟩:∃J,J=rowJ n m:=⟨_,rfl⟩
 have lJ:J.length<=16:=by rw[eJ,(lM h2 h16).length_eq];simpa using h16
 refine eH (λi acc L' M1=>acc=((J.take i).filter λx=>!decide (x.1=0)).map encJ/\M1=M'/\∃a b,L'=[a,b]) ?_
 rfl'
 refine aCy (xs:=itms n m) rfl (pK h2 h16) ?_
 rw[wT h2 h16,<- eJ]
 refine⟨_,rfl,⟨rfl,rfl,none,none,rfl⟩,?_,by simp;lia,?_,?_⟩
 ·rintro i acc L' M1 hi ⟨rfl,rfl,a,b,rfl⟩
  refine⟨rfl,(λt e=>by cases e),?_⟩
  have:=aFR (λx:Int×Nat=>!decide (x.1=0)) (J.take i)
  simp at this ⊢
  lia
 ·rintro i d acc _ M1 hx ⟨rfl,rfl,a,b,rfl⟩
  rw[aAP,aAM]at hx
  obtain⟨x,hx,rfl⟩:=hx
  rfl'
  refine⟨λh=>?_,λh=>?_⟩
  ·rfl'
   refine⟨_,_,rfl,rfl,?_,rfl,_,_,rfl⟩
   rw[aCC,hx,aFA,aBV]
   simp at h
   simp[encJ,h]
  ·refine⟨_,rfl,?_,rfl,_,_,rfl⟩
   rw[aCC,hx,aFA,aBV]
   simp at h
   simp[h]
 rintro acc _ M1 ⟨rfl,rfl,a,b,rfl⟩
 rfl'
 rw[show J.take (J.map λx=>D.tup [natsD (plc x.2),.int x.1]).length=J by rw[aAL,aCT]]
 refine gO (xs:=(J.filter λx=>!decide (x.1=0)).map encJ) rfl ?_
 rfl'
 refine⟨⟨?_,?_,?_,?_⟩,by simp⟩
 ·intro x hx
  obtain⟨h1,h3⟩:=List.mem_filter.mp hx
  rw[eJ]at h1
  obtain⟨i,hi,rfl⟩:=aBC.mp ((lM h2 h16).mem_iff.mp h1)
  have hi:=aCE.mp hi
  have e0:=aAZ (m.getD i 0) (show n≠0 by lia)
  have e1:=aAR (m.getD i 0) (show 0 < n by lia)
  simp at h3
  refine⟨?_,?_,by rw[<- lm];exact hi⟩
  ·show 1<=m.getD i 0 % n
   have:m.getD i 0 % n≠0:=by simpa using h3
   lia
  ·exact e1
 ·rw[eJ];exact(aKs h2 h16).filter _
 ·intro c hc
  rw[eJ]
  refine(aFx h2 h16).trans (Cg.of_eq ?_)
  rw[em,mob ll (sR) hc,el]
  have hc':c < rm k*rm k:=by rw[aNz];exact hc
  simp[rowOf,hc']
 ·refine aBF (aFR _ _) ?_
  rw[eJ,(lM h2 h16).length_eq,<- lm]
  simp
noncomputable def encPs(ps:List (List (Int×Nat))):List D:=ps.map λts=>.tup (ts.map encJ)
theorem jD(hn:2<=n)(hl:t.length=k*k) :
  Ok (eB [.d (.int n),.d (.int k),.d (natsD t)] M) λw M'=>∃ps,w=.d (.tup (encPs ps))/\ps.length=bt k/\(∀bit,bit < bt k->Pol n k t bit (ps.getD bit []))/\M'=M:=by
 have hb:bt k<=2:=by unfold bt;split <;> lia
 unfold eB
 refine aU rfl ?_
 unfold b_11
 rfl'
 refine eH (λi acc L' M'=>∃ps,acc=encPs ps/\ps.length=i/\(∀bit,bit < i->Pol n k t bit (ps.getD bit []))/\M'=M/\∃a,L'=[a,some (.d (.int n)),some (.d (.int k)),some (.d (natsD t))]) ?_
 rfl'
 refine fT.mono ?_
 rintro _ M1 ⟨rfl,rfl⟩
 rfl'
 refine⟨by simp only[in62,aAN];lia,⟨[],rfl,rfl,by simp,rfl,none,rfl⟩,?_,by simp[rngD];lia,?_,?_⟩
 ·rintro i acc L' M' hi ⟨ps,rfl,hp,hP,rfl,a,rfl⟩
  exact⟨rfl,(λt e=>by cases e),by simp[encPs,hp]⟩
 ·rintro i d acc _ M' hx ⟨ps,rfl,hp,hP,rfl,a,rfl⟩
  obtain⟨hi,rfl⟩:=eR hx
  rw[show(0:Int)+(i:Nat)=(i:Nat) by lia]
  rfl'
  refine(pG hn hl).mono ?_
  rintro _ _ ⟨ts,rfl,hts,rfl⟩
  refine⟨_,_,rfl,rfl,ps++[ts],by simp[encPs],by simp[hp],?_,rfl,_,rfl⟩
  intro bit hbit
  by_cases e:bit < i
  ·have:=hP bit e
   simpa[List.getD,aAS (show bit < ps.length by lia)]using this
  ·have:bit=ps.length:=by lia
   subst this
   rw[hp]
   simpa[<- hp]using hts
 rintro acc _ M' ⟨ps,rfl,hp,hP,rfl,a,rfl⟩
 rw[show(rngD 0 ((bt k:Nat):Int).toNat).length=bt k by simp[rngD]]at hp hP
 rfl'
 refine gO (xs:=encPs ps) rfl ?_
 rfl'
 exact⟨hp,hP,by simp⟩
inductive T
 |leaf (i:Nat)
 |node (t:List Nat) (a b:T)
noncomputable def encT:T->D
 |.leaf i=>.tup [.str "leaf",.int i]
 |.node t a b=>.tup [.str "node",natsD t,encT a,encT b]
noncomputable def okT(k S:Nat):T->Prop
 |.leaf i=>i < S
 |.node t a b=>t.length=k*k/\(∀x∈t,x < k)/\okT k S a/\okT k S b
noncomputable def valT(k:Nat)(vs:List Nat):T->Nat
 |.leaf i=>pl vs i
 |.node t a b=>pl t (valT k vs a*k+valT k vs b)
noncomputable def hT:T->Nat
 |.leaf _=>0
 |.node _ a b=>max (hT a) (hT b)+1
noncomputable def cT:T->Nat
 |.leaf _=>1
 |.node _ a b=>cT a+cT b+2
theorem jV{k S:Nat}{vs:List Nat}(hl:vs.length=S)(hv:∀v∈vs,v < k):∀{t:T},okT k S t->valT k vs t < k
 |.leaf i,h=>hv _ (eP (by rw[hl];exact h))
 |.node t a b,h=>by
  obtain⟨h1,h2,h3,h4⟩:=h
  exact h2 _ (eP (by rw[h1];exact zA (jV hl hv h3) (jV hl hv h4)))
noncomputable def bitAt(O:List Nat)(v s:Nat):Int:=((List.range O.length).map λj=>if pl O j=s then((v / 2 ^ j % 2:Nat):Int)else 0).sum
theorem qW{f:Nat->Int}:∀{l:List Nat},(∀j∈l,f j=0)->(l.map f).sum=0
 |[],_=>rfl
 |j::l,h=>by rw[aAO,aCF,h j (by simp),qW λx hx=>h x (by simp[hx])];rfl
variable{v:Nat}
theorem lF(h:s∉O):bitAt O v s=0:=by
 refine qW λj hj=>?_
 have hj:=aCE.mp hj
 rw[aAC (λe:pl O j=s=>h (e▸eP hj))]
theorem aBk{f:Nat->Int}{x:Int}{j:Nat}:∀{l:List Nat},l.Nodup->j∈l->f j=x->(∀i∈l,i≠j->f i=0)->(l.map f).sum=x
 |[],_,h,_,_=>by cases h
 |i::l,nd,h,e,z=>by
  obtain⟨n1,n2⟩:=aEG.mp nd
  rw[aAO,aCF]
  by_cases hij:i=j
  ·subst hij
   rw[e,qW λx hx=>z x (by simp[hx]) (λe=>n1 (e▸hx))]
   lia
  ·rw[z i (by simp) hij,aBk n2 (by rcases aAU.mp h with h|h;exact(hij h.symm).elim;exact h) e λa ha=>z a (by simp[ha])]
   lia
theorem sC(nd:O.Nodup)(hj:j < O.length):bitAt O v (pl O j)=((v / 2 ^ j % 2:Nat):Int):=by
 refine aBk List.nodup_range (aCE.mpr hj) (aAG rfl) λi hi ne=>?_
 exact aAC λe=>ne (aMq nd (aCE.mp hi) hj e)
noncomputable def mkG(d:Nat×Nat):Dd:=.add d.1 1 [d.2] []
theorem wN{n:Int}{gs:List Int}:∀{l:List (Nat×Nat)} {cs:List Int},(∀d∈l,d.1 < cs.length)->∀s,Cg n ((rn n gs (l.map mkG) cs).getD s 0) (cs.getD s 0+(l.map λd=>if d.1=s then gs.getD d.2 0 else 0).sum)
 |[],cs,_,s=>Cg.of_eq (by simp[rn])
 |d::l,cs,h,s=>by
  have h2:=h d (by simp)
  have hl:(dn n gs cs (mkG d)).length=cs.length:=jB
  have at':(dn n gs cs (mkG d)).getD s 0=if s=d.1 then(cs.getD d.1 0+gs.getD d.2 0) % n else cs.getD s 0:=by
   simp only[mkG,dn,mO,rE,aFI,Int.one_mul]
   by_cases e:s=d.1
   ·subst e;rw[aAG rfl];simp[List.getD,h2]
   ·rw[aAC e];simp[List.getD,aBK (Ne.symm e)]
  rw[aAO,fO]
  refine(wN (l:=l) (λx hx=>by rw[hl];exact h x (by simp[hx])) s).trans ?_
  rw[at',aAO,aCF]
  by_cases e:s=d.1
  ·rw[aAG e,aAG e.symm,e]
   exact(Cg.add Cg.mod Cg.rfl).trans (Cg.of_eq (by lia))
  ·rw[aAC e,aAC (Ne.symm e)]
   exact Cg.of_eq (by lia)
noncomputable def leafR(O:List Nat)(g0:Nat):List Dd:=(List.range O.length).map λj=>.add (pl O j) 1 [g0+j] []
theorem aFv{g0:Nat}{O:List Nat}(hO:∀o∈O,o < S)(hg:∀j,j < O.length->gs.getD (g0+j) 0=((v / 2 ^ j % 2:Nat):Int)):Brg n gs S (leafR O g0) (bitAt O v):=by
 intro cs hc hl s hs
 have:=wN (n:=n) (gs:=gs) (l:=(List.range O.length).map λj=>(pl O j,g0+j)) (cs:=cs) (λd hd=>by
  obtain⟨j,hj,rfl⟩:=aBC.mp hd
  rw[hl]
  exact hO _ (eP (aCE.mp hj))) s
 rw[aBP,aBP]at this
 refine this.trans (Cg.of_eq ?_)
 congr 1
 unfold bitAt
 congr 1
 refine aEU λj hj=>?_
 show(if pl O j=s then gs.getD (g0+j) 0 else 0)=_
 rw[hg j (aCE.mp hj)]
theorem aKk{g:Nat->Int}{a b:List Nat}(h:a.Perm b):pf g a=pf g b:=by
 induction h with
 |nil=>rfl
 |cons x _ ih=>simp only[pf,ih]
 |swap x y l=>simp only[pf];grind
 |trans _ _ h1 h2=>exact h1.trans h2
theorem aGr{g:Nat->Int}{h:Nat->Nat}:∀l:List Nat,pf g (l.map h)=pf (λi=>g (h i)) l
 |[]=>rfl
 |i::l=>by simp only[aAO,pf,aGr l]
theorem aAq{c:Nat}:∀l:List Nat,pf (λp=>((c / 2 ^ p % 2:Nat):Int)) l=if(l.all λp=>decide (c / 2 ^ p % 2=1))=true then 1 else 0
 |[]=>rfl
 |p::l=>by
  simp only[pf,aAq l,aET]
  have:c / 2 ^ p % 2=0\/c / 2 ^ p % 2=1:=by lia
  rcases this with h|h
  ·simp[h]
  ·simp[h]
theorem aBp{g h:Nat->Int}:∀{t:List Nat},(∀i∈t,g i=h i)->pf g t=pf h t
 |[],_=>rfl
 |t::r,e=>by simp only[pf];rw[e t (by simp),aBp λi hi=>e i (by simp[hi])]
theorem within:∀c',c' < 16->∀c,c < 16->((plc c').all λp=>decide (c / 2 ^ p % 2=1))=decide (c' &&& c=c'):=by decide
theorem pL:∀c,c < 4->∀p∈plc c,p < 2:=by decide
theorem pR:∀c,c < 16->∀p∈plc c,p < 4:=by decide
theorem uQ:∀c,c < 16->(plc c).length<=4:=by decide
theorem aGn:∀c,c < 4->(plc c).length<=2:=by decide
noncomputable def srN(ns:List Nat):List Nat:=(srt (ns.map λk:Nat=>(k:Int))).map Int.toNat
theorem jF(ns:List Nat):(srN ns).Perm ns/\(srN ns).map (λk:Nat=>(k:Int))=srt (ns.map λk:Nat=>(k:Int)):=by
 obtain⟨ks,e,hp,_⟩:=aHu ns
 unfold srN
 rw[e]
 have:(ks.map λk:Nat=>(k:Int)).map Int.toNat=ks:=by rw[aBP];simp[aCQ]
 rw[this]
 exact⟨hp,rfl⟩
noncomputable def inn(ps:List (List (Int×Nat)))(O P:List Nat):List (Nat×Int×List Nat):=((List.range ps.length).map λb=>(ps.getD b []).map λx=>(pl O b,x.1,srN ((plc x.2).map (pl P)))).flatten
noncomputable def innU(n u:Int)(ps:List (List (Int×Nat)))(O P:List Nat):List (Nat×Int×List Nat):=(inn ps O P).map λd=>(d.1,u*d.2.1 % n,d.2.2)
noncomputable def ord(k:Nat):Nat:=2*bt k+1
theorem qb:qOf k=2*bt k/\rm k=2 ^ bt k/\(bt k=1\/bt k=2):=by
 unfold qOf bt rm
 by_cases e:k=2
 ·simp[e]
 ·simp[e]
variable{ps:List (List (Int×Nat))}{P:List Nat}
theorem aBj{d:Nat×Int×List Nat}(h:d∈inn ps O P):∃b x,b < ps.length/\x∈ps.getD b []/\d=(pl O b,x.1,srN ((plc x.2).map (pl P))):=by
 obtain⟨l,hl,hd⟩:=aFO.mp h
 obtain⟨b,hb,rfl⟩:=aBC.mp hl
 obtain⟨x,hx,rfl⟩:=aBC.mp hd
 exact⟨b,x,aCE.mp hb,hx,rfl⟩
structure Shv(k S:Nat)(O L R:List Nat):Prop where
 lO:O.length=bt k
 lL:L.length=bt k
 lR:R.length=bt k
 nd:(O++(L++R)).Nodup
 lt:∀s∈O++(L++R),s < S
variable{L R:List Nat}
theorem Shv.swL(h:Shv k S O L R):Shv k S L O R:=by
 have p:(L++(O++R)).Perm (O++(L++R)):=by rw[<- aFD,<- aFD];exact List.Perm.append_right R List.perm_append_comm
 exact⟨h.lL,h.lO,h.lR,p.nodup_iff.mpr h.nd,λs hs=>h.lt s (p.mem_iff.mp hs)⟩
theorem Shv.swR(h:Shv k S O L R):Shv k S R O L:=by
 have p:(R++(O++L)).Perm (O++(L++R)):=by
  rw[<- aFD O L R]
  exact List.perm_append_comm
 exact⟨h.lR,h.lO,h.lL,p.nodup_iff.mpr h.nd,λs hs=>h.lt s (p.mem_iff.mp hs)⟩
theorem rN{O:List Nat}(h:Shv k S O L R):(L++R).Nodup/\O.Nodup/\∀s∈O,s∉L++R:=by
 obtain⟨a,b,c⟩:=aFE.mp h.nd
 exact⟨b,a,λs hs hs'=>c s hs s hs' rfl⟩
variable{p:Nat}
theorem plP :(p < L.length->pl (L++R) p=pl L p)/\(L.length<=p->pl (L++R) p=pl R (p - L.length)):=by
 refine⟨λh=>?_,λh=>?_⟩
 ·simp[pl,List.getD,aAS h]
 ·simp[pl,List.getD,aCJ h]
variable{a:Nat}
theorem aDp(h:Shv k S O L R)(ha:a < rm k)(hp:p < qOf k):bitAt L a (pl (L++R) p)+bitAt R b (pl (L++R) p)=(((a+rm k*b) / 2 ^ p % 2:Nat):Int):=by
 obtain⟨q1,q2,q3⟩:=qb (k:=k)
 obtain⟨n1,n2,n3⟩:=rN h
 obtain⟨nL,nR,nLR⟩:=aFE.mp n1
 have lL:=h.lL
 have lR:=h.lR
 rw[q2]at ha ⊢
 by_cases e:p < L.length
 ·rw[plP.1 e,sC nL e,lF (λz=>nLR _ (eP e) _ z rfl),Int.add_zero]
  congr 1
  have hpb:p < bt k:=by lia
  rcases q3 with q|q <;> rw[q]at hpb ha ⊢
  ·have:p=0:=by lia
   subst this
   lia
  ·have:p=0\/p=1:=by lia
   rcases this with rfl|rfl <;> lia
 ·have e':p - L.length < R.length:=by lia
  rw[plP.2 (by lia),sC nR e',lF (λz=>nLR _ z _ (eP e') rfl),Int.zero_add]
  congr 1
  rw[lL]
  rcases q3 with q|q <;> rw[q]at ha ⊢
  ·have:p=1:=by lia
   subst this
   lia
  ·have:p=2\/p=3:=by lia
   rcases this with rfl|rfl <;> lia
theorem aEs(h:Shv k S O L R){c':Nat}(ha:a < rm k)(hc:a+rm k*b < 2 ^ qOf k)(hc':c' < 2 ^ qOf k):pf (λs=>bitAt L a s+bitAt R b s) (srN ((plc c').map (pl (L++R))))=if c' &&& (a+rm k*b)=c' then 1 else 0:=by
 have hq:qOf k=2\/qOf k=4:=sR
 have h16:2 ^ qOf k<=16:=by rcases hq with q|q <;> rw[q] <;> decide
 rw[aKk (jF _).1,aGr,aBp (h:=λp=>(((a+rm k*b) / 2 ^ p % 2:Nat):Int)),aAq,within c' (by lia) _ (by lia)]
 ·simp
 ·intro p hp
  refine aDp h ha ?_
  rcases hq with q|q <;> rw[q]at hc' ⊢
  ·exact pL _ hc' p hp
  ·exact pR _ hc' p hp
theorem xR{f:Nat×Int×List Nat->Int}:∀{ls:List (List (Nat×Int×List Nat))},(ls.flatten.map f).sum=(ls.map λl=>(l.map f).sum).sum
 |[]=>rfl
 |l::ls=>by rw[aDT,aBV,List.sum_append,xR,aAO,aCF]
theorem uU{n:Int}{α:Type}{f g:α->Int}:∀{l:List α},(∀x∈l,Cg n (f x) (g x))->Cg n ((l.map f).sum) ((l.map g).sum)
 |[],_=>Cg.rfl
 |x::l,e=>by rw[aAO,aAO,aCF,aCF];exact Cg.add (e x (by simp)) (uU λy hy=>e y (by simp[hy]))
noncomputable def nodeR(n w u:Int)(k:Nat)(rL rR:List Dd)(ps:List (List (Int×Nat)))(O L R:List Nat):List Dd:=(List.replicate (ord k) (rnd n w (rL++rR) (innU n u ps O (L++R)) (L++R))).flatten
variable{w u:Int}
theorem aFj{rL rR:List Dd}(hn:2<=n)(hw:Rt n w (ord k))(hu:Cg n (u*(ord k:Nat)) 1)(h:Shv k S O L R)(okL:∀d∈rL,OkD n G S d)(okR:∀d∈rR,OkD n G S d)
  (bL:Brg n gs S rL (bitAt L a))(bR:Brg n gs S rR (bitAt R b))(ha:a < k)(hb:b < k)(hk:k<=rm k)(hp:ps.length=bt k)(hP:∀bit,bit < bt k->Pol n k t bit (ps.getD bit [])) :
  Brg n gs S (nodeR n w u k rL rR ps O L R) (bitAt O (pl t (a*k+b))):=by
 obtain⟨q1,q2,q3⟩:=qb (k:=k)
 obtain⟨n1,n2,n3⟩:=rN h
 have har:a < rm k:=by lia
 have hbr:b < rm k:=by lia
 have hcq:a+rm k*b < 2 ^ qOf k:=by
  rw[<- aNz]
  have:rm k*(b+1)<=rm k*rm k:=aEV _ hbr
  rw[Nat.mul_add]at this
  lia
 have em:(a+rm k*b) % rm k=a:=by rw[Nat.add_mul_mod_self_left,aFM har]
 have ed:(a+rm k*b) / rm k=b:=by rw[Nat.add_mul_div_left _ _ (by lia),Nat.div_eq_of_lt har,Nat.zero_add]
 have lP:(L++R).length=qOf k:=by rw[aAX,h.lL,h.lR,q1];lia
 have hinn:∀d∈innU n u ps O (L++R),d.1∉L++R/\d.1 < S/\(∀t∈d.2.2,t∈L++R)/\d.2.2.length < ord k:=by
  intro d hd
  obtain⟨d0,hd0,rfl⟩:=aBC.mp hd
  obtain⟨bit,x,hbit,hx,rfl⟩:=aBj hd0
  have hbO:bit < O.length:=by rw[h.lO];lia
  have P:=hP bit (by lia)
  have hx2:=(P.rng x hx).2.2
  have hpq:∀p∈plc x.2,p < qOf k:=by
   rcases sR (k:=k)with q|q <;> rw[q]at hx2 ⊢
   ·exact pL _ hx2
   ·exact pR _ hx2
  refine⟨n3 _ (eP hbO),h.lt _ (aDD _ (eP hbO)),?_,?_⟩
  ·intro t ht
   obtain⟨p,hp',rfl⟩:=aBC.mp ((jF _).1.mem_iff.mp ht)
   exact eP (by rw[lP];exact hpq p hp')
  ·show(srN _).length < _
   rw[(jF _).1.length_eq,aAL]
   unfold ord
   rcases q3 with q|q
   ·have q':qOf k=2:=by lia
    rw[q']at hx2
    have:=aGn _ hx2
    lia
   ·have q':qOf k=4:=by lia
    rw[q']at hx2
    have:=uQ _ hx2
    lia
 have main:=zX (u:=u) hn hw (bY okL okR) (bL.app (by lia) bR) n1 (λs hs=>h.lt s (aBG _ hs)) hinn
 refine main.cg λs hs=>?_
 by_cases hp':s∈L++R
 ·rw[aAG hp',lF (λz=>n3 s z hp')]
  exact Cg.rfl
 ·rw[aAC hp']
  show Cg n _ (((List.range O.length).map λj=>if pl O j=s then((pl t (a*k+b) / 2 ^ j % 2:Nat):Int)else 0).sum)
  unfold innU inn
  rw[aBP,xR,aBP,hp,h.lO]
  refine uU λbit hbit=>?_
  have hbit:=aCE.mp hbit
  have P:=hP bit hbit
  have S1:=P.sm _ hcq
  rw[em,ed]at S1
  simp only[aCQ,aBP]
  by_cases e:pl O bit=s
  ·simp only[aAG e]
   refine Cg.trans ?_ (S1.trans (Cg.of_eq ?_))
   ·refine uU λx hx=>?_
    rw[aEs h har hcq (P.rng x hx).2.2]
    unfold gS
    by_cases e2:x.2 &&& (a+rm k*b)=x.2
    ·rw[aAG e2,aAG e2,aFI]
     refine(Cg.mul Cg.mod Cg.rfl).trans ?_
     refine Cg.trans (Cg.of_eq (show u*x.1*((ord k:Nat):Int)=x.1*(u*(ord k:Nat)) by grind)) ?_
     exact(Cg.mul Cg.rfl hu).trans (Cg.of_eq (by lia))
    ·rw[aAC e2,aAC e2]
     exact Cg.of_eq (by simp)
   ·unfold bv ent
    rw[aAG ⟨ha,hb⟩]
  ·simp only[aAC e]
   exact Cg.of_eq (by induction ps.getD bit []with|nil=>rfl|cons x l ih=>simpa using ih)
theorem aFh{n w u:Int}{k:Nat}{O L R:List Nat}{rL rR:List Dd}{ps:List (List (Int×Nat))}(hn:2<=n)(hw:Un n w)(h:Shv k S O L R)(okL:∀d∈rL,OkD n G S d)(okR:∀d∈rR,OkD n G S d)
  (hp:ps.length=bt k)(hP:∀bit,bit < bt k->Pol n k t bit (ps.getD bit [])):∀d∈nodeR n w u k rL rR ps O L R,OkD n G S d:=by
 obtain⟨q1,q2,q3⟩:=qb (k:=k)
 obtain⟨n1,n2,n3⟩:=rN h
 have lP:(L++R).length=qOf k:=by rw[aAX,h.lL,h.lR,q1];lia
 have ok1:=bY okL okR
 have okr:∀d∈rnd n w (rL++rR) (innU n u ps O (L++R)) (L++R),OkD n G S d:=by
  unfold rnd
  refine bY (bY (bY ok1 ?_) (OkD.backs (by lia) ok1)) ?_
  ·intro d hd
   obtain⟨d1,hd1,rfl⟩:=aBC.mp hd
   obtain⟨d0,hd0,rfl⟩:=aBC.mp hd1
   obtain⟨bit,x,hbit,hx,rfl⟩:=aBj hd0
   have hbO:bit < O.length:=by rw[h.lO];lia
   have P:=hP bit (by lia)
   have hx2:=(P.rng x hx).2.2
   have hx16:x.2 < 16:=by rcases sR (k:=k)with q|q <;> rw[q]at hx2 <;> lia
   have hpq:∀p∈plc x.2,p < qOf k:=by
    rcases sR (k:=k)with q|q <;> rw[q]at hx2 ⊢
    ·exact pL _ hx2
    ·exact pR _ hx2
   have ht:∀t∈srN ((plc x.2).map (pl (L++R))),t∈L++R:=λt ht=>by
    obtain⟨p,hp',rfl⟩:=aBC.mp ((jF _).1.mem_iff.mp ht)
    exact eP (by rw[lP];exact hpq p hp')
   refine⟨h.lt _ (aDD _ (eP hbO)),aAZ _ (by lia),aAR _ (by lia),by simp,λt h'=>h.lt t (aBG _ (ht t h')),λz=>n3 _ (eP hbO) (ht _ z),by simp,?_⟩
   show(srN _).length<=4
   rw[(jF _).1.length_eq,aAL]
   exact uQ _ hx16
  ·intro d hd
   obtain⟨s,hs,rfl⟩:=aBC.mp hd
   exact⟨h.lt s (aBG _ hs),hw⟩
 intro d hd
 obtain⟨l,hl,hd⟩:=aFO.mp hd
 rw[(List.mem_replicate.mp hl).2]at hd
 exact okr d hd
theorem jX{k:Int}(hn:2<=n)(hn2:n<=1000000):Ok (eM [.d (.int n),.d (.int k)] M) λw M'=>M'=M/\((∃v,IsIv n k v/\w=.d (.int v))\/((¬∃v,IsIv n k v)/\w=.d .non)):=by
 unfold eM
 refine aU rfl ?_
 unfold b_1
 rfl'
 refine(oG (QS:=λo M'=>M'=M/\∃h p q t,o=.nx [some (.d (.int n)),some (.d (.int k)),some (.d (.int h)),some (.d (.int 0)),some (.d (.int p)),some (.d (.int q)),t]/\0 < h/\h<=n/\Cg n (p*k) h/\h ∣ n/\h ∣ k)
  (I:=λm L M'=>M'=M/\∃(h l p q:Int) (t:Option W),L=[some (.d (.int n)),some (.d (.int k)),some (.d (.int h)),some (.d (.int l)),some (.d (.int p)),some (.d (.int q)),t]/\m=l.toNat/\0 < h/\h<=n/\0<=l/\l<=n/\Cg n (p*k) h/\Cg n (q*k) l/\∀c:Int,c ∣ h->c ∣ l->c ∣ n/\c ∣ k) ?_ NW (k % n).toNat _ _
  ⟨rfl,n,k % n,0,1,none,rfl,rfl,by lia,by lia,aAZ _ (by lia),Int.le_of_lt (aAR _ (by lia)),⟨-1,by grind⟩,?_,?_⟩ ?_).mono ?_
 ·rintro m L _ ⟨rfl,h,l,p,q,t,rfl,rfl,h0,h1,l0,l1,c1,c2,hd⟩
  rfl'
  refine⟨λhl=>?_,λhl=>?_⟩
  ·have hl:0 < l:=by simpa using hl
   have e:h - h / l*l=h % l:=by rw[Int.emod_def,aFW]
   have ht0:0<=h / l:=Int.ediv_nonneg (by lia) (by lia)
   have ht1:h / l<=h:=Int.ediv_le_self _ (by lia)
   rfl'
   rw[e]
   have em1:=aAZ h (by lia:l≠0)
   have em2:=aAR h hl
   refine⟨(h % l).toNat,by lia,rfl,l,h % l,q,p - h / l*q,_,rfl,rfl,hl,by lia,em1,by lia,c2,?_,?_⟩
   ·rw[<- e]
    exact(Cg.of_eq (by grind)).trans (Cg.sub c1 (Cg.mul (Cg.rfl (a:=h / l)) c2))
   ·intro c g1 g2
    refine hd c ?_ g1
    have:=Int.dvd_add g2 (Int.dvd_trans g1 (Int.dvd_mul_left (h / l) l))
    rwa[<- e,show h - h / l*l+h / l*l=h by lia]at this
  ·have hl:l=0:=by simp at hl;lia
   subst hl
   have:=hd h (Int.dvd_refl h) (Int.dvd_zero h)
   exact⟨rfl,h,p,q,t,rfl,h0,h1,c1,this.1,this.2⟩
 ·exact(Cg.of_eq (by grind)).trans (Cg.mod (a:=k)).symm
 ·intro c g1 g2
  refine⟨g1,?_⟩
  have:=Int.dvd_add g2 (Int.dvd_trans g1 (Int.dvd_mul_right n (k / n)))
  rwa[Int.emod_add_mul_ediv]at this
 ·rw[aHz];have:=aAR k (by lia:0 < n);lia
 ·rintro _ _ ⟨rfl,h,p,q,t,rfl,h0,h1,c1,d1,d2⟩
  have pn:=aAZ p (by lia:n≠0)
  have pl:=aAR p (by lia:0 < n)
  rfl'
  refine aIc (λhh=>?_) (λhh=>?_)
  ·subst hh
   rfl'
   refine⟨by simp,.inl ⟨p % n,⟨pn,pl,?_⟩,rfl⟩⟩
   exact Cg.emod ((Cg.mul Cg.rfl Cg.mod).trans ((Cg.of_eq (aFW _ _)).trans c1))
  ·rfl'
   refine⟨by simp,.inr ⟨?_,rfl⟩⟩
   rintro⟨v,v0,v1,e⟩
   obtain⟨z,hz⟩:=Cg.of e
   have:h ∣ 1:=by
    have g1:h ∣ k*v:=Int.dvd_mul_of_dvd_left d2
    rw[hz]at g1
    exact(Int.dvd_add_left (Int.dvd_mul_of_dvd_left d1)).mp g1
   have:=Int.le_of_dvd (by lia) this
   lia
theorem zH(hn:2<=n)(hn2:n<=1000000)(hu:Un n u):Ok (eM [.d (.int n),.d (.int u)] M) λw M'=>w=.d (.int (iv n u))/\M'=M:=by
 refine(jX hn hn2).mono ?_
 rintro w M' ⟨rfl,⟨v,h,rfl⟩|⟨h,_⟩⟩
 ·rw[aLl h];exact⟨rfl,rfl⟩
 ·exact(h hu.2.2).elim
variable{d:Dd}
theorem rS(hn:2<=n)(hn2:n<=1000000)(h:OkD n G S d):Ok (fD [.d (.int n),.d (encD d)] M) λw M'=>w=.d (encD (bD n d))/\M'=M:=by
 cases d with
 |add s c g t =>
  unfold fD
  refine aU rfl ?_
  unfold b_4
  simp only[encD,bD]
  rfl'
  exact⟨rfl,by simp⟩
 |scale s u =>
  unfold fD
  refine aU rfl ?_
  unfold b_4
  simp only[encD,bD]
  rfl'
  refine(zH hn hn2 h.2).mono ?_
  rintro _ _ ⟨rfl,rfl⟩
  rfl'
  exact⟨rfl,by simp⟩
theorem eZ{ds:List Dd}(hn:2<=n)(hn2:n<=1000000)(hd:∀d∈ds,OkD n G S d)(hl:ds.length<=16777216):Ok (cZ [.d (.int n),.d (.tup (ds.map encD))] M) λw M'=>w=.d (.tup ((bDs n ds).map encD))/\M'=M:=by
 unfold cZ
 refine aU rfl ?_
 unfold b_3
 rfl'
 refine eH (λi acc L' M'=>acc=((ds.reverse.take i).map (bD n)).map encD/\M'=M/\∃a,L'=[a,some (.d (.int n))]) ?_
 rfl'
 refine⟨ds.map encD,.inl rfl,⟨rfl,rfl,none,rfl⟩,?_,by simpa using hl,?_,?_⟩
 ·rintro i acc L' M' hi ⟨rfl,rfl,_⟩
  exact⟨rfl,(λt e=>by cases e),by simp;lia⟩
 ·rintro i d acc _ _ hx ⟨rfl,rfl,a,rfl⟩
  rw[<- List.map_reverse]at hx
  simp only[aAP,aAM]at hx
  obtain⟨k,hk,rfl⟩:=hx
  have hm:k∈ds:=List.mem_reverse.mp (aBJ hk)
  rfl'
  refine(rS hn hn2 (hd k hm)).mono ?_
  rintro _ _ ⟨rfl,rfl⟩
  exact⟨_,_,rfl,rfl,by rw[aCC,hk];simp,rfl,_,rfl⟩
 ·rintro acc L' M' ⟨rfl,rfl,_⟩
  rfl'
  refine gO rfl ?_
  rfl'
  exact⟨by rw[aCM (by simp)];rfl,by simp⟩
theorem rY{k:Int}{e:Nat}(hn:2<=n)(hn2:n<=1000000)(he:e<=1000):Ok (lE [.d (.int n),.d (.int k),.d (.int e)] M) λw M'=>w=.d (.int (k ^ e % n))/\M'=M:=by
 unfold lE
 refine aU rfl ?_
 unfold b_2
 rfl'
 refine(oG (QS:=λo M'=>M'=M/\∃t s l,o=.nx [some (.d (.int n)),some (.d (.int k)),some (.d (.int e)),some (.d (.int t)),some (.d (.int s)),some (.d (.int l))]/\0<=t/\t < n/\Cg n t (k ^ e))
  (I:=λm L M'=>M'=M/\∃(t s:Int) (l:Nat),L=[some (.d (.int n)),some (.d (.int k)),some (.d (.int e)),some (.d (.int t)),some (.d (.int s)),some (.d (.int l))]/\m=l/\l<=1000/\0<=t/\t < n/\0<=s/\s < n/\Cg n (t*s ^ l) (k ^ e)) ?_ NW e _ _
  ⟨rfl,1 % n,k % n,e,rfl,rfl,he,aAZ _ (by lia),aAR _ (by lia),aAZ _ (by lia),aAR _ (by lia),?_⟩ ?_).mono ?_
 ·rintro l L _ ⟨rfl,t,s,_,rfl,rfl,l1,t0,t1,s0,s1,hc⟩
  have hts:0<=t*s/\t*s<=1000000*1000000:=⟨Int.mul_nonneg t0 s0,Int.mul_le_mul (by lia) (by lia) s0 (by lia)⟩
  have hss:0<=s*s/\s*s<=1000000*1000000:=⟨Int.mul_nonneg s0 s0,Int.mul_le_mul (by lia) (by lia) s0 (by lia)⟩
  have m1:=aAZ (t*s) (by lia:n≠0)
  have m2:=aAR (t*s) (by lia:0 < n)
  have m3:=aAZ (s*s) (by lia:n≠0)
  have m4:=aAR (s*s) (by lia:0 < n)
  have cp:∀j:Nat,Cg n ((s*s % n) ^ j) (s ^ (2*j)):=λj=>by
   induction j with
   |zero=>exact Cg.of_eq (by simp)
   |succ j ih =>
    rw[aDA,show 2*(j+1)=2*j+1+1 by lia,aDA,aDA,Int.mul_assoc]
    exact Cg.mul ih Cg.mod
  rfl'
  refine⟨λh=>?_,λh=>?_⟩
  ·have hl:0 < l:=by simpa using h
   rfl'
   refine nS (λh1=>?_) (λh1=>?_)
   ·have h1:l % 2=1:=by lia
    rfl'
    refine⟨l / 2,by lia,rfl,t*s % n,s*s % n,l / 2,by simp,rfl,by lia,m1,m2,m3,m4,?_⟩
    refine Cg.trans (Cg.mul Cg.mod (cp (l / 2))) (Cg.trans (Cg.of_eq ?_) hc)
    rw[Int.mul_assoc,<- Int.pow_succ',show 2*(l / 2)+1=l by lia]
   ·have h1:l % 2=0:=by lia
    rfl'
    refine⟨l / 2,by lia,rfl,t,s*s % n,l / 2,by simp,rfl,by lia,t0,t1,m3,m4,?_⟩
    refine Cg.trans (Cg.mul Cg.rfl (cp (l / 2))) (Cg.trans (Cg.of_eq ?_) hc)
    rw[show 2*(l / 2)=l by lia]
  ·have hl:l=0:=by simp at h;lia
   subst hl
   exact⟨rfl,t,s,_,rfl,t0,t1,by simpa using hc⟩
 ·have h1:∀j:Nat,Cg n ((k % n) ^ j) (k ^ j):=λj=>by
   induction j with
   |zero=>exact Cg.of_eq (by simp)
   |succ j ih=>rw[aDA,aDA];exact Cg.mul ih Cg.mod
  exact(Cg.mul Cg.mod (h1 e)).trans (Cg.of_eq (by lia))
 ·rw[aHz];lia
 ·rintro _ _ ⟨rfl,t,s,l,rfl,t0,t1,hc⟩
  rfl'
  refine⟨?_,by simp⟩
  rw[hc.symm.emod,aBX t0 t1]
noncomputable def RootOk(n w:Int)(m:Nat):Prop:=w ^ m % n=1/\∀i:Nat,1<=i->i < m->∃v,IsIv n (w ^ i % n - 1) v
variable{m:Nat}
theorem vL(hn:2<=n)(hn2:n<=1000000)(hm:m<=1000):Ok (jH [.d (.int n),.d (.int w),.d (.int m)] M) λr M'=>M'=M/\((r=.d (.bl true)/\RootOk n w m)\/(r=.d (.bl false)/\¬RootOk n w m)):=by
 unfold jH
 refine aU rfl ?_
 unfold b_c
 rfl'
 refine(rY hn hn2 hm).mono ?_
 rintro _ M ⟨rfl,rfl⟩
 rfl'
 refine aIc (λh=>?_) (λh=>?_)
 ·rfl'
  refine⟨1,(m:Int),rfl,rfl,⟨by decide,by simp only[in62,aAN];lia⟩,?_⟩
  refine dL (λj L M'=>M'=M/\(∀i:Nat,1<=i->i < j+1->∃v,IsIv n (w ^ i % n - 1) v)/\∃o,L=[some (.d (.int n)),some (.d (.int w)),some (.d (.int m)),o]) ⟨rfl,λi h1 h2=>by lia,none,rfl⟩ (λi L M _ _ t e=>by cases e) ?_ ?_
  ·rintro j d _ _ hx ⟨rfl,hv,o,rfl⟩
   obtain⟨hj,rfl⟩:=eR hx
   rw[show(1:Int)+(j:Nat)=((j+1:Nat):Int) by lia]
   rfl'
   refine(rY (e:=j+1) hn hn2 (by lia)).mono ?_
   rintro _ M ⟨rfl,rfl⟩
   rfl'
   refine(jX hn hn2).mono ?_
   rintro _ M ⟨rfl,⟨v,hv',rfl⟩|⟨hv',rfl⟩⟩
   ·rfl'
    refine mK rfl ?_
    rfl'
    refine⟨rfl,λi h1 h2=>?_,_,rfl⟩
    by_cases e:i=j+1
    ·exact e▸⟨v,hv'⟩
    ·exact hv i h1 (by lia)
   ·rfl'
    try refine aAb rfl ?_
    rfl'
    exact⟨by simp,.inr ⟨rfl,λhr=>hv' (hr.2 (j+1) (by lia) (by lia))⟩⟩
  ·rintro _ _ ⟨rfl,hv,o,rfl⟩
   rfl'
   refine⟨by simp,.inl ⟨rfl,h,λi h1 h2=>hv i h1 ?_⟩⟩
   simp[rngD]
   lia
 ·rfl'
  exact⟨by simp,.inr ⟨rfl,λhr=>h hr.1⟩⟩
theorem aDh(hn:2<=n)(hn2:n<=1000000)(hm:m<=1000):Ok (rM [.d (.int n),.d (.int m)] M) λr M'=>M'=M/\((∃w:Int,r=.d (.int w)/\0<=w/\w < n/\RootOk n w m/\∀v:Int,0<=v->v < w->¬RootOk n v m)\/(r=.d .non/\∀w:Int,0<=w->w < n->¬RootOk n w m)):=by
 unfold rM
 refine aU rfl ?_
 unfold b_d
 rfl'
 refine⟨by simp only[in62,aAN];lia,?_⟩
 refine dL (λj L M'=>M'=M/\(∀w:Int,0<=w->w < j->¬RootOk n w m)/\∃o,L=[some (.d (.int n)),some (.d (.int m)),o]) ⟨rfl,λi h1 h2=>by lia,none,rfl⟩ (λi L M _ _ t e=>by cases e) ?_ ?_
 ·rintro j d _ _ hx ⟨rfl,hv,o,rfl⟩
  obtain⟨hj,rfl⟩:=eR hx
  rfl'
  refine(vL (w:=0+(j:Nat)) hn hn2 hm).mono ?_
  rintro _ M ⟨rfl,⟨rfl,hr⟩|⟨rfl,hr⟩⟩
  ·rfl'
   exact⟨by simp,.inl ⟨_,rfl,by lia,by lia,hr,λv v0 v1=>hv v v0 (by lia)⟩⟩
  ·rfl'
   refine⟨rfl,λi h1 h2=>?_,_,rfl⟩
   by_cases e:i=0+(j:Nat)
   ·exact e▸hr
   ·exact hv i h1 (by lia)
 ·rintro _ _ ⟨rfl,hv,o,rfl⟩
  rfl'
  refine⟨by simp,.inr ⟨rfl,λi h1 h2=>hv i h1 ?_⟩⟩
  simp[rngD]
  lia
theorem bO{s:Str}{ds:List D}:Ok (eK [.d (.tup (.str s::ds))] M) λw M'=>w=.d (.bl (("num"==s) || ("given"==s) || ("one"==s)))/\M'=M:=by
 unfold eK
 refine aU rfl ?_
 unfold b_0
 rfl'
 refine fR (at0 (.str s) ds) ?_
 rfl'
 refine aPq (by rfl) (by rfl) (by rfl) ?_
 rfl'
 simp[eqD,Bool.or_assoc]
variable{ts:List Nat}
theorem kH{c:Int}(hn:2<=n):Ok (cN [.d (.int n),.d (enc (.num c)),.d (.int s),.d (natsD ts)] M) λw M'=>w=.d (encD (.add s (c % n) [] ts))/\M'=M:=by
 unfold cN
 refine aU rfl ?_
 unfold b_7
 simp only[enc]
 rfl'
 exact⟨rfl,by simp⟩
theorem kF :Ok (cN [.d (.int n),.d (enc (.giv i)),.d (.int s),.d (natsD ts)] M) λw M'=>w=.d (encD (.add s 1 [i] ts))/\M'=M:=by
 unfold cN
 refine aU rfl ?_
 unfold b_7
 simp only[enc]
 rfl'
 exact⟨rfl,by simp⟩
theorem yE{d1 d2:List Dd}(hz:d1.length+d2.length<=16777216):Ok (kP [.d (.int n),.d (.str Wd.sum.str),.d (.tup (d1.map encD)),.d (.tup (d2.map encD))] M) λw M'=>w=.d (.tup ((d1++d2).map encD))/\M'=M:=by
 unfold kP
 refine aU rfl ?_
 unfold b_8
 simp only[Wd.str]
 rfl'
 refine dG (by simpa using hz) ?_
 rfl'
 exact⟨by simp,by simp⟩
theorem tZ{d1 d2:List Dd}(hn:2<=n)(hn2:n<=1000000)(hd:∀d∈d2,OkD n G S d)(hz:d1.length+d2.length<=16777216):Ok (kP [.d (.int n),.d (.str Wd.less.str),.d (.tup (d1.map encD)),.d (.tup (d2.map encD))] M) λw M'=>w=.d (.tup ((d1++bDs n d2).map encD))/\M'=M:=by
 unfold kP
 refine aU rfl ?_
 unfold b_8
 simp only[Wd.str]
 rfl'
 refine(eZ hn hn2 hd (by lia)).mono ?_
 rintro _ _ ⟨rfl,rfl⟩
 refine dG (by simpa[dP]using hz) ?_
 rfl'
 exact⟨by simp,by simp⟩
theorem qF{d1 d2:List Dd}(hn:2<=n)(hn2:n<=1000000)(h1:∀d∈d1,OkD n G S d)(h2:∀d∈d2,OkD n G S d)(hz:2*(d1.length+d2.length)<=16777216):Ok (cQ [.d (.int n),.d (.tup (d1.map encD)),.d (.tup (d2.map encD))] M) λw M'=>w=.d (.tup ((d1++d2++bDs n d1++bDs n d2).map encD))/\M'=M:=by
 unfold cQ
 refine aU rfl ?_
 unfold b_9
 rfl'
 refine dG (by simp;lia) ?_
 rfl'
 refine(eZ hn hn2 h1 (by lia)).mono ?_
 rintro _ _ ⟨rfl,rfl⟩
 refine dG (by simp[dP];lia) ?_
 rfl'
 refine(eZ hn hn2 h2 (by lia)).mono ?_
 rintro _ _ ⟨rfl,rfl⟩
 refine dG (by simp[dP];lia) ?_
 rfl'
 exact⟨by simp,by simp⟩
theorem sW(hn:2<=n)(hn2:n<=1000000):∀{e:E} {s b c:Nat},wf G e->s < S->b < S->c < S->s≠b->s≠c->b≠c->many e<=4194304->∀fuel,dp e < fuel->∀M:Mm,
  Ok (cI fuel [.d (.int n),.d (enc e),.d (.int s),.d (.int b),.d (.int c)] M) (λw M'=>w=.d (.tup ((rowBy n e s b c).map encD))/\M'=M):=by
 intro e
 induction e with
 |num k =>
  intro s b c _ _ _ _ _ _ _ _ fuel hf M
  obtain⟨f,rfl⟩:∃f,fuel=f+1:=⟨fuel - 1,by lia⟩
  unfold cI
  refine aU rfl ?_
  unfold b_5
  simp only[enc]
  rfl'
  refine bO.mono ?_
  rintro _ _ ⟨rfl,rfl⟩
  rfl'
  refine(kH (ts:=[b]) hn).mono ?_
  rintro _ _ ⟨rfl,rfl⟩
  rfl'
  exact⟨rfl,by simp⟩
 |giv k =>
  intro s b c _ _ _ _ _ _ _ _ fuel hf M
  obtain⟨f,rfl⟩:∃f,fuel=f+1:=⟨fuel - 1,by lia⟩
  unfold cI
  refine aU rfl ?_
  unfold b_5
  simp only[enc]
  rfl'
  refine bO.mono ?_
  rintro _ _ ⟨rfl,rfl⟩
  rfl'
  refine(kF (ts:=[b])).mono ?_
  rintro _ _ ⟨rfl,rfl⟩
  rfl'
  exact⟨rfl,by simp⟩
 |op w x y ihx ihy =>
  intro s b c hw hs hb hc h1 h2 h3 hm fuel hf M
  obtain⟨f,rfl⟩:∃f,fuel=f+1:=⟨fuel - 1,by lia⟩
  have hm':=aBq (w:=w) (x:=x) (y:=y)
  have d1:dp x < f:=by simp only[dp]at hf;lia
  have d2:dp y < f:=by simp only[dp]at hf;lia
  unfold cI
  refine aU rfl ?_
  unfold b_5
  cases w with
  |sum =>
   simp only[enc,Wd.str]
   rfl'
   refine bO.mono ?_
   rintro _ _ ⟨rfl,rfl⟩
   rfl'
   refine(ihx hw.1 hs hb hc h1 h2 h3 (by lia) f d1 _).mono ?_
   rintro _ _ ⟨rfl,rfl⟩
   rfl'
   refine(ihy hw.2 hs hb hc h1 h2 h3 (by lia) f d2 _).mono ?_
   rintro _ _ ⟨rfl,rfl⟩
   rfl'
   refine(yE (by rw[aZ,aZ];lia)).mono ?_
   rintro _ _ ⟨rfl,rfl⟩
   rfl'
   exact⟨rfl,by simp⟩
  |less =>
   simp only[enc,Wd.str]
   rfl'
   refine bO.mono ?_
   rintro _ _ ⟨rfl,rfl⟩
   rfl'
   refine(ihx hw.1 hs hb hc h1 h2 h3 (by lia) f d1 _).mono ?_
   rintro _ _ ⟨rfl,rfl⟩
   rfl'
   refine(ihy hw.2 hs hb hc h1 h2 h3 (by lia) f d2 _).mono ?_
   rintro _ _ ⟨rfl,rfl⟩
   rfl'
   refine(tZ hn hn2 (cB (by lia) hw.2 hs hb hc h1 h2 h3) (by rw[aZ,aZ];lia)).mono ?_
   rintro _ _ ⟨rfl,rfl⟩
   rfl'
   exact⟨rfl,by simp⟩
  |times =>
   have hm2:2*(many x+many y)<=4194304:=by simp only[many]at hm;lia
   simp only[enc,Wd.str]
   rfl'
   refine bO.mono ?_
   rintro _ _ ⟨rfl,rfl⟩
   rfl'
   refine(ihy hw.2 hc hb hs h3.symm h2.symm h1.symm (by lia) f d2 _).mono ?_
   rintro _ _ ⟨rfl,rfl⟩
   rfl'
   refine(ihx hw.1 hs hc hb h2 h1 h3.symm (by lia) f d1 _).mono ?_
   rintro _ _ ⟨rfl,rfl⟩
   rfl'
   refine(qF hn hn2 (cB (by lia) hw.2 hc hb hs h3.symm h2.symm h1.symm) (cB (by lia) hw.1 hs hc hb h2 h1 h3.symm) (by rw[aZ,aZ];lia)).mono ?_
   rintro _ _ ⟨rfl,rfl⟩
   rfl'
   exact⟨rfl,by simp⟩
theorem oK(hn:2<=n)(hn2:n<=1000000):∀{e:E} {s b c:Nat},wf G e->s < S->b < S->c < S->s≠b->s≠c->b≠c->many e<=4194304->∀fuel,dp e < fuel->fuel<=50->∀M:Mm,
  Ok (bC fuel [.d (.int n),.d (enc e),.d (.int s),.d (.int b),.d (.int c)] M) (λw M'=>w=.d (.tup ((rowAl n e s b c).map encD))/\M'=M):=by
 intro e
 induction e with
 |num k =>
  intro s b c _ _ _ _ _ _ _ _ fuel hf hf2 M
  obtain⟨f,rfl⟩:∃f,fuel=f+1:=⟨fuel - 1,by lia⟩
  unfold bC
  refine aU rfl ?_
  unfold b_6
  simp only[enc]
  rfl'
  refine bO.mono ?_
  rintro _ _ ⟨rfl,rfl⟩
  rfl'
  refine(kH (ts:=[]) hn).mono ?_
  rintro _ _ ⟨rfl,rfl⟩
  rfl'
  exact⟨rfl,by simp⟩
 |giv k =>
  intro s b c _ _ _ _ _ _ _ _ fuel hf hf2 M
  obtain⟨f,rfl⟩:∃f,fuel=f+1:=⟨fuel - 1,by lia⟩
  unfold bC
  refine aU rfl ?_
  unfold b_6
  simp only[enc]
  rfl'
  refine bO.mono ?_
  rintro _ _ ⟨rfl,rfl⟩
  rfl'
  refine(kF (ts:=[])).mono ?_
  rintro _ _ ⟨rfl,rfl⟩
  rfl'
  exact⟨rfl,by simp⟩
 |op w x y ihx ihy =>
  intro s b c hw hs hb hc h1 h2 h3 hm fuel hf hf2 M
  obtain⟨f,rfl⟩:∃f,fuel=f+1:=⟨fuel - 1,by lia⟩
  have hm':=aBq (w:=w) (x:=x) (y:=y)
  have d1:dp x < f:=by simp only[dp]at hf;lia
  have d2:dp y < f:=by simp only[dp]at hf;lia
  unfold bC
  refine aU rfl ?_
  unfold b_6
  cases w with
  |sum =>
   simp only[enc,Wd.str]
   rfl'
   refine bO.mono ?_
   rintro _ _ ⟨rfl,rfl⟩
   rfl'
   refine(ihx hw.1 hs hb hc h1 h2 h3 (by lia) f d1 (by lia) _).mono ?_
   rintro _ _ ⟨rfl,rfl⟩
   rfl'
   refine(ihy hw.2 hs hb hc h1 h2 h3 (by lia) f d2 (by lia) _).mono ?_
   rintro _ _ ⟨rfl,rfl⟩
   rfl'
   refine(yE (by rw[cF,cF];lia)).mono ?_
   rintro _ _ ⟨rfl,rfl⟩
   rfl'
   exact⟨rfl,by simp⟩
  |less =>
   simp only[enc,Wd.str]
   rfl'
   refine bO.mono ?_
   rintro _ _ ⟨rfl,rfl⟩
   rfl'
   refine(ihx hw.1 hs hb hc h1 h2 h3 (by lia) f d1 (by lia) _).mono ?_
   rintro _ _ ⟨rfl,rfl⟩
   rfl'
   refine(ihy hw.2 hs hb hc h1 h2 h3 (by lia) f d2 (by lia) _).mono ?_
   rintro _ _ ⟨rfl,rfl⟩
   rfl'
   refine(tZ hn hn2 (eE (by lia) hw.2 hs hb hc h1 h2 h3) (by rw[cF,cF];lia)).mono ?_
   rintro _ _ ⟨rfl,rfl⟩
   rfl'
   exact⟨rfl,by simp⟩
  |times =>
   have hm2:2*(many x+many y)<=4194304:=by simp only[many]at hm;lia
   simp only[enc,Wd.str]
   rfl'
   refine bO.mono ?_
   rintro _ _ ⟨rfl,rfl⟩
   rfl'
   refine(ihy hw.2 hc hb hs h3.symm h2.symm h1.symm (by lia) f d2 (by lia) _).mono ?_
   rintro _ _ ⟨rfl,rfl⟩
   rfl'
   refine(sW hn hn2 hw.1 hs hc hb h2 h1 h3.symm (by lia) 50 (by lia) _).mono ?_
   rintro _ _ ⟨rfl,rfl⟩
   rfl'
   refine(qF hn hn2 (eE (by lia) hw.2 hc hb hs h3.symm h2.symm h1.symm) (cB (by lia) hw.1 hs hc hb h2 h1 h3.symm) (by rw[cF,aZ];lia)).mono ?_
   rintro _ _ ⟨rfl,rfl⟩
   rfl'
   exact⟨rfl,by simp⟩
theorem sJ:∀{e:E},∀fuel,dp e < fuel->∀M:Mm,Ok (cJ fuel [.d (enc e)] M) λw M'=>w=.d (.int (many e:Nat))/\M'=M:=by
 intro e
 induction e with
 |num k =>
  intro fuel hf M
  obtain⟨f,rfl⟩:∃f,fuel=f+1:=⟨fuel - 1,by lia⟩
  unfold cJ
  refine aU rfl ?_
  unfold b_a
  simp only[enc]
  rfl'
  refine bO.mono ?_
  rintro _ _ ⟨rfl,rfl⟩
  rfl'
  exact⟨rfl,by simp⟩
 |giv k =>
  intro fuel hf M
  obtain⟨f,rfl⟩:∃f,fuel=f+1:=⟨fuel - 1,by lia⟩
  unfold cJ
  refine aU rfl ?_
  unfold b_a
  simp only[enc]
  rfl'
  refine bO.mono ?_
  rintro _ _ ⟨rfl,rfl⟩
  rfl'
  exact⟨rfl,by simp⟩
 |op w x y ihx ihy =>
  intro fuel hf M
  obtain⟨f,rfl⟩:∃f,fuel=f+1:=⟨fuel - 1,by lia⟩
  have d1:dp x < f:=by simp only[dp]at hf;lia
  have d2:dp y < f:=by simp only[dp]at hf;lia
  unfold cJ
  refine aU rfl ?_
  unfold b_a
  cases w <;>
  ·simp only[enc,Wd.str]
   rfl'
   refine bO.mono ?_
   rintro _ _ ⟨rfl,rfl⟩
   rfl'
   refine(ihx f d1 _).mono ?_
   rintro _ _ ⟨rfl,rfl⟩
   rfl'
   refine(ihy f d2 _).mono ?_
   rintro _ _ ⟨rfl,rfl⟩
   rfl'
   exact⟨by simp[many],by simp⟩
theorem pF{vs:List Nat}(k2:2<=k)(k4:k<=4)(hl:vs.length=S)(hv:∀v∈vs,v < k):∀(t:T) (fuel:Nat) (M:Mm),okT k S t->hT t < fuel->Ok (bS fuel [.d (.int k),.d (encT t),.d (natsD vs)] M) λw M'=>w=.d (.int (valT k vs t:Nat))/\M'=M:=by
 intro t
 induction t with
 |leaf i =>
  intro fuel M ok hf
  obtain⟨f,rfl⟩:∃f,fuel=f+1:=⟨fuel - 1,by lia⟩
  unfold bS
  refine aU rfl ?_
  unfold b_16 natsD
  simp only[encT]
  rfl'
  refine fR (vQ (by rw[hl];exact ok)) ?_
  rfl'
  exact⟨rfl,by simp⟩
 |node t a b iha ihb =>
  intro fuel M ok hf
  obtain⟨f,rfl⟩:∃f,fuel=f+1:=⟨fuel - 1,by lia⟩
  obtain⟨tl,tr,oka,okb⟩:=ok
  simp only[hT]at hf
  unfold bS
  refine aU rfl ?_
  unfold b_16
  simp only[encT]
  rfl'
  refine(iha f _ oka (by lia)).mono ?_
  rintro _ _ ⟨rfl,rfl⟩
  rfl'
  refine(ihb f _ okb (by lia)).mono ?_
  rintro _ _ ⟨rfl,rfl⟩
  have va:=jV hl hv oka
  have vb:=jV hl hv okb
  rfl'
  rw[show((valT k vs a:Nat):Int)*(k:Nat)+(valT k vs b:Nat)=((valT k vs a*k+valT k vs b:Nat):Int) by simp]
  unfold natsD
  refine fR (vQ (by rw[tl];exact zA va vb)) ?_
  rfl'
  exact⟨rfl,by simp⟩
theorem mI :Ok (jK [.d (.int k)] M) λw M'=>w=.d (.int (ord k:Nat))/\M'=M:=by
 unfold jK
 refine aU rfl ?_
 unfold b_18
 rfl'
 refine fT.mono ?_
 rintro _ M ⟨rfl,rfl⟩
 rfl'
 exact⟨by simp[ord],by simp⟩
theorem vG(hn:2<=n)(hn2:n<=1000000)(hm:m<=1000)(hex:∃w:Int,0<=w/\w < n/\Rt n w m):Ok (jI [.d (.int n),.d (.int m)] M) λr M'=>(∃w:Int,r=.d (.int w)/\0<=w/\w < n/\Rt n w m)/\M'=M:=by
 unfold jI
 refine aU rfl ?_
 unfold b_e
 rfl'
 refine(aDh hn hn2 hm).mono ?_
 rintro _ M ⟨rfl,⟨w,rfl,w0,w1,hw,_⟩|⟨_,hno⟩⟩
 ·rfl'
  refine mK (by simp[isN]) ?_
  rfl'
  exact⟨⟨w,rfl,w0,w1,hw⟩,by simp⟩
 ·obtain⟨w,w0,w1,hw⟩:=hex
  exact(hno w w0 w1 hw).elim
noncomputable def encB(x:Nat×List Dd):D:=.tup [.int x.1,.tup (x.2.map encD)]
noncomputable def brs(L:List Nat)(r:List Dd):List (Nat×List Dd):=(pl L 0,r)::(L.drop 1).map λs=>(s,[])
variable{r:List Dd}
theorem aBi(h:L≠[]):(brs L r).map (·.1)=L:=by
 cases L with
 |nil=>exact(h rfl).elim
 |cons a l=>simp[brs,pl,aCQ]
theorem aCd :((brs L r).map (·.2)).flatten=r:=by
 have:∀l:List Nat,((l.map λs=>((s,[]):Nat×List Dd)).map (·.2)).flatten=[]:=by
  intro l
  induction l with
  |nil=>rfl
  |cons a l ih=>simpa using ih
 simp only[brs,aAO,aDT,this,aEH]
theorem lY(h:L≠[])(hl:L.length<=2):Ok (dS [.d (natsD L),.d (.tup (r.map encD))] M) λw M'=>w=.ref M.length/\M'=M++[(brs L r).map encB]:=by
 have h0:0 < L.length:=List.length_pos_iff.mpr h
 unfold dS
 refine aEe rfl ?_
 unfold b_1b natsD
 rfl'
 refine fR (vN (i:=0) h0) ?_
 rfl'
 refine jJ ?_
 rfl'
 refine⟨λd=>.tup [d,.tup []],by simp[cut,HT.sIx];lia,(λt e=>by cases e),?_,?_⟩
 ·intro d hd acc
  rfl'
  exact⟨rfl,rfl⟩
 rw[show cut (L.map λk=>D.int (k:Nat)) (some 1) none=(L.drop 1).map λk=>D.int (k:Nat) by rw[List.map_drop];exact uP (s:=1) (by simp;lia)]
 refine aJt rfl rfl (by simp;lia) ?_
 rfl'
 refine⟨M.length,(brs L r).map encB,rfl,aAH _,?_,rfl,by simp⟩
 simp[brs,encB,aCQ]
theorem rW{bs:List (Nat×List Dd)}(hn:2<=n)(hn2:n<=1000000)(hm:m<=5)(hu:IsIv n m u)(hb:M[b]?=some (bs.map encB))(ok:∀x∈bs,∀d∈x.2,OkD n G S d)(hz:((bs.map (·.2)).flatten).length<=100000)(hz2:bs.length<=100)(hz3:ad.length<=1000) :
  Ok (gG [.d (.int n),.d (.int m),.d (.int w),.ref b,.d (.tup (ad.map λd=>encD (mkA d)))] M) λr M'=>r=.d (.tup (((List.replicate m (rnd n w ((bs.map (·.2)).flatten) (ad.map λd=>(d.1,u*d.2.1 % n,d.2.2)) (bs.map (·.1)))).flatten).map encD))/\M'=M:=by
 unfold gG
 refine aU rfl ?_
 unfold b_f
 rfl'
 refine(jX hn hn2).mono ?_
 rintro w0 M ⟨rfl,hh⟩
 obtain rfl:w0=.d (.int u):=by
  rcases hh with⟨v,hv,e⟩|⟨hv,_⟩
  ·rw[e,hv.uniq hu]
  ·exact(hv ⟨u,hu⟩).elim
 obtain⟨u0,u1,_⟩:=hu
 rfl'
 refine⟨⟨bs.map encB,some b⟩,by simp[srcOf,hb],?_⟩
 refine dL (λi L M'=>M'=M/\∃o7 o8,L=[some (.d (.int n)),some (.d (.int m)),some (.d (.int w)),some (.ref b),some (.d (.tup (ad.map λd=>encD (mkA d)))),some (.d (.int u)),some (.d (.tup ((((bs.take i).map (·.2)).flatten).map encD))),o7,o8,none]) ⟨rfl,none,none,by simp⟩ ?_ ?_ ?_
 ·rintro i L M' _ ⟨rfl,_⟩ t e
  cases e
  exact hb
 ·rintro i d _ M hd ⟨rfl,o7,o8,rfl⟩
  rw[aAP,aAM]at hd
  obtain⟨x,hx,rfl⟩:=hd
  have et:((bs.take (i+1)).map (·.2)).flatten=((bs.take i).map (·.2)).flatten++x.2:=by rw[aCC,hx];simp
  have hle:((bs.take (i+1)).map (·.2)).flatten.length<=100000:=by
   have e2:(bs.map (·.2)).flatten=((bs.take (i+1)).map (·.2)).flatten++((bs.drop (i+1)).map (·.2)).flatten:=by rw[<- aGH,<- aBV,List.take_append_drop]
   have:=hz
   rw[e2,aAX]at this
   lia
  rw[et,aAX]at hle
  rw[show encB x=.tup [.int x.1,.tup (x.2.map encD)]from rfl]
  rfl'
  refine dG (by simp only[aAL];lia) ?_
  rfl'
  exact⟨rfl,_,_,by rw[et,aBV];rfl⟩
 rintro _ M ⟨rfl,o7,o8,rfl⟩
 obtain⟨row,erow⟩:∃row,row=(bs.map (·.2)).flatten:=⟨_,rfl⟩
 rw[show bs.take (bs.map encB).length=bs by rw[aAL,aCT],<- erow]
 rw[<- erow]at hz
 have okr:∀d∈row,OkD n G S d:=by
  intro d hd
  rw[erow]at hd
  obtain⟨l,hl,hd⟩:=aFO.mp hd
  obtain⟨x,hx,rfl⟩:=aBC.mp hl
  exact ok x hx d hd
 have lb:(bDs n row).length=row.length:=dP
 rfl'
 refine(eZ hn hn2 okr (by lia)).mono ?_
 rintro _ M ⟨rfl,rfl⟩
 rfl'
 refine eH (λi acc L' M'=>acc=(ad.take i).map (λd=>encD (mkA (d.1,u*d.2.1 % n,d.2.2)))/\M'=M/\∃a1 a2 a3 a4 a5,L'=[a1,a2,a3,a4,a5,some (.d (.int n)),some (.d (.int u))]) ?_
 rfl'
 refine⟨⟨by simp,rfl,none,none,none,none,none,rfl⟩,?_,by simp;lia,?_,?_⟩
 ·rintro i acc L' M' hi ⟨rfl,rfl,_⟩
  exact⟨rfl,(λt e=>by cases e),by simp;lia⟩
 ·rintro i d acc _ M' hx ⟨rfl,rfl,a1,a2,a3,a4,a5,rfl⟩
  rw[aAP,aAM]at hx
  obtain⟨x,hx,rfl⟩:=hx
  rw[show encD (mkA x)=.tup [.str "add",.int x.1,.int x.2.1,natsD [],natsD x.2.2]from rfl]
  rfl'
  refine⟨_,_,rfl,rfl,?_,rfl,_,_,_,_,_,rfl⟩
  rw[aCC,hx,aBV]
  rfl
 rintro acc _ M ⟨rfl,rfl,_⟩
 rw[show ad.take (ad.map λd=>encD (mkA d)).length=ad by rw[aAL,aCT]]
 rfl'
 refine gO (xs:=ad.map λd=>encD (mkA (d.1,u*d.2.1 % n,d.2.2))) rfl ?_
 rfl'
 refine dG (by simp;lia) ?_
 rfl'
 refine dG (by simp;lia) ?_
 rfl'
 refine eH (λi acc L' M'=>acc=(bs.take i).map (λx=>encD (.scale x.1 w))/\M'=M/\∃a1 a2,L'=[a1,a2,some (.d (.int w))]) ?_
 rfl'
 refine⟨⟨bs.map encB,some b⟩,by simp[srcOf,hb],⟨by simp,rfl,none,none,rfl⟩,?_,by simp;lia,?_,?_⟩
 ·rintro i acc L' M' hi ⟨rfl,rfl,_⟩
  refine⟨rfl,?_,by simp;lia⟩
  intro t e
  cases e
  show(_++_)[b]?=_
  rw[aAS (aAD.mp hb).1]
  exact hb
 ·rintro i d acc _ M' hx ⟨rfl,rfl,a1,a2,rfl⟩
  rw[aAP,aAM]at hx
  obtain⟨x,hx,rfl⟩:=hx
  rw[show encB x=.tup [.int x.1,.tup (x.2.map encD)]from rfl]
  rfl'
  refine⟨_,_,rfl,rfl,?_,rfl,_,_,rfl⟩
  rw[aCC,hx,aBV]
  rfl
 rintro acc _ M ⟨rfl,rfl,_⟩
 rw[show bs.take (bs.map encB).length=bs by rw[aAL,aCT]]
 rfl'
 refine gO (xs:=bs.map λx=>encD (.scale x.1 w)) rfl ?_
 rfl'
 refine dG (by simp;lia) ?_
 rfl'
 have hlen:(row.map encD++(ad.map λd=>encD (mkA (d.1,u*d.2.1 % n,d.2.2)))++(bDs n row).map encD++bs.map λx=>encD (.scale x.1 w)).length<=201100:=by simp;lia
 refine aKc ⟨?_,by lia,by lia⟩ ?_
 ·rw[aCD]
  exact aBF (Nat.mul_le_mul hlen hm) (by decide)
 rfl'
 refine⟨?_,by simp⟩
 rw[aCD,List.map_flatten,List.map_replicate]
 unfold rnd
 simp[aCQ]
noncomputable def innR(O P:List Nat)(b:Nat)(ts:List (Int×Nat)):List (Nat×Int×List Nat):=ts.map λx=>(pl O b,x.1,srN ((plc x.2).map (pl P)))
noncomputable def innB(ps:List (List (Int×Nat)))(O P:List Nat)(b:Nat):List (Nat×Int×List Nat):=((List.range b).map λb=>innR O P b (ps.getD b [])).flatten
theorem uC :innB ps O P (b+1)=innB ps O P b++innR O P b (ps.getD b []):=by simp[innB,aDO]
theorem nG{ps:List (List (Int×Nat))}{O P:List Nat}{c:Nat}:∀{b:Nat},(∀i,i < b->(ps.getD i []).length<=c)->(innB ps O P b).length<=b*c
 |0,_=>by simp[innB]
 |b+1,h=>by
  have:=nG (ps:=ps) (O:=O) (P:=P) (c:=c) (b:=b) λi hi=>h i (by lia)
  have h2:=h b (by lia)
  rw[uC,aAX,Nat.add_mul,Nat.one_mul]
  simp only[innR,aAL]
  lia
theorem nX(hn:2<=n)(hl:t.length=k*k)(hO:O.length=bt k)(hP:P.length=qOf k) :
  Ok (eQ [.d (.int n),.d (.int k),.d (natsD t),.d (natsD O),.d (natsD P)] M) λw M'=>(∃ps,ps.length=bt k/\(∀bit,bit < bt k->Pol n k t bit (ps.getD bit []))/\w=.d (.tup ((inn ps O P).map λd=>encD (mkA d))))/\M'=M:=by
 obtain⟨q1,q2,q3⟩:=qb (k:=k)
 have h16:2 ^ qOf k<=16:=by rcases sR (k:=k)with q|q <;> rw[q] <;> decide
 unfold eQ
 refine aU rfl ?_
 unfold b_1c
 rfl'
 refine(jD hn hl).mono ?_
 rintro _ _ ⟨ps,rfl,hp,hPs,rfl⟩
 have hll:∀i,i < bt k->(ps.getD i []).length<=16:=λi hi=>aBF (hPs i hi).len h16
 refine⟨_,_,rfl,rfl,?_⟩
 refine dL (λb L M'=>M'=M++[(innB ps O P b).map λd=>encD (mkA d)]/\∃o6 o7 o8 o9,L=[some (.d (.int n)),some (.d (.int k)),some (.d (natsD t)),some (.d (natsD O)),some (.d (natsD P)),some (.ref M.length),o6,o7,o8,o9]) ⟨rfl,none,none,none,none,rfl⟩ (λi L M _ _ t e=>by cases e) ?_ ?_
 ·rintro b d _ _ hd ⟨rfl,o6,o7,o8,o9,rfl⟩
  obtain⟨x,y,hx,hy,rfl⟩:=rB hd
  unfold encPs at hy
  rw[aAP,aAM]at hx hy
  obtain⟨o,ho,rfl⟩:=hx
  obtain⟨ts,hts,rfl⟩:=hy
  have hb:b < bt k:=by have:=(aAD.mp hts).1;lia
  have eo:pl O b=o:=by simp[pl,List.getD,ho]
  have ets:ps.getD b []=ts:=by simp[List.getD,hts]
  have P1:=hPs b hb
  rw[ets]at P1
  have lb:(innB ps O P b).length<=b*16:=nG λi hi=>hll i (by lia)
  have lts:ts.length<=16:=by rw[<- ets];exact hll b hb
  rfl'
  refine dL (λi L M'=>M'=M++[(innB ps O P b++innR O P b (ts.take i)).map λd=>encD (mkA d)]/\∃o8 o9,L=[some (.d (.int n)),some (.d (.int k)),some (.d (natsD t)),some (.d (natsD O)),some (.d (natsD P)),some (.ref M.length),some (.d (.int o)),some (.d (.tup (ts.map encJ))),o8,o9]) ⟨by simp[innR],_,_,rfl⟩ (λi L M _ _ t e=>by cases e) ?_ ?_
  ·rintro i d _ _ hd ⟨rfl,o8,o9,rfl⟩
   rw[aAP,aAM]at hd
   obtain⟨x,hx,rfl⟩:=hd
   have hxm:=aBJ hx
   have hx2:=(P1.rng x hxm).2.2
   have hx16:x.2 < 16:=by lia
   have hpl:=uQ _ hx16
   have hpq:∀p∈plc x.2,p < qOf k:=by
    rcases sR (k:=k)with q|q <;> rw[q]at hx2 ⊢
    ·exact pL _ hx2
    ·exact pR _ hx2
   have g0:(M++[(innB ps O P b++innR O P b (ts.take i)).map λd=>encD (mkA d)])[M.length]?=some ((innB ps O P b++innR O P b (ts.take i)).map λd=>encD (mkA d)):=by simp
   rw[show encJ x=.tup [.int x.1,.tup ((plc x.2).map λp=>D.int (p:Nat))]from rfl]
   rfl'
   refine jJ ?_
   rw[show natsD P=.tup (P.map λk=>D.int (k:Nat))from rfl]
   rfl'
   refine⟨λd=>match d with
    |.int p=>.int (pl P p.toNat:Nat)
    |_=>.non,by simp;lia,(λt e=>by cases e),?_,?_⟩
   ·intro d hd acc
    obtain⟨p,hp',rfl⟩:=aBC.mp hd
    rfl'
    refine fR (vN (by rw[hP];exact hpq p hp')) ?_
    exact⟨by simp,rfl⟩
   rfl'
   refine aCs (ns:=((plc x.2).map (pl P)).map λk:Nat=>(k:Int)) rfl (by simp) (by simp;lia) ?_
   rw[<- (jF _).2]
   rfl'
   refine gO (xs:=(srN ((plc x.2).map (pl P))).map λk=>D.int (k:Nat)) (by simp[sv,lr,lv,aCQ]) ?_
   rfl'
   refine tP g0 (by simp[innR];lia) ?_
   refine⟨?_,_,_,rfl⟩
   rw[aCC,hx]
   simp[innR,encD,mkA,natsD,eo]
  ·rintro _ _ ⟨rfl,o8,o9,rfl⟩
   refine⟨?_,_,_,_,_,rfl⟩
   rw[show ts.take (ts.map encJ).length=ts by rw[aAL,aCT],uC,ets]
 ·rintro _ _ ⟨rfl,o6,o7,o8,o9,rfl⟩
  rfl'
  rw[show(zipT (O.map λk=>D.int (k:Nat)) (encPs ps)).length=ps.length by simp[zipT,encPs,hO,hp]]
  refine gO (xs:=(innB ps O P ps.length).map λd=>encD (mkA d)) (by simp[sv,lr,lv]) ?_
  rfl'
  exact⟨⟨ps,hp,hPs,rfl⟩,by simp⟩
noncomputable def LB(k:Nat):Nat->Nat
 |0=>bt k
 |h+1=>ord k*(4*LB k h+bt k*2 ^ qOf k+2*bt k)
variable{h:Nat}
theorem aBg:LB k h<=LB k (h+1):=by
 show LB k h<=ord k*_
 have:1<=ord k:=by unfold ord;lia
 calc LB k h<=1*(4*LB k h+bt k*2 ^ qOf k+2*bt k):=by lia
  _<=_:=Nat.mul_le_mul_right _ this
theorem aBl{k h:Nat}:∀d,LB k h<=LB k (h+d)
 |0=>aAH _
 |d+1=>aBF (aBl d) aBg
theorem wX(h:a<=b):LB k a<=LB k b:=by
 have:=aBl (k:=k) (h:=a) (b - a)
 rwa[show a+(b - a)=b by lia]at this
noncomputable def Giv(k:Nat)(vs:List Nat)(gs:List Int):Prop:=∀i j,i < vs.length->j < bt k->gs.getD (bt k*i+j) 0=((pl vs i / 2 ^ j % 2:Nat):Int)
noncomputable def TB(n:Int)(k S lv:Nat)(t:T)(O:List Nat)(ds:List Dd):Prop:=∀(vs:List Nat) (gs:List Int),vs.length=lv->(∀v∈vs,v < k)->Giv k vs gs->Brg n gs S ds (bitAt O (valT k vs t))
theorem aLp :inn ps O P=innB ps O P ps.length:=rfl
theorem aCx{rL rR:List Dd}(sh:Shv k S O L R)(hp:ps.length=bt k)(hP:∀bit,bit < bt k->Pol n k t bit (ps.getD bit []))(h1:rL.length<=LB k h)(h2:rR.length<=LB k h):(nodeR n w u k rL rR ps O L R).length<=LB k (h+1):=by
 have li:(inn ps O (L++R)).length<=bt k*2 ^ qOf k:=by rw[aLp,hp];exact nG λi hi=>(hP i hi).len
 unfold nodeR
 rw[List.length_flatten,List.map_replicate,List.sum_replicate_nat]
 show _<=ord k*_
 refine aEV _ ?_
 have lb:(bDs n (rL++rR)).length=(rL++rR).length:=dP
 have lL:=sh.lL
 have lR:=sh.lR
 simp only[rnd,aAX,aAL,lb,innU]
 lia
theorem unw(hn:2<=n)(hm:1<=m)(w0:0<=w)(w1:w < n)(h:Rt n w m):Un n w:=by
 refine⟨w0,w1,w ^ (m - 1) % n,aAZ _ (by lia),aAR _ (by lia),?_⟩
 refine Cg.emod ((Cg.mul Cg.rfl Cg.mod).trans (Cg.trans (Cg.of_eq ?_) h.one))
 rw[aFW,<- aDA,Nat.succ_eq_add_one,show m - 1+1=m by lia]
theorem iR{n w u:Int}{k S lv:Nat}(hn:2<=n)(hn2:n<=1000000)(hw:Rt n w (ord k))(w0:0<=w)(w1:w < n)(hu:IsIv n (ord k:Nat) u)(hk:k<=rm k)(hlv:bt k*lv<=4) :
  ∀(t:T) (d:Nat) (O L R:List Nat) (M:Mm),okT k lv t->hT t < d->LB k (hT t)<=5000->Shv k S O L R->Ok (cR d [.d (.int n),.d (.int k),.d (.int w),.d (encT t),.d (natsD O),.d (natsD L),.d (natsD R)] M) λr M'=>(∃ds,r=.d (.tup (ds.map encD))/\(∀d∈ds,OkD n 4 S d)/\ds.length<=LB k (hT t)/\TB n k S lv t O ds)/\M'=M
 |t,0,_,_,_,_,_,h,_,_=>absurd h (by lia)
 |.leaf i,d+1,O,L,R,M,ht,_,hlb,sh=>by
  have hi:i < lv:=ht
  obtain⟨q1,q2,q3⟩:=qb (k:=k)
  have lO:=sh.lO
  have hbi:bt k*i+bt k<=4:=by
   have:bt k*(i+1)<=bt k*lv:=aEV _ hi
   rw[Nat.mul_add]at this
   lia
  unfold cR
  refine aU rfl ?_
  unfold b_1a encT
  rfl'
  refine fT.mono ?_
  rintro _ M ⟨rfl,rfl⟩
  rfl'
  refine eH (λj acc L' M'=>acc=((leafR O (bt k*i)).take j).map encD/\M'=M/\∃a1 a2,L'=[a1,a2]) ?_
  refine aCp ?_
  rw[show natsD O=.tup (O.map λk=>D.int (k:Nat))from rfl]
  rfl'
  rw[show(bt k:Int)*(i:Int)=((bt k*i:Nat):Int) by simp]
  refine⟨_,_,rfl,rfl,⟨by lia,by lia⟩,⟨rfl,rfl,none,none,rfl⟩,?_,by simp[eN];lia,?_,?_⟩
  ·rintro j acc L' M' hj ⟨rfl,rfl,_⟩
   exact⟨rfl,(λt e=>by cases e),by simp;lia⟩
  ·rintro j d acc _ M' hx ⟨rfl,rfl,a1,a2,rfl⟩
   obtain⟨x,hx1,rfl⟩:=lI hx
   rw[aAP,aAM]at hx1
   obtain⟨o,ho,rfl⟩:=hx1
   have hj:=(aAD.mp ho).1
   rfl'
   refine⟨_,_,rfl,rfl,?_,rfl,_,_,rfl⟩
   have el:(leafR O (bt k*i))[j]?=some (.add (pl O j) 1 [bt k*i+j] []):=by simp[leafR,hj]
   rw[aCC,el,aBV]
   simp[encD,natsD,pl,List.getD,ho]
  rintro acc _ M ⟨rfl,rfl,_⟩
  rw[show(leafR O (bt k*i)).take (enumT ((bt k*i:Nat):Int) (O.map λk=>D.int (k:Nat))).length=leafR O (bt k*i) by rw[eN];exact aCM (by simp[leafR])]
  rfl'
  refine gO (xs:=(leafR O (bt k*i)).map encD) rfl ?_
  rfl'
  refine⟨⟨leafR O (bt k*i),rfl,?_,by simp[leafR,LB,hT,lO],?_⟩,by simp⟩
  ·intro d hd
   obtain⟨j,hj,rfl⟩:=aBC.mp hd
   have hj:=aCE.mp hj
   exact⟨sh.lt _ (aDD _ (eP hj)),by lia,by lia,by intro x hx;simp at hx;lia,by simp,by simp,by simp,by simp⟩
  ·intro vs gs hvl hv hg
   refine aFv (λo ho=>sh.lt o (aDD _ ho)) λj hj=>?_
   exact hg i j (by lia) (by lia)
 |.node t a b,d+1,O,L,R,M,ht,hd,hlb,sh=>by
  obtain⟨h1,h2,h3,h4⟩:=ht
  obtain⟨q1,q2,q3⟩:=qb (k:=k)
  have hda:hT a < d:=by simp only[hT]at hd;lia
  have hdb:hT b < d:=by simp only[hT]at hd;lia
  have lba:LB k (hT a)<=LB k (max (hT a) (hT b)):=wX (by lia)
  have lbb:LB k (hT b)<=LB k (max (hT a) (hT b)):=wX (by lia)
  have lbm:LB k (max (hT a) (hT b))<=5000:=aBF aBg hlb
  have hLn:L≠[]:=λe=>by have:=sh.lL;rw[e]at this;simp at this;lia
  have hRn:R≠[]:=λe=>by have:=sh.lR;rw[e]at this;simp at this;lia
  have lP:(L++R).length=qOf k:=by rw[aAX,sh.lL,sh.lR,q1];lia
  unfold cR
  refine aU rfl ?_
  unfold b_1a
  rw[show encT (.node t a b)=.tup [.str "node",natsD t,encT a,encT b]from rfl]
  rfl'
  refine(iR hn hn2 hw w0 w1 hu hk hlv a d L O R M h3 hda (by lia) sh.swL).mono ?_
  rintro _ M ⟨⟨rL,rfl,okL,lL,tL⟩,rfl⟩
  rfl'
  refine(lY hLn (by rw[sh.lL];lia)).mono ?_
  rintro _ _ ⟨rfl,rfl⟩
  rfl'
  refine aJg rfl ?_
  rfl'
  refine(iR hn hn2 hw w0 w1 hu hk hlv b d R O L _ h4 hdb (by lia) sh.swR).mono ?_
  rintro _ _ ⟨⟨rR,rfl,okR,lR,tR⟩,rfl⟩
  rfl'
  refine(lY hRn (by rw[sh.lR];lia)).mono ?_
  rintro _ _ ⟨rfl,rfl⟩
  refine⟨(brs L rL).map encB,(brs R rR).map encB,by simp,by simp[EV.lv],by simp[brs,sh.lL,sh.lR];lia,?_⟩
  rw[show(M++[(brs L rL).map encB]++[(brs R rR).map encB]).set M.length ((brs L rL).map encB++(brs R rR).map encB)=M++[(brs L rL++brs R rR).map encB,(brs R rR).map encB] by simp]
  have hcell:(M++[(brs L rL++brs R rR).map encB,(brs R rR).map encB])[M.length]?=some ((brs L rL++brs R rR).map encB):=by simp
  rfl'
  refine mI.mono ?_
  rintro _ _ ⟨rfl,rfl⟩
  rw[show natsD L=.tup (L.map λk=>D.int (k:Nat))from rfl,show natsD R=.tup (R.map λk=>D.int (k:Nat))from rfl]
  rfl'
  refine dG (by simp[sh.lL,sh.lR];lia) ?_
  rw[<- aBV]
  rfl'
  refine(nX (O:=O) (P:=L++R) hn h1 sh.lO lP).mono ?_
  rintro _ _ ⟨⟨ps,hp,hP,rfl⟩,rfl⟩
  have fst:(brs L rL++brs R rR).map (·.1)=L++R:=by rw[aBV,aBi hLn,aBi hRn]
  have snd:((brs L rL++brs R rR).map (·.2)).flatten=rL++rR:=by rw[aBV,aGH,aCd,aCd]
  have li:(inn ps O (L++R)).length<=bt k*2 ^ qOf k:=by rw[aLp,hp];exact nG λi hi=>(hP i hi).len
  have h16:bt k*2 ^ qOf k<=32:=by rcases q3 with q|q <;> rw[q1,q] <;> decide
  have okb:∀x∈brs L rL++brs R rR,∀d∈x.2,OkD n 4 S d:=by
   intro x hx d hd
   have:d∈rL++rR:=by rw[<- snd];exact aFO.mpr ⟨x.2,aBC.mpr ⟨x,hx,rfl⟩,hd⟩
   exact bY okL okR d this
  rfl'
  refine(rW (m:=ord k) (u:=u) (w:=w) (ad:=inn ps O (L++R)) hn hn2 (by unfold ord;lia) hu hcell okb (by rw[snd,aAX];lia) (by simp[brs,sh.lL,sh.lR];lia) (by lia)).mono ?_
  rintro _ _ ⟨rfl,rfl⟩
  rw[fst,snd]
  rfl'
  refine⟨⟨nodeR n w u k rL rR ps O L R,rfl,aFh hn (unw hn (by unfold ord;lia) w0 w1 hw) sh okL okR hp hP,aCx sh hp hP (by lia) (by lia),?_⟩,by simp⟩
  intro vs gs hvl hv hg
  have va:=jV hvl hv h3
  have vb:=jV hvl hv h4
  have hu':Cg n (u*(ord k:Nat)) 1:=by rw[aFW];exact Cg.of hu.2.2
  exact aFj hn hw hu' sh okL okR (tL vs gs hvl hv hg) (tR vs gs hvl hv hg) va vb hk hp hP
theorem gL{n:Int}{k lv:Nat}(hn:2<=n):∀(t:T) (d:Nat) (M:Mm),okT k lv t->hT t < d->Ok (bW d [.d (.int n),.d (.int k),.d (encT t)] M) λr M'=>(∃v:Nat,r=.d (.int v)/\v<=LB k (hT t))/\M'=M
 |t,0,_,_,h=>absurd h (by lia)
 |.leaf i,d+1,M,ht,_=>by
  unfold bW
  refine aU rfl ?_
  unfold b_19 encT
  rfl'
  refine fT.mono ?_
  rintro _ M ⟨rfl,rfl⟩
  rfl'
  exact⟨⟨bt k,rfl,by simp[LB,hT]⟩,by simp⟩
 |.node t a b,d+1,M,ht,hd=>by
  obtain⟨h1,h2,h3,h4⟩:=ht
  have hda:hT a < d:=by simp only[hT]at hd;lia
  have hdb:hT b < d:=by simp only[hT]at hd;lia
  have lba:LB k (hT a)<=LB k (max (hT a) (hT b)):=wX (by lia)
  have lbb:LB k (hT b)<=LB k (max (hT a) (hT b)):=wX (by lia)
  have hbt:bt k<=2:=by unfold bt;split <;> lia
  unfold bW
  refine aU rfl ?_
  unfold b_19
  rw[show encT (.node t a b)=.tup [.str "node",natsD t,encT a,encT b]from rfl]
  rfl'
  refine fT.mono ?_
  rintro _ M ⟨rfl,rfl⟩
  rfl'
  refine jJ ?_
  rfl'
  refine(jD hn h1).mono ?_
  rintro _ M ⟨ps,rfl,hp,hP,rfl⟩
  refine⟨_,rfl,λd=>match d with
   |.tup xs=>.int xs.length
   |_=>.non,by simp[encPs];lia,(λt e=>by cases e),?_,?_⟩
  ·intro d hd acc
   obtain⟨ts,hts,rfl⟩:=aBC.mp hd
   rfl'
   exact⟨rfl,rfl⟩
  rfl'
  refine aMg (ns:=ps.map λts=>(ts.length:Int)) rfl (by simp[encPs,aCQ]) ?_
  obtain⟨s,hs,hs2⟩:∃s:Nat,(ps.map λts=>(ts.length:Int)).sum=(s:Nat)/\s<=bt k*2 ^ qOf k:=by
   have key:∀l:List (List (Int×Nat)),(∀ts∈l,ts.length<=2 ^ qOf k)->∃s:Nat,(l.map λts=>(ts.length:Int)).sum=(s:Nat)/\s<=l.length*2 ^ qOf k:=by
    intro l
    induction l with
    |nil=>intro _;exact⟨0,rfl,by simp⟩
    |cons ts l ih =>
     intro h
     obtain⟨s,e,hle⟩:=ih λx hx=>h x (by simp[hx])
     have:=h ts (by simp)
     refine⟨ts.length+s,by rw[aAO,aCF,e];lia,?_⟩
     rw[aBQ,Nat.add_mul,Nat.one_mul]
     lia
   rw[<- hp]
   refine key ps λts hts=>?_
   obtain⟨bit,hb,hb2⟩:=aDV.mp hts
   have P:=hP bit (by lia)
   rw[show ps.getD bit []=ts by simp[List.getD,hb,hb2]]at P
   exact P.len
  rw[hs]
  rfl'
  refine(gL hn a d M h3 hda).mono ?_
  rintro _ M ⟨⟨va,rfl,la⟩,rfl⟩
  rfl'
  refine(gL hn b d M h4 hdb).mono ?_
  rintro _ M ⟨⟨vb,rfl,lb⟩,rfl⟩
  rfl'
  refine mI.mono ?_
  rintro _ M ⟨rfl,rfl⟩
  rfl'
  refine oF (by simp only[mulOk,aAN];left;unfold ord;lia) ?_
  rfl'
  refine⟨⟨ord k*(2*(va+vb)+s+2*bt k),by simp,?_⟩,by simp⟩
  show _<=ord k*_
  refine aEV _ ?_
  lia
structure Good(n:Int)(k:Nat):Prop where
 n2:2<=n
 n1:n<=1801
 rt:∃w:Int,0<=w/\w < n/\Rt n w (ord k)
 iv:∃u,IsIv n (ord k:Nat) u
theorem rt3{v1 v2:Int}(h:w ^ 3 % n=1)(h1:IsIv n (w ^ 1 % n - 1) v1)(h2:IsIv n (w ^ 2 % n - 1) v2):Rt n w 3:=⟨h,λi i1 i3=>by
 have:i=1\/i=2:=by lia
 rcases this with rfl|rfl
 ·exact⟨_,h1⟩
 ·exact⟨_,h2⟩⟩
theorem good2(h:n∈[7,13,19,31,49,91,97,133,1801,247]):Good n 2:=by
 simp only[aAU,aBL,aCU]at h
 rcases h with rfl|rfl|rfl|rfl|rfl|rfl|rfl|rfl|rfl|rfl
 ·exact⟨by decide,by decide,⟨2,by decide,by decide,rt3 (v1:=1) (v2:=5) (by decide) ⟨by decide,by decide,by decide⟩ ⟨by decide,by decide,by decide⟩⟩,⟨5,by decide,by decide,by decide⟩⟩
 ·exact⟨by decide,by decide,⟨3,by decide,by decide,rt3 (v1:=7) (v2:=5) (by decide) ⟨by decide,by decide,by decide⟩ ⟨by decide,by decide,by decide⟩⟩,⟨9,by decide,by decide,by decide⟩⟩
 ·exact⟨by decide,by decide,⟨7,by decide,by decide,rt3 (v1:=16) (v2:=2) (by decide) ⟨by decide,by decide,by decide⟩ ⟨by decide,by decide,by decide⟩⟩,⟨13,by decide,by decide,by decide⟩⟩
 ·exact⟨by decide,by decide,⟨5,by decide,by decide,rt3 (v1:=8) (v2:=22) (by decide) ⟨by decide,by decide,by decide⟩ ⟨by decide,by decide,by decide⟩⟩,⟨21,by decide,by decide,by decide⟩⟩
 ·exact⟨by decide,by decide,⟨18,by decide,by decide,rt3 (v1:=26) (v2:=22) (by decide) ⟨by decide,by decide,by decide⟩ ⟨by decide,by decide,by decide⟩⟩,⟨33,by decide,by decide,by decide⟩⟩
 ·exact⟨by decide,by decide,⟨9,by decide,by decide,rt3 (v1:=57) (v2:=33) (by decide) ⟨by decide,by decide,by decide⟩ ⟨by decide,by decide,by decide⟩⟩,⟨61,by decide,by decide,by decide⟩⟩
 ·exact⟨by decide,by decide,⟨35,by decide,by decide,rt3 (v1:=20) (v2:=76) (by decide) ⟨by decide,by decide,by decide⟩ ⟨by decide,by decide,by decide⟩⟩,⟨65,by decide,by decide,by decide⟩⟩
 ·exact⟨by decide,by decide,⟨11,by decide,by decide,rt3 (v1:=40) (v2:=92) (by decide) ⟨by decide,by decide,by decide⟩ ⟨by decide,by decide,by decide⟩⟩,⟨89,by decide,by decide,by decide⟩⟩
 ·exact⟨by decide,by decide,⟨73,by decide,by decide,rt3 (v1:=1776) (v2:=24) (by decide) ⟨by decide,by decide,by decide⟩ ⟨by decide,by decide,by decide⟩⟩,⟨1201,by decide,by decide,by decide⟩⟩
 ·exact⟨by decide,by decide,⟨68,by decide,by decide,rt3 (v1:=59) (v2:=187) (by decide) ⟨by decide,by decide,by decide⟩ ⟨by decide,by decide,by decide⟩⟩,⟨165,by decide,by decide,by decide⟩⟩
theorem aNr(h:i < l.length):l.getD i 0∈l:=by
 simp[List.getD,h]
theorem pD{e:E}(hn:2<=n)(hn2:n<=1000000)(hw:wf G e)(hd:dp e<=12)(hm:many e<=5000) :
  Ok (fP [.d (.int n),.d (.int G),.d (enc e),.d (.int 5000)] M) λw M'=>w=.d (encP n G 3 (rowAl n e 0 1 2))/\M'=M:=by
 unfold fP
 refine aU rfl ?_
 unfold b_b
 rfl'
 refine(sJ 50 (by lia) _).mono ?_
 rintro _ M ⟨rfl,rfl⟩
 rfl'
 refine mK (by simp;lia) ?_
 rfl'
 refine(oK (S:=3) (s:=0) (b:=1) (c:=2) hn hn2 hw (by lia) (by lia) (by lia) (by lia) (by lia) (by lia) (by lia) 50 (by lia) (by lia) _).mono ?_
 rintro _ M ⟨rfl,rfl⟩
 rfl'
 exact⟨rfl,by simp⟩
inductive Sy
 |yes (i:Nat)
 |nt (s:Sy)
 |two (b:Bool) (x y:Sy)
noncomputable def encS:Sy->D
 |.yes i=>.tup [.str "yes",.int i]
 |.nt s=>.tup [.str "not",encS s]
 |.two b x y=>.tup [.str (if b then "and"else "or"),encS x,encS y]
noncomputable def okS:Sy->Prop
 |.yes i=>i < 4
 |.nt s=>okS s
 |.two _ x y=>okS x/\okS y
noncomputable def hS:Sy->Nat
 |.yes _=>0
 |.nt s=>hS s+1
 |.two _ x y=>max (hS x) (hS y)+1
noncomputable def hv(vs:List Nat):Sy->Bool
 |.yes i=>decide (pl vs i=1)
 |.nt s=>!hv vs s
 |.two true x y=>hv vs x&&hv vs y
 |.two false x y=>hv vs x || hv vs y
noncomputable def sE:Sy->E
 |.yes i=>.giv i
 |.nt s=>.op .less (.num 1) (sE s)
 |.two true x y=>.op .times (sE x) (sE y)
 |.two false x y=>.op .less (.op .sum (sE x) (sE y)) (.op .times (sE x) (sE y))
noncomputable def tab(b:Bool):List Nat:=if b then[0,0,0,1]else[0,1,1,1]
noncomputable def Pl:Sy->Prop
 |.yes _=>True
 |.nt _=>False
 |.two _ x y=>Pl x/\Pl y
noncomputable def trT:Sy->T
 |.yes i=>.leaf i
 |.nt s=>trT s
 |.two b x y=>.node (tab b) (trT x) (trT y)
noncomputable def b2n(b:Bool):Nat:=if b then 1 else 0
theorem mB:∀{s:Sy},okS s->wf 4 (sE s)
 |.yes i,h=>h
 |.nt s,h=>⟨⟨by lia,by lia⟩,mB (s:=s) h⟩
 |.two true x y,h=>⟨mB h.1,mB h.2⟩
 |.two false x y,h=>⟨⟨mB h.1,mB h.2⟩,mB h.1,mB h.2⟩
theorem tT:∀{s:Sy},dp (sE s)<=2*hS s
 |.yes i=>by simp[sE,dp,hS]
 |.nt s=>by have:=tT (s:=s);simp only[sE,dp,hS];lia
 |.two true x y=>by have:=tT (s:=x);have:=tT (s:=y);simp only[sE,dp,hS];lia
 |.two false x y=>by have:=tT (s:=x);have:=tT (s:=y);simp only[sE,dp,hS];lia
theorem pQ:∀{s:Sy},many (sE s)<=6 ^ hS s
 |.yes i=>by simp[sE,many,hS]
 |.nt s=>by have:=pQ (s:=s);have p:1<=6 ^ hS s:=Nat.one_le_pow _ _ (by lia);simp only[sE,many,hS,Nat.pow_succ];lia
 |.two b x y=>by
  have h1:=pQ (s:=x);have h2:=pQ (s:=y)
  have p1:6 ^ hS x<=6 ^ max (hS x) (hS y):=aDB (by lia) (by lia)
  have p2:6 ^ hS y<=6 ^ max (hS x) (hS y):=aDB (by lia) (by lia)
  cases b <;> simp only[sE,many,hS,Nat.pow_succ] <;> lia
theorem nT{n:Int}{vs:List Nat}(hn:2<=n)(hv01:∀v∈vs,v < 2)(hl:vs.length=4):∀{s:Sy},okS s->val n (vs.map λx:Nat=>(x:Int)) (sE s)=(b2n (hv vs s):Nat)
 |.yes i,h=>by
  have h:i < vs.length:=by rw[hl];exact h
  have h2:pl vs i < 2:=hv01 _ (eP h)
  have e:val n (vs.map λx:Nat=>(x:Int)) (sE (.yes i))=(pl vs i:Nat):=by simp[sE,val,pl,List.getD,h]
  rw[e]
  have:pl vs i=0\/pl vs i=1:=by lia
  rcases this with q|q <;> simp[hv,q,b2n]
 |.nt s,h=>by
  have ih:=nT hn hv01 hl (s:=s) h
  simp only[sE,val,Wd.ev,ih,hv]
  rw[aBX (by lia:(0:Int)<=1) (by lia)]
  cases hv vs s
  ·exact aBX (by decide) (by simp[b2n];lia)
  ·exact aBX (by decide) (by simp[b2n];lia)
 |.two true x y,h=>by
  have i1:=nT hn hv01 hl (s:=x) h.1
  have i2:=nT hn hv01 hl (s:=y) h.2
  simp only[sE,val,Wd.ev,i1,i2,hv]
  cases hv vs x <;> cases hv vs y <;> exact aBX (by decide) (by simp[b2n];lia)
 |.two false x y,h=>by
  have i1:=nT hn hv01 hl (s:=x) h.1
  have i2:=nT hn hv01 hl (s:=y) h.2
  simp only[sE,val,Wd.ev,i1,i2,hv]
  have key:∀a b c:Int,(a+b - a*b=c)->0<=c->c < n->((a+b) % n - a*b % n) % n=c:=λa b c e c0 c1=>by
   refine(Cg.emod ((Cg.sub Cg.mod Cg.mod).trans (Cg.of_eq e))).trans (aBX c0 c1)
  cases hv vs x <;> cases hv vs y <;> exact key _ _ _ (by decide) (by decide) (by simp[b2n];lia)
theorem lT{vs:List Nat}(hv01:∀v∈vs,v < 2)(hl:vs.length=4):∀{s:Sy},okS s->Pl s->valT 2 vs (trT s)=b2n (hv vs s)
 |.yes i,h,_=>by
  have h:i < vs.length:=by rw[hl];exact h
  have h2:pl vs i < 2:=hv01 _ (eP h)
  have:pl vs i=0\/pl vs i=1:=by lia
  rcases this with q|q <;> simp[trT,valT,hv,q,b2n]
 |.two b x y,h,p=>by
  have i1:=lT hv01 hl (s:=x) h.1 p.1
  have i2:=lT hv01 hl (s:=y) h.2 p.2
  simp only[trT,valT,i1,i2]
  cases b <;> simp only[hv] <;> cases hv vs x <;> cases hv vs y <;> rfl
theorem qA:∀{s:Sy},okS s->Pl s->okT 2 4 (trT s)
 |.yes i,h,_=>h
 |.two b x y,h,p=>⟨by cases b <;> rfl,by cases b <;> decide,qA h.1 p.1,qA h.2 p.2⟩
theorem aBn:∀{s:Sy},Pl s->hT (trT s)=hS s
 |.yes i,_=>rfl
 |.two b x y,p=>by simp only[trT,hT,hS,aBn p.1,aBn p.2]
theorem nA{xs:List Int}{is:List Nat}(hx:Rs n xs)(hn:n<=1000000)(hi:∀i∈is,i < xs.length):Ok (eL [.d (natsD is),.d (intsD xs)] M) λw M'=>w=.d (.int (pr xs is))/\M'=M:=by
 unfold eL
 refine aU rfl ?_
 unfold b_1f natsD intsD
 rfl'
 refine dL (λi L M'=>M'=M/\∃a,L=[some (.d (.tup (is.map λk=>.int (k:Nat)))),some (.d (.tup (xs.map .int))),some (.d (.int (pr xs (is.take i)))),a]) ⟨rfl,none,rfl⟩ (λi L M _ _ t e=>by cases e) ?_ ?_
 ·rintro i d _ _ hd ⟨rfl,a,rfl⟩
  simp only[aAP,aAM]at hd
  obtain⟨k,hk,rfl⟩:=hd
  have hm:=hi k (aBJ hk)
  have hr:=hx.getD hm
  have hb:=aEr hr.1 hr.2 hn
  rfl'
  refine fR (nM hm) ?_
  refine oF (by simp only[mulOk,aAN];exact .inr (.inl hb)) ?_
  rfl'
  refine⟨rfl,some (.d (.int k)),?_⟩
  rw[aCC,hk]
  simp[pr]
 ·rintro _ _ ⟨rfl,a,rfl⟩
  rfl'
  rw[aCM (by simp)]
  exact⟨rfl,by simp⟩
theorem aDk(hn:2<=n)(hn2:n<=1000000)(hg:Rs n gs)(hc:Rs n cs)(h:OkD n gs.length cs.length d)(hz:cs.length<=1000):Ok (oA [.d (.int n),.d (encD d),.d (intsD gs),.d (intsD cs)] M) λw M'=>w=.d (intsD (dn n gs cs d))/\M'=M:=by
 cases d with
 |add s c g t =>
  obtain⟨hs,c0,c1,hgi,hti,_,hgl,htl⟩:=h
  have hr:=hc.getD hs
  unfold oA
  refine aU rfl ?_
  unfold b_1e encD
  have e1:atI (cs.map D.int) (s:Int)=some (.int (cs.getD s 0)):=nM hs
  rfl'
  simp only[intsD]
  refine fR e1 ?_
  rfl'
  refine(nA (xs:=gs) (is:=g) hg hn2 hgi).mono ?_
  rintro _ _ ⟨rfl,rfl⟩
  refine oF (by simp only[mulOk,aAN];exact .inl (aEr c0 c1 hn2)) ?_
  rfl'
  refine(nA (xs:=cs) (is:=t) hc hn2 hti).mono ?_
  rintro _ _ ⟨rfl,rfl⟩
  have b1:=aHy hg (by lia) hn2 hgl
  have b2:=aHy hc (by lia) hn2 htl
  have b3:=rH (a:=c) (x:=1000000) (by lia) b1
  refine oF (by simp only[mulOk,aAN];exact .inr (.inr ⟨aHb b3 (by decide),aHb b2 (by decide)⟩)) ?_
  rfl'
  rw[aGk (by simp;lia)]
  refine dG (by simp;lia) ?_
  rfl'
  rw[show((s:Int)+1)=((s+1:Nat):Int) by simp,uP (by simp;lia)]
  refine dG (by simp;lia) ?_
  rfl'
  rw[aBf hs]
  exact⟨rfl,by simp⟩
 |scale s u =>
  obtain⟨hs,hu⟩:=h
  have hr:=hc.getD hs
  unfold oA
  refine aU rfl ?_
  unfold b_1e encD
  have e1:atI (cs.map D.int) (s:Int)=some (.int (cs.getD s 0)):=nM hs
  rfl'
  simp only[intsD]
  refine fR e1 ?_
  rfl'
  rw[aGk (by simp;lia)]
  refine dG (by simp;lia) ?_
  rfl'
  rw[show((s:Int)+1)=((s+1:Nat):Int) by simp,uP (by simp;lia)]
  refine dG (by simp;lia) ?_
  rfl'
  rw[aBf hs]
  exact⟨rfl,by simp⟩
theorem aFp{G S:Int}{ds:List Dd}(hn:2<=n)(hn2:n<=1000000)(hg:Rs n gs)(hc:Rs n cs)(h:∀d∈ds,OkD n gs.length cs.length d)(hz:cs.length<=1000):Ok (xZ [.d (encP n G S ds),.d (intsD gs),.d (intsD cs)] M) λw M'=>w=.d (intsD (rn n gs ds cs))/\M'=M:=by
 unfold xZ
 refine aU rfl ?_
 unfold b_1d encP
 rfl'
 refine dL (λi L M'=>M'=M/\∃a,L=[some (.d (encP n G S ds)),some (.d (intsD gs)),some (.d (intsD (rn n gs (ds.take i) cs))),a]) ⟨rfl,none,rfl⟩ (λi L M _ _ t e=>by cases e) ?_ ?_
 ·rintro i d _ _ hd ⟨rfl,a,rfl⟩
  simp only[aAP,aAM]at hd
  obtain⟨k,hk,rfl⟩:=hd
  have hm:=h k (aBJ hk)
  unfold encP
  rfl'
  refine(aDk (cs:=rn n gs (ds.take i) cs) hn hn2 hg (hc.rn (by lia)) (by rw[dM];exact hm) (by rw[dM];exact hz)).mono ?_
  rintro _ _ ⟨rfl,rfl⟩
  rfl'
  refine⟨rfl,some (.d (encD k)),?_⟩
  rw[aCC,hk]
  simp only[Option.toList_some,bM,fO,qS]
  rfl
 ·rintro _ _ ⟨rfl,a,rfl⟩
  rfl'
  rw[aCM (by simp)]
  exact⟨rfl,by simp⟩
noncomputable def row(a b:Nat):List Nat:=(List.range b).map λj=>a+j
theorem vE:(row a b).length=b:=by simp[row]
theorem aGy:natsD (row a b)=.tup (rngD (a:Nat) b):=by
 unfold natsD row rngD
 rw[aBP]
 congr 1
theorem aLc:Shv k (3*bt k) (row 0 (bt k)) (row (bt k) (bt k)) (row (2*bt k) (bt k)):=by
 obtain⟨_,_,q3⟩:=qb (k:=k)
 refine⟨vE,vE,vE,?_,?_⟩ <;> rcases q3 with h|h <;> rw[h] <;> decide
noncomputable def Tp(n:Int)(k lv:Nat)(t:T)(w:W):Prop:=∃ds,w=.d (encP n 4 (3*bt k:Nat) ds)/\(∀d∈ds,OkD n 4 (3*bt k) d)/\ds.length<=5000/\TB n k (3*bt k) lv t (row 0 (bt k)) ds
theorem nN{lv:Nat}{t:T}(g:Good n k)(hk:k<=rm k)(hlv:bt k*lv<=4)(ht:okT k lv t)(hd:hT t<=3)(hb:LB k (hT t)<=5000):Ok (eG [.d (.int n),.d (.int k),.d (.int 4),.d (encT t),.d (.int 5000)] M) λr M'=>Tp n k lv t r/\M'=M:=by
 obtain⟨hn,hn1,hrt,u,hu⟩:=g
 obtain⟨q1,q2,q3⟩:=qb (k:=k)
 have hn2:n<=1000000:=by lia
 unfold eG
 refine aU rfl ?_
 unfold b_17
 rfl'
 refine fT.mono ?_
 rintro _ M ⟨rfl,rfl⟩
 rfl'
 refine mI.mono ?_
 rintro _ M ⟨rfl,rfl⟩
 rfl'
 refine(vG hn hn2 (by unfold ord;lia) hrt).mono ?_
 rintro _ M ⟨⟨w,rfl,w0,w1,hw⟩,rfl⟩
 rfl'
 refine(gL hn t 50 _ ht (by lia)).mono ?_
 rintro _ M ⟨⟨v,rfl,hv⟩,rfl⟩
 rfl'
 refine mK (by simp;lia) ?_
 rfl'
 refine jJ ?_
 rfl'
 refine⟨λd=>match d with
  |.int i=>.tup (rngD i (bt k))
  |_=>.non,by simp,(λt e=>by cases e),?_,?_⟩
 ·intro d hd acc
  obtain⟨i,rfl,i0,i1⟩:∃i:Int,d=.int i/\0<=i/\i<=4:=by
   simp only[aAU,aBL,aCU]at hd
   rcases hd with rfl|rfl|rfl
   ·exact⟨_,rfl,by lia,by lia⟩
   ·exact⟨_,rfl,by lia,by lia⟩
   ·exact⟨_,rfl,by lia,by lia⟩
  rfl'
  refine aQd ⟨by lia,by lia,by lia,by lia⟩ ?_
  rw[show(i+((bt k:Nat):Int) - i).toNat=bt k by lia]
  exact⟨rfl,rfl⟩
 rfl'
 simp only[aAO,List.map_nil]
 rw[show D.tup (rngD 0 (bt k))=natsD (row 0 (bt k))from aGy.symm,show D.tup (rngD ((bt k:Nat):Int) (bt k))=natsD (row (bt k) (bt k))from aGy.symm,show D.tup (rngD (2*((bt k:Nat):Int)) (bt k))=natsD (row (2*bt k) (bt k)) by rw[aGy];simp]
 rfl'
 refine(iR hn hn2 hw w0 w1 hu hk hlv t 50 _ _ _ _ ht (by lia) hb aLc).mono ?_
 rintro _ M ⟨⟨ds,rfl,okd,ld,tb⟩,rfl⟩
 rfl'
 exact⟨⟨ds,by simp[encP],okd,by lia,tb⟩,by simp⟩
theorem fW{vs:List Nat}(hl:vs.length=4):∀(s:Sy) (fuel:Nat) (M:Mm),okS s->hS s < fuel->Ok (fA fuel [.d (encS s),.d (natsD vs)] M) λw M'=>w=.d (.bl (hv vs s))/\M'=M
 |s,0,_,_,h=>absurd h (by lia)
 |.yes i,f+1,M,h,_=>by
  have h:i < vs.length:=by rw[hl];exact h
  unfold fA
  refine aU rfl ?_
  unfold b_20 encS natsD
  rfl'
  refine fR (vQ h) ?_
  rfl'
  refine⟨?_,by simp⟩
  simp only[hv]
  congr 3
  exact propext ⟨λh=>by lia,λh=>by lia⟩
 |.nt s,f+1,M,h,hf=>by
  simp only[hS]at hf
  unfold fA
  refine aU rfl ?_
  unfold b_20 encS
  rfl'
  refine(fW hl s f _ h (by lia)).mono ?_
  rintro _ M ⟨rfl,rfl⟩
  rfl'
  exact⟨rfl,by simp⟩
 |.two b x y,f+1,M,h,hf=>by
  simp only[hS]at hf
  unfold fA
  refine aU rfl ?_
  unfold b_20 encS
  cases b
  ·simp only[aAY,aCG]
   rfl'
   refine(fW hl x f _ h.1 (by lia)).mono ?_
   rintro _ M ⟨rfl,rfl⟩
   refine⟨_,rfl,λe=>?_,λe=>?_⟩
   ·rfl'
    exact⟨by simp[hv,e],by simp⟩
   ·rfl'
    refine(fW hl y f _ h.2 (by lia)).mono ?_
    rintro _ M ⟨rfl,rfl⟩
    rfl'
    exact⟨by simp[hv,e],by simp⟩
  ·simp only[aBT]
   rfl'
   refine(fW hl x f _ h.1 (by lia)).mono ?_
   rintro _ M ⟨rfl,rfl⟩
   refine⟨_,rfl,λe=>?_,λe=>?_⟩
   ·rfl'
    refine(fW hl y f _ h.2 (by lia)).mono ?_
    rintro _ M ⟨rfl,rfl⟩
    rfl'
    exact⟨by simp[hv,e],by simp⟩
   ·rfl'
    exact⟨by simp[hv,e],by simp⟩
theorem gU{n:Int}:∀(s:Sy) (fuel:Nat) (M:Mm),okS s->hS s < fuel->Ok (gM fuel [.d (.int n),.d (encS s)] M) λw M'=>w=.d (enc (sE s))/\M'=M
 |s,0,_,_,h=>absurd h (by lia)
 |.yes i,f+1,M,h,_=>by
  unfold gM
  refine aU rfl ?_
  unfold b_21 encS
  rfl'
  exact⟨rfl,by simp⟩
 |.nt s,f+1,M,h,hf=>by
  simp only[hS]at hf
  unfold gM
  refine aU rfl ?_
  unfold b_21 encS
  rfl'
  refine(gU s f _ h (by lia)).mono ?_
  rintro _ M ⟨rfl,rfl⟩
  rfl'
  exact⟨rfl,by simp⟩
 |.two b x y,f+1,M,h,hf=>by
  simp only[hS]at hf
  unfold gM
  refine aU rfl ?_
  unfold b_21 encS
  cases b
  ·simp only[aAY,aCG]
   rfl'
   refine(gU x f _ h.1 (by lia)).mono ?_
   rintro _ M ⟨rfl,rfl⟩
   rfl'
   refine(gU y f _ h.2 (by lia)).mono ?_
   rintro _ M ⟨rfl,rfl⟩
   rfl'
   exact⟨rfl,by simp⟩
  ·simp only[aBT]
   rfl'
   refine(gU x f _ h.1 (by lia)).mono ?_
   rintro _ M ⟨rfl,rfl⟩
   rfl'
   refine(gU y f _ h.2 (by lia)).mono ?_
   rintro _ M ⟨rfl,rfl⟩
   rfl'
   exact⟨rfl,by simp⟩
theorem gJ:∀(s:Sy) (fuel:Nat) (M:Mm),Pl s->hS s < fuel->Ok (eI fuel [.d (encS s)] M) λw M'=>w=.d (encT (trT s))/\M'=M
 |s,0,_,_,h=>absurd h (by lia)
 |.yes i,f+1,M,h,_=>by
  unfold eI
  refine aU rfl ?_
  unfold b_2a encS
  rfl'
  exact⟨rfl,by simp⟩
 |.two b x y,f+1,M,h,hf=>by
  simp only[hS]at hf
  unfold eI
  refine aU rfl ?_
  unfold b_2a encS
  cases b
  ·simp only[aAY,aCG]
   rfl'
   refine(gJ x f _ h.1 (by lia)).mono ?_
   rintro _ M ⟨rfl,rfl⟩
   rfl'
   refine(gJ y f _ h.2 (by lia)).mono ?_
   rintro _ M ⟨rfl,rfl⟩
   rfl'
   exact⟨rfl,by simp⟩
  ·simp only[aBT]
   rfl'
   refine(gJ x f _ h.1 (by lia)).mono ?_
   rintro _ M ⟨rfl,rfl⟩
   rfl'
   refine(gJ y f _ h.2 (by lia)).mono ?_
   rintro _ M ⟨rfl,rfl⟩
   rfl'
   exact⟨rfl,by simp⟩
noncomputable def ans(i:Nat):List Nat:=(List.range 4).map λj=>i / 2 ^ j % 2
theorem iB:(ans i).length=4:=by simp[ans]
theorem nU{i:Nat}:∀v∈ans i,v < 2:=by
 intro v h
 obtain⟨j,_,rfl⟩:=aBC.mp h
 exact Nat.mod_lt _ (by lia)
noncomputable def gi(vs:List Nat):List Int:=vs.map λx:Nat=>(x:Int)
theorem aQm{vs:List Nat}:natsD vs=intsD (gi vs):=by
 unfold intsD gi natsD
 rw[aBP]
 rfl
theorem aPk{vs:List Nat}(hn:2<=n)(h:∀v∈vs,v < 2):Rs n (gi vs):=by
 intro c hc
 obtain⟨x,hx,rfl⟩:=aBC.mp hc
 have:=h x hx
 lia
theorem aNo{vs:List Nat}(h:∀v∈vs,v < 2):Giv 2 vs (gi vs):=by
 intro i j hi hj
 have hj:j=0:=by have:bt 2=1:=rfl;lia
 subst hj
 have h2:=h _ (eP hi)
 rw[show bt 2*i+0=i by rw[show bt 2=1 from rfl];lia]
 have e:(gi vs).getD i 0=(pl vs i:Nat):=by simp[gi,pl,List.getD,hi]
 rw[e,Nat.pow_zero,Nat.div_one,aFM h2]
theorem aFa{t:T}{vs:List Nat}(hn:2<=n)(tb:TB n 2 (3*bt 2) 4 t (row 0 (bt 2)) ds)(vl:vs.length=4)(hv:∀v∈vs,v < 2)(h2:valT 2 vs t < 2)(cr:Rs n cs)(cl:cs.length=3):rn n (gi vs) ds cs=cs.set 0 ((cs.getD 0 0+(valT 2 vs t:Nat)) % n):=by
 refine aId (Rs.rn (by lia) cr) ?_ (by rw[dM,aEF]) λs hs=>?_
 ·intro c hc
  rcases List.mem_or_eq_of_mem_set hc with hc|rfl
  ·exact cr c hc
  ·exact⟨aAZ _ (by lia),aAR _ (by lia)⟩
 rw[dM]at hs
 refine(tb vs _ vl hv (aNo hv) cs cr cl s (by have:bt 2=1:=rfl;lia)).trans ?_
 by_cases h:s=0
 ·subst h
  have e:bitAt (row 0 (bt 2)) (valT 2 vs t) 0=(valT 2 vs t:Nat):=by
   have:=sC (O:=row 0 (bt 2)) (v:=valT 2 vs t) (j:=0) (by decide) (by decide)
   rw[show pl (row 0 (bt 2)) 0=0 from rfl,Nat.pow_zero,Nat.div_one,aFM h2]at this
   exact this
  rw[e]
  refine Cg.mod.symm.trans (Cg.of_eq ?_)
  simp[List.getD,hs]
 ·rw[lF (by rw[show row 0 (bt 2)=[0]from rfl];simpa using h),Int.add_zero]
  refine Cg.of_eq ?_
  simp[List.getD,aBK (Ne.symm h)]
variable{b:Bool}
theorem aMe:(if b=true then(1:Int)else 0)=((b2n b:Nat):Int):=by cases b <;> rfl
theorem yO{s:Sy}{t:T}{is:List Nat}(g:Good n 2)(hs:okS s)(hsd:hS s<=3)(ht:okT 2 4 t)(htd:hT t<=3)(hb:LB 2 (hT t)<=5000)(hval:∀vs:List Nat,vs.length=4->(∀v∈vs,v < 2)->valT 2 vs t=b2n (hv vs s))(cr:Rs n cs)(cl:cs.length=3)(hi:∀i∈is,i < 16)(hil:is.length<=100) :
  Ok (jE [.d (.int n),.d (encS s),.d (encT t),.d (intsD cs),.d (.lst (is.map λi=>D.int (i:Nat)))] M) λw M'=>w=.d (.bl true)/\M'=M:=by
 have m2:=g.n2
 have m1:n<=1000000:=by have:=g.n1;lia
 have hmany:many (sE s)<=5000:=aBF pQ (aBF (aDB (by lia) hsd) (by decide))
 have hdp:=tT (s:=s)
 unfold jE
 refine aU rfl ?_
 unfold b_2c
 rfl'
 refine(nN (k:=2) g (by decide) (lv:=4) (by decide) ht htd hb).mono ?_
 rintro _ M ⟨⟨ds,rfl,okd,ld,tb⟩,rfl⟩
 rfl'
 refine(gU s 50 _ hs (by lia)).mono ?_
 rintro _ M ⟨rfl,rfl⟩
 rfl'
 refine(pD (G:=4) m2 m1 (mB hs) (by lia) hmany).mono ?_
 rintro _ M ⟨rfl,rfl⟩
 rfl'
 refine dL (λi L M'=>M'=M/\∃o6 o7 o8 o9,L=[some (.d (.int n)),some (.d (encS s)),some (.d (encT t)),some (.d (intsD cs)),some (.d (.lst (is.map λi=>D.int (i:Nat)))),some (.d (.lst [encP n 4 (3*bt 2:Nat) ds,encP n (4:Nat) 3 (rowAl n (sE s) 0 1 2)])),o6,o7,o8,o9]) ⟨rfl,_,_,_,_,rfl⟩ (λi L M _ _ t e=>by cases e) ?_ ?_
 ·rintro j d _ _ hd ⟨rfl,o6,o7,o8,o9,rfl⟩
  simp only[aAP,aAM]at hd
  obtain⟨i,hi1,rfl⟩:=hd
  have hi16:=hi i (aBJ hi1)
  rfl'
  refine jJ ?_
  rfl'
  refine⟨by decide,λd=>match d with
   |.int j=>.int ((i / 2 ^ j.toNat % 2:Nat):Int)
   |_=>.non,by simp[rngD],(λt e=>by cases e),?_,?_⟩
  ·intro d hd acc
   obtain⟨j,hj,rfl⟩:=aBC.mp hd
   have hj:=aCE.mp hj
   rfl'
   refine⟨?_,rfl⟩
   rw[show(0:Int)+(j:Nat)=(j:Nat) by lia]
   show W.d (D.int (Builtin.bitAnd ((i:Int) / 2 ^ ((j:Nat):Int).toNat) 1))=W.d (.int ((i / 2 ^ ((j:Nat):Int).toNat % 2:Nat):Int))
   rw[aCD,show(i:Int) / 2 ^ j=((i / 2 ^ j:Nat):Int) by simp,mG]
  have hv':=hval (ans i) iB nU
  have hlt:=jV (k:=2) (vs:=ans i) (S:=4) iB nU ht
  rfl'
  refine gO (xs:=(ans i).map λx=>.int (x:Nat)) rfl ?_
  rw[show D.tup ((ans i).map λx=>.int (x:Nat))=natsD (ans i)from rfl]
  rfl'
  refine(fW iB s 50 _ hs (by lia)).mono ?_
  rintro _ M ⟨rfl,rfl⟩
  rfl'
  rw[aMe]
  rfl'
  refine(pF (k:=2) (by lia) (by lia) iB nU t 50 _ ht (by lia)).mono ?_
  rintro _ M ⟨rfl,rfl⟩
  rfl'
  refine mK (by simp[hv']) ?_
  rfl'
  refine dL (λj L M'=>M'=M/\∃o9,L=[some (.d (.int n)),some (.d (encS s)),some (.d (encT t)),some (.d (intsD cs)),some (.d (.lst (is.map λi=>D.int (i:Nat)))),some (.d (.lst [encP n 4 (3*bt 2:Nat) ds,encP n (4:Nat) 3 (rowAl n (sE s) 0 1 2)])),some (.d (.int (i:Nat))),some (.d (natsD (ans i))),some (.d (.int (b2n (hv (ans i) s):Nat))),o9]) ⟨rfl,_,rfl⟩ (λi L M _ _ t e=>by cases e) ?_ ?_
  ·rintro j d _ _ hd ⟨rfl,o9',rfl⟩
   obtain⟨es,S',rfl,oke,hr⟩:∃(es:List Dd) (S':Int),d=encP n 4 S' es/\(∀d∈es,OkD n 4 3 d)/\rn n (gi (ans i)) es cs=cs.set 0 ((cs.getD 0 0+(b2n (hv (ans i) s):Nat)) % n):=by
    match j,hd with
    |0,hd =>
     refine⟨ds,_,by simpa using hd.symm,okd,?_⟩
     rw[<- hv']
     exact aFa m2 tb iB nU hlt cr cl
    |1,hd =>
     refine⟨rowAl n (sE s) 0 1 2,3,by simpa using hd.symm,eE (by lia) (mB hs) (by lia) (by lia) (by lia) (by lia) (by lia) (by lia),?_⟩
     rw[gX (S:=3) (by lia) (by rw[gi,aAL,iB];exact mB hs) (by lia) (by lia) (by lia) (by lia) (by lia) (by lia) cs cr cl]
     have:=nT (n:=n) m2 (nU (i:=i)) iB hs
     rw[show val n (gi (ans i)) (sE s)=_ from this]
   rw[aQm]
   rfl'
   refine(aFp (G:=4) (S:=S') (ds:=es) m2 m1 (aPk m2 nU) cr (by rw[gi,aAL,iB,cl];exact oke) (by lia)).mono ?_
   rintro _ M ⟨rfl,rfl⟩
   rw[hr]
   rw[show intsD cs=.tup (cs.map D.int)from rfl]
   rfl'
   refine fR (nM (i:=0) (by lia)) ?_
   rfl'
   rw[show(1:Int)=((1:Nat):Int)from rfl,uP (by simp;lia)]
   refine dG (by simp;lia) ?_
   refine aMy (a:=intsD _) rfl rfl ?_ (wC _) ?_
   ·match cs,cl with
    |[a,b,c],_=>rfl
   rfl'
   exact⟨rfl,_,rfl⟩
  ·rintro _ _ ⟨rfl,o9',rfl⟩
   exact⟨rfl,_,_,_,_,rfl⟩
 ·rintro _ M ⟨rfl,o6,o7,o8,o9,rfl⟩
  rfl'
  exact⟨rfl,by simp⟩
theorem sO:∀(h fuel:Nat) (M:Mm) (b:Nat),Bx M b->h < fuel->h<=10->Ok (cU fuel [.ref b,.d (.int h)] M) λw M'=>∃s:Sy,w=.d (encS s)/\okS s/\Pl s/\hS s<=h/\Nx b M M':=by
 intro h
 induction h with
 |zero =>
  intro fuel M b hb hf _
  obtain⟨f,rfl⟩:∃f,fuel=f+1:=⟨fuel - 1,by lia⟩
  have n:=Nx.refl hb
  unfold cU
  refine aU rfl ?_
  unfold b_29
  rfl'
  (refine(dI hb (by lia) (by lia)).mono ?_;rintro _ _ ⟨d2,rfl,l_d2,u_d2,n'⟩;replace n:=n.trans n';replace hb:=n'.bx hb;clear n')
  rfl'
  obtain⟨i,rfl⟩:∃i:Nat,d2=i:=⟨d2.toNat,by lia⟩
  exact⟨.yes i,rfl,by simp only[okS];lia,trivial,by simp[hS],by rw[n.take];exact n⟩
 |succ h ih =>
  intro fuel M b hb hf h10
  obtain⟨f,rfl⟩:∃f,fuel=f+1:=⟨fuel - 1,by lia⟩
  have n:=Nx.refl hb
  unfold cU
  refine aU rfl ?_
  unfold b_29
  refine oP (uL (Ok.mono (Q:=λ(c:Bool) M2=>Bx M2 b/\Nx b M M2) ?_ ?_))
  ·rfl'
   refine⟨λe=>by simp at e;lia,λ_=>?_⟩
   rfl'
   (refine(dI hb (by lia) (by lia)).mono ?_;rintro _ _ ⟨d1,rfl,l_d1,u_d1,n'⟩;replace n:=n.trans n';replace hb:=n'.bx hb;clear n')
   rfl'
   exact⟨hb,n⟩
  clear n hb
  rintro c M1 ⟨hb,n⟩
  refine wJ (λ_=>?_) (λ_=>?_)
  ·rfl'
   (refine(dI hb (by lia) (by lia)).mono ?_;rintro _ _ ⟨d2,rfl,l_d2,u_d2,n'⟩;replace n:=n.trans n';replace hb:=n'.bx hb;clear n')
   rfl'
   obtain⟨i,rfl⟩:∃i:Nat,d2=i:=⟨d2.toNat,by lia⟩
   exact⟨.yes i,rfl,by simp only[okS];lia,trivial,by simp[hS],by rw[n.take];exact n⟩
  ·rfl'
   (refine(dI hb (by lia) (by lia)).mono ?_;rintro _ _ ⟨d3,rfl,l_d3,u_d3,n'⟩;replace n:=n.trans n';replace hb:=n'.bx hb;clear n')
   obtain⟨bb,ew⟩:∃bb:Bool,atI [D.str "and",D.str "or"] d3=some (.str (if bb then "and"else "or")):=by
    obtain⟨w,ew,hw⟩:=at2 l_d3 u_d3 (.str "and") (.str "or")
    rcases hw with rfl|rfl
    ·exact⟨true,ew⟩
    ·exact⟨false,ew⟩
   refine iW ew ?_
   rfl'
   rw[show(((h+1:Nat):Int) - 1)=(h:Nat) by lia]
   refine(ih f _ b hb (by lia) (by lia)).mono ?_
   rintro _ _ ⟨x,rfl,x1,x2,x3,n'⟩
   replace n:=n.trans n'
   replace hb:=n'.bx hb
   clear n'
   rfl'
   rw[show(((h+1:Nat):Int) - 1)=(h:Nat) by lia]
   refine(ih f _ b hb (by lia) (by lia)).mono ?_
   rintro _ _ ⟨y,rfl,y1,y2,y3,n'⟩
   replace n:=n.trans n'
   replace hb:=n'.bx hb
   clear n'
   rfl'
   exact⟨.two bb x y,rfl,⟨x1,y1⟩,⟨x2,y2⟩,by simp only[hS];lia,by rw[n.take];exact n⟩
noncomputable def ntT:T->T
 |.leaf i=>.leaf i
 |.node t x y=>.node (t.map λv=>1 - v) x y
theorem yL{t:List Nat}{x y:T}(h:∀v∈t,v < 2)(hl:t.length=4):Ok (mX [.d (encT (.node t x y))] M) λw M'=>w=.d (encT (ntT (.node t x y)))/\M'=M:=by
 unfold mX
 refine aU rfl ?_
 unfold b_2b
 rw[show encT (.node t x y)=.tup [.str "node",natsD t,encT x,encT y]from rfl]
 rfl'
 refine jJ ?_
 rw[show natsD t=.tup (t.map λk=>D.int (k:Nat))from rfl]
 rfl'
 refine⟨λd=>match d with
  |.int i=>.int (1 - i)
  |_=>.non,by simp;lia,(λt e=>by cases e),?_,?_⟩
 ·intro d hd acc
  obtain⟨v,hv,rfl⟩:=aBC.mp hd
  rfl'
  exact⟨rfl,rfl⟩
 rfl'
 refine gO (xs:=(t.map λv=>1 - v).map λx=>D.int (x:Nat)) ?_ ?_
 ·show some _=some _
  congr 1
  rw[aBP,aBP]
  refine aEU λv hv=>?_
  have:=h v hv
  show D.int (1 - (v:Int))=D.int ((1 - v:Nat):Int)
  congr 1
  lia
 rfl'
 refine dG (by simp[cut];lia) ?_
 rfl'
 exact⟨rfl,by simp⟩
theorem aMp{vs:List Nat}{x y:Sy}(hv01:∀v∈vs,v < 2)(hl:vs.length=4)(ok:okS (.two b x y))(p:Pl (.two b x y)):valT 2 vs (ntT (trT (.two b x y)))=b2n (hv vs (.nt (.two b x y))):=by
 have i1:=lT hv01 hl (s:=x) ok.1 p.1
 have i2:=lT hv01 hl (s:=y) ok.2 p.2
 simp only[trT,ntT,valT,i1,i2]
 cases b <;> simp only[hv] <;> cases hv vs x <;> cases hv vs y <;> rfl
theorem aIj:∀{t:T},dep (encT t)<=hT t+3
 |.leaf i=>by simp[encT,dep,deps,hT]
 |.node t x y=>by
  have h1:=aIj (t:=x)
  have h2:=aIj (t:=y)
  have h3:deps (t.map λk=>D.int (k:Nat))<=1:=by
   induction t with
   |nil=>simp[deps]
   |cons a l ih=>simp[deps,dep];exact ih
  simp only[encT,natsD,dep,deps,hT]
  lia
structure Pr(s:Sy)(t:T):Prop where
 hs:okS s
 hsd:hS s<=3
 ht:okT 2 4 t
 htd:hT t<=3
 val:∀vs:List Nat,vs.length=4->(∀v∈vs,v < 2)->valT 2 vs t=b2n (hv vs s)
theorem LB3(hh:h<=3):LB 2 h<=5000:=aBF (wX (b:=3) hh) (by decide)
theorem aEz(t:T):∃(xs:List D) (ps:List T),encT t=.tup xs/\cut xs (some 2) none=ps.map encT/\(∀u∈ps,hT u<=hT t)/\ps.length<=2:=by
 cases t with
 |leaf i=>exact⟨_,[],rfl,rfl,by simp,by simp⟩
 |node t x y =>
  refine⟨_,[x,y],rfl,rfl,?_,by simp⟩
  intro u hu
  simp only[aAU,aBL,aCU]at hu
  rcases hu with rfl|rfl <;> simp only[hT] <;> lia
theorem aNs{ts:List T}(h:∀u∈ts,hT u<=3):deps (ts.map encT)<=6:=by
 induction ts with
 |nil=>simp[deps]
 |cons u r ih =>
  have h1:=aIj (t:=u)
  have h2:=h u (by simp)
  have h3:=ih λx hx=>h x (by simp[hx])
  simp only[aAO,deps]
  lia
theorem aOb(ns:List Int)(hn:ns.length<=63):Ok (qL [.d (.fz (ns.map D.int))] []) λw _=>w=.d (.bl true):=by
 unfold qL
 refine aU rfl ?_
 unfold b_2d
 rfl'
 refine⟨by simp only[in62,aAN];repeat split <;> lia,?_⟩
 refine dL (λi L M=>∃(o1 o2 o3 o4 o5 o6 o7:Option W),L=[some (.d (.fz (ns.map D.int))),o1,o2,o3,o4,o5,o6,o7]) ⟨_,_,_,_,_,_,_,rfl⟩ (λi L M _ _ t e=>by cases e) ?_ ?_
 ·rintro i d _ M hd ⟨o1,o2,o3,o4,o5,o6,o7,rfl⟩
  obtain⟨hi,rfl⟩:=eR hd
  have hi5:i < 5:=by revert hi;repeat split <;> lia
  rfl'
  refine(aFz (by lia) hn).mono ?_
  rintro _ _ ⟨x,y,z,rfl,rfl⟩
  have hb:Bx (M++[[.int x,.int y,.int z]]) M.length:=⟨x,y,z,by simp⟩
  have n:=Nx.refl hb
  rfl'
  (refine(dI hb (by lia) (by lia)).mono ?_;rintro _ _ ⟨d1,rfl,l_d1,u_d1,n'⟩;replace n:=n.trans n';replace hb:=n'.bx hb;clear n')
  obtain⟨j,rfl⟩:∃j:Nat,d1=j:=⟨d1.toNat,by lia⟩
  refine iW (nM (cs:=[7,13,19,31,49,91,97,133,1801,247]) (by simp;lia)) ?_
  have gd:Good (([7,13,19,31,49,91,97,133,1801,247]:List Int).getD j 0) 2:=good2 (aNr (by simp;lia))
  generalize([7,13,19,31,49,91,97,133,1801,247]:List Int).getD j 0=m at gd
  have m2:=gd.n2
  have m1:m<=1000000:=by have:=gd.n1;lia
  rfl'
  (refine(dI hb (by lia) (by lia)).mono ?_;rintro _ _ ⟨d2,rfl,l_d2,u_d2,n'⟩;replace n:=n.trans n';replace hb:=n'.bx hb;clear n')
  obtain⟨h,eh,h2⟩:∃h:Nat,atI [D.int 1,D.int 1,D.int 1,D.int 2] d2=some (.int (h:Nat))/\h<=2:=by
   have:d2=0\/d2=1\/d2=2\/d2=3:=by lia
   rcases this with rfl|rfl|rfl|rfl
   ·exact⟨1,rfl,by lia⟩
   ·exact⟨1,rfl,by lia⟩
   ·exact⟨1,rfl,by lia⟩
   ·exact⟨2,rfl,by lia⟩
  refine iW eh ?_
  rfl'
  refine(sO h 50 _ _ hb (by lia) (by lia)).mono ?_
  rintro _ M1 ⟨s,rfl,ok,pl',hd,n'⟩
  replace hb:=n'.bx hb
  clear n' n eh
  rfl'
  refine(gJ s 50 _ pl' (by lia)).mono ?_
  rintro _ M1 ⟨rfl,rfl⟩
  refine yH (oP (Ok.mono (Q:=λo M2=>∃s t,o=.nx [some (.d (.fz (ns.map D.int))),some (.d (.int (0+i))),some (.ref M.length),some (.d (.int m)),some (.d (encS s)),some (.d (encT t)),o6,o7]/\Pr s t/\Bx M2 M.length) ?_ ?_))
  ·cases s with
   |nt s=>exact pl'.elim
   |yes k =>
    rw[show encS (.yes k)=.tup [.str "yes",.int k]from rfl]
    rfl'
    exact⟨.yes k,trT (.yes k),rfl,⟨ok,by simp[hS],qA ok pl',by simp[trT,hT],λvs vl v2=>lT v2 vl ok pl'⟩,hb⟩
   |two bb x y =>
    have n:=Nx.refl hb
    have y1:(Str.ofString (if bb=true then "and"else "or")==Str.ofString "yes")=false:=by cases bb <;> decide
    refine uL (Ok.mono (Q:=λ(c:Bool) M2=>Bx M2 M.length) ?_ ?_)
    ·rw[show encS (.two bb x y)=.tup [.str (if bb then "and"else "or"),encS x,encS y]from rfl]
     rfl'
     refine⟨λ_=>?_,λ_=>hb⟩
     rfl'
     (refine(dI hb (by lia) (by lia)).mono ?_;rintro _ _ ⟨d3,rfl,l_d3,u_d3,n'⟩;replace n:=n.trans n';replace hb:=n'.bx hb;clear n')
     rfl'
     exact hb
    clear n hb
    rintro c M2 hb
    refine wJ (λ_=>?_) (λ_=>?_)
    ·rfl'
     refine(yL (t:=tab bb) (x:=trT x) (y:=trT y) (by cases bb <;> decide) (by cases bb <;> rfl)).mono ?_
     rintro _ M2 ⟨rfl,rfl⟩
     rfl'
     have tok:=qA ok pl'
     exact⟨.nt (.two bb x y),ntT (trT (.two bb x y)),rfl,⟨ok,by simp only[hS]at hd ⊢;lia,⟨by cases bb <;> rfl,by cases bb <;> decide,tok.2.2.1,tok.2.2.2⟩,by
      have:=aBn (s:=.two bb x y) pl'
      simp only[trT,hT]at this
      simp only[trT,ntT,hT]
      lia,λvs vl v2=>aMp v2 vl ok pl'⟩,hb⟩
    ·rfl'
     exact⟨⟨ok,by lia,qA ok pl',by rw[aBn pl'];lia,λvs vl v2=>lT v2 vl ok pl'⟩,hb⟩
  clear hb ok pl' hd h2
  rintro _ M2 ⟨s,t,rfl,pr,hb⟩
  refine oP (Ok.mono (Q:=λo M3=>∃bd:Bool,o=.nx [some (.d (.fz (ns.map D.int))),some (.d (.int (0+i))),some (.ref M.length),some (.d (.int m)),some (.d (encS s)),some (.d (encT t)),some (.d (.bl bd)),o7]/\M3=M2) ?_ ?_)
  ·rfl'
   obtain⟨xs,ps,ex,ec,hps,lps⟩:=aEz t
   refine eH (λi acc L' M'=>(∃ts:List T,acc=ts.map encT/\ts.length<=i/\∀u∈ts,hT u<=3)/\M'=M2/\∃a,L'=[a]) ?_
   rw[ex]
   rfl'
   rw[ec]
   refine⟨⟨⟨[],rfl,by simp,by simp⟩,rfl,none,rfl⟩,?_,by simp;lia,?_,?_⟩
   ·rintro i acc L' M' hi ⟨⟨ts,rfl,h1,h2⟩,rfl,_⟩
    exact⟨rfl,(λt e=>by cases e),by simpa using h1⟩
   ·rintro q d acc _ M' hx ⟨⟨ts,rfl,h1,h2⟩,rfl,a,rfl⟩
    simp only[aAP,aAM]at hx
    obtain⟨u,hu,rfl⟩:=hx
    have hu3:hT u<=3:=aBF (hps u (aBJ hu)) pr.htd
    cases u with
    |leaf k =>
     rw[show encT (.leaf k)=.tup [.str "leaf",.int k]from rfl]
     rfl'
     exact⟨⟨ts,rfl,by lia,h2⟩,rfl,_,rfl⟩
    |node tb x y =>
     rw[show encT (.node tb x y)=.tup [.str "node",natsD tb,encT x,encT y]from rfl]
     rfl'
     refine⟨_,_,rfl,rfl,⟨ts++[.node tb x y],by simp[encT],by simp;lia,?_⟩,rfl,_,rfl⟩
     intro v hv
     rcases aDQ.mp hv with hv|hv
     ·exact h2 v hv
     ·rw[aCL.mp hv];exact hu3
   rintro acc _ M' ⟨⟨ts,rfl,_,h2⟩,rfl,_⟩
   rfl'
   refine aBw rfl rfl ⟨by have:=aNs h2;simp only[dep];lia,by simp[dep,deps]⟩ ?_
   rfl'
   rfl
  rintro _ M2 ⟨bd,rfl,rfl⟩
  have n:=Nx.refl hb
  rfl'
  refine aOo ?_
  rfl'
  (refine(dI hb (by lia) (by lia)).mono ?_;rintro _ _ ⟨d4,rfl,l_d4,u_d4,n'⟩;replace n:=n.trans n';replace hb:=n'.bx hb;clear n')
  rfl'
  refine iW (at2I _ _ _) ?_
  obtain⟨is,eis,his,hil⟩:∃is:List Nat,(r3 (d4*if bd=true then 1 else 0) 16 (if bd=true then 5 else 1)).map D.int=is.map (λi=>D.int (i:Nat))/\(∀i∈is,i < 16)/\is.length<=100:=by
   cases bd
   ·simp only[aAY,aCG,Int.mul_zero]
    exact⟨List.range 16,rfl,by decide,by decide⟩
   ·simp only[aBT,aFI]
    have:d4=0\/d4=1\/d4=2:=by lia
    rcases this with rfl|rfl|rfl
    ·exact⟨[0,5,10,15],rfl,by decide,by decide⟩
    ·exact⟨[1,6,11],rfl,by decide,by decide⟩
    ·exact⟨[2,7,12],rfl,by decide,by decide⟩
  refine⟨_,_,_,rfl,rfl,rfl,⟨by split <;> lia,by split <;> lia,by split <;> lia,by lia,by lia⟩,?_⟩
  rw[eis]
  rfl'
  refine(zT hb m2 m1 (by lia) (by lia)).mono ?_
  rintro _ M4 ⟨cs,rfl,cl,cr,_⟩
  rfl'
  refine(yO gd pr.hs pr.hsd pr.ht pr.htd (LB3 pr.htd) pr.val cr (by lia) his hil).mono ?_
  rintro _ M4 ⟨rfl,rfl⟩
  rfl'
  exact⟨_,_,_,_,_,_,_,rfl⟩
 ·rintro _ M ⟨o1,o2,o3,o4,o5,o6,o7,rfl⟩
  rfl'
  rfl
theorem aFe(ns:List Int)(hn:ns.length<=63):∃M',qL [.d (.fz (ns.map D.int))] []=.ok (.d (.bl true)) M':=by
 obtain⟨_,M,e,rfl⟩:=vM.mp (aOb ns hn)
 exact⟨M,e⟩
theorem aOk{l:PySem.W.OpenLaw}{w:World}{h:Heap}{fa:Addr}{f1 f2 f3 f4 f5 f6 f7 f8 f9 f10 f11 f12 dt12 f13 f14 f15 f16 f17 f18 f19 f20 f21 f22 f23 f24 dt24 f25 f26 f27 f28 f29 f30 f31 f32 f33 f34 f35 f36 f37 f38 f39 f40 f41 f42 f43 f44 f45 f46:Addr}{od1 an1 od2 an2 od3 an3 od4 an4 od5 an5 od6 an6 od7 an7 od8 an8 od9 an9 od10 an10 od11 an11 od12 an12 dd12 od13 an13 od14 an14 od15 an15 od16 an16 od17 an17 od18 an18 od19 an19 od20 an20 od21 an21 od22 an22 od23 an23 od24 an24 dd24 od25 an25 od26 an26 od27 an27 od28 an28 od29 an29 od30 an30 od31 an31 od32 an32 od33 an33 od34 an34 od35 an35 od36 an36 od37 an37 od38 an38 od39 an39 od40 an40 od41 an41 od42 an42 od43 an43 od44 an44 od45 an45 od46 an46:Option Addr}{sl1 sl2 sl3 sl4 sl5 sl6 sl7 sl8 sl9 sl10 sl11 sl12 ds12 sl13 sl14 sl15 sl16 sl17 sl18 sl19 sl20 sl21 sl22 sl23 sl24 ds24 sl25 sl26 sl27 sl28 sl29 sl30 sl31 sl32 sl33 sl34 sl35 sl36 sl37 sl38 sl39 sl40 sl41 sl42 sl43 sl44 sl45 sl46:Array (Option Value)}{oc1 kV1 dc1 pm1 cd1 ct1 oc2 kV2 dc2 pm2 cd2 ct2 oc3 kV3 dc3 pm3 cd3 ct3 oc4 kV4 dc4 pm4 cd4 ct4 oc5 kV5 dc5 pm5 cd5 ct5 oc6 kV6 dc6 pm6 cd6 ct6 oc7 kV7 dc7 pm7 cd7 ct7 oc8 kV8 dc8 pm8 cd8 ct8 oc9 kV9 dc9 pm9 cd9 ct9 oc10 kV10 dc10 pm10 cd10 ct10 oc11 kV11 dc11 pm11 cd11 ct11 oc12 kV12 dc12 pm12 cd12 ct12 dc012 oc13 kV13 dc13 pm13 cd13 ct13 oc14 kV14 dc14 pm14 cd14 ct14 oc15 kV15 dc15 pm15 cd15 ct15 oc16 kV16 dc16 pm16 cd16 ct16 oc17 kV17 dc17 pm17 cd17 ct17 oc18 kV18 dc18 pm18 cd18 ct18 oc19 kV19 dc19 pm19 cd19 ct19 oc20 kV20 dc20 pm20 cd20 ct20 oc21 kV21 dc21 pm21 cd21 ct21 oc22 kV22 dc22 pm22 cd22 ct22 oc23 kV23 dc23 pm23 cd23 ct23 oc24 kV24 dc24 pm24 cd24 ct24 dc024 oc25 kV25 dc25 pm25 cd25 ct25 oc26 kV26 dc26 pm26 cd26 ct26 oc27 kV27 dc27 pm27 cd27 ct27 oc28 kV28 dc28 pm28 cd28 ct28 oc29 kV29 dc29 pm29 cd29 ct29 oc30 kV30 dc30 pm30 cd30 ct30 oc31 kV31 dc31 pm31 cd31 ct31 oc32 kV32 dc32 pm32 cd32 ct32 oc33 kV33 dc33 pm33 cd33 ct33 oc34 kV34 dc34 pm34 cd34 ct34 oc35 kV35 dc35 pm35 cd35 ct35 oc36 kV36 dc36 pm36 cd36 ct36 oc37 kV37 dc37 pm37 cd37 ct37 oc38 kV38 dc38 pm38 cd38 ct38 oc39 kV39 dc39 pm39 cd39 ct39 oc40 kV40 dc40 pm40 cd40 ct40 oc41 kV41 dc41 pm41 cd41 ct41 oc42 kV42 dc42 pm42 cd42 ct42 oc43 kV43 dc43 pm43 cd43 ct43 oc44 kV44 dc44 pm44 cd44 ct44 oc45 kV45 dc45 pm45 cd45 ct45 oc46 kV46 dc46 pm46 cd46 ct46:Value}{dk12 dk24:Tok}{dn12 dn24:Nat}(X:K.In h)(G:h.Ns mainGlobals mg)(hfa:mg "law"=some (.ref fa))
  (a1:nsIn K mainGlobals "is_single"=some (some (.ref f1)))
  (l1:K.lookup f1=some ⟨oc1,od1,.func (fnOf "is_single" "is_single" (defArgs cP) (defBody cP) (defScope cP) .none kV1 dc1 pm1 an1 cd1 ct1),sl1⟩)
  (c1:codeIn K cd1 "is_single"=true)
  (k1:keepIn K (.ref f1)=true)
  (a2:nsIn K mainGlobals "inverse"=some (some (.ref f2)))
  (l2:K.lookup f2=some ⟨oc2,od2,.func (fnOf "inverse" "inverse" (defArgs dU) (defBody dU) (defScope dU) .none kV2 dc2 pm2 an2 cd2 ct2),sl2⟩)
  (c2:codeIn K cd2 "inverse"=true)
  (k2:keepIn K (.ref f2)=true)
  (a3:nsIn K mainGlobals "power"=some (some (.ref f3)))
  (l3:K.lookup f3=some ⟨oc3,od3,.func (fnOf "power" "power" (defArgs fZ) (defBody fZ) (defScope fZ) .none kV3 dc3 pm3 an3 cd3 ct3),sl3⟩)
  (c3:codeIn K cd3 "power"=true)
  (k3:keepIn K (.ref f3)=true)
  (a4:nsIn K mainGlobals "deeds_back"=some (some (.ref f4)))
  (l4:K.lookup f4=some ⟨oc4,od4,.func (fnOf "deeds_back" "deeds_back" (defArgs bT) (defBody bT) (defScope bT) .none kV4 dc4 pm4 an4 cd4 ct4),sl4⟩)
  (c4:codeIn K cd4 "deeds_back"=true)
  (k4:keepIn K (.ref f4)=true)
  (a5:nsIn K mainGlobals "deed_back"=some (some (.ref f5)))
  (l5:K.lookup f5=some ⟨oc5,od5,.func (fnOf "deed_back" "deed_back" (defArgs cO) (defBody cO) (defScope cO) .none kV5 dc5 pm5 an5 cd5 ct5),sl5⟩)
  (c5:codeIn K cd5 "deed_back"=true)
  (k5:keepIn K (.ref f5)=true)
  (a6:nsIn K mainGlobals "bring_by"=some (some (.ref f6)))
  (l6:K.lookup f6=some ⟨oc6,od6,.func (fnOf "bring_by" "bring_by" (defArgs dC) (defBody dC) (defScope dC) .none kV6 dc6 pm6 an6 cd6 ct6),sl6⟩)
  (c6:codeIn K cd6 "bring_by"=true)
  (k6:keepIn K (.ref f6)=true)
  (a7:nsIn K mainGlobals "bring_alone"=some (some (.ref f7)))
  (l7:K.lookup f7=some ⟨oc7,od7,.func (fnOf "bring_alone" "bring_alone" (defArgs bP) (defBody bP) (defScope bP) .none kV7 dc7 pm7 an7 cd7 ct7),sl7⟩)
  (c7:codeIn K cd7 "bring_alone"=true)
  (k7:keepIn K (.ref f7)=true)
  (a8:nsIn K mainGlobals "single_deed"=some (some (.ref f8)))
  (l8:K.lookup f8=some ⟨oc8,od8,.func (fnOf "single_deed" "single_deed" (defArgs bQ) (defBody bQ) (defScope bQ) .none kV8 dc8 pm8 an8 cd8 ct8),sl8⟩)
  (c8:codeIn K cd8 "single_deed"=true)
  (k8:keepIn K (.ref f8)=true)
  (a9:nsIn K mainGlobals "both"=some (some (.ref f9)))
  (l9:K.lookup f9=some ⟨oc9,od9,.func (fnOf "both" "both" (defArgs iO) (defBody iO) (defScope iO) .none kV9 dc9 pm9 an9 cd9 ct9),sl9⟩)
  (c9:codeIn K cd9 "both"=true)
  (k9:keepIn K (.ref f9)=true)
  (a10:nsIn K mainGlobals "there_and_back"=some (some (.ref f10)))
  (l10:K.lookup f10=some ⟨oc10,od10,.func (fnOf "there_and_back" "there_and_back" (defArgs aY) (defBody aY) (defScope aY) .none kV10 dc10 pm10 an10 cd10 ct10),sl10⟩)
  (c10:codeIn K cd10 "there_and_back"=true)
  (k10:keepIn K (.ref f10)=true)
  (a11:nsIn K mainGlobals "how_many"=some (some (.ref f11)))
  (l11:K.lookup f11=some ⟨oc11,od11,.func (fnOf "how_many" "how_many" (defArgs dB) (defBody dB) (defScope dB) .none kV11 dc11 pm11 an11 cd11 ct11),sl11⟩)
  (c11:codeIn K cd11 "how_many"=true)
  (k11:keepIn K (.ref f11)=true)
  (a12:nsIn K mainGlobals "program_of"=some (some (.ref f12)))
  (l12:K.lookup f12=some ⟨oc12,od12,.func (fnOf "program_of" "program_of" (defArgs bV) (defBody bV) (defScope bV) (.ref dt12) kV12 dc12 pm12 an12 cd12 ct12),sl12⟩)
  (c12:codeIn K cd12 "program_of"=true)
  (k12:keepIn K (.ref f12)=true)
  (t12:K.lookup dt12=some ⟨dc012,dd12,.seq #[.int 5000 dk12] dn12,ds12⟩)
  (a13:nsIn K mainGlobals "is_root"=some (some (.ref f13)))
  (l13:K.lookup f13=some ⟨oc13,od13,.func (fnOf "is_root" "is_root" (defArgs dZ) (defBody dZ) (defScope dZ) .none kV13 dc13 pm13 an13 cd13 ct13),sl13⟩)
  (c13:codeIn K cd13 "is_root"=true)
  (k13:keepIn K (.ref f13)=true)
  (a14:nsIn K mainGlobals "root"=some (some (.ref f14)))
  (l14:K.lookup f14=some ⟨oc14,od14,.func (fnOf "root" "root" (defArgs iM) (defBody iM) (defScope iM) .none kV14 dc14 pm14 an14 cd14 ct14),sl14⟩)
  (c14:codeIn K cd14 "root"=true)
  (k14:keepIn K (.ref f14)=true)
  (a15:nsIn K mainGlobals "root_of"=some (some (.ref f15)))
  (l15:K.lookup f15=some ⟨oc15,od15,.func (fnOf "root_of" "root_of" (defArgs dX) (defBody dX) (defScope dX) .none kV15 dc15 pm15 an15 cd15 ct15),sl15⟩)
  (c15:codeIn K cd15 "root_of"=true)
  (k15:keepIn K (.ref f15)=true)
  (a16:nsIn K mainGlobals "rounds_by"=some (some (.ref f16)))
  (l16:K.lookup f16=some ⟨oc16,od16,.func (fnOf "rounds_by" "rounds_by" (defArgs bZ) (defBody bZ) (defScope bZ) .none kV16 dc16 pm16 an16 cd16 ct16),sl16⟩)
  (c16:codeIn K cd16 "rounds_by"=true)
  (k16:keepIn K (.ref f16)=true)
  (a17:nsIn K mainGlobals "bits"=some (some (.ref f17)))
  (l17:K.lookup f17=some ⟨oc17,od17,.func (fnOf "bits" "bits" (defArgs iV) (defBody iV) (defScope iV) .none kV17 dc17 pm17 an17 cd17 ct17),sl17⟩)
  (c17:codeIn K cd17 "bits"=true)
  (k17:keepIn K (.ref f17)=true)
  (a18:nsIn K mainGlobals "polynomials"=some (some (.ref f18)))
  (l18:K.lookup f18=some ⟨oc18,od18,.func (fnOf "polynomials" "polynomials" (defArgs bG) (defBody bG) (defScope bG) .none kV18 dc18 pm18 an18 cd18 ct18),sl18⟩)
  (c18:codeIn K cd18 "polynomials"=true)
  (k18:keepIn K (.ref f18)=true)
  (a19:nsIn K mainGlobals "polynomial"=some (some (.ref f19)))
  (l19:K.lookup f19=some ⟨oc19,od19,.func (fnOf "polynomial" "polynomial" (defArgs bJ) (defBody bJ) (defScope bJ) .none kV19 dc19 pm19 an19 cd19 ct19),sl19⟩)
  (c19:codeIn K cd19 "polynomial"=true)
  (k19:keepIn K (.ref f19)=true)
  (a20:nsIn K mainGlobals "bit_row"=some (some (.ref f20)))
  (l20:K.lookup f20=some ⟨oc20,od20,.func (fnOf "bit_row" "bit_row" (defArgs dY) (defBody dY) (defScope dY) .none kV20 dc20 pm20 an20 cd20 ct20),sl20⟩)
  (c20:codeIn K cd20 "bit_row"=true)
  (k20:keepIn K (.ref f20)=true)
  (a21:nsIn K mainGlobals "term_numbers"=some (some (.ref f21)))
  (l21:K.lookup f21=some ⟨oc21,od21,.func (fnOf "term_numbers" "term_numbers" (defArgs bI) (defBody bI) (defScope bI) .none kV21 dc21 pm21 an21 cd21 ct21),sl21⟩)
  (c21:codeIn K cd21 "term_numbers"=true)
  (k21:keepIn K (.ref f21)=true)
  (a22:nsIn K mainGlobals "places_of"=some (some (.ref f22)))
  (l22:K.lookup f22=some ⟨oc22,od22,.func (fnOf "places_of" "places_of" (defArgs cH) (defBody cH) (defScope cH) .none kV22 dc22 pm22 an22 cd22 ct22),sl22⟩)
  (c22:codeIn K cd22 "places_of"=true)
  (k22:keepIn K (.ref f22)=true)
  (a23:nsIn K mainGlobals "tree_worth"=some (some (.ref f23)))
  (l23:K.lookup f23=some ⟨oc23,od23,.func (fnOf "tree_worth" "tree_worth" (defArgs cC) (defBody cC) (defScope cC) .none kV23 dc23 pm23 an23 cd23 ct23),sl23⟩)
  (c23:codeIn K cd23 "tree_worth"=true)
  (k23:keepIn K (.ref f23)=true)
  (a24:nsIn K mainGlobals "tree_program"=some (some (.ref f24)))
  (l24:K.lookup f24=some ⟨oc24,od24,.func (fnOf "tree_program" "tree_program" (defArgs aX) (defBody aX) (defScope aX) (.ref dt24) kV24 dc24 pm24 an24 cd24 ct24),sl24⟩)
  (c24:codeIn K cd24 "tree_program"=true)
  (k24:keepIn K (.ref f24)=true)
  (t24:K.lookup dt24=some ⟨dc024,dd24,.seq #[.int 5000 dk24] dn24,ds24⟩)
  (a25:nsIn K mainGlobals "order"=some (some (.ref f25)))
  (l25:K.lookup f25=some ⟨oc25,od25,.func (fnOf "order" "order" (defArgs gD) (defBody gD) (defScope gD) .none kV25 dc25 pm25 an25 cd25 ct25),sl25⟩)
  (c25:codeIn K cd25 "order"=true)
  (k25:keepIn K (.ref f25)=true)
  (a26:nsIn K mainGlobals "tree_deeds"=some (some (.ref f26)))
  (l26:K.lookup f26=some ⟨oc26,od26,.func (fnOf "tree_deeds" "tree_deeds" (defArgs bX) (defBody bX) (defScope bX) .none kV26 dc26 pm26 an26 cd26 ct26),sl26⟩)
  (c26:codeIn K cd26 "tree_deeds"=true)
  (k26:keepIn K (.ref f26)=true)
  (a27:nsIn K mainGlobals "tree_row"=some (some (.ref f27)))
  (l27:K.lookup f27=some ⟨oc27,od27,.func (fnOf "tree_row" "tree_row" (defArgs cS) (defBody cS) (defScope cS) .none kV27 dc27 pm27 an27 cd27 ct27),sl27⟩)
  (c27:codeIn K cd27 "tree_row"=true)
  (k27:keepIn K (.ref f27)=true)
  (a28:nsIn K mainGlobals "bringers_to"=some (some (.ref f28)))
  (l28:K.lookup f28=some ⟨oc28,od28,.func (fnOf "bringers_to" "bringers_to" (defArgs bF) (defBody bF) (defScope bF) .none kV28 dc28 pm28 an28 cd28 ct28),sl28⟩)
  (c28:codeIn K cd28 "bringers_to"=true)
  (k28:keepIn K (.ref f28)=true)
  (a29:nsIn K mainGlobals "table_deeds"=some (some (.ref f29)))
  (l29:K.lookup f29=some ⟨oc29,od29,.func (fnOf "table_deeds" "table_deeds" (defArgs bH) (defBody bH) (defScope bH) .none kV29 dc29 pm29 an29 cd29 ct29),sl29⟩)
  (c29:codeIn K cd29 "table_deeds"=true)
  (k29:keepIn K (.ref f29)=true)
  (a30:nsIn K mainGlobals "run"=some (some (.ref f30)))
  (l30:K.lookup f30=some ⟨oc30,od30,.func (fnOf "run" "run" (defArgs lW) (defBody lW) (defScope lW) .none kV30 dc30 pm30 an30 cd30 ct30),sl30⟩)
  (c30:codeIn K cd30 "run"=true)
  (k30:keepIn K (.ref f30)=true)
  (a31:nsIn K mainGlobals "done"=some (some (.ref f31)))
  (l31:K.lookup f31=some ⟨oc31,od31,.func (fnOf "done" "done" (defArgs iQ) (defBody iQ) (defScope iQ) .none kV31 dc31 pm31 an31 cd31 ct31),sl31⟩)
  (c31:codeIn K cd31 "done"=true)
  (k31:keepIn K (.ref f31)=true)
  (a32:nsIn K mainGlobals "product_of"=some (some (.ref f32)))
  (l32:K.lookup f32=some ⟨oc32,od32,.func (fnOf "product_of" "product_of" (defArgs cD) (defBody cD) (defScope cD) .none kV32 dc32 pm32 an32 cd32 ct32),sl32⟩)
  (c32:codeIn K cd32 "product_of"=true)
  (k32:keepIn K (.ref f32)=true)
  (a33:nsIn K mainGlobals "holds"=some (some (.ref f33)))
  (l33:K.lookup f33=some ⟨oc33,od33,.func (fnOf "holds" "holds" (defArgs fG) (defBody fG) (defScope fG) .none kV33 dc33 pm33 an33 cd33 ct33),sl33⟩)
  (c33:codeIn K cd33 "holds"=true)
  (k33:keepIn K (.ref f33)=true)
  (a34:nsIn K mainGlobals "said"=some (some (.ref f34)))
  (l34:K.lookup f34=some ⟨oc34,od34,.func (fnOf "said" "said" (defArgs hX) (defBody hX) (defScope hX) .none kV34 dc34 pm34 an34 cd34 ct34),sl34⟩)
  (c34:codeIn K cd34 "said"=true)
  (k34:keepIn K (.ref f34)=true)
  (a35:nsIn K mainGlobals "said_least"=some (some (.ref f35)))
  (l35:K.lookup f35=some ⟨oc35,od35,.func (fnOf "said_least" "said_least" (defArgs bU) (defBody bU) (defScope bU) .none kV35 dc35 pm35 an35 cd35 ct35),sl35⟩)
  (c35:codeIn K cd35 "said_least"=true)
  (k35:keepIn K (.ref f35)=true)
  (a36:nsIn K mainGlobals "step_numbers"=some (some (.ref f36)))
  (l36:K.lookup f36=some ⟨oc36,od36,.func (fnOf "step_numbers" "step_numbers" (defArgs bA) (defBody bA) (defScope bA) .none kV36 dc36 pm36 an36 cd36 ct36),sl36⟩)
  (c36:codeIn K cd36 "step_numbers"=true)
  (k36:keepIn K (.ref f36)=true)
  (a37:nsIn K mainGlobals "inverse_of"=some (some (.ref f37)))
  (l37:K.lookup f37=some ⟨oc37,od37,.func (fnOf "inverse_of" "inverse_of" (defArgs cE) (defBody cE) (defScope cE) .none kV37 dc37 pm37 an37 cd37 ct37),sl37⟩)
  (c37:codeIn K cd37 "inverse_of"=true)
  (k37:keepIn K (.ref f37)=true)
  (a38:nsIn K mainGlobals "_law_box"=some (some (.ref f38)))
  (l38:K.lookup f38=some ⟨oc38,od38,.func (fnOf "_law_box" "_law_box" (defArgs gB) (defBody gB) (defScope gB) .none kV38 dc38 pm38 an38 cd38 ct38),sl38⟩)
  (c38:codeIn K cd38 "_law_box"=true)
  (k38:keepIn K (.ref f38)=true)
  (a39:nsIn K mainGlobals "_law_take"=some (some (.ref f39)))
  (l39:K.lookup f39=some ⟨oc39,od39,.func (fnOf "_law_take" "_law_take" (defArgs eW) (defBody eW) (defScope eW) .none kV39 dc39 pm39 an39 cd39 ct39),sl39⟩)
  (c39:codeIn K cd39 "_law_take"=true)
  (k39:keepIn K (.ref f39)=true)
  (a40:nsIn K mainGlobals "_law_rest"=some (some (.ref f40)))
  (l40:K.lookup f40=some ⟨oc40,od40,.func (fnOf "_law_rest" "_law_rest" (defArgs eS) (defBody eS) (defScope eS) .none kV40 dc40 pm40 an40 cd40 ct40),sl40⟩)
  (c40:codeIn K cd40 "_law_rest"=true)
  (k40:keepIn K (.ref f40)=true)
  (a41:nsIn K mainGlobals "_law_rests"=some (some (.ref f41)))
  (l41:K.lookup f41=some ⟨oc41,od41,.func (fnOf "_law_rests" "_law_rests" (defArgs dH) (defBody dH) (defScope dH) .none kV41 dc41 pm41 an41 cd41 ct41),sl41⟩)
  (c41:codeIn K cd41 "_law_rests"=true)
  (k41:keepIn K (.ref f41)=true)
  (a42:nsIn K mainGlobals "_law_saying"=some (some (.ref f42)))
  (l42:K.lookup f42=some ⟨oc42,od42,.func (fnOf "_law_saying" "_law_saying" (defArgs dD) (defBody dD) (defScope dD) .none kV42 dc42 pm42 an42 cd42 ct42),sl42⟩)
  (c42:codeIn K cd42 "_law_saying"=true)
  (k42:keepIn K (.ref f42)=true)
  (a43:nsIn K mainGlobals "_law_tree"=some (some (.ref f43)))
  (l43:K.lookup f43=some ⟨oc43,od43,.func (fnOf "_law_tree" "_law_tree" (defArgs eU) (defBody eU) (defScope eU) .none kV43 dc43 pm43 an43 cd43 ct43),sl43⟩)
  (c43:codeIn K cd43 "_law_tree"=true)
  (k43:keepIn K (.ref f43)=true)
  (a44:nsIn K mainGlobals "_law_not"=some (some (.ref f44)))
  (l44:K.lookup f44=some ⟨oc44,od44,.func (fnOf "_law_not" "_law_not" (defArgs fK) (defBody fK) (defScope fK) .none kV44 dc44 pm44 an44 cd44 ct44),sl44⟩)
  (c44:codeIn K cd44 "_law_not"=true)
  (k44:keepIn K (.ref f44)=true)
  (a45:nsIn K mainGlobals "_law_right"=some (some (.ref f45)))
  (l45:K.lookup f45=some ⟨oc45,od45,.func (fnOf "_law_right" "_law_right" (defArgs dJ) (defBody dJ) (defScope dJ) .none kV45 dc45 pm45 an45 cd45 ct45),sl45⟩)
  (c45:codeIn K cd45 "_law_right"=true)
  (k45:keepIn K (.ref f45)=true)
  (a46:nsIn K mainGlobals "law"=some (some (.ref f46)))
  (l46:K.lookup f46=some ⟨oc46,od46,.func (fnOf "law" "law" (defArgs kN) (defBody kN) (defScope kN) .none kV46 dc46 pm46 an46 cd46 ct46),sl46⟩)
  (c46:codeIn K cd46 "law"=true)
  (k46:keepIn K (.ref f46)=true)
  (z_enumerate:nsIn K mainGlobals "enumerate"=some none)
  (z_int:nsIn K mainGlobals "int"=some none)
  (z_len:nsIn K mainGlobals "len"=some none)
  (z_list:nsIn K mainGlobals "list"=some none)
  (z_max:nsIn K mainGlobals "max"=some none)
  (z_min:nsIn K mainGlobals "min"=some none)
  (z_range:nsIn K mainGlobals "range"=some none)
  (z_reversed:nsIn K mainGlobals "reversed"=some none)
  (z_sorted:nsIn K mainGlobals "sorted"=some none)
  (z_sum:nsIn K mainGlobals "sum"=some none)
  (z_tuple:nsIn K mainGlobals "tuple"=some none)
  (z_zip:nsIn K mainGlobals "zip"=some none)
  : ∃fd:FuncData,(∀(s:Shared) (v:Value),BindsTo s fd ⟨[v],[]⟩ [("_law_script",v)])/\∀base:Heap,K.In base->base.Ns mainGlobals mg->FnOk l.prog w K mg base CX0 107 fa fd aII (spF K Z0 1 qL):=by
 have e:=hfa.symm.trans (aAK X G a46)
 cases e
 have T:Tx K mg ⟨f1,(fnOf "is_single" "is_single" (defArgs cP) (defBody cP) (defScope cP) .none kV1 dc1 pm1 an1 cd1 ct1),f2,(fnOf "inverse" "inverse" (defArgs dU) (defBody dU) (defScope dU) .none kV2 dc2 pm2 an2 cd2 ct2),f3,(fnOf "power" "power" (defArgs fZ) (defBody fZ) (defScope fZ) .none kV3 dc3 pm3 an3 cd3 ct3),f4,(fnOf "deeds_back" "deeds_back" (defArgs bT) (defBody bT) (defScope bT) .none kV4 dc4 pm4 an4 cd4 ct4),f5,(fnOf "deed_back" "deed_back" (defArgs cO) (defBody cO) (defScope cO) .none kV5 dc5 pm5 an5 cd5 ct5),f6,(fnOf "bring_by" "bring_by" (defArgs dC) (defBody dC) (defScope dC) .none kV6 dc6 pm6 an6 cd6 ct6),f7,(fnOf "bring_alone" "bring_alone" (defArgs bP) (defBody bP) (defScope bP) .none kV7 dc7 pm7 an7 cd7 ct7),f8,(fnOf "single_deed" "single_deed" (defArgs bQ) (defBody bQ) (defScope bQ) .none kV8 dc8 pm8 an8 cd8 ct8),f9,(fnOf "both" "both" (defArgs iO) (defBody iO) (defScope iO) .none kV9 dc9 pm9 an9 cd9 ct9),f10,(fnOf "there_and_back" "there_and_back" (defArgs aY) (defBody aY) (defScope aY) .none kV10 dc10 pm10 an10 cd10 ct10),f11,(fnOf "how_many" "how_many" (defArgs dB) (defBody dB) (defScope dB) .none kV11 dc11 pm11 an11 cd11 ct11),f12,(fnOf "program_of" "program_of" (defArgs bV) (defBody bV) (defScope bV) (.ref dt12) kV12 dc12 pm12 an12 cd12 ct12),dk12,f13,(fnOf "is_root" "is_root" (defArgs dZ) (defBody dZ) (defScope dZ) .none kV13 dc13 pm13 an13 cd13 ct13),f14,(fnOf "root" "root" (defArgs iM) (defBody iM) (defScope iM) .none kV14 dc14 pm14 an14 cd14 ct14),f15,(fnOf "root_of" "root_of" (defArgs dX) (defBody dX) (defScope dX) .none kV15 dc15 pm15 an15 cd15 ct15),f16,(fnOf "rounds_by" "rounds_by" (defArgs bZ) (defBody bZ) (defScope bZ) .none kV16 dc16 pm16 an16 cd16 ct16),f17,(fnOf "bits" "bits" (defArgs iV) (defBody iV) (defScope iV) .none kV17 dc17 pm17 an17 cd17 ct17),f18,(fnOf "polynomials" "polynomials" (defArgs bG) (defBody bG) (defScope bG) .none kV18 dc18 pm18 an18 cd18 ct18),f19,(fnOf "polynomial" "polynomial" (defArgs bJ) (defBody bJ) (defScope bJ) .none kV19 dc19 pm19 an19 cd19 ct19),f20,(fnOf "bit_row" "bit_row" (defArgs dY) (defBody dY) (defScope dY) .none kV20 dc20 pm20 an20 cd20 ct20),f21,(fnOf "term_numbers" "term_numbers" (defArgs bI) (defBody bI) (defScope bI) .none kV21 dc21 pm21 an21 cd21 ct21),f22,(fnOf "places_of" "places_of" (defArgs cH) (defBody cH) (defScope cH) .none kV22 dc22 pm22 an22 cd22 ct22),f23,(fnOf "tree_worth" "tree_worth" (defArgs cC) (defBody cC) (defScope cC) .none kV23 dc23 pm23 an23 cd23 ct23),f24,(fnOf "tree_program" "tree_program" (defArgs aX) (defBody aX) (defScope aX) (.ref dt24) kV24 dc24 pm24 an24 cd24 ct24),dk24,f25,(fnOf "order" "order" (defArgs gD) (defBody gD) (defScope gD) .none kV25 dc25 pm25 an25 cd25 ct25),f26,(fnOf "tree_deeds" "tree_deeds" (defArgs bX) (defBody bX) (defScope bX) .none kV26 dc26 pm26 an26 cd26 ct26),f27,(fnOf "tree_row" "tree_row" (defArgs cS) (defBody cS) (defScope cS) .none kV27 dc27 pm27 an27 cd27 ct27),f28,(fnOf "bringers_to" "bringers_to" (defArgs bF) (defBody bF) (defScope bF) .none kV28 dc28 pm28 an28 cd28 ct28),f29,(fnOf "table_deeds" "table_deeds" (defArgs bH) (defBody bH) (defScope bH) .none kV29 dc29 pm29 an29 cd29 ct29),f30,(fnOf "run" "run" (defArgs lW) (defBody lW) (defScope lW) .none kV30 dc30 pm30 an30 cd30 ct30),f31,(fnOf "done" "done" (defArgs iQ) (defBody iQ) (defScope iQ) .none kV31 dc31 pm31 an31 cd31 ct31),f32,(fnOf "product_of" "product_of" (defArgs cD) (defBody cD) (defScope cD) .none kV32 dc32 pm32 an32 cd32 ct32),f33,(fnOf "holds" "holds" (defArgs fG) (defBody fG) (defScope fG) .none kV33 dc33 pm33 an33 cd33 ct33),f34,(fnOf "said" "said" (defArgs hX) (defBody hX) (defScope hX) .none kV34 dc34 pm34 an34 cd34 ct34),f35,(fnOf "said_least" "said_least" (defArgs bU) (defBody bU) (defScope bU) .none kV35 dc35 pm35 an35 cd35 ct35),f36,(fnOf "step_numbers" "step_numbers" (defArgs bA) (defBody bA) (defScope bA) .none kV36 dc36 pm36 an36 cd36 ct36),f37,(fnOf "inverse_of" "inverse_of" (defArgs cE) (defBody cE) (defScope cE) .none kV37 dc37 pm37 an37 cd37 ct37),f38,(fnOf "_law_box" "_law_box" (defArgs gB) (defBody gB) (defScope gB) .none kV38 dc38 pm38 an38 cd38 ct38),f39,(fnOf "_law_take" "_law_take" (defArgs eW) (defBody eW) (defScope eW) .none kV39 dc39 pm39 an39 cd39 ct39),f40,(fnOf "_law_rest" "_law_rest" (defArgs eS) (defBody eS) (defScope eS) .none kV40 dc40 pm40 an40 cd40 ct40),f41,(fnOf "_law_rests" "_law_rests" (defArgs dH) (defBody dH) (defScope dH) .none kV41 dc41 pm41 an41 cd41 ct41),f42,(fnOf "_law_saying" "_law_saying" (defArgs dD) (defBody dD) (defScope dD) .none kV42 dc42 pm42 an42 cd42 ct42),f43,(fnOf "_law_tree" "_law_tree" (defArgs eU) (defBody eU) (defScope eU) .none kV43 dc43 pm43 an43 cd43 ct43),f44,(fnOf "_law_not" "_law_not" (defArgs fK) (defBody fK) (defScope fK) .none kV44 dc44 pm44 an44 cd44 ct44),f45,(fnOf "_law_right" "_law_right" (defArgs dJ) (defBody dJ) (defScope dJ) .none kV45 dc45 pm45 an45 cd45 ct45),fa,(fnOf "law" "law" (defArgs kN) (defBody kN) (defScope kN) .none kV46 dc46 pm46 an46 cd46 ct46)⟩ :=
  ⟨aH l1 c1 k1,
   (aH (st:=cP) l1 c1 k1).binds (ps:=aGX) (λ_ _ _ _ _ _=>ex1 λ_=>rfl),
   k1,
   aAK X G a1,
   aH l2 c2 k2,
   (aH (st:=dU) l2 c2 k2).binds (ps:=["n","k"]) (λ_ _ _ _ _ _=>ex2 λ_ _=>rfl),
   k2,
   aAK X G a2,
   aH l3 c3 k3,
   (aH (st:=fZ) l3 c3 k3).binds (ps:=aGY) (λ_ _ _ _ _ _=>ex3 λ_ _ _=>rfl),
   k3,
   aAK X G a3,
   aH l4 c4 k4,
   (aH (st:=bT) l4 c4 k4).binds (ps:=aGZ) (λ_ _ _ _ _ _=>ex2 λ_ _=>rfl),
   k4,
   aAK X G a4,
   aH l5 c5 k5,
   (aH (st:=cO) l5 c5 k5).binds (ps:=aHA) (λ_ _ _ _ _ _=>ex2 λ_ _=>rfl),
   k5,
   aAK X G a5,
   aH l6 c6 k6,
   (aH (st:=dC) l6 c6 k6).binds (ps:=aHB) (λ_ _ _ _ _ _=>ex5 λ_ _ _ _ _=>rfl),
   k6,
   aAK X G a6,
   aH l7 c7 k7,
   (aH (st:=bP) l7 c7 k7).binds (ps:=aHB) (λ_ _ _ _ _ _=>ex5 λ_ _ _ _ _=>rfl),
   k7,
   aAK X G a7,
   aH l8 c8 k8,
   (aH (st:=bQ) l8 c8 k8).binds (ps:=aHC) (λ_ _ _ _ _ _=>ex4 λ_ _ _ _=>rfl),
   k8,
   aAK X G a8,
   aH l9 c9 k9,
   (aH (st:=iO) l9 c9 k9).binds (ps:=aHD) (λ_ _ _ _ _ _=>ex4 λ_ _ _ _=>rfl),
   k9,
   aAK X G a9,
   aH l10 c10 k10,
   (aH (st:=aY) l10 c10 k10).binds (ps:=aHE) (λ_ _ _ _ _ _=>ex3 λ_ _ _=>rfl),
   k10,
   aAK X G a10,
   aH l11 c11 k11,
   (aH (st:=dB) l11 c11 k11).binds (ps:=aGX) (λ_ _ _ _ _ _=>ex1 λ_=>rfl),
   k11,
   aAK X G a11,
   lD l12 c12 t12,
   (lD (st:=bV) l12 c12 t12).binds (λ_ _ _ _ _ _ _=>(ex4 λ_ _ _ _=>⟨_,rfl,rfl⟩)),
   (lD (st:=bV) l12 c12 t12).binds1 (λ_ _ _ _ _ _ _ us hl=>by have h3:us.length=3:=(by simpa using hl);clear hl;revert us;exact(ex3 λ_ _ _=>⟨_,rfl,rfl⟩)),
   k12,
   aAK X G a12,
   aH l13 c13 k13,
   (aH (st:=dZ) l13 c13 k13).binds (ps:=aHG) (λ_ _ _ _ _ _=>ex3 λ_ _ _=>rfl),
   k13,
   aAK X G a13,
   aH l14 c14 k14,
   (aH (st:=iM) l14 c14 k14).binds (ps:=aHH) (λ_ _ _ _ _ _=>ex2 λ_ _=>rfl),
   k14,
   aAK X G a14,
   aH l15 c15 k15,
   (aH (st:=dX) l15 c15 k15).binds (ps:=aHH) (λ_ _ _ _ _ _=>ex2 λ_ _=>rfl),
   k15,
   aAK X G a15,
   aH l16 c16 k16,
   (aH (st:=bZ) l16 c16 k16).binds (ps:=aHI) (λ_ _ _ _ _ _=>ex5 λ_ _ _ _ _=>rfl),
   k16,
   aAK X G a16,
   aH l17 c17 k17,
   (aH (st:=iV) l17 c17 k17).binds (ps:=["k"]) (λ_ _ _ _ _ _=>ex1 λ_=>rfl),
   k17,
   aAK X G a17,
   aH l18 c18 k18,
   (aH (st:=bG) l18 c18 k18).binds (ps:=aHJ) (λ_ _ _ _ _ _=>ex3 λ_ _ _=>rfl),
   k18,
   aAK X G a18,
   aH l19 c19 k19,
   (aH (st:=bJ) l19 c19 k19).binds (ps:=aHK) (λ_ _ _ _ _ _=>ex4 λ_ _ _ _=>rfl),
   k19,
   aAK X G a19,
   aH l20 c20 k20,
   (aH (st:=dY) l20 c20 k20).binds (ps:=aHL) (λ_ _ _ _ _ _=>ex3 λ_ _ _=>rfl),
   k20,
   aAK X G a20,
   aH l21 c21 k21,
   (aH (st:=bI) l21 c21 k21).binds (ps:=["row"]) (λ_ _ _ _ _ _=>ex1 λ_=>rfl),
   k21,
   aAK X G a21,
   aH l22 c22 k22,
   (aH (st:=cH) l22 c22 k22).binds (ps:=aHM) (λ_ _ _ _ _ _=>ex1 λ_=>rfl),
   k22,
   aAK X G a22,
   aH l23 c23 k23,
   (aH (st:=cC) l23 c23 k23).binds (ps:=aHN) (λ_ _ _ _ _ _=>ex3 λ_ _ _=>rfl),
   k23,
   aAK X G a23,
   lD l24 c24 t24,
   (lD (st:=aX) l24 c24 t24).binds (λ_ _ _ _ _ _ _=>(ex5 λ_ _ _ _ _=>⟨_,rfl,rfl⟩)),
   (lD (st:=aX) l24 c24 t24).binds1 (λ_ _ _ _ _ _ _ us hl=>by have h3:us.length=4:=(by simpa using hl);clear hl;revert us;exact(ex4 λ_ _ _ _=>⟨_,rfl,rfl⟩)),
   k24,
   aAK X G a24,
   aH l25 c25 k25,
   (aH (st:=gD) l25 c25 k25).binds (ps:=["k"]) (λ_ _ _ _ _ _=>ex1 λ_=>rfl),
   k25,
   aAK X G a25,
   aH l26 c26 k26,
   (aH (st:=bX) l26 c26 k26).binds (ps:=aHP) (λ_ _ _ _ _ _=>ex3 λ_ _ _=>rfl),
   k26,
   aAK X G a26,
   aH l27 c27 k27,
   (aH (st:=cS) l27 c27 k27).binds (ps:=aHQ) (λ_ _ _ _ _ _=>ex7 λ_ _ _ _ _ _ _=>rfl),
   k27,
   aAK X G a27,
   aH l28 c28 k28,
   (aH (st:=bF) l28 c28 k28).binds (ps:=aHR) (λ_ _ _ _ _ _=>ex2 λ_ _=>rfl),
   k28,
   aAK X G a28,
   aH l29 c29 k29,
   (aH (st:=bH) l29 c29 k29).binds (ps:=aHS) (λ_ _ _ _ _ _=>ex5 λ_ _ _ _ _=>rfl),
   k29,
   aAK X G a29,
   aH l30 c30 k30,
   (aH (st:=lW) l30 c30 k30).binds (ps:=aHT) (λ_ _ _ _ _ _=>ex3 λ_ _ _=>rfl),
   k30,
   aAK X G a30,
   aH l31 c31 k31,
   (aH (st:=iQ) l31 c31 k31).binds (ps:=aHU) (λ_ _ _ _ _ _=>ex4 λ_ _ _ _=>rfl),
   k31,
   aAK X G a31,
   aH l32 c32 k32,
   (aH (st:=cD) l32 c32 k32).binds (ps:=aHV) (λ_ _ _ _ _ _=>ex2 λ_ _=>rfl),
   k32,
   aAK X G a32,
   aH l33 c33 k33,
   (aH (st:=fG) l33 c33 k33).binds (ps:=aHW) (λ_ _ _ _ _ _=>ex2 λ_ _=>rfl),
   k33,
   aAK X G a33,
   aH l34 c34 k34,
   (aH (st:=hX) l34 c34 k34).binds (ps:=aHX) (λ_ _ _ _ _ _=>ex2 λ_ _=>rfl),
   k34,
   aAK X G a34,
   aH l35 c35 k35,
   (aH (st:=bU) l35 c35 k35).binds (ps:=aHY) (λ_ _ _ _ _ _=>ex3 λ_ _ _=>rfl),
   k35,
   aAK X G a35,
   aH l36 c36 k36,
   (aH (st:=bA) l36 c36 k36).binds (ps:=["n","row"]) (λ_ _ _ _ _ _=>ex2 λ_ _=>rfl),
   k36,
   aAK X G a36,
   aH l37 c37 k37,
   (aH (st:=cE) l37 c37 k37).binds (ps:=aHZ) (λ_ _ _ _ _ _=>ex2 λ_ _=>rfl),
   k37,
   aAK X G a37,
   aH l38 c38 k38,
   (aH (st:=gB) l38 c38 k38).binds (ps:=aIA) (λ_ _ _ _ _ _=>ex2 λ_ _=>rfl),
   k38,
   aAK X G a38,
   aH l39 c39 k39,
   (aH (st:=eW) l39 c39 k39).binds (ps:=aIB) (λ_ _ _ _ _ _=>ex2 λ_ _=>rfl),
   k39,
   aAK X G a39,
   aH l40 c40 k40,
   (aH (st:=eS) l40 c40 k40).binds (ps:=aIC) (λ_ _ _ _ _ _=>ex2 λ_ _=>rfl),
   k40,
   aAK X G a40,
   aH l41 c41 k41,
   (aH (st:=dH) l41 c41 k41).binds (ps:=aID) (λ_ _ _ _ _ _=>ex3 λ_ _ _=>rfl),
   k41,
   aAK X G a41,
   aH l42 c42 k42,
   (aH (st:=dD) l42 c42 k42).binds (ps:=aIE) (λ_ _ _ _ _ _=>ex2 λ_ _=>rfl),
   k42,
   aAK X G a42,
   aH l43 c43 k43,
   (aH (st:=eU) l43 c43 k43).binds (ps:=aIF) (λ_ _ _ _ _ _=>ex1 λ_=>rfl),
   k43,
   aAK X G a43,
   aH l44 c44 k44,
   (aH (st:=fK) l44 c44 k44).binds (ps:=aIG) (λ_ _ _ _ _ _=>ex1 λ_=>rfl),
   k44,
   aAK X G a44,
   aH l45 c45 k45,
   (aH (st:=dJ) l45 c45 k45).binds (ps:=aIH) (λ_ _ _ _ _ _=>ex5 λ_ _ _ _ _=>rfl),
   k45,
   aAK X G a45,
   aH l46 c46 k46,
   (aH (st:=kN) l46 c46 k46).binds (ps:=aII) (λ_ _ _ _ _ _=>ex1 λ_=>rfl),
   k46,
   aAK X G a46,
   aCA X G z_enumerate,
   aCA X G z_int,
   aCA X G z_len,
   aCA X G z_list,
   aCA X G z_max,
   aCA X G z_min,
   aCA X G z_range,
   aCA X G z_reversed,
   aCA X G z_sorted,
   aCA X G z_sum,
   aCA X G z_tuple,
   aCA X G z_zip⟩
 exact⟨_,λs v=>.of_eq rfl,λbase _ _=>(aPi T).mono (by lia)⟩
theorem aHw{l:PySem.W.OpenLaw}{q:Program}{d:DefRec}{K:Params->Frag}(hn:l.most=some 63)(hdf:d.params.defaults=[])
  (hY:∀(w:World) (h:Heap),YP w h->(K w.params).In h)
  (F:∀(w:World) (mg:Str->Option Value) (fa:Addr) (h:Heap),(K w.params).In h->h.Ns mainGlobals mg->mg d.name=some (.ref fa) ->
   ∃fd:FuncData,(∀(s:Shared) (u:Value),BindsTo s fd ⟨[u],[]⟩ [("_law_script",u)])/\∀base:Heap,(K w.params).In base->base.Ns mainGlobals mg->FnOk l.prog w (K w.params) mg base CX0 107 fa fd aII (spF (K w.params) Z0 1 qL)) :
  PySem.W.WalkO q loose XP YP l.row.toRowW d [] (λf vs=>PySem.call f vs) :=
 L2.aCb (n:=63) (k:=107) (x:="_law_script") (CX:=λw=>CX0) (sp:=λw=>(spF (K w.params) Z0 1 qL)) hn (by decide) hdf ⟨rfl,by decide,by decide⟩ hY F (λ_ _ a ns hl hO hS=>aMv hO hS (aFe ns hl)) λ_ _ _ _ _ z=>z
end K94
open PySem PySem.W PyProof.Rows
end
namespace PySem.W.Fast
noncomputable def tw9301717430397145077:List Stmt:=[]
theorem te9301717430397145077:tw9301717430397145077=tw9301717430397145077:=rfl
noncomputable def tw869884821989534684:List Stmt:=[]
theorem te869884821989534684:tw869884821989534684=tw869884821989534684:=rfl
noncomputable def tw398032139671784086:List Stmt:=[]
theorem te398032139671784086:tw398032139671784086=tw398032139671784086:=rfl
noncomputable def tw14880836202591058381:List Stmt:=[]
theorem te14880836202591058381:tw14880836202591058381=tw14880836202591058381:=rfl
noncomputable def tw15041019021774734972:List Stmt:=[]
theorem te15041019021774734972:tw15041019021774734972=tw15041019021774734972:=rfl
noncomputable def tw5775687264364615599:Params->Obj:=fun _=>default
theorem te5775687264364615599:tw5775687264364615599=tw5775687264364615599:=rfl
noncomputable def tw2573496630035482259:Params->Obj:=fun _=>default
theorem te2573496630035482259:tw2573496630035482259=tw2573496630035482259:=rfl
noncomputable def tw1473129805603654216:Params->BT:=fun _=>BT.nil
theorem te1473129805603654216:tw1473129805603654216=tw1473129805603654216:=rfl
noncomputable def tw9174917999075699807:Params->Obj:=fun _=>default
theorem te9174917999075699807:tw9174917999075699807=tw9174917999075699807:=rfl
noncomputable def tw6286306207889519704:Params->Obj:=fun _=>default
theorem te6286306207889519704:tw6286306207889519704=tw6286306207889519704:=rfl
noncomputable def tw13571811665886781256:Params->Obj:=fun _=>default
theorem te13571811665886781256:tw13571811665886781256=tw13571811665886781256:=rfl
noncomputable def tw12839258636009683830:Params->Obj:=fun _=>default
theorem te12839258636009683830:tw12839258636009683830=tw12839258636009683830:=rfl
noncomputable def tw11786948569612140082:Params->Obj:=fun _=>default
theorem te11786948569612140082:tw11786948569612140082=tw11786948569612140082:=rfl
noncomputable def tw16591403224180514712:Params->Obj:=fun _=>default
theorem te16591403224180514712:tw16591403224180514712=tw16591403224180514712:=rfl
noncomputable def tw8938594499847906318:Params->Obj:=fun _=>default
theorem te8938594499847906318:tw8938594499847906318=tw8938594499847906318:=rfl
noncomputable def tw12728829618934177325:Params->Obj:=fun _=>default
theorem te12728829618934177325:tw12728829618934177325=tw12728829618934177325:=rfl
noncomputable def tw173550396266861358:Params->Obj:=fun _=>default
theorem te173550396266861358:tw173550396266861358=tw173550396266861358:=rfl
noncomputable def tw11880065981843770974:Params->Obj:=fun _=>default
theorem te11880065981843770974:tw11880065981843770974=tw11880065981843770974:=rfl
noncomputable def tw1042187740285676779:Params->Obj:=fun _=>default
theorem te1042187740285676779:tw1042187740285676779=tw1042187740285676779:=rfl
noncomputable def tw14569516907564060162:Params->Obj:=fun _=>default
theorem te14569516907564060162:tw14569516907564060162=tw14569516907564060162:=rfl
noncomputable def tw6137187906802256689:Params->Heap:=fun _=>⟨#[],default⟩
theorem te6137187906802256689:tw6137187906802256689=tw6137187906802256689:=rfl
noncomputable def tw10872915608707560561:Params->Heap:=fun _=>⟨#[],default⟩
theorem te10872915608707560561:tw10872915608707560561=tw10872915608707560561:=rfl
noncomputable def tw8619083621550475111:Params->BT:=fun _=>BT.nil
theorem te8619083621550475111:tw8619083621550475111=tw8619083621550475111:=rfl
noncomputable def tw9741633588536065759:Params->BT:=fun _=>BT.nil
theorem te9741633588536065759:tw9741633588536065759=tw9741633588536065759:=rfl
noncomputable def tw15037053102122443113:Program:=Challenge.pw_lentshelf_k94_whole_trees_and_sayings
theorem te15037053102122443113:Challenge.pw_lentshelf_k94_whole_trees_and_sayings=tw15037053102122443113:=rfl
noncomputable def tw14650673673755042956:Program:=Challenge.pw_lentshelf_k94_whole_trees_and_sayings
theorem te14650673673755042956:tw14650673673755042956=tw14650673673755042956:=rfl
noncomputable def tw18406316969754558471:Params->BT:=fun _=>BT.nil
theorem te18406316969754558471:tw18406316969754558471=tw18406316969754558471:=rfl
noncomputable def tw13171389892566950264:Params->BT:=fun _=>BT.nil
theorem te13171389892566950264:tw13171389892566950264=tw13171389892566950264:=rfl
noncomputable def tw11572165331921236955:List Stmt:=[]
theorem te11572165331921236955:tw11572165331921236955=tw11572165331921236955:=rfl
noncomputable def tw2214882840778355588:List Stmt:=[]
theorem te2214882840778355588:tw2214882840778355588=tw2214882840778355588:=rfl
noncomputable def tw17033293066127608225:Params->BT:=fun _=>BT.nil
theorem te17033293066127608225:tw17033293066127608225=tw17033293066127608225:=rfl
noncomputable def tw7427937144380712603:List Stmt:=[]
theorem te7427937144380712603:tw7427937144380712603=tw7427937144380712603:=rfl
noncomputable def tw2966268471271669092:List Stmt:=[]
theorem te2966268471271669092:tw2966268471271669092=tw2966268471271669092:=rfl
noncomputable def tw12996959392058468930:Params->Obj:=fun _=>default
theorem te12996959392058468930:tw12996959392058468930=tw12996959392058468930:=rfl
noncomputable def tw17326407677765600508:Params->Obj:=fun _=>default
theorem te17326407677765600508:tw17326407677765600508=tw17326407677765600508:=rfl
noncomputable def tw13373530689716867911:Params->Obj:=fun _=>default
theorem te13373530689716867911:tw13373530689716867911=tw13373530689716867911:=rfl
noncomputable def tw8656540242229394723:Params->Obj:=fun _=>default
theorem te8656540242229394723:tw8656540242229394723=tw8656540242229394723:=rfl
noncomputable def tw7134726508111723918:Params->BT:=fun _=>BT.nil
theorem te7134726508111723918:tw7134726508111723918=tw7134726508111723918:=rfl
noncomputable def tw92279625077442740:List Stmt:=[]
theorem te92279625077442740:tw92279625077442740=tw92279625077442740:=rfl
noncomputable def tw2365210623190521748:Params->Obj:=fun _=>default
theorem te2365210623190521748:tw2365210623190521748=tw2365210623190521748:=rfl
noncomputable def tw9486507615337803764:Params->Obj:=fun _=>default
theorem te9486507615337803764:tw9486507615337803764=tw9486507615337803764:=rfl
noncomputable def tw5138763694286977945:Params->Obj:=fun _=>default
theorem te5138763694286977945:tw5138763694286977945=tw5138763694286977945:=rfl
noncomputable def tw13081594994217923566:Params->Obj:=fun _=>default
theorem te13081594994217923566:tw13081594994217923566=tw13081594994217923566:=rfl
noncomputable def tw7539499729731622665:Params->Obj:=fun _=>default
theorem te7539499729731622665:tw7539499729731622665=tw7539499729731622665:=rfl
noncomputable def tw3746389850630385315:Params->Obj:=fun _=>default
theorem te3746389850630385315:tw3746389850630385315=tw3746389850630385315:=rfl
noncomputable def tw16179485483892540561:Params->Obj:=fun _=>default
theorem te16179485483892540561:tw16179485483892540561=tw16179485483892540561:=rfl
noncomputable def tw9976289009461181040:Params->Obj:=fun _=>default
theorem te9976289009461181040:tw9976289009461181040=tw9976289009461181040:=rfl
noncomputable def tw9555705110872486673:Params->Obj:=fun _=>default
theorem te9555705110872486673:tw9555705110872486673=tw9555705110872486673:=rfl
noncomputable def tw4073439613368930956:Params->Obj:=fun _=>default
theorem te4073439613368930956:tw4073439613368930956=tw4073439613368930956:=rfl
noncomputable def tw1035314862788221181:Params->Obj:=fun _=>default
theorem te1035314862788221181:tw1035314862788221181=tw1035314862788221181:=rfl
noncomputable def tw15637950918391702074:Params->Obj:=fun _=>default
theorem te15637950918391702074:tw15637950918391702074=tw15637950918391702074:=rfl
noncomputable def tw13325225238029664862:Params->Obj:=fun _=>default
theorem te13325225238029664862:tw13325225238029664862=tw13325225238029664862:=rfl
noncomputable def tw8130211828118727908:Params->Obj:=fun _=>default
theorem te8130211828118727908:tw8130211828118727908=tw8130211828118727908:=rfl
noncomputable def tw6175594149128805799:Params->Obj:=fun _=>default
theorem te6175594149128805799:tw6175594149128805799=tw6175594149128805799:=rfl
noncomputable def tw9026708206304007234:Params->Obj:=fun _=>default
theorem te9026708206304007234:tw9026708206304007234=tw9026708206304007234:=rfl
noncomputable def tw8770474732122760365:Params->Obj:=fun _=>default
theorem te8770474732122760365:tw8770474732122760365=tw8770474732122760365:=rfl
noncomputable def tw6462413691783864552:Params->Obj:=fun _=>default
theorem te6462413691783864552:tw6462413691783864552=tw6462413691783864552:=rfl
end PySem.W.Fast
set_option maxRecDepth 100000 in
set_option maxHeartbeats 0 in
theorem PySem.Challenge.cw_lentshelf_k94_whole_trees_and_sayings_holds : PySem.Challenge.rw_lentshelf_k94_whole_trees_and_sayings.Holds := by
 w_on; o_law; k_head; (case hw=>w_witness2)
 k_fill
 refine K94.aHw (l:=PySem.Challenge.rw_lentshelf_k94_whole_trees_and_sayings) rfl rfl (fun w h Y=>PySem.W.kIn_of Y) ?F
 case F =>
  intro w mg fa h KX G hmg
  refine' K94.aOk KX G hmg ?a1 ?l1 ?c1 ?k1 ?a2 ?l2 ?c2 ?k2 ?a3 ?l3 ?c3 ?k3 ?a4 ?l4 ?c4 ?k4 ?a5 ?l5 ?c5 ?k5 ?a6 ?l6 ?c6 ?k6 ?a7 ?l7 ?c7 ?k7 ?a8 ?l8 ?c8 ?k8 ?a9 ?l9 ?c9 ?k9 ?a10 ?l10 ?c10 ?k10 ?a11 ?l11 ?c11 ?k11 ?a12 ?l12 ?c12 ?k12 ?t12 ?a13 ?l13 ?c13 ?k13 ?a14 ?l14 ?c14 ?k14 ?a15 ?l15 ?c15 ?k15 ?a16 ?l16 ?c16 ?k16 ?a17 ?l17 ?c17 ?k17 ?a18 ?l18 ?c18 ?k18 ?a19 ?l19 ?c19 ?k19 ?a20 ?l20 ?c20 ?k20 ?a21 ?l21 ?c21 ?k21 ?a22 ?l22 ?c22 ?k22 ?a23 ?l23 ?c23 ?k23 ?a24 ?l24 ?c24 ?k24 ?t24 ?a25 ?l25 ?c25 ?k25 ?a26 ?l26 ?c26 ?k26 ?a27 ?l27 ?c27 ?k27 ?a28 ?l28 ?c28 ?k28 ?a29 ?l29 ?c29 ?k29 ?a30 ?l30 ?c30 ?k30 ?a31 ?l31 ?c31 ?k31 ?a32 ?l32 ?c32 ?k32 ?a33 ?l33 ?c33 ?k33 ?a34 ?l34 ?c34 ?k34 ?a35 ?l35 ?c35 ?k35 ?a36 ?l36 ?c36 ?k36 ?a37 ?l37 ?c37 ?k37 ?a38 ?l38 ?c38 ?k38 ?a39 ?l39 ?c39 ?k39 ?a40 ?l40 ?c40 ?k40 ?a41 ?l41 ?c41 ?k41 ?a42 ?l42 ?c42 ?k42 ?a43 ?l43 ?c43 ?k43 ?a44 ?l44 ?c44 ?k44 ?a45 ?l45 ?c45 ?k45 ?a46 ?l46 ?c46 ?k46 ?z_enumerate ?z_int ?z_len ?z_list ?z_max ?z_min ?z_range ?z_reversed ?z_sorted ?z_sum ?z_tuple ?z_zip
  (case a1=>k_is)
  (case l1=>k_is)
  (case c1=>k_is)
  (case k1=>k_is)
  (case a2=>k_is)
  (case l2=>k_is)
  (case c2=>k_is)
  (case k2=>k_is)
  (case a3=>k_is)
  (case l3=>k_is)
  (case c3=>k_is)
  (case k3=>k_is)
  (case a4=>k_is)
  (case l4=>k_is)
  (case c4=>k_is)
  (case k4=>k_is)
  (case a5=>k_is)
  (case l5=>k_is)
  (case c5=>k_is)
  (case k5=>k_is)
  (case a6=>k_is)
  (case l6=>k_is)
  (case c6=>k_is)
  (case k6=>k_is)
  (case a7=>k_is)
  (case l7=>k_is)
  (case c7=>k_is)
  (case k7=>k_is)
  (case a8=>k_is)
  (case l8=>k_is)
  (case c8=>k_is)
  (case k8=>k_is)
  (case a9=>k_is)
  (case l9=>k_is)
  (case c9=>k_is)
  (case k9=>k_is)
  (case a10=>k_is)
  (case l10=>k_is)
  (case c10=>k_is)
  (case k10=>k_is)
  (case a11=>k_is)
  (case l11=>k_is)
  (case c11=>k_is)
  (case k11=>k_is)
  (case a12=>k_is)
  (case l12=>k_is)
  (case c12=>k_is)
  (case k12=>k_is)
  (case t12=>k_is)
  (case a13=>k_is)
  (case l13=>k_is)
  (case c13=>k_is)
  (case k13=>k_is)
  (case a14=>k_is)
  (case l14=>k_is)
  (case c14=>k_is)
  (case k14=>k_is)
  (case a15=>k_is)
  (case l15=>k_is)
  (case c15=>k_is)
  (case k15=>k_is)
  (case a16=>k_is)
  (case l16=>k_is)
  (case c16=>k_is)
  (case k16=>k_is)
  (case a17=>k_is)
  (case l17=>k_is)
  (case c17=>k_is)
  (case k17=>k_is)
  (case a18=>k_is)
  (case l18=>k_is)
  (case c18=>k_is)
  (case k18=>k_is)
  (case a19=>k_is)
  (case l19=>k_is)
  (case c19=>k_is)
  (case k19=>k_is)
  (case a20=>k_is)
  (case l20=>k_is)
  (case c20=>k_is)
  (case k20=>k_is)
  (case a21=>k_is)
  (case l21=>k_is)
  (case c21=>k_is)
  (case k21=>k_is)
  (case a22=>k_is)
  (case l22=>k_is)
  (case c22=>k_is)
  (case k22=>k_is)
  (case a23=>k_is)
  (case l23=>k_is)
  (case c23=>k_is)
  (case k23=>k_is)
  (case a24=>k_is)
  (case l24=>k_is)
  (case c24=>k_is)
  (case k24=>k_is)
  (case t24=>k_is)
  (case a25=>k_is)
  (case l25=>k_is)
  (case c25=>k_is)
  (case k25=>k_is)
  (case a26=>k_is)
  (case l26=>k_is)
  (case c26=>k_is)
  (case k26=>k_is)
  (case a27=>k_is)
  (case l27=>k_is)
  (case c27=>k_is)
  (case k27=>k_is)
  (case a28=>k_is)
  (case l28=>k_is)
  (case c28=>k_is)
  (case k28=>k_is)
  (case a29=>k_is)
  (case l29=>k_is)
  (case c29=>k_is)
  (case k29=>k_is)
  (case a30=>k_is)
  (case l30=>k_is)
  (case c30=>k_is)
  (case k30=>k_is)
  (case a31=>k_is)
  (case l31=>k_is)
  (case c31=>k_is)
  (case k31=>k_is)
  (case a32=>k_is)
  (case l32=>k_is)
  (case c32=>k_is)
  (case k32=>k_is)
  (case a33=>k_is)
  (case l33=>k_is)
  (case c33=>k_is)
  (case k33=>k_is)
  (case a34=>k_is)
  (case l34=>k_is)
  (case c34=>k_is)
  (case k34=>k_is)
  (case a35=>k_is)
  (case l35=>k_is)
  (case c35=>k_is)
  (case k35=>k_is)
  (case a36=>k_is)
  (case l36=>k_is)
  (case c36=>k_is)
  (case k36=>k_is)
  (case a37=>k_is)
  (case l37=>k_is)
  (case c37=>k_is)
  (case k37=>k_is)
  (case a38=>k_is)
  (case l38=>k_is)
  (case c38=>k_is)
  (case k38=>k_is)
  (case a39=>k_is)
  (case l39=>k_is)
  (case c39=>k_is)
  (case k39=>k_is)
  (case a40=>k_is)
  (case l40=>k_is)
  (case c40=>k_is)
  (case k40=>k_is)
  (case a41=>k_is)
  (case l41=>k_is)
  (case c41=>k_is)
  (case k41=>k_is)
  (case a42=>k_is)
  (case l42=>k_is)
  (case c42=>k_is)
  (case k42=>k_is)
  (case a43=>k_is)
  (case l43=>k_is)
  (case c43=>k_is)
  (case k43=>k_is)
  (case a44=>k_is)
  (case l44=>k_is)
  (case c44=>k_is)
  (case k44=>k_is)
  (case a45=>k_is)
  (case l45=>k_is)
  (case c45=>k_is)
  (case k45=>k_is)
  (case a46=>k_is)
  (case l46=>k_is)
  (case c46=>k_is)
  (case k46=>k_is)
  (case z_enumerate=>k_is)
  (case z_int=>k_is)
  (case z_len=>k_is)
  (case z_list=>k_is)
  (case z_max=>k_is)
  (case z_min=>k_is)
  (case z_range=>k_is)
  (case z_reversed=>k_is)
  (case z_sorted=>k_is)
  (case z_sum=>k_is)
  (case z_tuple=>k_is)
  (case z_zip=>k_is)

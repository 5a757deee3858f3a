import PyProof.Rows.All
import Wide.All
import OpenK.AllK
import Wide.FinOn
import PyProof.EqAt
import PyProof.EqKinds
import PyProof.TupleCall
import PyProof.Seq
import PyProof.RangeIter
import PyProof.TupleIter
import PyProof.Rows.TupIter
import PyProof.StationsW
import PyProof.ExcClass2
import PyProof.NeKinds
import PyProof.Rows.TupMore
import PyProof.AutoSeq1
import PyProof.ZipIter
import PyProof.StrWalks
import PyProof.StrBlock2
import PyProof.StrBlockI
import PyProof.StrLaws
import PyProof.SliceStr2
import PyProof.Rows.Range3
import PyProof.Rows.StrRev
import PyProof.ConsumeWalk
import PyProof.Rows.SortShellK
import PyProof.Rows.SortRev
import PyProof.SeqI3
import PyProof.Rows.SeqGen
import PyProof.Rows.SortRunsK
import KE.KEqDict
import KE.KLam
import KE.KMinKey
import KE.KNestM
import Lean
import PySem.Challenge.RW_balepress_k20_whole_best_way
set_option Elab.async false
set_option linter.all false
set_option maxRecDepth 100000
abbrev zr:=@List.length_map
abbrev zt:=@List.append_assoc
abbrev zu:=@List.getElem?_eq_getElem
abbrev zv:=@List.length_append
abbrev zw:=@decide_eq_true
abbrev zx:=@PySem.wpAny_bind
abbrev zy:=@Nat.le_refl
abbrev zz:=@List.getElem?_eq_some_iff
abbrev zA:=@of_decide_eq_true
abbrev zB:=@PySem.Heap.get?_push_of_some
abbrev zC:=@List.mem_cons_of_mem
abbrev zD:=@List.length_cons
abbrev zE:=@List.size_toArray
abbrev zF:=@List.pairwise_append
abbrev zG:=@List.map_append
abbrev zH:=@List.mem_cons_self
abbrev zI:=@List.mem_append
abbrev zJ:=@List.mem_append_right
abbrev zK:=@if_neg
abbrev zL:=@List.mem_cons
abbrev zM:=@List.take_append_drop
abbrev zN:=@Bool.false_ne_true
abbrev zO:=@PySem.boot_len
abbrev zP:=@if_pos
abbrev zQ:=@List.filter_cons_of_pos
abbrev zR:=@List.length_drop
abbrev zS:=@Option.some.inj
abbrev zU:=@PyProof.Rows.wpS_pure
abbrev zV:=@Int.toNat_natCast
abbrev zW:=@List.length_take
abbrev zX:=@List.mem_singleton
abbrev zY:=@List.filter_cons_of_neg
abbrev zZ:=@PySem.Heap.lt_size
abbrev z7:=@List.filter_append
abbrev z8:=@List.map_cons
abbrev Aa:=@PySem.PassesOwn.never
abbrev Ab:=@List.getD_eq_getElem?_getD
abbrev Ad:=@List.take_of_length_le
abbrev Af:=@PySem.F.plainAttrs_list
abbrev Ai:=@PySem.wpAny_pure
abbrev Aj:=@List.getElem?_append_right
abbrev Ak:=@PySem.Heap.get?_push_size
abbrev Al:=@Array.toList_append
abbrev Am:=@Nat.lt_of_lt_of_le
abbrev An:=@List.take_length
abbrev Ap:=@Nat.zero_le
abbrev Aq:=@PyProof.Rows.boot_list
abbrev Ar:=@PySem.mem_of_lookup
abbrev Au:=@beq_iff_eq
abbrev Av:=@PySem.W.mg_of
abbrev Aw:=@List.mem_iff_getElem
abbrev Ax:=@List.append_nil
abbrev Ay:=@List.getElem_mem
abbrev Az:=@List.sum_cons
abbrev AA:=@List.getElem?_map
abbrev AB:=@Nat.lt_or_ge
abbrev AC:=@decide_eq_false
abbrev AD:=@List.getElem?_eq_none
abbrev AE:=@Nat.ne_of_lt
abbrev AG:=@PySem.F.slot_list_append
abbrev AH:=@List.drop_eq_getElem_cons
abbrev AI:=@List.pairwise_iff_getElem
abbrev AJ:=@List.replicate_succ
abbrev AK:=@List.mem_of_getElem?
abbrev AL:=@PySem.F.type_list_append
abbrev AM:=@Nat.le_trans
abbrev AN:=@PyProof.Rows.boot_isinstance
abbrev AO:=@List.take_add_one
abbrev AQ:=@Nat.mul_comm
abbrev AR:=@List.length_replicate
abbrev AS:=@Array.length_toList
abbrev AT:=@Nat.mul_assoc
abbrev AU:=@List.length_eq_zero_iff
abbrev AV:=@List.getElem?_append_left
abbrev AX:=@PySem.wpAny_mono
abbrev AY:=@List.pairwise_cons
abbrev AZ:=@Nat.pow_succ
abbrev A1:=@List.mem_of_mem_drop
abbrev A2:=@PySem.W.mg_none_of
abbrev A3:=@List.nil_append
abbrev A4:=@List.flatten_cons
abbrev A5:=@List.map_map
abbrev A6:=@List.count_eq_zero_of_not_mem
abbrev A7:=@List.mem_of_mem_take
abbrev A8:=@List.filter_eq_nil_iff
abbrev A9:=@Nat.zero_add
abbrev Bb:=@PyProof.Rows.wpS_forRange
abbrev Bc:=@Nat.add_assoc
abbrev Be:=@List.ext_getElem?
abbrev Bf:=@PySem.wpAny_holding
abbrev Bg:=@List.getElem_take
abbrev Bh:=@List.mem_append_left
abbrev Bj:=@List.reverse_reverse
abbrev Bk:=@congrArg
abbrev Bl:=@List.mem_map
abbrev Bm:=@PySem.wpAny_Call_Name_kw
abbrev Bo:=@PySem.F.plain_min_loop
abbrev Bp:=@List.sum_append
abbrev Bq:=@PySem.W.kia_one
abbrev Br:=@List.take_append_of_le_length
abbrev Bt:=@Nat.mul_add
abbrev Bu:=@PySem.Heap.get?_update_ne
abbrev Bv:=@List.length_singleton
abbrev Bw:=@Nat.add_zero
abbrev Bx:=@Nat.pow_add
abbrev By:=@List.mem_filter
abbrev Bz:=@PyProof.Rows.callWith_type1
abbrev BB:=@Nat.pow_le_pow_right
abbrev BC:=@Array.toList_reverse
abbrev BD:=@PyProof.Rows.wpS_mono
abbrev BE:=@List.getElem?_set_self
abbrev BF:=@Nat.mul_le_mul_left
abbrev BG:=@List.length_range
abbrev BH:=@List.drop_zero
abbrev BI:=@List.getElem_append_right
abbrev BJ:=@Bool.false_eq_true
abbrev BK:=@List.perm_middle
abbrev BL:=@List.perm_cons_erase
abbrev BM:=@PySem.wpAny_callSpecial?_slot
abbrev BN:=@List.count_append
abbrev BO:=@PySem.wpAny_truthy_bool
abbrev BQ:=@List.getElem_drop
abbrev BS:=@Nat.min_eq_left
abbrev BU:=@List.reverse_append
abbrev BV:=@List.drop_eq_nil_of_le
abbrev BW:=@List.filter_cons
abbrev BX:=@Nat.lt_irrefl
abbrev BY:=@List.getElem?_drop
abbrev BZ:=@List.mem_range
abbrev B0:=@PySem.sizeLine_eq
abbrev B1:=@PySem.wpAny_field
abbrev B4:=@List.take_sublist
abbrev B5:=@Option.map_some
abbrev B7:=@PySem.wpAny_passesOwn
abbrev B8:=@List.getElem_append_left
abbrev B9:=@Nat.and_two_pow_sub_one_eq_mod
abbrev Ca:=@Nat.sub_zero
abbrev Cb:=@Nat.add_mul
abbrev Cc:=@List.getElem?_replicate
abbrev Cf:=@beq_eq_false_iff_ne
abbrev Cg:=@List.take_succ_cons
abbrev Ch:=@List.length_reverse
abbrev Cj:=@Nat.mod_eq_of_lt
abbrev Ck:=@Nat.min_eq_right
abbrev Cm:=@List.mem_reverse
abbrev Cn:=@List.take_zero
abbrev Cq:=@PySem.wpAny_rule
abbrev Cr:=@PySem.F.slot_list_clear
abbrev Cs:=@Nat.pow_pos
abbrev Ct:=@List.count_cons
abbrev Cu:=@PySem.W.binds_K
abbrev Cv:=@PyProof.Rows.boot_min
abbrev Cw:=@List.length_filter_le
abbrev Cy:=@List.nodup_cons
abbrev Cz:=@List.find?_cons
abbrev CA:=@List.singleton_append
abbrev CC:=@List.foldl_append
abbrev CD:=@List.pairwise_map
abbrev CF:=@Nat.mul_left_comm
abbrev CG:=@List.getElem?_set_ne
abbrev CH:=@List.drop_left
abbrev CI:=@PySem.Heap.size_push
abbrev CJ:=@PySem.wpAny_seqItems
abbrev CK:=@PySem.wpAny_tryCatch
abbrev CM:=@List.drop_drop
abbrev CN:=@List.extract_eq_take_drop
abbrev CO:=@Nat.div_eq_of_lt
abbrev CP:=@Nat.lt_succ_self
abbrev CQ:=@PySem.wpAny_call_entry
abbrev CS:=@List.getElem?_range
abbrev CT:=@Nat.le_succ
abbrev CU:=@List.map_congr_left
abbrev CV:=@PySem.W.callWith_K0
abbrev CY:=@PySem.Heap.SameBut.update
abbrev CZ:=@List.map_nil
abbrev C4:=@Nat.mul_add_div
abbrev C5:=@Nat.lt_of_le_of_lt
abbrev C6:=@List.range_succ
abbrev C7:=@List.count_pos_iff
abbrev C8:=@PySem.F.type_list_clear
abbrev Da:=@List.of_mem_zip
abbrev Db:=@PySem.wpAny_attempt
abbrev Dc:=@List.cons.inj
abbrev Dd:=@PyProof.Rows.listUpdate_at
abbrev De:=@PyProof.Rows.get?_update_seq
abbrev Df:=@PySem.wpAny_execs_nil
abbrev Dg:=@PySem.W.callWith_K
abbrev Dh:=@PySem.tupleKind_room_in1
abbrev Di:=@Nat.eq_zero_or_pos
abbrev Dj:=@PySem.slot_listiter_next
abbrev Dk:=@of_decide_eq_false
abbrev Dl:=@Nat.div_div_eq_div_mul
abbrev Dm:=@PySem.F.slot_list_extend
abbrev Dn:=@PySem.W.cellsFrom_some
abbrev Do:=@PySem.F.entry_min_loop
abbrev Dp:=@PySem.codeAny_mono
abbrev Dq:=@Nat.sub_self
abbrev Dt:=@PyProof.Rows.boot_max
abbrev Du:=@PySem.W.methodCall_KW
abbrev Dv:=@List.mem_of_mem_erase
abbrev Dw:=@Array.getElem?_toList
abbrev Dx:=@List.drop_length
abbrev Dy:=@List.exists_mem_of_length_pos
abbrev Dz:=@List.map_snd_zip
abbrev DA:=@PySem.wpAny_isInstance
abbrev DB:=@List.drop_append_of_le_length
abbrev DC:=@Nat.mul_le_mul_right
abbrev DD:=@PySem.Around.under_plainId
abbrev DE:=@Array.toList_extract
abbrev DF:=@List.map_drop
abbrev DG:=@Nat.mod_lt
abbrev DH:=@List.getElem_of_mem
abbrev DI:=@List.filter_map
abbrev DJ:=@List.length_set
abbrev DK:=@List.mem_map_of_mem
abbrev DL:=@PySem.wpAny_letGo
abbrev DM:=@List.filterMap_cons
abbrev DN:=@Ne.symm
abbrev DO:=@Bool.eq_iff_iff
abbrev DP:=@PySem.W.plainGet_of
abbrev DQ:=@PySem.codeAny_builtin
abbrev DR:=@PySem.F.slot_enumerate_next
abbrev DS:=@Int.fdiv_eq_ediv_of_nonneg
abbrev DT:=@Array.toList_setIfInBounds
abbrev DU:=@Nat.add_comm
abbrev DV:=@List.getElem?_take
abbrev DW:=@List.getElem?_eq_none_iff
abbrev DX:=@Nat.lt_succ_of_lt
abbrev DY:=@Option.isSome_map
abbrev DZ:=@Array.toList_push
abbrev D1:=@List.drop_sublist
abbrev D2:=@List.map_take
abbrev D3:=@List.perm_nil
abbrev D4:=@List.mem_flatMap
abbrev D5:=@List.all_eq_true
abbrev D7:=@List.getElem_map
abbrev D8:=@PySem.W.makes_of
abbrev D9:=@List.cons_append
abbrev Ea:=@List.map_const'
abbrev Ec:=@Nat.not_lt_zero
abbrev Ed:=@List.take_take
abbrev Ee:=@Bool.false_and
abbrev Ef:=@Nat.one_mul
abbrev Eg:=@Nat.mul_one
namespace QQ
open PySem PyProof.Rows
variable {h h' : Heap} {items vs : Array Value} {e it : Addr} {Q : Option Value->Shared->Prop} {fp : List Addr} {cls : Value}
def Hq (A:Around)(h:Heap):Prop:=A.handled=none\/∃a o vs,A.handled=some (.ref a)/\h.get? a=some o/\o.data=.fields vs/\vs[2]?=some Value.none
theorem Hq.keep {A:Around}(q:Hq A h)(k:∀a,A.handled=some (.ref a)->∀o,h.get? a=some o->h'.get? a=some o):Hq A h':=by
 rcases q with q|⟨a,o,vs,e,g,d,z⟩
 ·exact .inl q
 ·exact .inr ⟨a,o,vs,e,k a e o g,d,z⟩
theorem mN:entryFor table "proto.unchain"=some Builtin.«proto.unchain»:=entryFor_of_fast (by kernel_rfl)
section
variable {prog : Program} {w : World} {A : Around} {E : Value -> Shared -> Prop} {s : Shared}
theorem mf {α:Type}{oe:Obj}{Q:α->Shared->Prop}(hq:Hq A s.heap)(he:s.heap.get? e=some oe)(hd:oe.data=.fields vs)(hz:2<vs.size)
  (hne:A.handled≠some (.ref e))
  (h:∀h' o',h'.get? e=some o'->o'.cls=oe.cls->Heap.SameBut e s.heap h'->E (.ref e) {s with heap:=h'}):wpAny (model prog w) A (raiseNew (.ref e):Sem α) Q E s:=by
 unfold raiseNew;refine zx (wpAny_handled ?_);rcases hq with q|⟨a,o,us,ea,ga,da,za⟩
 ·rw [q];exact zx (Ai (wpAny_throw (h s.heap oe he rfl (Heap.SameBut.refl ..))))
 ·rw [ea];have ne:(Value.ref a !=Value.ref e)=true:=by
   have:a≠e:=λ z=>hne (by rw [ea,z])
   simp [bne,this]
  show wpAny _ _ (if(Value.ref a !=Value.ref e)=true then _ else _) _ _ _;rw [zP ne];refine zx (Bf (wpAny_runValue (DQ mN ?_)));show wpAny _ _ (field (.ref a) 2>>= _) _ _ s;refine zx (B1 ga da za ?_);show wpAny _ _ (if(Value.none==Value.none)=true then _ else _) _ _ s;rw [zP (by rfl)];refine zx (Ai (Ai ?_));show wpAny _ _ (updateField e 2 (.ref a)>>= λ _=>throw (.ref e)) _ _ s;refine zx (wpAny_setField he hd hz ?_:wpAny _ _ (setField (.ref e) 2 (.ref a)) _ _ s);refine wpAny_throw (h _ _ (Heap.get?_update_self _ he (Obj.isFreed_of_fields (Obj.data_mapFields hd _))) (Obj.cls_mapFields _ _) (CY ..))
theorem cY {α:Type}{E':Value->Shared->Prop}{R:α->Shared->Prop}(hq:Hq A s.heap)
  (h:∀h' e,(∀b o,s.heap.get? b=some o->h'.get? b=some o)->(∃o,h'.get? e=some o/\o.cls=.type "StopIteration")->E' (.ref e) {s with heap:=h'}):
  wpAny (model prog w) A (newExc (.type "StopIteration") []>>= λ v=>(raiseNew v:Sem α)) R E' s:=by
 refine zx ?_;simp only [newExc,newTuple];refine zx (wpAny_newObj_type ?_ (by size_fits));refine zx (m:=firstArgMember _ _) (wpAny_of_eq (a:=Value.none) (by first|rfl|(simp only [firstArgMember];rfl)) ?_);refine wpAny_newObj_type ?_ (by size_fits);have k2:∀b o,s.heap.get? b=some o->((s.heap.push {cls:=.type "tuple",data:=.seq ([]:List Value).toArray}).push {cls:=.type "StopIteration",data:=.fields (#[.ref s.heap.objs.size,.none,.none,.none,.bool false,.none]++ownMembersOf (.type "StopIteration") [])}).get? b=some o:=
  λ b o e=>zB _ (zB _ e)
 refine mf (hq.keep λ a _ o e=>k2 a o e) (Ak _ rfl) rfl (by simp [ownMembersOf]) ?_ λ h' o' ge ce sb=>?_
 ·rcases hq with q|⟨a,o,us,ea,ga,_⟩
  ·rw [q];intro z;cases z
  ·rw [ea];intro z;have e:a=(s.heap.push {cls:=.type "tuple",data:=.seq ([]:List Value).toArray}).objs.size:=Value.ref.inj (zS z);have:=zZ ga;rw [e,CI] at this;exact absurd this (Nat.not_lt.mpr (CT _))
 ·refine h h' _ (λ b o e=>sb.extBut b o (λ z=>?_) (k2 b o e)) ⟨o',ge,ce⟩;have:=zZ e;rw [z,CI] at this;exact absurd this (Nat.not_lt.mpr (CT _))
theorem mG {o:Obj}(q:Hq A h)(g:h.get? it=some o)(d:o.data=.fields vs)(z:vs[2]?≠some Value.none):A.handled≠some (.ref it):=by
 rcases q with q|⟨a,o',us,e,g',d',z'⟩
 ·rw [q];intro x;cases x
 ·rw [e];intro x;have e':a=it:=Value.ref.inj (zS x);subst e';rw [g] at g';cases g';rw [d] at d';cases d';exact z z'
theorem list_end_q {l:Addr}{i:Nat}{items}(hq:Hq A s.heap)
  (hit:s.heap.IsListIter it l i) (hl:s.heap.IsList l items) (hx:items[i]?=none)
  (hQ:∀h',Heap.ExtBut it s.heap h'->Q none {s with heap:=h'}):wpAny (model prog w) A (pyNext (.ref it)) Q E s:=by
 obtain⟨o,ho,hc,hd⟩:=id hit;obtain⟨ol,hol,_,nl,hdl⟩:=hl;have hn:=mG hq ho hd (by simp);unfold pyNext;refine zx (Db (BM (name:=Str.ofString "__next__") hit.typeIs Dj (CQ Dj hit.typeIs entry_listiter_next ?_ (args_listiter_next _))));show wpAny _ _ (field (.ref it) 0>>= _) _ _ s;refine zx (B1 ho hd (x:=.ref l) rfl ?_);show wpAny _ _ (if(Value.ref l==Value.none)=true then _ else _) _ _ s;rw [zK (show¬((Value.ref l==Value.none)=true) from zN)];show wpAny _ _ (field (.ref it) 1>>= _) _ _ s;refine zx (B1 ho hd (x:=.int i 0) rfl ?_);show wpAny _ _ (seqItems? (.ref l)>>= _) _ _ s;refine zx (CJ hol hdl ?_);simp only [zV,hx];refine zx (Cq (zx (wpAny_setField ho hd (by simp) ?_)));have sb1:=CY (h:=s.heap) it (Obj.mapFields (·.setIfInBounds 0 Value.none));refine cY (A:=A.in1) (hq.keep λ a ea o' e=>sb1.extBut a o' (λ z=>hn (by rw [ea,z])) e) λ h' e k z9=>?_
 obtain⟨o',ge,ce⟩:=z9;refine zx (DA (T:="StopIteration") (b:=true) ⟨_,ge,ce⟩ isSubtype_stop ?_);exact Ai (hQ _ λ b ob hb e1=>k b ob (sb1.extBut b ob hb e1))
theorem kT {t:Addr}{i:Nat}{items}(hq:Hq A s.heap)
  (hit:s.heap.IsTupleIter it t i) (ht:s.heap.IsTuple t items) (hx:items[i]?=none)
  (hQ:∀h',Heap.ExtBut it s.heap h'->Q none {s with heap:=h'}):wpAny (model prog w) A (pyNext (.ref it)) Q E s:=by
 obtain⟨o,ho,hc,hd⟩:=id hit;obtain⟨ol,hol,_,nl,hdl⟩:=ht;have hn:=mG hq ho hd (by simp);unfold pyNext;refine zx (Db (BM (name:=Str.ofString "__next__") hit.typeIs F.slot_tuple_iterator_next (CQ F.slot_tuple_iterator_next hit.typeIs F.entry_tuple_iterator_next ?_ (F.args_tuple_iterator_next_1 _))));show wpAny _ _ (field (.ref it) 0>>= _) _ _ s;refine zx (B1 ho hd (x:=.ref t) rfl ?_);show wpAny _ _ (if(Value.ref t==Value.none)=true then _ else _) _ _ s;rw [zK (show¬((Value.ref t==Value.none)=true) from zN)];show wpAny _ _ (field (.ref it) 1>>= _) _ _ s;refine zx (B1 ho hd (x:=.int i 0) rfl ?_);show wpAny _ _ (seqItems? (.ref t)>>= _) _ _ s;refine zx (CJ hol hdl ?_);simp only [zV,hx];refine zx (Cq (zx (wpAny_setField ho hd (by simp) ?_)));have sb1:=CY (h:=s.heap) it (Obj.mapFields (·.setIfInBounds 0 Value.none));refine cY (A:=A.in1) (hq.keep λ a ea o' e=>sb1.extBut a o' (λ z=>hn (by rw [ea,z])) e) λ h' e k z9=>?_
 obtain⟨o',ge,ce⟩:=z9;refine zx (DA (T:="StopIteration") (b:=true) ⟨_,ge,ce⟩ isSubtype_stop ?_);exact Ai (hQ _ λ b ob hb e1=>k b ob (sb1.extBut b ob hb e1))
theorem range_end_q {x left step:Int}(hq:Hq A s.heap)(hit:IsRangeIter s.heap it x left step)(hleft:left≤0)
  (hQ:∀h',Heap.ExtBut it s.heap h'->Q none {s with heap:=h'}):wpAny (model prog w) A (pyNext (.ref it)) Q E s:=by
 have hT:s.TypeIs (.ref it) "range_iterator":=⟨_,hit,rfl⟩;unfold pyNext;refine zx (Db (BM (name:=Str.ofString "__next__") hT F.slot_range_iterator_next (CQ F.slot_range_iterator_next hT F.entry_range_iterator_next ?_ (F.args_range_iterator_next_1 _))));show wpAny _ _ (field (.ref it) 0>>= _) _ _ s;refine zx (B1 hit rfl (x:=rawInt x) rfl ?_);show wpAny _ _ (field (.ref it) 1>>= _) _ _ s;refine zx (B1 hit rfl (x:=rawInt left) rfl ?_);show wpAny _ _ (field (.ref it) 2>>= _) _ _ s;refine zx (B1 hit rfl (x:=rawInt step) rfl ?_);show wpAny _ _ (if left≤0 then _ else _) _ _ s;rw [zP hleft];refine zx (Cq (zx ?_));refine cY (A:=A.in1) hq λ h' e k z9=>?_
 obtain⟨o',ge,ce⟩:=z9;refine zx (DA (T:="StopIteration") (b:=true) ⟨_,ge,ce⟩ isSubtype_stop ?_);exact Ai (hQ _ λ b ob hb e1=>k b ob e1)
theorem iJ {t:Addr}{Q:List Value->Shared->Prop}(hq:Hq A s.heap)(ht:IsTup s.heap t items)
  (hQ:∀h',Heap.ExtBut s.heap.objs.size s.heap h'->Q items.toList {s with heap:=h'}):wpAny (model prog w) A (unpackItems (.ref t) items.size none) Q E s:=by
 have nt:t≠s.heap.objs.size:=by obtain⟨o,ho,_⟩:=ht;exact AE (zZ ho)
 unfold unpackItems;refine zx ?_;unfold notIterableAtAll;refine zx (wpAny_specialOf ht.typeIs slot_tuple_iter.lookup (Ai ?_));simp only [BJ,if_false];refine zx (Bf (iter_tuple ht (zx (Bf (draw_tuple nt items.size 0 _ _ ⟨_,Ak _ rfl,rfl,rfl⟩ (ht.push _) (by lia) λ g1 i1 b1=>?_)))));rw [show List.take items.size (List.drop 0 items.toList)=items.toList by rw [BH];exact Ad (by simp),zK (by simp)];have k1:∀b o,b≠s.heap.objs.size->s.heap.get? b=some o->g1.get? b=some o:=λ b o hb e=>b1.extBut b o hb (zB _ e)
 have q1:Hq A g1:=hq.keep λ a _ o e=>k1 a o (AE (zZ e)) e
 have t1:IsTup g1 t items:=(ht.push _).extBut b1.extBut nt;refine zx (Bf (kT (s:={s with heap:=g1}) q1 (show g1.IsTupleIter _ t _ from i1) (show g1.IsTuple t items from t1) (by simp) λ g2 x2=>?_));simp only [Option.isSome_none,BJ,if_false];exact Ai (hQ g2 λ b o hb e=>x2 b o hb (k1 b o hb e))
theorem assign_Tuple_q {env:Env}{elts:List Expr}{x1}{pos:Pos}{t:Addr}{Q:Unit->Shared->Prop}(hq:Hq A s.heap)(ht:IsTup s.heap t items)
  (hn:(assignEach elts env).length=items.size) (hstar:(assignEach elts env).findIdx? (·.1)=none)
  (h:∀h',Heap.ExtBut s.heap.objs.size s.heap h'->wpAny (model prog w) A (assignInOrder ((assignEach elts env).map (·.2)) items.toList) Q E {s with heap:=h'}):
  wpAny (model prog w) A (assign (.Tuple elts x1 pos) env (.ref t)) Q E s:=by
 rw [assign_Tuple];refine zx (wpAny_standAt ?_);unfold unpack;rw [hn,hstar];exact zx (Bf (iJ hq ht h))
end
def exO (cls:Value)(vs:Array Value):Obj:={cls:=cls,data:=.fields vs}
def Fly (h:Heap)(e:Addr)(cls:Value)(fp:List Addr):Prop:=
 ∃vs,h.get? e=some (exO cls vs)/\vs[2]?=some Value.none/\((vs[1]?=some Value.none/\fp=[e])\/
  ∃T oT ts,vs[1]?=some (.ref T)/\T≠e/\h.get? T=some oT/\oT.data=.fields ts/\ts[3]?=some Value.none/\fp=[e,T])
theorem Fly.here (F:Fly h e cls fp):e∈fp:=by
 obtain⟨vs,_,_,⟨_,r⟩|⟨T,oT,ts,_,_,_,_,_,r⟩⟩:=F<;>simp [r]
theorem Fly.keep (F:Fly h e cls fp)(k:∀b∈fp,∀o,h.get? b=some o->h'.get? b=some o):Fly h' e cls fp:=by
 obtain⟨vs,g,z,⟨a,r⟩|⟨T,oT,ts,a,ne,gT,dT,zT,r⟩⟩:=F
 ·exact⟨vs,k e (by simp [r]) _ g,z,.inl ⟨a,r⟩⟩
 ·exact⟨vs,k e (by simp [r]) _ g,z,.inr ⟨T,oT,ts,a,ne,k T (by simp [r]) _ gT,dT,zT,r⟩⟩
theorem Fly.made {args:List Value}(m:Heap.MadeExcOf h h' e cls args):Fly h' e cls [e]:=by
 obtain⟨t,ht,_⟩:=m.there;exact⟨_,ht,rfl,.inl ⟨rfl,rfl⟩⟩
section
variable {M : Model} {A : Around} {E : Value -> Shared -> Prop} {s : Shared}
end
end QQ
namespace L2
open PySem PySem.Spec PyProof.Rows
variable {s s' : Shared} {p : Pos} {C a b dx f it : Addr} {j n t' : Nat} {vs xs : List V} {fp : List Addr} {v y : V} {outer : List Env} {mA mg : Str->Option Value} {Q : Unit->Shared->Prop} {P : Program} {base h : Heap} {K : PySem.W.Frag} {ta : TA} {u : Value} {o : HO} {lo : Int} {kw : List (Str×Value)} {body : List Stmt} {r r' : R2} {fd : FuncData} {us : List Value} {H : Hp} {E : Value->Shared->Prop} {es : List Expr} {c e tg : Expr} {CX : CXT} {N ps : List Str} {tb : TS} {A : Around} {scope : Scope} {X : Cx} {pins : List (Addr×Obj)} {sp : Sp} {tc : TT} {te : TE} {qual x : Str} {kindOf : Str->Option NameKind} {σ : St} {w : World}
abbrev Key:=Sum Int Str
def jh:Key->Value->Bool
 | .inl k,v=>Value.isInt k v
 | .inr x,v=>Value.isStrOf x v
def zn (w:World):Key->Int
 | .inl k=>hashInt k
 | .inr x=>hashStr w x
theorem keyIs_shape:∀{k:Key} {v:Value},jh k v=true->(∃i t,k=Sum.inl i/\v=Value.int i t)\/(∃x t,k=Sum.inr x/\v=Value.str x t)
 | .inl i,v,h=>by
  obtain⟨t,e⟩:=Value.isInt_shape (k:=i) (v:=v) h;exact .inl ⟨i,t,rfl,e⟩
 | .inr x,v,h=>by
  obtain⟨t,e⟩:=Value.isStrOf_shape (x:=x) (v:=v) h;exact .inr ⟨x,t,rfl,e⟩
theorem qe (i:Int)(t:Tok):jh (.inl i) (.int i t)=true:=by simp [jh,Value.isInt]
theorem pG (x:Str)(t:Tok):jh (.inr x) (.str x t)=true:=by simp [jh,Value.isStrOf]
theorem wN (a b:Int):decide ((Sum.inl a:Key)=Sum.inl b)=(a==b):=by
 by_cases e:a=b
 ·subst e;simp
 ·have h:¬(Sum.inl a:Key)=Sum.inl b:=λ q=>e (Sum.inl.inj q)
  rw [AC h];exact(Cf.mpr e).symm
theorem xp (a b:Str):decide ((Sum.inr a:Key)=Sum.inr b)=decide (a=b):=by
 by_cases e:a=b
 ·subst e;simp
 ·have h:¬(Sum.inr a:Key)=Sum.inr b:=λ q=>e (Sum.inr.inj q)
  rw [AC h,AC e]
theorem xt (a:Int)(b:Str):decide ((Sum.inl a:Key)=Sum.inr b)=false:=AC (λ q=>nomatch q)
theorem xn (a:Str)(b:Int):decide ((Sum.inr a:Key)=Sum.inl b)=false:=AC (λ q=>nomatch q)
def bw (prog:Program)(w:World):PySem.KeyKind prog w Key where
 is:=jh
 hash:=zn w
 inj:=λ v a b ha hb=>by
  rcases keyIs_shape ha with⟨i,t,rfl,rfl⟩|⟨x,t,rfl,rfl⟩
  ·rcases keyIs_shape hb with⟨j,u,rfl,e⟩|⟨y,u,rfl,e⟩
   ·injection e with e1 _;rw [e1]
   ·exact nomatch e
  ·rcases keyIs_shape hb with⟨j,u,rfl,e⟩|⟨y,u,rfl,e⟩
   ·exact nomatch e
   ·injection e with e1 _;rw [e1]
 byValue:=λ k v h=>by
  rcases keyIs_shape h with⟨i,t,rfl,rfl⟩|⟨x,t,rfl,rfl⟩<;>rfl
 pyHash:=λ hv h=>by
  rcases keyIs_shape hv with⟨i,t,rfl,rfl⟩|⟨x,t,rfl,rfl⟩
  ·exact wpAny_pyHash_int h
  ·exact wpAny_pyHash_str h
 eqBool:=λ hu hv h=>by
  rcases keyIs_shape hu with⟨i,t,rfl,rfl⟩|⟨x,t,rfl,rfl⟩
  ·rcases keyIs_shape hv with⟨j,u,rfl,rfl⟩|⟨y,u,rfl,rfl⟩
   ·rw [wN] at h;exact wpAny_eqBool_int h
   ·rw [xt] at h;exact SeqAt.EqAt.int_str i t y u _ _ _ _ h
  ·rcases keyIs_shape hv with⟨j,u,rfl,rfl⟩|⟨y,u,rfl,rfl⟩
   ·rw [xn] at h;exact SeqAt.EqAt.str_int x t j u _ _ _ _ h
   ·rw [xp] at h;exact wpAny_eqBool_str h
 «strs»:=λ k x t v h=>by
  rcases keyIs_shape h with⟨i,u,rfl,e⟩|⟨y,u,rfl,e⟩
  ·exact nomatch e
  ·injection e with e1 _
   subst e1;cases v<;>rfl
theorem lg (prog:Program)(w:World)(i:Int)(t:Tok):(bw prog w).is (.inl i) (.int i t)=true:=qe i t
theorem lU (prog:Program)(w:World)(x:Str)(t:Tok):(bw prog w).is (.inr x) (.str x t)=true:=pG x t
inductive V where
 |non|bl (b:Bool)|int (i:Int)|str (x:Str)|byt (b:Array UInt8)|flt (b:UInt64)|ref (a:Addr)|ty (n:String)
 deriving DecidableEq
def RelV:V->Value->Prop
 | .non,u=>u=Value.none
 | .bl b,u=>u=Value.bool b
 | .int i,u=>∃t,u=Value.int i t
 | .str x,u=>∃t,u=Value.str x t
 | .byt b,u=>∃t,u=Value.bytes b t
 | .flt b,u=>∃t,u=Value.float b t
 | .ref a,u=>u=Value.ref a
 | .ty n,u=>u=Value.type n
abbrev Vals:List V->List Value->Prop:=Paired RelV
theorem Vals.length (r:Vals xs us):xs.length=us.length:=Paired.length r
theorem Vals.get:∀{xs:List V} {us:List Value} {i:Nat} {x:V},Vals xs us->xs[i]?=some x->∃u,us[i]?=some u/\RelV x u
 |_,_,_,_,.nil,e=>by simp at e
 |_,_,0,_,.cons r _,e=>by simp at e;subst e;exact⟨_,rfl,r⟩
 |_,_,i+1,x,.cons _ t,e=>by
  obtain⟨u,h1,h2⟩:=Vals.get (i:=i) (x:=x) t (by simpa using e);exact⟨u,by simpa using h1,h2⟩
theorem Vals.set {x:V}(r:RelV x u):∀{xs:List V} {us:List Value} (i:Nat),Vals xs us->Vals (xs.set i x) (us.set i u)
 |_,_,_,.nil=>.nil
 |_,_,0,.cons _ t=>.cons r t
 |_,_,i+1,.cons q t=>.cons q (Vals.set r i t)
theorem Vals.append:∀{xs ys:List V} {us ws:List Value},Vals xs us->Vals ys ws->Vals (xs++ys) (us++ws)
 |_,_,_,_,.nil,s=>s
 |_,_,_,_,.cons r t,s=>.cons r (Vals.append t s)
theorem Vals.take:∀{xs:List V} {us:List Value} (n:Nat),Vals xs us->Vals (xs.take n) (us.take n)
 |_,_,0,_=>.nil
 |_,_,_+1,.nil=>.nil
 |_,_,n+1,.cons r t=>.cons r (Vals.take n t)
theorem Vals.drop:∀{xs:List V} {us:List Value} (n:Nat),Vals xs us->Vals (xs.drop n) (us.drop n)
 |_,_,0,r=>r
 |_,_,_+1,.nil=>.nil
 |_,_,n+1,.cons _ t=>Vals.drop n t
theorem Vals.none_of:∀{xs:List V} {us:List Value} {i:Nat},Vals xs us->xs[i]?=none->us[i]?=none:=λ {xs us i} r e=>by
 have h1:=r.length;have h2:xs.length≤i:=DW.mp e;exact DW.mpr (by lia)
def RelO:Option V->Option Value->Prop
 |some v,some u=>RelV v u
 |none,none=>True
 |_,_=>False
def KV {κ:Type}:List (κ×V)->List (κ×Value)->Prop:=Paired λ(p:κ×V) (q:κ×Value)=>p.1=q.1/\RelV p.2 q.2
def kV:Key->V
 | .inl i=>.int i
 | .inr x=>.str x
inductive HO where
 |lst (xs:List V)
 |tup (xs:List V)
 |dK (kvs:List (Key×V))|dT (kvs:List (List Key×V))
 |set (S:Int->Bool) (n:Nat)
 |ins (C dx:Addr) (fs:List (Str×V))
 |own (x:Addr)
 |xd (fs:List (Str×V))
 |met (f x:Addr)
 |rng (lo hi:Int)
 |frz (o:Obj) (u:HO)
 |tbl (ps:Array Value)
 |ext (φ:Heap->Prop)
abbrev Hp:=Addr->Option HO
def upd (H:Hp)(a:Addr)(o:HO):Hp:=λ b=>if b=a then some o else H b
theorem upd_same:upd H a o a=some o:=by unfold upd;rw [zP rfl]
theorem upd_ne (h:b≠a):upd H a o b=H b:=by unfold upd;rw [zK h]
theorem uH {u:HO}:upd (upd H a o) a u=upd H a u:=by
 funext b;unfold upd;split<;>rfl
theorem ne_of {u:HO}(h:H a=some o)(h':H b=some u)(d:o≠u):a≠b:=by
 intro e;subst e;rw [h] at h';exact d (zS h')
theorem ag (h:H a=some o)(h':H b=none):a≠b:=by
 intro e;subst e;rw [h] at h';cases h'
section
variable (P : Program) (w : World)
def ObjOk (H:Hp)(h:Heap)(a:Addr):HO->Prop
 | .lst xs=>xs.length≤sizeLine/\∃(its:List Value) (n:Nat),Vals xs its/\h.get? a=some {cls:=.type "list",data:=.seq its.toArray n}
 | .tup xs=>xs.length≤sizeLine/\∃its:List Value,Vals xs its/\IsTup h a its.toArray
 | .dK kvs=>kvs.length≤sizeLine/\(a==sysModules)=false/\∃vs,KV kvs vs/\h.DictOf (bw P w) a vs
 | .dT kvs=>kvs.length≤sizeLine/\(a==sysModules)=false/\∃xs:List (List Key×Addr×Value),
   Paired (λ(p:List Key×V) (q:List Key×Addr×Value)=>p.1=q.1/\H q.2.1=some (.tup (p.1.map kV))/\RelV p.2 q.2.2) kvs xs/\
   ∃o es ep,h.get? a=some o/\o.ExactDict/\o.data=.dict es ep/\es.toList=xs.map (entryOfKey (tupleKind (bw P w)))/\(xs.map (·.1)).Nodup
 | .set S n=>h.SetOf (intKind P w) a S n
 | .ins C dx fs=>H dx=some (.own a)/\fs.length≤1000/\dx≠a/\h.get? a=some (PySem.W.instObj C dx)/\
   ∃mA,h.Ns1 dx mA/\(∀f,RelO (fs.lookup f) (mA f))/\PySem.Within mA (fs.map (·.1))
 | .own _=>∃o,h.get? a=some o
 | .xd fs=>∃mA,h.Ns1 a mA/\∀f,RelO (fs.lookup f) (mA f)
 | .rng lo hi=>∃t u v,h.get? a=some {cls:=.type "range",data:=.fields #[.int lo t,.int hi u,.int 1 v]}
 | .frz o u=>h.get? a=some o/\ObjOk H h a u
 | .tbl ps=>h.get? a=some {cls:=.none,data:=.fields ps}
 | .met f x=>h.get? a=some (PySem.W.methodObj (.ref f) (.ref x))
 | .ext φ=>φ h/\(∃o,h.get? a=some o)/\∀h1 h2:Heap,φ h1->(∀o,h1.get? a=some o->h2.get? a=some o)->φ h2
def HOk (H:Hp)(h:Heap):Prop:=∀a o,H a=some o->ObjOk P w H h a o
end
section
variable {P : Program} {w : World} {H H' : Hp} {h h' : Heap} {a : Addr} {o : HO}
theorem ObjOk.lt (x:ObjOk P w H h a o):a<h.objs.size:=by
 cases o with
 |lst xs=>obtain⟨_,_,_,_,e⟩:=x;exact zZ e
 |tup xs=>obtain⟨_,_,_,p⟩:=x;exact p.lt
 |dK kvs=>obtain⟨_,_,_,_,o,_,_,e,_⟩:=x;exact zZ e
 |dT kvs=>obtain⟨_,_,_,_,o,_,_,e,_⟩:=x;exact zZ e
 |set S n=>obtain⟨o,_,_,_,e,_⟩:=x;exact zZ e
 |ins C dx fs=>obtain⟨_,_,_,e,_⟩:=x;exact zZ e
 |own y=>obtain⟨_,e⟩:=x;exact zZ e
 |xd fs=>obtain⟨_,⟨_,_,_,e,_⟩,_⟩:=x;exact zZ e
 |rng lo hi=>obtain⟨_,_,_,e⟩:=x;exact zZ e
 |frz ob u=>obtain⟨e,_⟩:=x;exact zZ e
 |tbl ps=>exact zZ (show h.get? a=some _ from x)
 |met f y=>exact zZ (show h.get? a=some _ from x)
 |ext φ=>obtain⟨_,⟨_,e⟩,_⟩:=x;exact zZ e
theorem Paired.mapP {α β:Type}{F G:α->β->Prop}:∀{l₁:List α} {l₂:List β},Paired F l₁ l₂->(∀a b,F a b->G a b)->Paired G l₁ l₂
 |_,_,.nil,_=>.nil
 |_,_,.cons r t,f=>.cons (f _ _ r) (Paired.mapP t f)
theorem ObjOk.stay (x:ObjOk P w H h a o)(k:∀b u,(b=a\/H b=some (.own a))->h.get? b=some u->h'.get? b=some u)
  (ho:∀b,H b=some (.own a)->H' b=some (.own a)) (ht:∀b xs,H b=some (.tup xs)->H' b=some (.tup xs)):ObjOk P w H' h' a o:=by
 induction o with
 |lst xs=>obtain⟨z,its,n,r,e⟩:=x;exact⟨z,its,n,r,k _ _ (.inl rfl) e⟩
 |tup xs=>obtain⟨z,its,r,ob,e,c⟩:=x;exact⟨z,its,r,ob,k _ _ (.inl rfl) e,c⟩
 |dK kvs=>obtain⟨z,y,vs,r,ob,es,ep,e,c⟩:=x;exact⟨z,y,vs,r,ob,es,ep,k _ _ (.inl rfl) e,c⟩
 |dT kvs=>
  obtain⟨z,y,xs,r,ob,es,ep,e,c⟩:=x;exact⟨z,y,xs,Paired.mapP r λ p q z=>⟨z.1,ht _ _ z.2.1,z.2.2⟩,ob,es,ep,k _ _ (.inl rfl) e,c⟩
 |set S n=>obtain⟨ob,es,ep,t,e,c⟩:=x;exact⟨ob,es,ep,t,k _ _ (.inl rfl) e,c⟩
 |ins C dx fs=>
  obtain⟨d,z,ne,e,mA,⟨od,es,ep,e2,c⟩,r⟩:=x;exact⟨ho _ d,z,ne,k _ _ (.inl rfl) e,mA,⟨od,es,ep,k _ _ (.inr d) e2,c⟩,r⟩
 |own y=>obtain⟨ob,e⟩:=x;exact⟨ob,k _ _ (.inl rfl) e⟩
 |xd fs=>obtain⟨mA,⟨od,es,ep,e,c⟩,r⟩:=x;exact⟨mA,⟨od,es,ep,k _ _ (.inl rfl) e,c⟩,r⟩
 |rng lo hi=>obtain⟨t,u,v,e⟩:=x;exact⟨t,u,v,k _ _ (.inl rfl) e⟩
 |frz ob u ih=>obtain⟨e,q⟩:=x;exact⟨k _ _ (.inl rfl) e,ih q⟩
 |tbl ps=>
  have e:h.get? a=some {cls:=.none,data:=.fields ps}:=x;show h'.get? a=some {cls:=.none,data:=.fields ps};exact k a _ (.inl rfl) e
 |met f y=>
  have e:h.get? a=some (PySem.W.methodObj (.ref f) (.ref y)):=x;show h'.get? a=some (PySem.W.methodObj (.ref f) (.ref y));exact k a _ (.inl rfl) e
 |ext φ=>obtain⟨p,⟨o,e⟩,st⟩:=x;exact⟨st _ _ p λ o q=>k _ _ (.inl rfl) q,⟨o,k _ _ (.inl rfl) e⟩,st⟩
theorem HOk.lt (x:HOk P w H h)(e:H a=some o):a<h.objs.size:=(x a o e).lt
theorem HOk.fresh (x:HOk P w H h)(e:h.objs.size≤a):H a=none:=by
 cases q:H a with
 |none=>rfl
 |some u=>exact absurd (Am (x.lt q) e) (BX _)
theorem HOk.kept (x:HOk P w H h)(k:∀b u,h.get? b=some u->h'.get? b=some u):HOk P w H h':=λ a o e=>
 (x a o e).stay (λ b u _ q=>k b u q) (λ _ q=>q) λ _ _ q=>q
theorem HOk.laid (x:HOk P w H h)(k:∀b u,h.get? b=some u->h'.get? b=some u)(hp:h.objs.size≤a)(new:ObjOk P w (upd H a o) h' a o):HOk P w (upd H a o) h':=λ b u e=>by
 have hn:=x.fresh hp;by_cases hb:b=a
 ·subst hb;rw [upd_same] at e;cases e;exact new
 ·rw [upd_ne hb] at e;exact(x b u e).stay (λ c v _ q=>k c v q) (λ c q=>by rw [upd_ne (ag q hn)];exact q) λ c xs q=>by rw [upd_ne (ag q hn)];exact q
end
def Rd (H:Hp)(a:Addr)(u:HO):Prop:=H a=some u\/∃o,H a=some (.frz o u)
theorem Rd.of {u:HO}(h:H a=some u):Rd H a u:=.inl h
theorem Rd.ok {u:HO}(r:Rd H a u)(x:HOk P w H h):ObjOk P w H h a u:=by
 rcases r with r|⟨o,r⟩
 ·exact x a u r
 ·obtain⟨_,q⟩:=x a _ r;exact q
def Mut:Option HO->Prop
 |some (.lst _)=>True
 |some (.dK _)=>True
 |some (.dT _)=>True
 |some (.set _ _)=>True
 |some (.ins _ _ _)=>True
 |some (.ext _)=>True
 |_=>False
section
variable {P : Program} {w : World} {H : Hp} {h h' : Heap} {x e : Addr} {o' : HO}
theorem HOk.write (ok:HOk P w H h)(mu:Mut (H x))(he:e=x\/H e=some (.own x))(k:∀b u,b≠e->h.get? b=some u->h'.get? b=some u)(heo:∃u,h'.get? e=some u)
  (new:ObjOk P w (upd H x o') h' x o'):HOk P w (upd H x o') h':=λ b u q=>by
 have nown:∀c y,H c=some (.own y)->c≠x:=λ c y r z=>by subst z;rw [r] at mu;exact mu
 have ntup:∀c xs,H c=some (.tup xs)->c≠x:=λ c xs r z=>by subst z;rw [r] at mu;exact mu
 by_cases hb:b=x
 ·subst hb;rw [upd_same] at q;cases q;exact new
 ·rw [upd_ne hb] at q;by_cases hbe:b=e
  ·have q':H b=some (.own x):=by
    rcases he with z|z
    ·exact absurd (hbe.trans z) hb
    ·rw [hbe];exact z
   rw [q] at q';cases q';obtain⟨v,hv⟩:=heo;exact⟨v,by rw [hbe];exact hv⟩
  ·refine(ok b u q).stay (λ c v hc r=>k c v ?_ r) (λ c r=>by rw [upd_ne (nown c b r)];exact r) λ c xs r=>by rw [upd_ne (ntup c xs r)];exact r
   rcases hc with rfl|hc
   ·exact hbe
   ·rintro rfl;rcases he with z|z
    ·exact nown c b hc z
    ·rw [hc] at z;cases z;exact hb rfl
end
structure Un (fs ex:List Addr)(H H':Hp)(h h':Heap):Prop where
 keep:∀b o,h.get? b=some o->H b=none->b∉fs->b∉ex->h'.get? b=some o
 slot:∀b o,h.get? b=some o->H b=none->b∈fs->b∉ex->∃sl,h'.get? b=some {o with slots:=sl}
 free:∀b o,h.get? b=some o->H b=none->b∉ex->H' b=none
 there:∀b o,h.get? b=some o->b∉ex->∃o',h'.get? b=some o'
 tups:∀b xs,H b=some (.tup xs)->H' b=some (.tup xs)
 frzs:∀b o u,H b=some (.frz o u)->H' b=some (.frz o u)
 tbls:∀b ps,H b=some (.tbl ps)->∃more,H' b=some (.tbl (ps++more))
section
variable {fs fs' ex ex' : List Addr} {H H1 H2 : Hp} {h h1 h2 h' : Heap} {a x e : Addr} {o : HO}
theorem Un.any (u:Un fs ex H H1 h h1){ob:Obj}(q:h.get? b=some ob)(n:H b=none)(hx:b∉ex):∃sl,h1.get? b=some {ob with slots:=sl}:=by
 by_cases hb:b∈fs
 ·exact u.slot b ob q n hb hx
 ·exact⟨ob.slots,u.keep b ob q n hb hx⟩
theorem Un.trans (a:Un fs ex H H1 h h1)(b:Un fs ex H1 H2 h1 h2):Un fs ex H H2 h h2 where
 keep:=λ c ob q n hc hx=>b.keep c ob (a.keep c ob q n hc hx) (a.free c ob q n hx) hc hx
 slot:=λ c ob q n hc hx=>by
  obtain⟨sl,e1⟩:=a.slot c ob q n hc hx;obtain⟨sl',e2⟩:=b.slot c _ e1 (a.free c ob q n hx) hc hx;exact⟨sl',e2⟩
 free:=λ c ob q n hx=>by
  obtain⟨o',e1⟩:=a.there c ob q hx;exact b.free c o' e1 (a.free c ob q n hx) hx
 there:=λ c ob q hx=>by
  obtain⟨o',e1⟩:=a.there c ob q hx;exact b.there c o' e1 hx
 tups:=λ c xs q=>b.tups c xs (a.tups c xs q)
 frzs:=λ c ob xs q=>b.frzs c ob xs (a.frzs c ob xs q)
 tbls:=λ c ps q=>by
  obtain⟨m1,e1⟩:=a.tbls c ps q;obtain⟨m2,e2⟩:=b.tbls c _ e1;exact⟨m1++m2,by rw [e2,Array.append_assoc]⟩
theorem Un.kept (k:∀b u,h.get? b=some u->h'.get? b=some u):Un fs ex H H h h':=
 ⟨λ b ob q _ _ _=>k b ob q,λ b ob q _ _ _=>⟨ob.slots,k b ob q⟩,λ _ _ _ n _=>n,λ b ob q _=>⟨ob,k b ob q⟩,λ _ _ q=>q,λ _ _ _ q=>q,λ _ ps q=>⟨#[],by rw [q];simp⟩⟩
theorem Un.refl:Un fs ex H H h h:=Un.kept λ _ _ q=>q
theorem Un.laid (k:∀b u,h.get? b=some u->h'.get? b=some u)(hp:h.objs.size≤a)(hn:H a=none):Un fs ex H (upd H a o) h h' where
 keep:=λ b u q _ _ _=>k b u q
 slot:=λ b u q _ _ _=>⟨u.slots,k b u q⟩
 free:=λ b u q n _=>by rw [upd_ne (AE (Am (zZ q) hp))];exact n
 there:=λ b u q _=>⟨u,k b u q⟩
 tups:=λ b xs q=>by rw [upd_ne (ag q hn)];exact q
 frzs:=λ b u xs q=>by rw [upd_ne (ag q hn)];exact q
 tbls:=λ b ps q=>⟨#[],by rw [upd_ne (ag q hn),q];simp⟩
theorem Un.write (mu:Mut (H x))(he:e=x\/H e=some (.own x))(k:∀b u,b≠e->h.get? b=some u->h'.get? b=some u)(heo:∃u,h'.get? e=some u):Un fs ex H (upd H x o) h h':=by
 have hx:∀b,H b=none->b≠x:=λ b n z=>by subst z;rw [n] at mu;exact mu
 have hb:∀b,H b=none->b≠e:=λ b n z=>by
  subst z;rcases he with r|r
  ·exact hx b n r
  ·rw [n] at r;cases r
 have hm:∀b u,H b=some u->¬Mut (some u)->b≠x:=λ b u q nm z=>by subst z;rw [q] at mu;exact nm mu
 refine⟨λ b u q n _ _=>k b u (hb b n) q,λ b u q n _ _=>⟨u.slots,k b u (hb b n) q⟩,λ b u q n _=>by rw [upd_ne (hx b n)];exact n,λ b u q _=>?_,
  λ b xs q=>by rw [upd_ne (hm b _ q λ z=>z)];exact q,λ b u xs q=>by rw [upd_ne (hm b _ q λ z=>z)];exact q,λ b ps q=>⟨#[],by rw [upd_ne (hm b _ q λ z=>z),q];simp⟩⟩
 by_cases hbe:b=e
 ·subst hbe;exact heo
 ·exact⟨u,k b u hbe q⟩
theorem Un.mono (u:Un fs ex H H1 h h1)(hs:∀b∈fs,b∈fs')(hx:∀b∈ex,b∈ex'):Un fs' ex' H H1 h h1:=
 ⟨λ b ob q n hb he=>u.keep b ob q n (λ z=>hb (hs b z)) λ z=>he (hx b z),λ _ _ q n _ he=>u.any q n λ z=>he (hx _ z),λ b ob q n he=>u.free b ob q n λ z=>he (hx b z),λ b ob q he=>u.there b ob q λ z=>he (hx b z),u.tups,u.frzs,u.tbls⟩
end
def trk (h:Heap)(H:Hp):List Addr:=(List.range h.objs.size).filter λ a=>(H a).isSome
def hidT (h:Heap)(H:Hp):Heap:=PySem.W.hideAll h (trk h H)
theorem je (h:Heap)(H:Hp):(hidT h H).objs.size=h.objs.size:=PySem.W.hideAll_size _ _
theorem kn {o:Obj}(e:h.get? b=some o)(n:H b=none):(hidT h H).get? b=some o:=
 PySem.W.hideAll_get _ e λ hm=>by
  have q:(H b).isSome=true:=(By.mp hm).2;rw [n] at q;simp at q
theorem o4 {o:Obj}(e:(hidT h H).get? b=some o):h.get? b=some o/\H b=none:=by
 have e':h.get? b=some o:=PySem.W.of_hideAll (trk h H) e;refine⟨e',?_⟩;cases q:H b with
 |none=>rfl
 |some x=>
  have hm:b∈trk h H:=By.mpr ⟨BZ.mpr (zZ e'),by simp [q]⟩;have z:(hidT h H).get? b=none:=PySem.W.hideAll_none (trk h H) hm;rw [z] at e;cases e
def vS (g h:Heap)(L:Addr):List (Addr×Obj):=(List.range h.objs.size).filterMap λ a=>if a=L\/(g.get? a).isSome=true then none else(h.get? a).map λ o=>(a,o)
def rest (g h:Heap)(L d:Addr):List (Addr×Obj):=(vS g h L).filter λ p=>decide (p.1≠d)
structure Mod (K:PySem.W.Frag)(mg:Str->Option Value)(base:Heap):Prop where
 kin:K.In base
 glob:base.Ns mainGlobals mg
 blt:∃mb,base.Ns builtinsNs mb/\∀x:Str,x≠ "__name__"->mb x=bootBuiltins x
 nolimit:base.NoLimit
structure Cx where
 prog:Program
 w:World
 K:PySem.W.Frag
 mg:Str->Option Value
 base:Heap
 A:Around
 N:List Str
 s₀:Shared
 H₀:Hp
 env:Env
 outer:List Env
 stack:List Env
 ex:List Addr
 fn:Str->Bool
 calm:Bool
 pn:List (Addr×Obj)
 xe:Value->Shared->Prop
def Qt (A:Around)(H:Hp):Prop:=A.handled=none\/∃a o vs,A.handled=some (.ref a)/\H a=some (.frz o (.own a))/\o.data=.fields vs/\vs[2]?=some Value.none
def frs (l:List Env):List Addr:=l.filterMap (·.frame)
abbrev Cx.fs (X:Cx):List Addr:=frs X.outer
def Vis (sc:Scope)(x:Str):Prop:=sc.names.lookup x=some .local\/sc.names.lookup x=some .cell\/sc.names.lookup x=some .free
def Loc (sc:Scope)(x:Str):Prop:=sc.names.lookup x=some .local\/sc.names.lookup x=some .cell
def zi (env:Env)(h:Heap)(m:Str->Option Value)(x:Str)(u:Value):Prop:=
 (env.kindOf x=some .local/\m x=some u)\/((env.kindOf x=some .cell\/env.kindOf x=some .free)/\∃c,env.cells.lookup x=some c/\h.IsCell c (some u))
structure Cx.Ok (X:Cx):Prop where
 mod:Mod X.K X.mg X.base
 kind:X.env.scope.kind=.function
 glob:X.env.globals=mainGlobals
 blt:X.env.builtins=builtinsNs
 above:X.s₀.heap.objs.size≤X.env.locals
 inj:∀x y c,X.env.cells.lookup x=some c->X.env.cells.lookup y=some c->x=y
 has:∀x,(X.env.kindOf x=some .cell\/X.env.kindOf x=some .free)->∃c,X.env.cells.lookup x=some c
 cab:∀x c,X.fn x=true->X.env.cells.lookup x=some c->X.s₀.heap.objs.size≤c
 hd:Qt X.A X.H₀
 frames:X.A.frames=some X.stack
 stk:X.stack=X.outer\/(X.stack=X.env::X.outer/\X.env.frame=some X.env.locals)
 exf:∀b∈X.ex,b≠X.env.locals/\∀x c,X.env.cells.lookup x=some c->c≠b
 bs:∀b o,X.base.get? b=some o->X.s₀.heap.get? b=some o/\X.H₀ b=none
 bsz:X.base.objs.size≤X.s₀.heap.objs.size
 noex:∀b o,X.base.get? b=some o->b∉X.ex
 exfs:∀b∈X.ex,b∉X.fs
 funs:X.s₀.heap.FunFrames X.base X.outer
 frf:∀b∈X.fs,X.H₀ b=none
structure Inv (X:Cx)(pins:List (Addr×Obj))(σ:List (Option V))(H:Hp)(s:Shared):Prop where
 ok:X.Ok
 os:s.os=X.s₀.os
 bare:AllBare s.gens
 base:Un X.fs X.ex X.H₀ H X.s₀.heap s.heap
 loc:∃m,s.heap.Ns X.env.locals m/\∀(i:Nat) (x:Str) (v:V),X.N[i]?=some x->σ[i]?=some (some v)->Vis X.env.scope x->∃u,RelV v u/\zi X.env s.heap m x u
 cell:∀x c,X.env.cells.lookup x=some c->∃v,s.heap.IsCell c v
 free:H X.env.locals=none
 freeC:∀x c,X.env.cells.lookup x=some c->H c=none
 pin:∀p∈X.pn++pins,s.heap.get? p.1=some p.2/\H p.1=none/\p.1≠X.env.locals/\p.1∉X.fs/\∀v,p.2.data≠ .cell v
 hok:HOk X.prog X.w H s.heap
 len:σ.length=X.N.length
section
variable {X : Cx} {pins : List (Addr × Obj)} {σ : List (Option V)} {H H' : Hp} {s : Shared} {h' : Heap}
theorem Cx.Ok.nofr (ok:X.Ok){o:Obj}(e:X.base.get? b=some o):b∉X.fs:=λ hb=>by
 have:=(ok.funs.mem hb).1;rw [e] at this;cases this
theorem Inv.bs (I:Inv X pins σ H s):∀b o,X.base.get? b=some o->s.heap.get? b=some o/\H b=none:=λ b o e=>
 ⟨I.base.keep b o (I.ok.bs b o e).1 (I.ok.bs b o e).2 (I.ok.nofr e) (I.ok.noex b o e),I.base.free b o (I.ok.bs b o e).1 (I.ok.bs b o e).2 (I.ok.noex b o e)⟩
theorem Inv.bk (I:Inv X pins σ H s):∀b o,X.base.get? b=some o->s.heap.get? b=some o:=λ b o e=>(I.bs b o e).1
theorem Inv.mod (I:Inv X pins σ H s):Mod X.K X.mg X.base:=I.ok.mod
theorem Inv.qt (I:Inv X pins σ H s):Qt X.A H:=by
 rcases I.ok.hd with q|⟨a,o,vs,e,f,r⟩
 ·exact .inl q
 ·exact .inr ⟨a,o,vs,e,I.base.frzs _ _ _ f,r⟩
theorem Inv.hq (I:Inv X pins σ H s):QQ.Hq X.A s.heap:=by
 rcases I.qt with q|⟨a,o,vs,e,f,r⟩
 ·exact .inl q
 ·obtain⟨g,_⟩:=I.hok a _ f;exact .inr ⟨a,o,vs,e,g,r⟩
theorem Inv.kIn (I:Inv X pins σ H s):X.K.In s.heap:=I.ok.mod.kin.keeps I.bk
theorem Inv.nolimit (I:Inv X pins σ H s):s.heap.NoLimit:=I.ok.mod.nolimit.keeps I.bk
theorem Inv.lt (I:Inv X pins σ H s):X.env.locals<s.heap.objs.size:=let⟨_,hn,_⟩:=I.loc;hn.lt
theorem Inv.sz (I:Inv X pins σ H s):X.s₀.heap.objs.size≤s.heap.objs.size:=AM I.ok.above (Nat.le_of_lt I.lt)
theorem Inv.nofs (I:Inv X pins σ H s)(h:s.heap.objs.size≤a):a∉X.fs:=λ hb=>by
 obtain⟨_,o,ho,_⟩:=I.ok.funs.mem hb;exact absurd (Am (zZ ho) (AM I.sz h)) (BX _)
theorem Inv.cne (I:Inv X pins σ H s):∀x c,X.env.cells.lookup x=some c->c≠X.env.locals:=λ x c e z=>by
 obtain⟨v,o,ho,hd⟩:=I.cell x c e;obtain⟨m,⟨o',es,ep,ho',hd',_⟩,_⟩:=I.loc;rw [z,ho'] at ho;cases ho;rw [hd'] at hd;cases hd
theorem Inv.funs (I:Inv X pins σ H s):s.heap.FunFrames X.base X.outer:=by
 have all:∀(l:List Env),(∀b∈frs l,b∈X.fs)->X.s₀.heap.FunFrames X.base l->s.heap.FunFrames X.base l:=by
  intro l
  induction l with
  |nil=>intro _ _;trivial
  |cons env r ih=>
   intro hs hl;obtain⟨hk,⟨L,o,hf,hn,ho,hd⟩,hr⟩:=hl;have hL:L∈X.fs:=hs L (by unfold frs;rw [DM,hf];exact zH);obtain⟨sl,e⟩:=I.base.slot L o ho (I.ok.frf L hL) hL λ z=>I.ok.exfs L z hL
   exact⟨hk,⟨L,_,hf,hn,e,hd⟩,ih (λ b hb=>hs b (by unfold frs;rw [DM,hf];exact zC _ hb)) hr⟩
 exact all X.outer (λ _ hb=>hb) I.ok.funs
theorem Inv.stack (I:Inv X pins σ H s):s.heap.FunFrames X.base X.stack:=by
 rcases I.ok.stk with e|⟨e,hf⟩
 ·rw [e];exact I.funs
 ·rw [e];obtain⟨m,hn,_⟩:=I.loc;refine .cons (by rw [I.ok.kind];decide) hf hn ?_ I.funs;exact Heap.get?_none_of_le (AM I.ok.bsz I.ok.above)
theorem Inv.stkSub (I:Inv X pins σ H s):∀b∈frs X.stack,b∈X.env.locals::X.fs:=λ b hb=>by
 rcases I.ok.stk with e|⟨e,hf⟩
 ·rw [e] at hb;exact zC _ hb
 ·rw [e] at hb;unfold frs at hb;rw [DM,hf] at hb;exact hb
theorem Inv.stkFree (I:Inv X pins σ H s):∀b∈frs X.stack,H b=none:=λ b hb=>by
 rcases zL.mp (I.stkSub b hb) with e|hb
 ·rw [e];exact I.free
 ·obtain⟨_,o,ho,_⟩:=I.ok.funs.mem hb;exact I.base.free b o ho (I.ok.frf b hb) λ z=>I.ok.exfs b z hb
theorem Inv.step {g':Array GenState}{d':Drawn}{ch:List Addr}(I:Inv X pins σ H s)
  (hch:∀b∈ch,(b∈X.ex\/X.s₀.heap.objs.size≤b)/\b≠X.env.locals/\(∀x c,X.env.cells.lookup x=some c->c≠b)/\∀p∈X.pn++pins,p.1≠b)
  (keep:∀b o,b≠X.env.locals->b∉X.fs->b∉ch->s.heap.get? b=some o->H b=none->h'.get? b=some o)
  (slot:∀b o,b≠X.env.locals->b∈X.fs->b∉ch->s.heap.get? b=some o->H b=none->∃sl,h'.get? b=some {o with slots:=sl}) (free:∀b o,b∉ch->s.heap.get? b=some o->H b=none->H' b=none)
  (there:∀b o,b∉ch->s.heap.get? b=some o->∃o',h'.get? b=some o')
  (tups:∀b xs,H b=some (.tup xs)->H' b=some (.tup xs)) (frzs:∀b o u,H b=some (.frz o u)->H' b=some (.frz o u)) (tbls:∀b ps,H b=some (.tbl ps)->∃more,H' b=some (.tbl (ps++more)))
  (ns:∀m,s.heap.Ns X.env.locals m->h'.Ns X.env.locals m) (hok:HOk X.prog X.w H' h') (hg:AllBare g'):
  Inv X pins σ H' {s with heap:=h',gens:=g',drawn:=d',toks:=t'}:=by
 have neL:∀b o,X.s₀.heap.get? b=some o->b≠X.env.locals:=λ b o e=>AE (Am (zZ e) I.ok.above)
 have neC:∀b o,X.s₀.heap.get? b=some o->b∉X.ex->b∉ch:=λ b o e hx hb=>by
  rcases(hch b hb).1 with z|z
  ·exact hx z
  ·exact absurd (Am (zZ e) z) (BX _)
 have cellK:∀x c,X.env.cells.lookup x=some c->∀v,s.heap.IsCell c v->h'.IsCell c v:=λ x c e v ⟨o,ho,hd⟩=>by
  have nch:c∉ch:=λ z=>(hch c z).2.2.1 x c e rfl
  by_cases hc:c∈X.fs
  ·obtain⟨sl,q⟩:=slot c o (I.cne x c e) hc nch ho (I.freeC x c e);exact⟨_,q,hd⟩
  ·exact⟨o,keep c o (I.cne x c e) hc nch ho (I.freeC x c e),hd⟩
 refine⟨I.ok,I.os,hg,⟨λ b o e n hb hx=>?_,λ b o e n hb hx=>?_,λ b o e n hx=>?_,λ b o e hx=>?_,λ b xs e=>tups b xs (I.base.tups b xs e),λ b o xs e=>frzs b o xs (I.base.frzs b o xs e),λ b ps e=>?_⟩,?_,λ x c e=>?_,?_,λ x c e=>?_,λ p hp=>?_,hok,I.len⟩
 ·exact keep b o (neL b o e) hb (neC b o e hx) (I.base.keep b o e n hb hx) (I.base.free b o e n hx)
 ·obtain⟨sl,e1⟩:=I.base.slot b o e n hb hx;obtain⟨sl',e2⟩:=slot b _ (neL b o e) hb (neC b o e hx) e1 (I.base.free b o e n hx);exact⟨sl',e2⟩
 ·obtain⟨o',e1⟩:=I.base.there b o e hx;exact free b o' (neC b o e hx) e1 (I.base.free b o e n hx)
 ·obtain⟨o',e1⟩:=I.base.there b o e hx;exact there b o' (neC b o e hx) e1
 ·obtain⟨m1,e1⟩:=I.base.tbls b ps e;obtain⟨m2,e2⟩:=tbls b _ e1;exact⟨m1++m2,by rw [e2,Array.append_assoc]⟩
 ·obtain⟨m,hn,hl⟩:=I.loc;refine⟨m,ns m hn,λ i x v e1 e2 e3=>?_⟩;obtain⟨u,r,l⟩:=hl i x v e1 e2 e3;refine⟨u,r,?_⟩;rcases l with l|⟨k,c,e,z⟩
  ·exact .inl l
  ·exact .inr ⟨k,c,e,cellK x c e _ z⟩
 ·obtain⟨v,z⟩:=I.cell x c e;exact⟨v,cellK x c e v z⟩
 ·obtain⟨m,⟨o,_,_,ho,_⟩,_⟩:=I.loc;exact free _ o (λ z=>(hch _ z).2.1 rfl) ho I.free
 ·obtain⟨v,o,ho,hd⟩:=I.cell x c e;exact free c o (λ z=>(hch c z).2.2.1 x c e rfl) ho (I.freeC x c e)
 ·obtain⟨e,n,ne,nf,d⟩:=I.pin p hp;have nch:p.1∉ch:=λ z=>(hch p.1 z).2.2.2 p hp rfl
  exact⟨keep p.1 p.2 ne nf nch e n,free p.1 p.2 nch e n,ne,nf,d⟩
theorem Inv.un (I:Inv X pins σ H s)(u:Un X.fs [] H H' s.heap h')(hok:HOk X.prog X.w H' h'):Inv X pins σ H' {s with heap:=h',toks:=t'}:=by
 obtain⟨m,⟨o,es,ep,ho,r⟩,_⟩:=id I.loc;obtain⟨sl,hL⟩:=u.any ho I.free (by simp);exact I.step (g':=s.gens) (d':=s.drawn) (ch:=[]) (λ _ z=>nomatch z) (λ b o _ hb _ e n=>u.keep b o e n hb (by simp)) (λ b o _ hb _ e n=>u.slot b o e n hb (by simp)) (λ b o _ e n=>u.free b o e n (by simp)) (λ b o _ e=>u.there b o e (by simp)) u.tups u.frzs u.tbls (λ m' hm=>by
  obtain⟨o',es',ep',ho',r'⟩:=hm;rw [ho] at ho';cases ho';exact⟨_,es',ep',hL,r'⟩) hok I.bare
theorem Inv.call {g':Array GenState}{d':Drawn}{ch:List Addr}(I:Inv X pins σ H s)(u:Un (frs X.stack) ch H H' s.heap h')(hok:HOk X.prog X.w H' h')(hg:AllBare g')
  (hch:∀b∈ch,(b∈X.ex\/X.s₀.heap.objs.size≤b)/\b≠X.env.locals/\(∀x c,X.env.cells.lookup x=some c->c≠b)/\∀p∈X.pn++pins,p.1≠b):
  Inv X pins σ H' {s with heap:=h',gens:=g',drawn:=d',toks:=t'}:=by
 obtain⟨m,⟨o,es,ep,ho,r⟩,_⟩:=id I.loc;obtain⟨sl,hL⟩:=u.any ho I.free λ z=>(hch _ z).2.1 rfl
 exact I.step (ch:=ch) hch (λ b o hL hb hc e n=>u.keep b o e n (λ z=>(zL.mp (I.stkSub b z)).elim hL hb) hc) (λ b o _ _ hc e n=>u.any e n hc) (λ b o hc e n=>u.free b o e n hc) (λ b o hc e=>u.there b o e hc) u.tups u.frzs u.tbls (λ m' hm=>by
  obtain⟨o',es',ep',ho',r'⟩:=hm;rw [ho] at ho';cases ho';exact⟨_,es',ep',hL,r'⟩) hok hg
theorem Inv.turned (I:Inv X pins σ H s)(k:∀b o,b≠it->s.heap.get? b=some o->h'.get? b=some o)(hn:H it=none)(hL:it≠X.env.locals)
  (h1:it∈X.ex\/X.s₀.heap.objs.size≤it) (h2:∀x c,X.env.cells.lookup x=some c->c≠it) (h3:∀p∈X.pn++pins,p.1≠it):Inv X pins σ H {s with heap:=h',toks:=t'}:=by
 have nit:∀b u,H b=some u->b≠it:=λ b u e z=>by rw [z,hn] at e;cases e
 refine I.step (g':=s.gens) (d':=s.drawn) (ch:=[it]) (λ b hb=>?_) (λ b o _ _ hc e _=>k b o (λ z=>hc (by simp [z])) e) (λ b o _ _ hc e _=>⟨o.slots,k b o (λ z=>hc (by simp [z])) e⟩) (λ _ _ _ _ n=>n)
  (λ b o hc e=>⟨o,k b o (λ z=>hc (by simp [z])) e⟩) (λ _ _ e=>e) (λ _ _ _ e=>e) (λ b ps e=>⟨#[],by rw [e];simp⟩) (λ m hm=>?_) (λ b u e=>?_) I.bare
 ·have e:b=it:=by simpa using hb
  subst e;exact⟨h1,hL,h2,h3⟩
 ·obtain⟨o,es,ep,ho,r⟩:=hm;exact⟨o,es,ep,k _ o (DN hL) ho,r⟩
 ·refine(I.hok b u e).stay (λ c v hc q=>k c v ?_ q) (λ _ q=>q) λ _ _ q=>q
  rcases hc with z|z
  ·rw [z];exact nit b u e
  ·exact nit c _ z
theorem Inv.tok (I:Inv X pins σ H s)(t:Nat):Inv X pins σ H {s with toks:=t}:=I.un (h':=s.heap) (t':=t) Un.refl I.hok
theorem Inv.kept (I:Inv X pins σ H s)(k:∀b u,s.heap.get? b=some u->h'.get? b=some u):Inv X pins σ H {s with heap:=h',toks:=t'}:=I.un (Un.kept k) (I.hok.kept k)
theorem Inv.laid (I:Inv X pins σ H s)(k:∀b u,s.heap.get? b=some u->h'.get? b=some u)(hp:s.heap.objs.size≤a)(new:ObjOk X.prog X.w (upd H a o) h' a o):
  Inv X pins σ (upd H a o) {s with heap:=h',toks:=t'}:=I.un (Un.laid k hp (I.hok.fresh hp)) (I.hok.laid k hp new)
theorem Inv.write {x e:Addr}(I:Inv X pins σ H s)(mu:Mut (H x))(he:e=x\/H e=some (.own x))(k:∀b u,b≠e->s.heap.get? b=some u->h'.get? b=some u)(heo:∃u,h'.get? e=some u)
  (new:ObjOk X.prog X.w (upd H x o) h' x o):Inv X pins σ (upd H x o) {s with heap:=h',toks:=t'}:=I.un (Un.write mu he k heo) (I.hok.write mu he k heo new)
theorem Inv.weak {σ':List (Option V)}(I:Inv X pins σ H s)(hl:σ'.length=σ.length)(w:∀(i:Nat) v,σ'[i]?=some (some v)->σ[i]?=some (some v)):Inv X pins σ' H s:=
 ⟨I.ok,I.os,I.bare,I.base,let⟨m,hn,hl'⟩:=I.loc;⟨m,hn,λ i x v e1 e2 e3=>hl' i x v e1 (w i v e2) e3⟩,I.cell,I.free,I.freeC,I.pin,I.hok,hl.trans I.len⟩
theorem Inv.pins_of {pins':List (Addr×Obj)}(I:Inv X pins σ H s)(h:∀p∈pins',s.heap.get? p.1=some p.2/\H p.1=none/\p.1≠X.env.locals/\p.1∉X.fs/\∀v,p.2.data≠ .cell v):Inv X pins' σ H s:=
 ⟨I.ok,I.os,I.bare,I.base,I.loc,I.cell,I.free,I.freeC,λ p hp=>(zI.mp hp).elim (λ z=>I.pin p (Bh _ z)) (h p),I.hok,I.len⟩
theorem nodup_ix (hN:N.Nodup){i:Nat}(a:N[i]?=some x)(b:N[j]?=some x):i=j:=by
 obtain⟨h1,e1⟩:=zz.mp a;obtain⟨h2,e2⟩:=zz.mp b;exact(List.getElem_inj hN).mp (e1.trans e2.symm)
theorem jl {M:Model}{i:Nat}(I:Inv X pins σ H s)(hN:X.N.Nodup)(hi:X.N[i]?=some x)(hx:Loc X.env.scope x)(r:RelV v u)
  (h:∀s',Inv X pins (σ.set i (some v)) H s'->(∃a,Heap.SameBut a s.heap s'.heap/\(a=X.env.locals\/X.env.cells.lookup x=some a))->Q () s') (hf:X.fn x=true\/X.env.scope.names.lookup x=some .local:=by first|exact .inl rfl|exact .inr rfl|assumption):wpAny M A (storeName X.env x u) Q E s:=by
 obtain⟨m,hn,hl⟩:=id I.loc;have hcls:(X.env.scope.kind== .class||(X.env.scope.kind== .module&&X.env.locals !=X.env.globals))=false:=by rw [I.ok.kind];rfl
 have hiσ:i<σ.length:=by rw [I.len];exact(zz.mp hi).1
 have cne:=I.cne;have tracked:∀{a:Addr} {h':Heap},(∃o,s.heap.get? a=some o/\H a=none)->Heap.SameBut a s.heap h'->HOk X.prog X.w H h':=λ {a h'} ha hs b ob e=>by
  obtain⟨_,_,hfree⟩:=ha;refine(I.hok b ob e).stay (λ c w' hc q=>(hs.2 c ?_).trans q) (λ _ q=>q) λ _ _ q=>q
  rintro rfl;rcases hc with rfl|hc
  ·rw [hfree] at e;cases e
  ·rw [hfree] at hc;cases hc
 rcases hx with hk|hk
 ·refine wpAny_storeName_local hk hn (λ h' hn' hs=>?_) hcls;obtain⟨oL,_,_,hoL,_⟩:=id hn;refine h _ ⟨I.ok,I.os,I.bare,⟨λ b o e n hb hx=>?_,λ b o e n hb hx=>?_,I.base.free,λ b o e hx=>?_,I.base.tups,I.base.frzs,I.base.tbls⟩,⟨_,hn',λ j y v' e1 e2 e3=>?_⟩,λ y c e=>?_,I.free,I.freeC,λ p hp=>?_,tracked ⟨oL,hoL,I.free⟩ hs,by simpa using I.len⟩ ⟨_,hs,.inl rfl⟩
  ·exact(hs.2 b (AE (Am (zZ e) I.ok.above))).trans (I.base.keep b o e n hb hx)
  ·obtain⟨sl,e1⟩:=I.base.slot b o e n hb hx;exact⟨sl,(hs.2 b (AE (Am (zZ e) I.ok.above))).trans e1⟩
  ·obtain⟨o',e1⟩:=I.base.there b o e hx;exact⟨o',(hs.2 b (AE (Am (zZ e) I.ok.above))).trans e1⟩
  ·by_cases hj:j=i
   ·subst hj;rw [hi] at e1;cases e1;rw [BE hiσ] at e2;cases e2;exact⟨u,r,.inl ⟨hk,by simp⟩⟩
   ·rw [CG (DN hj)] at e2;obtain⟨u',r',q⟩:=hl j y v' e1 e2 e3;refine⟨u',r',?_⟩;rcases q with⟨k,e⟩|⟨k,c,e,z⟩
    ·refine .inl ⟨k,?_⟩;have:y≠x:=λ e=>hj (nodup_ix hN e1 (e▸hi))
     simp [this,e]
    ·exact .inr ⟨k,c,e,z.sameBut hs (cne y c e)⟩
  ·obtain⟨w',z⟩:=I.cell y c e;exact⟨w',z.sameBut hs (cne y c e)⟩
  ·obtain⟨e,n,ne,nf,d⟩:=I.pin p hp;exact⟨(hs.2 p.1 ne).trans e,n,ne,nf,d⟩
 ·have hfn:X.fn x=true:=by
   rcases hf with z|z
   ·exact z
   ·rw [z] at hk;cases hk
  obtain⟨c,hc⟩:=I.ok.has x (.inl hk);obtain⟨w',z⟩:=I.cell x c hc;refine wpAny_storeName_cell I.ok.kind hk hc z (λ h' hc' hs=>?_);obtain⟨oc,hoc,hocd⟩:=id z;refine h {s with heap:=h'} ⟨I.ok,I.os,I.bare,⟨λ b o e n hb hx=>?_,λ b o e n hb hx=>?_,I.base.free,λ b o e hx=>?_,I.base.tups,I.base.frzs,I.base.tbls⟩,⟨m,hn.sameBut hs (DN (cne x c hc)),λ j y v' e1 e2 e3=>?_⟩,λ y c' e=>?_,I.free,I.freeC,λ p hp=>?_,tracked ⟨oc,hoc,I.freeC x c hc⟩ hs,by simpa using I.len⟩ ⟨c,hs,.inr hc⟩
  ·exact(hs.2 b (AE (Am (zZ e) (I.ok.cab x c hfn hc)))).trans (I.base.keep b o e n hb hx)
  ·obtain⟨sl,e1⟩:=I.base.slot b o e n hb hx;exact⟨sl,(hs.2 b (AE (Am (zZ e) (I.ok.cab x c hfn hc)))).trans e1⟩
  ·obtain⟨o',e1⟩:=I.base.there b o e hx;exact⟨o',(hs.2 b (AE (Am (zZ e) (I.ok.cab x c hfn hc)))).trans e1⟩
  ·by_cases hj:j=i
   ·subst hj;rw [hi] at e1;cases e1;rw [BE hiσ] at e2;cases e2;exact⟨u,r,.inr ⟨.inl hk,c,hc,hc'⟩⟩
   ·rw [CG (DN hj)] at e2;obtain⟨u',r',q⟩:=hl j y v' e1 e2 e3;refine⟨u',r',?_⟩;rcases q with q|⟨k,c',e,z'⟩
    ·exact .inl q
    ·refine .inr ⟨k,c',e,z'.sameBut hs ?_⟩;rintro rfl;exact hj (nodup_ix hN e1 (I.ok.inj _ _ _ e hc▸hi))
  ·by_cases hcc:c'=c
   ·subst hcc;exact⟨_,hc'⟩
   ·obtain⟨w2,z2⟩:=I.cell y c' e;exact⟨w2,z2.sameBut hs hcc⟩
  ·obtain⟨e,n,ne,nf,d⟩:=I.pin p hp;refine⟨(hs.2 p.1 ?_).trans e,n,ne,nf,d⟩;intro q;rw [q,hoc] at e;have q':oc=p.2:=zS e;exact d w' (by rw [<-q'];exact hocd)
theorem store_ok {M:Model}{i:Nat}(I:Inv X pins σ H s)(hN:X.N.Nodup)(hi:X.N[i]?=some x)(hx:Loc X.env.scope x)(r:RelV v u)
  (h:∀s',Inv X pins (σ.set i (some v)) H s'->Q () s') (hf:X.fn x=true\/X.env.scope.names.lookup x=some .local:=by first|exact .inl rfl|exact .inr rfl|assumption):wpAny M A (storeName X.env x u) Q E s:=
 jl I hN hi hx r (λ s' I' _=>h s' I') hf
theorem Inv.call' {ch:List Addr}(I:Inv X pins σ H s)(ho:s'.os=s.os)(u:Un (frs X.stack) ch H H' s.heap s'.heap)(hok:HOk X.prog X.w H' s'.heap)(hg:AllBare s'.gens)
  (hch:∀b∈ch,(b∈X.ex\/X.s₀.heap.objs.size≤b)/\b≠X.env.locals/\(∀x c,X.env.cells.lookup x=some c->c≠b)/\∀p∈X.pn++pins,p.1≠b):Inv X pins σ H' s':=by
 obtain⟨h',g',d',t',o'⟩:=s';have e:o'=s.os:=ho;subst e;exact I.call (g':=g') (t':=t') (d':=d') u hok hg hch
end
abbrev XK:=Value->Option Addr->Hp->Prop
abbrev St:=List (Option V)
abbrev VK:=V->Hp->Prop
abbrev TE:=St->Hp->VK->Prop
abbrev TT:=St->Hp->(Bool->Hp->Prop)->Prop
abbrev TA:=St->Hp->(List V->Hp->Prop)->Prop
structure Ends where
 nx:St->Hp->Prop
 rt:VK
 bk:St->Hp->Prop:=λ _ _=>False
 ct:St->Hp->Prop:=λ _ _=>False
abbrev TS:=Ends->St->Hp->Prop
def EP (X:Cx)(pins:List (Addr×Obj))(σ:St)(Q:VK)(u:Value)(s':Shared):Prop:=∃v H',Inv X pins σ H' s'/\RelV v u/\Q v H'
def TP (X:Cx)(pins:List (Addr×Obj))(σ:St)(Q:Bool->Hp->Prop)(b:Bool)(s':Shared):Prop:=∃H',Inv X pins σ H' s'/\Q b H'
def AP (X:Cx)(pins:List (Addr×Obj))(σ:St)(Q:List V->Hp->Prop)(us:List Value)(s':Shared):Prop:=∃vs H',Inv X pins σ H' s'/\Vals vs us/\Q vs H'
def SP (X:Cx)(pins:List (Addr×Obj))(D:Ends)(f:Flow)(s':Shared):Prop:=
 match f with
 | .next=>∃σ' H',Inv X pins σ' H' s'/\D.nx σ' H'
 | .brk=>∃σ' H',Inv X pins σ' H' s'/\D.bk σ' H'
 | .cont=>∃σ' H',Inv X pins σ' H' s'/\D.ct σ' H'
 | .ret u=>∃v σ' H',Inv X pins σ' H' s'/\RelV v u/\D.rt v H'
def PE (X:Cx)(e:Expr)(t:TE):Prop:=
 ∀(pins:List (Addr×Obj)) (s:Shared) (σ:St) (H:Hp) (Q:VK),Inv X pins σ H s->t σ H Q->wpAny (model X.prog X.w) X.A (eval e X.env) (EP X pins σ Q) X.xe s
def PT (X:Cx)(e:Expr)(t:TT):Prop:=
 ∀(pins:List (Addr×Obj)) (s:Shared) (σ:St) (H:Hp) (Q:Bool->Hp->Prop),Inv X pins σ H s->t σ H Q->wpAny (model X.prog X.w) X.A (isTrue e X.env (eval e X.env)) (TP X pins σ Q) X.xe s
def PW (X:Cx)(e:Expr)(t:TT):Prop:=
 ∀(whole:Sem Value) (pins:List (Addr×Obj)) (s:Shared) (σ:St) (H:Hp) (Q:Bool->Hp->Prop),Inv X pins σ H s->t σ H Q->wpAny (model X.prog X.w) X.A (isTrue e X.env whole) (TP X pins σ Q) X.xe s
theorem PW.pt {t:TT}(h:PW X e t):PT X e t:=h _
def PA (X:Cx)(es:List Expr)(t:TA):Prop:=
 ∀(pos:Pos) (pins:List (Addr×Obj)) (s:Shared) (σ:St) (H:Hp) (Q:List V->Hp->Prop),Inv X pins σ H s->t σ H Q->wpAny (model X.prog X.w) X.A (spliced (backTo pos (starEach es X.env))) (AP X pins σ Q) X.xe s
def PS (X:Cx)(st:Stmt)(t:TS):Prop:=
 ∀(pins:List (Addr×Obj)) (s:Shared) (σ:St) (H:Hp) (D:Ends),Inv X pins σ H s->t D σ H->wpAny (model X.prog X.w) X.A (exec st X.env) (SP X pins D) X.xe s
def PSs (X:Cx)(st:List Stmt)(t:TS):Prop:=
 ∀(pins:List (Addr×Obj)) (s:Shared) (σ:St) (H:Hp) (D:Ends),Inv X pins σ H s->t D σ H->wpAny (model X.prog X.w) X.A (execs st X.env) (SP X pins D) X.xe s
theorem thn {α:Type}{t:Sem α}{Q Q':α->Shared->Prop}{M:Model}(h:wpAny M A t Q E s)(hQ:∀a s,Q a s->Q' a s):wpAny M A t Q' E s:=AX h hQ λ _ _ x=>x
section
variable {X : Cx}
def eF (i:Nat):TE:=λ σ H Q=>∃v,σ[i]?=some (some v)/\Q v H
def tC (v:V):TE:=λ _ H Q=>Q v H
theorem wF {i:Nat}{pos:Pos}(hN:X.N[i]?=some x)(hv:Vis X.env.scope x)(hd:(x==("__debug__":Str))=false:=by decide)(hcd:(x==("__classdict__":Str))=false:=by decide):PE X (.Name x pos) (eF i):=by
 intro pins s σ H Q I h;obtain⟨v,e,h⟩:=h;obtain⟨m,hn,hl⟩:=I.loc;obtain⟨u,r,l⟩:=hl i x v hN e hv;have fin:EP X pins σ Q u s:=⟨v,H,I,r,h⟩;rcases l with⟨hk,hm⟩|⟨hk,c,hc,hcell⟩
 ·exact wpAny_Name (wpAny_loadName_local I.ok.kind hk hn hm fin) hd
 ·rcases hk with hk|hk
  ·exact wpAny_Name (wpAny_loadName_cell I.ok.kind hk hc hcell fin) hd
  ·exact wpAny_Name (wpAny_loadName_free I.ok.kind hk hc hcell fin hcd) hd
theorem ae {i j pos}:PE X (.Constant (.int i) j pos) (tC (.int i)):=λ _ _ _ H _ I h=>wpAny_Constant_int ⟨.int i,H,I.tok _,⟨_,rfl⟩,h⟩
theorem dl {b j pos}:PE X (.Constant (.bool b) j pos) (tC (.bl b)):=λ _ _ _ H _ I h=>Constant_bool ⟨.bl b,H,I,rfl,h⟩
theorem jH {j pos}:PE X (.Constant .none j pos) (tC .non):=λ _ _ _ H _ I h=>Constant_none ⟨.non,H,I,rfl,h⟩
theorem io {x j pos}:PE X (.Constant (.str x) j pos) (tC (.str x)):=λ _ _ _ H _ I h=>Calls.Constant_str ⟨.str x,H,I.tok _,⟨_,rfl⟩,h⟩
def Gl (X:Cx)(x:Str):Prop:=X.env.kindOf x=some .globalImplicit
theorem ld_glob {pos:Pos}{Q:Value->Shared->Prop}(I:Inv X pins σ H s)(hg:Gl X x)(hm:X.mg x=some u)(h:Q u s)
  (hd:(x==("__debug__":Str))=false:=by decide):wpAny (model X.prog X.w) X.A (eval (.Name x pos) X.env) Q E s:=
 Calls.Name_function_global I.ok.kind hg (Calls.loadGlobal_global (by rw [I.ok.glob];exact I.mod.glob.keeps I.bk) hm h) hd
theorem ld_blt {pos:Pos}{Q:Value->Shared->Prop}(I:Inv X pins σ H s)(hg:Gl X x)(hm:X.mg x=none)(hv:bootBuiltins x=some u)(h:Q u s)
  (hn:x≠ "__name__":=by decide) (hd:(x==("__debug__":Str))=false:=by decide):wpAny (model X.prog X.w) X.A (eval (.Name x pos) X.env) Q E s:=by
 obtain⟨mb,h1,h2⟩:=I.mod.blt;exact Calls.Name_function_global I.ok.kind hg (Calls.loadGlobal_builtin (by rw [I.ok.glob];exact I.mod.glob.keeps I.bk) hm (by rw [I.ok.blt];exact h1.keeps I.bk) ((h2 x hn).trans hv) h) hd
theorem aG {pos:Pos}(hg:Gl X x)(hm:X.mg x=some u)(r:RelV v u)(hd:(x==("__debug__":Str))=false:=by decide):PE X (.Name x pos) (tC v):=
 λ _ _ _ H _ I h=>ld_glob I hg hm ⟨v,H,I,r,h⟩ hd
theorem gw {pos:Pos}(hg:Gl X x)(hm:X.mg x=none)(hv:bootBuiltins x=some u)(r:RelV v u)(hn:x≠ "__name__":=by decide)(hd:(x==("__debug__":Str))=false:=by decide):PE X (.Name x pos) (tC v):=
 λ _ _ _ H _ I h=>ld_blt I hg hm hv ⟨v,H,I,r,h⟩ hn hd
variable {a b : Expr} {ta tb : TE} {pos : Pos}
def PC (X:Cx)(op:CmpOp)(a b:Expr)(t:TE):Prop:=
 ∀(pins:List (Addr×Obj)) (s:Shared) (σ:St) (H:Hp) (Q:VK),Inv X pins σ H s->t σ H Q->
  wpAny (model X.prog X.w) X.A (eval a X.env) (λ v s₁=>wpAny (model X.prog X.w) X.A (eval b X.env) (λ u s₂=>wpAny (model X.prog X.w) X.A (compareOp op v u) (EP X pins σ Q) X.xe s₂) X.xe s₁) X.xe s
theorem rD (b:Expr){op:CmpOp}(h:op≠ .In)(h2:op≠ .NotIn):behindInMarks op b=false:=by
 have e1:(op==CmpOp.In)=false:=by cases op<;>first|rfl|exact absurd rfl h
 have e2:(op==CmpOp.NotIn)=false:=by cases op<;>first|rfl|exact absurd rfl h2
 cases b<;>simp [behindInMarks,e1,e2]
def yB (ta:TE):TE:=λ σ H Q=>ta σ H λ x H1=>Q (.bl (!decide (x=.non))) H1
theorem RelV.none_iff {x:V}{v:Value}(r:RelV x v):(v==Value.none)=decide (x=.non):=by
 cases x with
 |non=>cases r;rfl
 |bl _=>cases r;rfl
 |int _=>obtain⟨t,rfl⟩:=r;rfl
 |str _=>obtain⟨t,rfl⟩:=r;rfl
 |byt _=>obtain⟨t,rfl⟩:=r;rfl
 |flt _=>obtain⟨t,rfl⟩:=r;rfl
 |ref _=>cases r;rfl
 |ty _=>cases r;rfl
theorem vR {j pos'}(ha:PE X a ta):PC X .IsNot a (.Constant .none j pos') (yB ta):=by
 intro pins s σ H Q I h;refine thn (ha pins s σ H _ I h) λ v s1 z9=>?_
 obtain⟨x,H1,I1,r1,q1⟩:=z9;exact Constant_none (isnot_none_gen ⟨.bl _,H1,I1,by rw [r1.none_iff];rfl,q1⟩)
def tB (t:TE):TT:=λ σ H Q=>t σ H λ x H1=>∃c,x=.bl c/\Q c H1
theorem mV {op:CmpOp}{t:TE}(h:PC X op a b t)(h1:behindInMarks op b=false:=by first|exact rD _ (by decide) (by decide)|rfl):PT X (.Compare a [op] [b] pos) (tB t):=by
 intro pins s σ H Q I hw;refine wpAny_isTrue_Compare1 (thn (h pins s σ H _ I hw) λ v s1 h1=>thn h1 λ u s2 h2=>thn h2 λ c s3 z9=>?_) h1;obtain⟨x,H1,I1,r1,q1⟩:=z9;obtain⟨d,rfl,q⟩:=q1;cases r1;exact BO ⟨H1,I1,q⟩
theorem bG {t:TE}(h:PE X e t)(he:∀whole,isTrue e X.env whole=(do let v<-whole;standAt e.pos;holding [v] (truthy v)):=by intro _;rfl):PT X e (tB t):=by
  intro pins s σ H Q I hw
  refine isTrue_plain (thn (h pins s σ H _ I hw) λ v s1 z9=>?_) (he _)
  obtain⟨x,H1,I1,r1,q1⟩:=z9
  obtain⟨d,rfl,q⟩:=q1
  cases r1
  exact BO ⟨H1,I1,q⟩
variable {tA tB' : TT} {rest : List Expr}
def yR (t u:TT):TT:=λ σ H Q=>t σ H λ c H1=>if c=true then u σ H1 Q else Q false H1
def tOr (t u:TT):TT:=λ σ H Q=>t σ H λ c H1=>if c=true then Q true H1 else u σ H1 Q
def yY (t:TT):TT:=λ σ H Q=>t σ H λ c H1=>Q (!c) H1
theorem gn (ha:PT X a tA):PW X (.BoolOp .And [a] pos) tA:=by
 intro wh pins s σ H Q I h;refine isTrue_and (thn (ha pins s σ H Q I h) λ c s1 e=>?_);cases c with
 |true=>exact isTrue_and_nil e
 |false=>exact e
theorem dn (ha:PT X a tA):PW X (.BoolOp .Or [a] pos) tA:=by
 intro wh pins s σ H Q I h;refine isTrue_or (thn (ha pins s σ H Q I h) λ c s1 e=>?_);cases c with
 |false=>exact isTrue_or_nil e
 |true=>exact e
theorem f7 (ha:PT X a tA)(hb:PW X (.BoolOp .And (b::rest) pos) tB'):PW X (.BoolOp .And (a::b::rest) pos) (yR tA tB'):=by
 intro wh pins s σ H Q I h;refine isTrue_and (thn (ha pins s σ H _ I h) λ c s1 z9=>?_);obtain⟨H1,I1,q1⟩:=z9;cases c with
 |true=>exact hb wh pins s1 σ H1 Q I1 q1
 |false=>exact⟨H1,I1,q1⟩
theorem eT (ha:PT X a tA)(hb:PW X (.BoolOp .Or (b::rest) pos) tB'):PW X (.BoolOp .Or (a::b::rest) pos) (tOr tA tB'):=by
 intro wh pins s σ H Q I h;refine isTrue_or (thn (ha pins s σ H _ I h) λ c s1 z9=>?_);obtain⟨H1,I1,q1⟩:=z9;cases c with
 |true=>exact⟨H1,I1,q1⟩
 |false=>exact hb wh pins s1 σ H1 Q I1 q1
theorem bF (ha:PT X a tA):PT X (.UnaryOp .Not a pos) (yY tA):=by
 intro pins s σ H Q I h;exact isTrue_not (ha pins s σ H (λ c H1=>Q (!c) H1) I h)
def yE (ta tb:TE):TE:=λ σ H Q=>ta σ H λ x H1=>∃c,x=.bl c/\if c=true then tb σ H1 Q else Q (.bl false) H1
def yK (ta:TE):TE:=λ σ H Q=>ta σ H λ x H1=>∃c,x=.bl c/\Q (.bl (!c)) H1
theorem fF {op}{t:TE}(h:PE X a t):PE X (.BoolOp op [a] pos) t:=λ pins s σ H Q I hw=>BoolOp_one (h pins s σ H Q I hw)
theorem eC (ha:PE X a ta)(hb:PE X (.BoolOp .And (b::rest) pos) tb):PE X (.BoolOp .And (a::b::rest) pos) (yE ta tb):=by
 intro pins s σ H Q I h;refine BoolOp_and (thn (ha pins s σ H _ I h) λ v s1 z9=>?_);obtain⟨x,H1,I1,r1,q1⟩:=z9;obtain⟨c,rfl,q1⟩:=q1;cases r1;refine BO ?_;cases c with
 |true=>exact hb pins s1 σ H1 Q I1 q1
 |false=>exact⟨.bl false,H1,I1,rfl,q1⟩
theorem xD (ha:PE X a ta):PE X (.UnaryOp .Not a pos) (yK ta):=by
 intro pins s σ H Q I h;refine UnaryOp_ (thn (ha pins s σ H _ I h) λ v s1 z9=>?_);obtain⟨x,H1,I1,r1,q1⟩:=z9;obtain⟨c,rfl,q1⟩:=q1;cases r1;exact not_of (BO ⟨.bl (!c),H1,I1,rfl,q1⟩)
def tIf (t:TT)(ta tb:TE):TE:=λ σ H Q=>t σ H λ c H1=>if c=true then ta σ H1 Q else tb σ H1 Q
theorem sU (hc:PT X c tA)(ha:PE X a ta)(hb:PE X b tb):PE X (.IfExp c a b pos) (tIf tA ta tb):=by
 intro pins s σ H Q I h;refine wpAny_IfExp (thn (hc pins s σ H _ I h) λ d s1 z9=>?_);obtain⟨H1,I1,q1⟩:=z9;cases d with
 |true=>exact ha pins s1 σ H1 Q I1 q1
 |false=>exact hb pins s1 σ H1 Q I1 q1
end
def SqL (K:PySem.W.Frag)(H:Hp)(a:Addr)(xs:List V):Prop:=
 Rd H a (.lst xs)\/
  ∃(o:Obj) (its:Array Value) (n:Nat),K.lookup a=some o/\o.cls=.type "list"/\o.dict=none/\o.data=.seq its n/\its.size≤sizeLine/\Vals xs its.toList
def SqT (K:PySem.W.Frag)(H:Hp)(a:Addr)(xs:List V):Prop:=
 Rd H a (.tup xs)\/
  ∃(o:Obj) (its:Array Value) (n:Nat),K.lookup a=some o/\o.cls=.type "tuple"/\o.data=.seq its n/\its.size≤sizeLine/\Vals xs its.toList
def zk:Value->Option V
 | .none=>some .non
 | .bool b=>some (.bl b)
 | .int i _=>some (.int i)
 | .str x _=>some (.str x)
 | .bytes b _=>some (.byt b)
 | .float b _=>some (.flt b)
 | .ref a=>some (.ref a)
 | .type n=>some (.ty n)
 |_=>none
theorem RelV.abs {x:V}(r:RelV x u):zk u=some x:=by
 cases x with
 |non=>cases r;rfl
 |bl _=>cases r;rfl
 |int _=>obtain⟨t,rfl⟩:=r;rfl
 |str _=>obtain⟨t,rfl⟩:=r;rfl
 |byt _=>obtain⟨t,rfl⟩:=r;rfl
 |flt _=>obtain⟨t,rfl⟩:=r;rfl
 |ref _=>cases r;rfl
 |ty _=>cases r;rfl
theorem RelV.inj {x:V}(r:RelV x u)(q:RelV y u):x=y:=zS (r.abs.symm.trans q.abs)
theorem Vals.inj:∀{xs ys:List V} {us:List Value},Vals xs us->Vals ys us->xs=ys
 |_,_,_,.nil,.nil=>rfl
 |_,_,_,.cons r t,.cons r' t'=>by rw [r.inj r',Vals.inj t t']
section
variable {X : Cx} {pins : List (Addr × Obj)} {σ : St} {H : Hp} {s : Shared} {a : Addr} {xs ys : List V}
theorem SqL.of (h:H a=some (.lst xs)):SqL K H a xs:=.inl (.inl h)
theorem SqT.of (h:H a=some (.tup xs)):SqT K H a xs:=.inl (.inl h)
theorem Inv.list (I:Inv X pins σ H s)(h:SqL X.K H a xs):∃its:List Value,Vals xs its/\PlainL s.heap a its.toArray/\xs.length≤sizeLine:=by
 rcases h with h|⟨o,its,n,hk,hc,hd,hs,hz,r⟩
 ·obtain⟨z,its,n,r,e⟩:=h.ok I.hok;exact⟨its,r,⟨_,n,e,rfl,rfl,rfl⟩,z⟩
 ·refine⟨its.toList,r,⟨o,n,I.kIn a o hk,hc,hd,by simpa using hs⟩,?_⟩;have e:=r.length;simp only [AS] at e;lia
theorem Inv.tuple (I:Inv X pins σ H s)(h:SqT X.K H a xs):∃its:List Value,Vals xs its/\IsTup s.heap a its.toArray/\xs.length≤sizeLine:=by
 rcases h with h|⟨o,its,n,hk,hc,hs,hz,r⟩
 ·obtain⟨z,its,r,p⟩:=h.ok I.hok;exact⟨its,r,p,z⟩
 ·refine⟨its.toList,r,⟨o,I.kIn a o hk,hc,n,by simpa using hs⟩,?_⟩;have e:=r.length;simp only [AS] at e;lia
theorem Inv.list_inj (I:Inv X pins σ H s)(h:SqL X.K H a xs)(h':SqL X.K H a ys):xs=ys:=by
 obtain⟨its,r,⟨o,n,e,_,_,d⟩,_⟩:=I.list h;obtain⟨its',r',⟨o',n',e',_,_,d'⟩,_⟩:=I.list h';rw [e] at e';cases e';rw [d] at d';injection d' with d1 _
 have:its=its':=by simpa using Bk Array.toList d1
 subst this;exact r.inj r'
end
abbrev Cx.wish (X:Cx)(E:Value->Shared->Prop):Cx:={X with xe:=E}
abbrev Cx.nox (X:Cx):Cx:=X.wish λ _ _=>False
theorem Cx.Ok.wish (ok:X.Ok)(E:Value->Shared->Prop):(X.wish E).Ok:=
 ⟨ok.mod,ok.kind,ok.glob,ok.blt,ok.above,ok.inj,ok.has,ok.cab,ok.hd,ok.frames,ok.stk,ok.exf,ok.bs,ok.bsz,ok.noex,ok.exfs,ok.funs,ok.frf⟩
theorem Cx.Ok.unwish (ok:(X.wish E).Ok):X.Ok:=
 ⟨ok.mod,ok.kind,ok.glob,ok.blt,ok.above,ok.inj,ok.has,ok.cab,ok.hd,ok.frames,ok.stk,ok.exf,ok.bs,ok.bsz,ok.noex,ok.exfs,ok.funs,ok.frf⟩
section
variable {X : Cx} {pins : List (Addr × Obj)} {σ : St} {H : Hp} {s : Shared} {E : Value -> Shared -> Prop}
theorem Inv.wish (I:Inv X pins σ H s)(E:Value->Shared->Prop):Inv (X.wish E) pins σ H s:=⟨I.ok.wish E,I.os,I.bare,I.base,I.loc,I.cell,I.free,I.freeC,I.pin,I.hok,I.len⟩
theorem Inv.unwish (I:Inv (X.wish E) pins σ H s):Inv X pins σ H s:=⟨I.ok.unwish,I.os,I.bare,I.base,I.loc,I.cell,I.free,I.freeC,I.pin,I.hok,I.len⟩
theorem SP.unwish {D:Ends}{f:Flow}(h:SP (X.wish E) pins D f s'):SP X pins D f s':=by
 cases f with
 |next=>obtain⟨σ',H',I,q⟩:=h;exact⟨σ',H',I.unwish,q⟩
 |brk=>obtain⟨σ',H',I,q⟩:=h;exact⟨σ',H',I.unwish,q⟩
 |cont=>obtain⟨σ',H',I,q⟩:=h;exact⟨σ',H',I.unwish,q⟩
 |ret u=>obtain⟨v,σ',H',I,r,q⟩:=h;exact⟨v,σ',H',I.unwish,r,q⟩
theorem PE.nox {t:TE}(h:PE X.nox e t):PE X e t:=λ pins s σ H Q I hw=>
 AX (h pins s σ H Q (I.wish _) hw) (λ _ _ z9=>by obtain⟨v,H',I',r,q⟩:=z9;exact⟨v,H',I'.unwish,r,q⟩) λ _ _ z=>False.elim z
theorem PT.nox {t:TT}(h:PT X.nox e t):PT X e t:=λ pins s σ H Q I hw=>
 AX (h pins s σ H Q (I.wish _) hw) (λ _ _ ⟨H',I',q⟩=>⟨H',I'.unwish,q⟩) λ _ _ z=>False.elim z
theorem PSs.nox {st:List Stmt}{t:TS}(h:PSs X.nox st t):PSs X st t:=λ pins s σ H D I hw=>
 AX (h pins s σ H D (I.wish _) hw) (λ _ _ q=>q.unwish) λ _ _ z=>False.elim z
end
section
variable {X : Cx} {st : Stmt} {rest : List Stmt} {t u : TS} {e : Expr} {te : TE} {pos : Pos}
def yw:TS:=λ D σ H=>D.nx σ H
def yD (t u:TS):TS:=λ D σ H=>t {D with nx:=u D} σ H
theorem aC:PSs X [] yw:=λ _ _ σ H _ I h=>Df ⟨σ,H,I,h⟩
theorem ac (h1:PS X st t)(h2:PSs X rest u):PSs X (st::rest) (yD t u):=by
 intro pins s σ H D I h;refine wpAny_execs_cons (thn (h1 pins s σ H {D with nx:=u D} I h) λ f s1 q=>?_);cases f with
 |next=>
  obtain⟨σ',H',I',q⟩:=q;exact h2 pins s1 σ' H' D I' q
 |ret v=>exact q
 |brk=>exact q
 |cont=>exact q
theorem af (h1:PS X st t):PSs X [st] t:=by
 intro pins s σ H D I h;refine wpAny_execs_cons (thn (h1 pins s σ H D I h) λ f s1 q=>?_);cases f with
 |next=>exact Df q
 |ret v=>exact q
 |brk=>exact q
 |cont=>exact q
def xE:TS:=λ D σ H=>D.bk σ H
theorem sE:PS X (.Break pos) xE:=λ _ _ σ H _ I h=>wpAny_Break ⟨σ,H,I,h⟩
theorem Inv.quiet (I:Inv X pins σ H s):interactive X.env=false:=by simp [interactive,I.ok.kind]
def xV (te:TE):TS:=λ D σ H=>te σ H λ _ H1=>D.nx σ H1
theorem aA (he:PE X e te)(hs:swapsWith e none pos.line X.env=pure false:=by rfl):PS X (.Expr e pos) (xV te):=by
 intro pins s σ H D I h;exact wpAny_Expr_any (thn (he pins s σ H _ I h) λ v s1 ⟨x,H1,I1,r1,q1⟩=>⟨σ,H1,I1,q1⟩) I.quiet hs
def y4 (te:TE):TS:=λ D σ H=>te σ H D.rt
theorem az (he:PE X e te):PS X (.Return (some e) pos) (y4 te):=by
 intro pins s σ H D I h;exact wpAny_Return_some (thn (he pins s σ H _ I h) λ v s1 ⟨x,H1,I1,r1,q1⟩=>⟨x,σ,H1,I1,r1,q1⟩)
def ze (c:TT)(t u:TS):TS:=λ D σ H=>c σ H λ b H1=>if b=true then t D σ H1 else u D σ H1
theorem aK {a b:List Stmt}(hc:PT X c tc)(ha:PSs X a t)(hb:PSs X b u):PS X (.If c a b pos) (ze tc t u):=by
 intro pins s σ H D I h;refine wpAny_If (thn (hc pins s σ H _ I h) λ d s1 z9=>?_);obtain⟨H1,I1,q1⟩:=z9;cases d with
 |true=>exact ha pins s1 σ H1 D I1 q1
 |false=>exact hb pins s1 σ H1 D I1 q1
def tx:TS:=λ _ _ _=>False
theorem aS:PS X st tx:=λ _ _ _ _ _ _ h=>h.elim
theorem pL {sts:List Stmt}:PSs X sts tx:=λ _ _ _ _ _ _ h=>h.elim
end
abbrev TG:=V->St->Hp->(St->Hp->Prop)->Prop
abbrev TGs:=List V->St->Hp->(St->Hp->Prop)->Prop
def PG (X:Cx)(target:Expr)(t:TG):Prop:=
 ∀(pins:List (Addr×Obj)) (s:Shared) (σ:St) (H:Hp) (v:V) (u:Value) (Q:St->Hp->Prop),Inv X pins σ H s->RelV v u->t v σ H Q->
  wpAny (model X.prog X.w) X.A (assign target X.env u) (λ _ s'=>∃σ' H',Inv X pins σ' H' s'/\Q σ' H') X.xe s
def PGs (X:Cx)(ts:List Expr)(t:TGs):Prop:=
 ∀(pins:List (Addr×Obj)) (s:Shared) (σ:St) (H:Hp) (vs:List V) (us:List Value) (Q:St->Hp->Prop),Inv X pins σ H s->Vals vs us->t vs σ H Q->
  wpAny (model X.prog X.w) X.A (assignInOrder ((assignEach ts X.env).map (·.2)) us) (λ _ s'=>∃σ' H',Inv X pins σ' H' s'/\Q σ' H') X.xe s
abbrev wD:=V->V->V->Hp->(Hp->Prop)->Prop
def yF (X:Cx)(t:wD):Prop:=
 ∀(pins:List (Addr×Obj)) (s:Shared) (σ:St) (H:Hp) (o i v:V) (ov iv u:Value) (Q:Hp->Prop),Inv X pins σ H s->RelV o ov->RelV i iv->RelV v u->t o i v H Q->
  wpAny (model X.prog X.w) X.A (setItem ov iv u) (λ _ s'=>∃H',Inv X pins σ H' s'/\Q H') X.xe s
section
variable {X : Cx} {pos : Pos}
def bf (i:Nat):TG:=λ v σ H Q=>Q (σ.set i (some v)) H
theorem aH {i:Nat}(hN:X.N.Nodup)(hi:X.N[i]?=some x)(hx:Loc X.env.scope x)(hf:X.fn x=true\/X.env.scope.names.lookup x=some .local:=by first|exact .inl rfl|exact .inr rfl|assumption):PG X (.Name x pos) (bf i):=by
 intro pins s σ H v u Q I r h;exact wpAny_assign_Name (store_ok I hN hi hx r (λ s' I'=>⟨_,H,I',h⟩) hf)
def wX:TGs:=λ vs σ H Q=>vs=[]/\Q σ H
def j8 (t:TG)(u:TGs):TGs:=λ vs σ H Q=>∃v r,vs=v::r/\t v σ H λ σ' H'=>u r σ' H' Q
theorem eN:PGs X [] wX:=by
 intro pins s σ H vs us Q I r h;obtain⟨e,h⟩:=h;subst e;cases r;exact assignInOrder_nil ⟨σ,H,I,h⟩
theorem bA {t:TG}{u:TGs}(h1:PG X e t)(h2:PGs X es u)
  (hs:(assignEach (e::es) X.env).map (·.2)=assign e X.env::(assignEach es X.env).map (·.2):=by rfl):PGs X (e::es) (j8 t u):=by
 intro pins s σ H vs us Q I r h;obtain⟨v,vr,e1,h⟩:=h;subst e1;cases r with
 |cons r rr=>
  rw [hs];refine assignInOrder_cons (thn (h1 pins s σ H _ _ _ I r h) λ _ s1 z9=>?_);obtain⟨σ1,H1,I1,q1⟩:=z9;exact h2 pins s1 σ1 H1 _ _ Q I1 rr q1
def xr (K:PySem.W.Frag)(n:Nat)(t:TGs):TG:=λ v σ H Q=>∃a xs,v=.ref a/\SqT K H a xs/\xs.length=n/\t xs σ H Q
theorem iE {k:Nat}{t:TGs}(hc:X.calm=true)(h:PGs X es t)
  (hn:(assignEach es X.env).length=n:=by rfl) (hst:(assignEach es X.env).findIdx? (·.1)=none:=by rfl):PG X (.Tuple es k pos) (xr X.K n t):=by
 intro pins s σ H v u Q I r hw;obtain⟨a,xs,e1,hq,hl,hw⟩:=hw;subst e1;cases r;obtain⟨its,rv,ht,hz⟩:=I.tuple hq;refine QQ.assign_Tuple_q I.hq ht (by simp [hn,<-hl,rv.length]) hst λ h' hx=>?_
 have I1:Inv X pins σ H {s with heap:=h'}:=I.kept (t':=s.toks) λ b o e=>hx b o (AE (zZ e)) e
 exact h pins _ σ H xs _ Q I1 (by simpa using rv) hw
def gSub (to ti:TE)(t:wD):TG:=λ v σ H Q=>to σ H λ o H1=>ti σ H1 λ i H2=>t o i v H2 λ H3=>Q σ H3
theorem mP {o i:Expr}{to ti:TE}{t:wD}(ho:PE X o to)(hi:PE X i ti)(hs:yF X t)
    (ha:∀v,assign (.Subscript o i pos) X.env v=(do
      let ov<-holding [v] (eval o X.env)
      let iv<-holding [v,ov] (eval i X.env)
      standAt pos
      holding [v,ov,iv] (setItem ov iv v)
      release [v,ov,iv] []):=by intro _;rfl):PG X (.Subscript o i pos) (gSub to ti t):=by
  intro pins s σ H v u Q I r h
  rw [ha]
  refine zx (Bf (thn (ho pins s σ H _ I h) λ ov s1 z9=>?_))
  obtain⟨x,H1,I1,r1,q1⟩:=z9
  refine zx (Bf (thn (hi pins s1 σ H1 _ I1 q1) λ iv s2 z9=>?_))
  obtain⟨y,H2,I2,r2,q2⟩:=z9
  refine zx (wpAny_standAt (zx (Bf (thn (hs pins s2 σ H2 x y v ov iv u _ I2 r1 r2 r q2) λ _ s3 z9=>?_))))
  obtain⟨H3,I3,q3⟩:=z9
  exact wpAny_release ⟨σ,H3,I3,q3⟩
def yG (te:TE)(g:TG):TS:=λ D σ H=>te σ H λ x H1=>g x σ H1 D.nx
theorem jU {g:TG}(he:PE X e te)(hg:PG X tg g)(hs:swapsWithSole [tg] e pos.line X.env=pure false:=by rfl)(hw:swappedStores [tg] e X.env=pure none:=by rfl)
  (h1:(assignEach [tg] X.env).map (·.2)=[assign tg X.env]:=by rfl):PS X (.Assign [tg] e pos) (yG te g):=by
 intro pins s σ H D I h;refine wpAny_Assign_stores (thn (he pins s σ H _ I h) λ v s1 z9=>?_) hs hw;obtain⟨x,H1,I1,r1,q1⟩:=z9;rw [h1];exact thn (hg pins s1 σ H1 x v _ I1 r1 q1) λ _ s2 q=>q
theorem ak {i:Nat}{pos':Pos}(hN:X.N.Nodup)(hi:X.N[i]?=some x)(hx:Loc X.env.scope x)(he:PE X e te)(hs:swapsWith e (some (.Name x pos')) pos.line X.env=pure false:=by rfl)(hf:X.fn x=true\/X.env.scope.names.lookup x=some .local:=by first|exact .inl rfl|exact .inr rfl|assumption):
  PS X (.Assign [.Name x pos'] e pos) (yG te (bf i)):=by
 intro pins s σ H D I h;refine wpAny_Assign_Name (thn (he pins s σ H _ I h) λ v s1 z9=>?_) hs;obtain⟨y,H1,I1,r1,q1⟩:=z9;exact store_ok I1 hN hi hx r1 (λ s2 I2=>⟨_,H1,I2,q1⟩) hf
def xC (c:TT)(tb:TS):TS:=λ D σ H=>∃W:Nat->St->Hp->Prop,(∃m,W m σ H)/\∀m σ H,W m σ H->
 c σ H λ b H1=>if b=true then∃N:St->Hp->Prop,(∀σ' H',N σ' H'->∃m',m'<m/\W m' σ' H')/\tb {D with nx:=N,ct:=N,bk:=D.nx} σ H1 else D.nx σ H1
theorem bE (hp:PassesOwn (model X.prog X.w) X.A X.env X.xe)(hc:PT X c tc)(hb:PSs X body tb):PS X (.While c body [] pos) (xC tc tb):=by
 intro pins s σ H D I h;obtain⟨W,⟨m0,w0⟩,turn⟩:=h;refine wpAny_While (codeAny_whileLoop (λ n s'=>∃σ' H',Inv X pins σ' H' s'/\W n σ' H') ?_ m0 ⟨σ,H,I,w0⟩);rintro n s1 ⟨σ1,H1,I1,w1⟩;refine B7 hp (thn (hc pins s1 σ1 H1 _ I1 (turn n σ1 H1 w1)) λ b s2 z9=>?_);obtain⟨H2,I2,q2⟩:=z9;cases b with
 |true=>
  obtain⟨N,hN,q2⟩:=q2;rw [zP rfl];refine B7 hp (thn (hb pins s2 σ1 H2 _ I2 q2) λ f s3 q3=>?_);cases f with
  |next=>
   obtain⟨σ3,H3,I3,n3⟩:=q3;obtain⟨m',hm,w3⟩:=hN σ3 H3 n3;exact⟨m',hm,σ3,H3,I3,w3⟩
  |cont=>
   obtain⟨σ3,H3,I3,n3⟩:=q3;obtain⟨m',hm,w3⟩:=hN σ3 H3 n3;exact⟨m',hm,σ3,H3,I3,w3⟩
  |brk=>exact q3
  |ret v=>exact q3
 |false=>
  rw [zK zN];exact Df ⟨σ1,H2,I2,q2⟩
end
structure It where
 go:Nat->Hp->Prop
 yld:Nat->Hp->V->Hp->Prop
 stop:Nat->Hp->Prop
def FpOk (X:Cx)(pins:List (Addr×Obj))(H:Hp)(b:Addr):Prop:=
 H b=none/\b≠X.env.locals/\b∉X.fs/\(b∈X.ex\/X.s₀.heap.objs.size≤b)/\(∀x c,X.env.cells.lookup x=some c->c≠b)/\∀p∈X.pn++pins,p.1≠b
theorem Inv.fpOk {H':Hp}(I:Inv X pins σ H s)(hb:s.heap.objs.size≤b)(hn:H' b=none):FpOk X pins H' b:=by
 refine⟨hn,Nat.ne_of_gt (Am I.lt hb),I.nofs hb,.inr (AM I.sz hb),λ x c e z=>?_,λ p hp z=>?_⟩
 ·obtain⟨v,q⟩:=I.cell x c e;exact absurd (Am q.lt (by rw [z];exact hb)) (BX _)
 ·exact absurd (Am (zZ (I.pin p hp).1) (by rw [z];exact hb)) (BX _)
structure Turn (P:Program)(w:World)(K:PySem.W.Frag)(tg:Expr)(J:It)(fp:List Addr)(it:Addr)(tn:Nat->Heap->Prop):Prop where
 mem:it∈fp
 obj:∀i h,tn i h->∀b∈fp,∃o,h.get? b=some o/\∀v,o.data≠ .cell v
 keep:∀i h h',tn i h->(∀b∈fp,∀o,h.get? b=some o->h'.get? b=some o)->tn i h'
 item:∀(X:Cx),X.prog=P->X.w=w->X.K=K->X.calm=true->∀(i:Nat) (pins:List (Addr×Obj)) (s:Shared) (σ:St) (H:Hp) (E:Value->Shared->Prop),Inv X pins σ H s->(∀b∈fp,FpOk X pins H b)->tn i s.heap->J.go i H->
  wpAny (model P w) X.A (pyNext (.ref it)) (λ r s1=>∃u,r=some u/\
   wpAny (model P w) X.A (letOwnedTupleGo tg (.ref it) u) (λ _ s2=>∃x H',Inv X pins σ H' s2/\RelV x u/\J.yld i H x H'/\tn (i+1) s2.heap/\∀b∈fp,H' b=none) E s1) E s
 done:∀(X:Cx),X.prog=P->X.w=w->X.K=K->X.calm=true->∀(i:Nat) (pins:List (Addr×Obj)) (s:Shared) (σ:St) (H:Hp) (E:Value->Shared->Prop),Inv X pins σ H s->(∀b∈fp,FpOk X pins H b)->tn i s.heap->J.stop i H->
  wpAny (model P w) X.A (pyNext (.ref it)) (λ r s1=>r=none/\Inv X pins σ H s1) E s
 self:∀(A:Around) (i:Nat) (s:Shared) (Q:Value->Shared->Prop) (E:Value->Shared->Prop),tn i s.heap->Q (.ref it) s->wpAny (model P w) A (pyIter (.ref it)) Q E s
abbrev TI:=St->Hp->(It->Hp->Prop)->Prop
def PIE (X:Cx)(pins:List (Addr×Obj))(σ:St)(tg:Expr)(R:It->Hp->Prop)(itv:Value)(s2:Shared):Prop:=
 ∃(it:Addr) (fp:List Addr) (tn:Nat->Heap->Prop) (J:It) (H':Hp),itv=.ref it/\Inv X pins σ H' s2/\Turn X.prog X.w X.K tg J fp it tn/\tn 0 s2.heap/\(∀b∈fp,FpOk X pins H' b)/\R J H'
def PI (X:Cx)(tg iter:Expr)(wi:TI):Prop:=
 ∀(pins:List (Addr×Obj)) (s:Shared) (σ:St) (H:Hp) (R:It->Hp->Prop),Inv X pins σ H s->wi σ H R->
  wpAny (model X.prog X.w) X.A (eval iter X.env) (λ v s1=>wpAny (model X.prog X.w) X.A (pyIter v) (PIE X pins σ tg R) X.xe s1) X.xe s
theorem qJ {M:Model}{o:Obj}{n:String}{vs:Array Value}(ho:s.heap.get? it=some o)(hc:o.cls=.type n)(hd:o.data=.fields vs)
  (hn: ["enumerate","zip","dict_itemiterator","dict_reverseitemiterator","odict_iterator","itertools.zip_longest","itertools.pairwise"].contains n=false) (hQ:Q () s):wpAny M A (letOwnedTupleGo tg (.ref it) u) Q E s:=by
 unfold letOwnedTupleGo;cases tg<;>first
  |exact Ai hQ
  |(cases u<;>first
    |exact Ai hQ
    |(refine zx (wpAny_load ho ?_)
      rw [hc,hd];show wpAny M A (if(["enumerate","zip","dict_itemiterator","dict_reverseitemiterator","odict_iterator","itertools.zip_longest","itertools.pairwise"].contains n&&vs[0]?==some (rawInt _))=true then _ else _) Q E s;rw [zK (by intro h;rw [hn,Ee] at h;cases h)];exact Ai hQ))
def Itl (K:PySem.W.Frag)(a:Addr):It:=
 ⟨λ i H=>∃xs x,SqL K H a xs/\xs[i]?=some x,λ i H x H'=>H'=H/\∀xs,SqL K H a xs->xs[i]?=some x,λ i H=>∃xs,SqL K H a xs/\xs.length≤i⟩
def Itr (lo:Int)(n:Nat):It:=⟨λ i _=>i<n,λ i H x H'=>H'=H/\x=.int (lo+i),λ i _=>n≤i⟩
theorem pY (a it:Addr):Turn P w K tg (Itl K a) [it] it (λ i h=>h.IsListIter it a i) where
 mem:=by simp
 obj:=λ i h st b hb=>by
  have e:b=it:=by simpa using hb
  subst e;obtain⟨o,e,c,d⟩:=st;exact⟨o,e,λ v z=>by rw [d] at z;cases z⟩
 keep:=λ i h h' st k=>st.at λ o e=>k it (by simp) o e
 item:=by
  intro X hP hw hK hc i pins s σ H E I hf st hg;subst hP hw hK;obtain⟨xs,x,hq,hx⟩:=hg;obtain⟨its,rv,p,hz⟩:=I.list hq;obtain⟨u,hu,ru⟩:=rv.get hx;obtain⟨f0,f1,f2,f3,f4,f5⟩:=hf it (by simp);refine wpAny_pyNext_list_item st p.isList (x:=u) (by simpa using hu) λ h' st' sb=>?_
  have I1:Inv X pins σ H {s with heap:=h'}:=I.turned (t':=s.toks) (λ b o hb e=>(sb.2 b hb).trans e) f0 f1 f3 f4 f5;obtain⟨o,e,c,d⟩:=id st';exact⟨u,rfl,qJ (s:={s with heap:=h'}) e c d (by decide) ⟨x,H,I1,ru,⟨rfl,λ ys hy=>by rw [I.list_inj hy hq];exact hx⟩,st',λ b hb=>(hf b hb).1⟩⟩
 done:=by
  intro X hP hw hK hc i pins s σ H E I hf st hg;subst hP hw hK;obtain⟨xs,hq,hx⟩:=hg;obtain⟨its,rv,p,hz⟩:=I.list hq;obtain⟨f0,f1,f2,f3,f4,f5⟩:=hf it (by simp);have hl:=rv.length;exact QQ.list_end_q I.hq st p.isList (by simp;lia) λ h' eb=>⟨rfl,I.turned (t':=s.toks) (λ b o hb e=>eb b o hb e) f0 f1 f3 f4 f5⟩
 self:=λ _ _ _ _ _ st h=>wpAny_pyIter_listiter st h
theorem mr (it:Addr)(lo:Int)(n:Nat):Turn P w K tg (Itr lo n) [it] it (λ i h=>IsRangeIter h it (lo+(i:Nat)*1) ((n:Int)-(i:Nat)) 1) where
 mem:=by simp
 obj:=λ i h st b hb=>by
  have e:b=it:=by simpa using hb
  subst e;exact⟨_,st,λ v z=>by
   have z':Data.fields _=Data.cell v:=z;cases z'⟩
 keep:=λ i h h' st k=>k it (by simp) _ st
 item:=by
  intro X hP hw hK hc i pins s σ H E I hf st hg;subst hP hw hK;obtain⟨f0,f1,f2,f3,f4,f5⟩:=hf it (by simp);refine wpAny_pyNext_range_item st (by have:i<n:=hg;lia) λ h' st1 sb=>?_
  have st':IsRangeIter h' it (lo+((i+1:Nat):Int)*1) ((n:Int)-((i+1:Nat):Int)) 1:=by
   have e1:lo+((i+1:Nat):Int)*1=lo+(i:Int)*1+1:=by lia
   have e2:(n:Int)-((i+1:Nat):Int)=(n:Int)-(i:Int)-1:=by lia
   rw [e1,e2];exact st1
  have I1:Inv X pins σ H {s with heap:=h',toks:=s.toks+1}:=I.turned (λ b o hb e=>sb.extBut b o hb e) f0 f1 f3 f4 f5;refine⟨_,rfl,qJ (s:={s with heap:=h',toks:=s.toks+1}) (n:="range_iterator") st' rfl rfl (by decide) ⟨.int (lo+i),H,I1,⟨s.toks,?_⟩,⟨rfl,rfl⟩,st',λ b hb=>(hf b hb).1⟩⟩;rw [Int.mul_one]
 done:=by
  intro X hP hw hK hc i pins s σ H E I hf st hg;subst hP hw hK;obtain⟨f0,f1,f2,f3,f4,f5⟩:=hf it (by simp);exact QQ.range_end_q I.hq st (by have:n≤i:=hg;lia) λ h' eb=>⟨rfl,I.turned (t':=s.toks) (λ b o hb e=>eb b o hb e) f0 f1 f3 f4 f5⟩
 self:=λ _ _ _ _ _ st h=>wpAny_pyIter_rangeiter st h
section
variable {X : Cx} {tg : Expr}
def yL (K:PySem.W.Frag)(tl:TE):TI:=λ σ H R=>tl σ H λ x H1=>∃a,x=.ref a/\(∃xs,SqL K H1 a xs)/\R (Itl K a) H1
theorem bu {l:Expr}{tl:TE}(hl:PE X l tl):PI X tg l (yL X.K tl):=by
 intro pins s σ H R I h;refine thn (hl pins s σ H _ I h) λ v s1 z9=>?_
 obtain⟨x,H1,I1,r1,q1⟩:=z9;obtain⟨a,e,⟨xs,hq⟩,q⟩:=q1;subst e;cases r1;obtain⟨its,rv,p,hz⟩:=I1.list hq;refine wpAny_pyIter_list p.isList ?_;refine⟨s1.heap.objs.size,[s1.heap.objs.size],_,_,H1,rfl,I1.kept (t':=s1.toks) λ b o e=>zB _ e,pY a _,⟨_,Ak _ rfl,rfl,rfl⟩,λ b hb=>?_,q⟩;have e:b=s1.heap.objs.size:=by simpa using hb
 subst e;exact I1.fpOk (zy _) (I1.hok.fresh (zy _))
theorem kR {R:It->Hp->Prop}{hi:Int}{t u v:Tok}{tk:Nat}(I:Inv X pins σ H s)(h1:-(2^62)≤lo)(h2:lo<2^62)(h3:-(2^62)≤hi)(h4:hi<2^62)
  (q:R (Itr lo (hi-lo).toNat) H):wpAny (model X.prog X.w) X.A (pyIter (.ref s.heap.objs.size)) (PIE X pins σ tg R) E {s with heap:=s.heap.push {cls:=.type "range",data:=.fields #[.int lo t,.int hi u,.int 1 v]},toks:=tk}:=by
 refine wpAny_pyIter_range (IsRange.new ..) (small_one h1 h2 h3 h4) ?_;have I1:Inv X pins σ H {s with heap:=s.heap.push {cls:=.type "range",data:=.fields #[.int lo t,.int hi u,.int 1 v]},toks:=tk}:=I.kept λ b o e=>zB _ e
 refine⟨(s.heap.push {cls:=.type "range",data:=.fields #[.int lo t,.int hi u,.int 1 v]}).objs.size,[(s.heap.push {cls:=.type "range",data:=.fields #[.int lo t,.int hi u,.int 1 v]}).objs.size],_,_,H,rfl,
  I1.kept (t':=tk) λ b o e=>zB _ e,mr _ lo (hi-lo).toNat,?_,λ b hb=>?_,q⟩
 ·have e1:lo+((0:Nat):Int)*1=lo:=by simp
  have e2:(((hi-lo).toNat:Nat):Int)-((0:Nat):Int)=Builtin.Range.rangeSize lo hi 1:=by rw [rangeSize_one];split<;>lia
  show IsRangeIter _ _ (lo+((0:Nat):Int)*1) ((((hi-lo).toNat:Nat):Int)-((0:Nat):Int)) 1;rw [e1,e2];exact Ak _ rfl
 ·have e:b=(s.heap.push {cls:=.type "range",data:=.fields #[.int lo t,.int hi u,.int 1 v]}).objs.size:=by simpa using hb
  subst e;exact I1.fpOk (zy _) (I1.hok.fresh (zy _))
def yv (ta:TA):TI:=λ σ H R=>ta σ H λ vs H1=>∃j:Int,vs=[.int j]/\-(2^62)≤j/\j<2^62/\R (Itr 0 j.toNat) H1
def yb (ta:TA):TI:=λ σ H R=>ta σ H λ vs H1=>∃i j:Int,vs=[.int i,.int j]/\(-(2^62)≤i/\i<2^62/\-(2^62)≤j/\j<2^62)/\R (Itr i (j-i).toNat) H1
theorem bq {a:Expr}{pos:Pos}(hg:Gl X "range")(hm:X.mg "range"=none)(ha:PA X [a] ta)(hs:starEach [a] X.env=[(false,eval a X.env)]:=by rfl):PI X tg (.Call (.Name "range" p) [a] [] pos) (yv ta):=by
 intro pins s σ H R I h;refine Call_ (ld_blt I hg hm boot_range (Bz (thn (ha pos pins s σ H _ I h) λ us s1 z9=>?_) hs rfl));obtain⟨vs,H1,I1,r1,q1⟩:=z9;obtain⟨j,e,q1,q2,q⟩:=q1;subst e;cases r1 with
 |cons r rr=>
  cases rr;obtain⟨t,rfl⟩:=r;exact call_range_1 (kR I1 (by lia) (by lia) q1 q2 (by simpa using q))
theorem fZ {a b:Expr}{pos:Pos}(hg:Gl X "range")(hm:X.mg "range"=none)(ha:PA X [a,b] ta)(hs:starEach [a,b] X.env=[(false,eval a X.env),(false,eval b X.env)]:=by rfl)(hs2:starEach [b] X.env=[(false,eval b X.env)]:=by rfl):
  PI X tg (.Call (.Name "range" p) [a,b] [] pos) (yb ta):=by
 intro pins s σ H R I h;refine Call_ (ld_blt I hg hm boot_range (Bz (thn (ha pos pins s σ H _ I h) λ us s1 z9=>?_) (by rw [hs,hs2]) (by rw [hs2];rfl)));obtain⟨vs,H1,I1,r1,q1⟩:=z9;obtain⟨i,j,e,⟨q1,q2,q3,q4⟩,q⟩:=q1;subst e;cases r1 with
 |cons r rr=>
  cases rr with
  |cons r' rr=>
   cases rr;obtain⟨t,rfl⟩:=r;obtain⟨t',rfl⟩:=r';exact call_range_2 (kR I1 q1 q2 q3 q4 q)
def tFor (wi:TI)(g:TG)(tb:TS):TS:=λ D σ H=>wi σ H λ J H1=>∃W:Nat->Nat->St->Hp->Prop,(∃m,W 0 m σ H1)/\∀i m σ H,W i m σ H->
 (J.stop i H/\D.nx σ H)\/(J.go i H/\∃N:St->Hp->Prop,(∀σ' H',N σ' H'->∃m',m'<m/\W (i+1) m' σ' H')/\∀x H',J.yld i H x H'->g x σ H' λ σ2 H2=>tb {D with nx:=N,ct:=N,bk:=D.nx} σ2 H2)
def j6 (fp:List Addr)(h:Heap):List (Addr×Obj):=fp.filterMap λ b=>(h.get? b).map λ o=>(b,o)
theorem a8 {o:Obj}(hb:b∈fp)(e:h.get? b=some o):(b,o)∈j6 fp h:=List.mem_filterMap.mpr ⟨b,hb,by rw [e];rfl⟩
theorem qa {p:Addr×Obj}(hp:p∈j6 fp h):p.1∈fp/\h.get? p.1=some p.2:=by
 obtain⟨b,hb,e⟩:=List.mem_filterMap.mp hp;cases q:h.get? b with
 |none=>rw [q] at e;cases e
 |some o=>
  rw [q] at e;have e':(b,o)=p:=zS e;subst e';exact⟨hb,q⟩
theorem Inv.pinned (I:Inv X pins σ H s)(hf:∀b∈fp,FpOk X pins H b)(ho:∀b∈fp,∃o,s.heap.get? b=some o/\∀v,o.data≠ .cell v):Inv X (pins++j6 fp s.heap) σ H s:=
 I.pins_of λ p hp=>(zI.mp hp).elim (λ z=>I.pin p (zJ _ z)) λ z=>by
  obtain⟨hb,e⟩:=qa z;obtain⟨f0,f1,f2,_⟩:=hf p.1 hb;obtain⟨o,e',d⟩:=ho p.1 hb;rw [e] at e';cases e';exact⟨e,f0,f1,f2,d⟩
theorem Inv.unpinned {pl:List (Addr×Obj)}(I:Inv X (pins++pl) σ H s):Inv X pins σ H s:=I.pins_of λ p hp=>I.pin p (zJ _ (Bh _ hp))
theorem bd {iter:Expr}{wi:TI}{g:TG}{pos:Pos}(hp:PassesOwn (model X.prog X.w) X.A X.env X.xe)(hc:X.calm=true)(hi:PI X tg iter wi)(hg:PG X tg g)(hb:PSs X body tb)
  (hs:∀x,foldedSetIterable iter X.env x=pure x:=by intro _;rfl):PS X (.For tg iter body [] pos) (tFor wi g tb):=by
 intro pins s σ H D I h;refine wpAny_For (thn (hi pins s σ H _ I h) λ v s1 h1=>thn h1 λ itv s2 h2=>?_) hs;obtain⟨it,fp,tn,J,H2,e,I2,T,st2,f2,W,⟨m0,w0⟩,turn⟩:=h2;subst e;have stat:∀{H':Hp},(∀b∈fp,H' b=none)->∀b∈fp,FpOk X pins H' b:=λ hn b hb=>⟨hn b hb,(f2 b hb).2⟩
 refine codeAny_forLoop_any (λ n s'=>∃i σ' H',Inv X pins σ' H' s'/\tn i s'.heap/\(∀b∈fp,H' b=none)/\W i n σ' H') ?_ m0 ⟨0,σ,H2,I2,st2,λ b hb=>(f2 b hb).1,w0⟩;rintro n s3 ⟨i,σ3,H3,I3,st3,fr3,w3⟩;rcases turn i n σ3 H3 w3 with⟨stop,qn⟩|⟨go,N,hN,step⟩
 ·refine B7 hp (thn (T.done X rfl rfl rfl hc i pins s3 σ3 H3 X.xe I3 (stat fr3) st3 stop) λ r s4 z9=>?_);obtain⟨hr,I4⟩:=z9;subst hr;exact Df ⟨σ3,H3,I4,qn⟩
 ·refine B7 hp (thn (T.item X rfl rfl rfl hc i pins s3 σ3 H3 X.xe I3 (stat fr3) st3 go) λ r s4 z9=>?_);obtain⟨u,hr,h4⟩:=z9;subst hr;refine B7 hp (thn h4 λ _ s5 z9=>?_);obtain⟨x,H5,I5,r5,y5,st5,fr5⟩:=z9;have I5':=I5.pinned (stat fr5) (T.obj _ _ st5);refine B7 hp (thn (hg _ s5 σ3 H5 x u _ I5' r5 (step x H5 y5)) λ _ s6 z9=>?_);obtain⟨σ6,H6,I6,q6⟩:=z9;refine B7 hp (thn (hb _ s6 σ6 H6 _ I6 q6) λ f s7 q7=>?_);have again:∀{σ7:St} {H7:Hp},Inv X (pins++j6 fp s5.heap) σ7 H7 s7->N σ7 H7->∃m,m<n/\∃i σ' H',Inv X pins σ' H' s7/\tn i s7.heap/\(∀b∈fp,H' b=none)/\W i m σ' H':=λ {σ7 H7} I7 n7=>by
   obtain⟨m',hm,w7⟩:=hN σ7 H7 n7;refine⟨m',hm,i+1,σ7,H7,I7.unpinned,T.keep _ _ _ st5 λ b hb o e=>(I7.pin (b,o) (zJ _ (zJ _ (a8 hb e)))).1,λ b hb=>?_,w7⟩;obtain⟨o,e,d⟩:=T.obj _ _ st5 b hb;exact(I7.pin (b,o) (zJ _ (zJ _ (a8 hb e)))).2.1
  cases f with
  |next=>obtain⟨σ7,H7,I7,n7⟩:=q7;exact again I7 n7
  |cont=>obtain⟨σ7,H7,I7,n7⟩:=q7;exact again I7 n7
  |brk=>obtain⟨σ7,H7,I7,q7⟩:=q7;exact⟨σ7,H7,I7.unpinned,q7⟩
  |ret v=>obtain⟨x7,σ7,H7,I7,r7,q7⟩:=q7;exact⟨x7,σ7,H7,I7.unpinned,r7,q7⟩
end
theorem bP {g:TG}{D:Ends}(Pv:Nat->St->Hp->Prop)(h0:Pv 0 σ H)(hl:∀i σ H,i≤xs.length->Pv i σ H->SqL K H a xs)
  (hs:∀i x σ H,xs[i]?=some x->Pv i σ H->g x σ H λ σ2 H2=>tb {D with nx:=Pv (i+1),ct:=Pv (i+1),bk:=D.nx} σ2 H2) (hd:∀σ H,Pv xs.length σ H->D.nx σ H):
  ∃W:Nat->Nat->St->Hp->Prop,(∃m,W 0 m σ H)/\∀i m σ H,W i m σ H->
   ((Itl K a).stop i H/\D.nx σ H)\/((Itl K a).go i H/\∃N:St->Hp->Prop,(∀σ' H',N σ' H'->∃m',m'<m/\W (i+1) m' σ' H')/\∀x H',(Itl K a).yld i H x H'->g x σ H' λ σ2 H2=>tb {D with nx:=N,ct:=N,bk:=D.nx} σ2 H2):=by
 refine⟨λ i m σ H=>m=xs.length-i/\i≤xs.length/\Pv i σ H,⟨xs.length,by simp,Ap _,h0⟩,?_⟩;rintro i m σ H ⟨rfl,hi,p⟩;have q:=hl i σ H hi p;by_cases hlt:i<xs.length
 ·refine .inr ⟨⟨xs,xs[i],q,by simp [hlt]⟩,Pv (i+1),λ σ' H' p'=>⟨xs.length-(i+1),by lia,rfl,hlt,p'⟩,λ x H' y=>?_⟩;obtain⟨e,y⟩:=y;subst e;exact hs i x σ _ (y xs q) p
 ·have e:i=xs.length:=by lia
  subst e;exact .inl ⟨⟨xs,q,zy _⟩,hd σ H p⟩
theorem bX {g:TG}{D:Ends}(Pv:Nat->St->Hp->Prop)(h0:Pv 0 σ H)
  (hs:∀i σ H,i<n->Pv i σ H->g (.int (lo+i)) σ H λ σ2 H2=>tb {D with nx:=Pv (i+1),ct:=Pv (i+1),bk:=D.nx} σ2 H2) (hd:∀σ H,Pv n σ H->D.nx σ H):
  ∃W:Nat->Nat->St->Hp->Prop,(∃m,W 0 m σ H)/\∀i m σ H,W i m σ H->
   ((Itr lo n).stop i H/\D.nx σ H)\/((Itr lo n).go i H/\∃N:St->Hp->Prop,(∀σ' H',N σ' H'->∃m',m'<m/\W (i+1) m' σ' H')/\∀x H',(Itr lo n).yld i H x H'->g x σ H' λ σ2 H2=>tb {D with nx:=N,ct:=N,bk:=D.nx} σ2 H2):=by
 refine⟨λ i m σ H=>m=n-i/\i≤n/\Pv i σ H,⟨n,by simp,Ap _,h0⟩,?_⟩;rintro i m σ H ⟨rfl,hi,p⟩;by_cases hlt:i<n
 ·refine .inr ⟨hlt,Pv (i+1),λ σ' H' p'=>⟨n-(i+1),by lia,rfl,hlt,p'⟩,λ x H' y=>?_⟩;obtain⟨e,y⟩:=y;subst e y;exact hs i σ _ hlt p
 ·have e:i=n:=by lia
  subst e;exact .inl ⟨zy _,hd σ H p⟩
abbrev R2:=V->V->Hp->VK->Prop
def OpR (X:Cx)(f:Value->Value->Sem Value)(r:R2):Prop:=
 ∀(pins:List (Addr×Obj)) (s:Shared) (σ:St) (H:Hp) (x y:V) (v u:Value) (Q:VK),Inv X pins σ H s->RelV x v->RelV y u->r x y H Q->
  wpAny (model X.prog X.w) X.A (f v u) (EP X pins σ Q) X.xe s
def UnR (X:Cx)(f:Value->Sem Value)(r:V->Hp->VK->Prop):Prop:=
 ∀(pins:List (Addr×Obj)) (s:Shared) (σ:St) (H:Hp) (x:V) (v:Value) (Q:VK),Inv X pins σ H s->RelV x v->r x H Q->
  wpAny (model X.prog X.w) X.A (f v) (EP X pins σ Q) X.xe s
def CallR (X:Cx)(f:Value)(r:List V->Hp->VK->Prop):Prop:=
 ∀(pins:List (Addr×Obj)) (s:Shared) (σ:St) (H:Hp) (xs:List V) (us:List Value) (Q:VK),Inv X pins σ H s->Vals xs us->r xs H Q->
  wpAny (model X.prog X.w) X.A (call f us) (EP X pins σ Q) X.xe s
def tOp (r:R2)(ta tb:TE):TE:=λ σ H Q=>ta σ H λ x H1=>tb σ H1 λ y H2=>r x y H2 Q
def tUn (r:V->Hp->VK->Prop)(ta:TE):TE:=λ σ H Q=>ta σ H λ x H1=>r x H1 Q
def rI (C:Int->Int->Prop)(g:Int->Int->V):R2:=λ x y H Q=>∃i j,x=.int i/\y=.int j/\C i j/\Q (g i j) H
def rI0 (g:Int->Int->V):R2:=λ x y H Q=>∃i j,x=.int i/\y=.int j/\Q (g i j) H
def rU (g:Int->V):V->Hp->VK->Prop:=λ x H Q=>∃i,x=.int i/\Q (g i) H
section
variable {X : Cx} {a b c : Expr} {ta tb tc : TE} {pos : Pos}
theorem binT (ha:PE X a ta)(hb:PE X b tb){R:V->V->Hp->Prop}(I:Inv X pins σ H s)
  (h:ta σ H λ x H1=>tb σ H1 λ y H2=>R x y H2) {Q:Value->Shared->Prop} {f:Value->Value->Sem Value}
  (hf:∀v u s2 x y H2,Inv X pins σ H2 s2->RelV x v->RelV y u->R x y H2->wpAny (model X.prog X.w) X.A (f v u) Q X.xe s2):
  wpAny (model X.prog X.w) X.A (eval a X.env) (λ v s₁=>wpAny (model X.prog X.w) X.A (eval b X.env) (λ u s₂=>wpAny (model X.prog X.w) X.A (f v u) Q X.xe s₂) X.xe s₁) X.xe s:=by
 refine thn (ha pins s σ H _ I h) λ v s1 z9=>?_
 obtain⟨x,H1,I1,r1,q1⟩:=z9;refine thn (hb pins s1 σ H1 _ I1 q1) λ u s2 z9=>?_
 obtain⟨y,H2,I2,r2,q2⟩:=z9;exact hf v u s2 x y H2 I2 r1 r2 q2
theorem aj {op:Operator}(ho:OpR X (binaryOp op) r)(ha:PE X a ta)(hb:PE X b tb):PE X (.BinOp a op b pos) (tOp r ta tb):=by
 intro pins s σ H Q I h;exact wpAny_BinOp (binT ha hb I h λ v u s2 x y H2 I2 rx ry q=>ho pins s2 σ H2 x y v u Q I2 rx ry q)
theorem wn {op:UnaryOp}{r:V->Hp->VK->Prop}(ho:UnR X (unaryOp op) r)(ha:PE X a ta):PE X (.UnaryOp op a pos) (tUn r ta):=by
 intro pins s σ H Q I h;exact UnaryOp_ (thn (ha pins s σ H _ I h) λ v s1 ⟨x,H1,I1,r1,q1⟩=>ho pins s1 σ H1 x v Q I1 r1 q1)
theorem opI {f:Value->Value->Sem Value}{C:Int->Int->Prop}{g:Int->Int->Int}
  (rule:∀(i j:Int) (t u:Tok) (s:Shared) (Q:Value->Shared->Prop) (E:Value->Shared->Prop),C i j->Q (.int (g i j) s.toks) {s with toks:=s.toks+1}->wpAny (model X.prog X.w) X.A (f (.int i t) (.int j u)) Q E s):
  OpR X f (rI C λ i j=>.int (g i j)):=by
 intro pins s σ H x y v u Q I rx ry h;obtain⟨i,j,rfl,rfl,hc,q⟩:=h;obtain⟨t,rfl⟩:=rx;obtain⟨t',rfl⟩:=ry;exact rule i j t t' s _ _ hc ⟨.int (g i j),H,I.tok _,⟨_,rfl⟩,q⟩
theorem vE {f:Value->Value->Sem Value}{g:Int->Int->Int}
  (rule:∀(i j:Int) (t u:Tok) (s:Shared) (Q:Value->Shared->Prop) (E:Value->Shared->Prop),Q (.int (g i j) s.toks) {s with toks:=s.toks+1}->wpAny (model X.prog X.w) X.A (f (.int i t) (.int j u)) Q E s):
  OpR X f (rI0 λ i j=>.int (g i j)):=by
 intro pins s σ H x y v u Q I rx ry h;obtain⟨i,j,rfl,rfl,q⟩:=h;obtain⟨t,rfl⟩:=rx;obtain⟨t',rfl⟩:=ry;exact rule i j t t' s _ _ ⟨.int (g i j),H,I.tok _,⟨_,rfl⟩,q⟩
theorem vV {f:Value->Value->Sem Value}{g:Int->Int->Bool}
  (rule:∀(i j:Int) (t u:Tok) (s:Shared) (Q:Value->Shared->Prop) (E:Value->Shared->Prop),Q (.bool (g i j)) s->wpAny (model X.prog X.w) X.A (f (.int i t) (.int j u)) Q E s):
  OpR X f (rI0 λ i j=>.bl (g i j)):=by
 intro pins s σ H x y v u Q I rx ry h;obtain⟨i,j,rfl,rfl,q⟩:=h;obtain⟨t,rfl⟩:=rx;obtain⟨t',rfl⟩:=ry;exact rule i j t t' s _ _ ⟨.bl (g i j),H,I,rfl,q⟩
def y6 (i j:Int):Prop:=0<j/\j<1073741824
def xU (i j:Int):Prop:=0≤j/\j≤1000000/\i.natAbs<2^64
def CMul (i j:Int):Prop:=(-(2^64)<i/\i<2^64)\/(-(2^64)<j/\j<2^64)
theorem CMul.ok {i j:Int}(h:CMul i j):IntMulOk i j:=by
 rcases h with⟨h1,h2⟩|⟨h1,h2⟩
 ·exact .of_left (intBits_le_64 h1 h2)
 ·exact .of_right (intBits_le_64 h1 h2)
theorem ml (k:Nat):(0:Int)≤2^k:=by
 rw [two_pow_cast];exact Int.natCast_nonneg _
theorem aE:OpR X (binaryOp .Add) (rI0 λ i j=>.int (i+j)):=vE λ _ _ _ _ _ _ _ q=>add_int q
theorem aY:OpR X (binaryOp .Sub) (rI0 λ i j=>.int (i-j)):=vE λ _ _ _ _ _ _ _ q=>sub_int q
theorem cf:OpR X (binaryOp .Mult) (rI CMul λ i j=>.int (i*j)):=opI λ _ _ _ _ _ _ _ hc q=>mul_int q hc.ok
theorem a9:OpR X (binaryOp .FloorDiv) (rI y6 λ i j=>.int (i/j)):=opI λ i j _ _ _ _ _ hc q=>by
 have h1:(0:Int)<j:=hc.1;have h2:j<1073741824:=hc.2;exact floordiv_int (by lia) (by rw [DS i (by lia)];exact q) (.inl (PyProof.noPylong_small (by lia)))
theorem aZ:OpR X (binaryOp .Mod) (rI (λ _ j=>0<j) λ i j=>.int (i%j)):=opI λ i j _ _ _ _ _ hc q=>by
 have h1:(0:Int)<j:=hc;exact mod_int' (by lia) (by rw [Int.fmod_eq_emod_of_nonneg i (by lia)];exact q)
theorem c5:OpR X (binaryOp .LShift) (rI xU λ i j=>.int (i*2^j.toNat)):=opI λ _ _ _ _ _ _ _ hc q=>lshift_int_small hc.1 hc.2.1 hc.2.2 q
theorem mX:OpR X (binaryOp .RShift) (rI (λ _ j=>0≤j) λ i j=>.int (i/2^j.toNat)):=opI λ i j _ _ _ _ _ hc q=>
 rshift_int hc (by rw [DS i (ml _)];exact q)
theorem qQ:OpR X (binaryOp .BitAnd) (rI0 λ i j=>.int (Builtin.bitAnd i j)):=vE λ _ _ _ _ _ _ _ q=>and_int q
theorem rW:OpR X (binaryOp .BitOr) (rI0 λ i j=>.int (Builtin.bitOr i j)):=vE λ _ _ _ _ _ _ _ q=>or_int q
theorem unI {f:Value->Sem Value}{g:Int->Int}
  (rule:∀(i:Int) (t:Tok) (s:Shared) (Q:Value->Shared->Prop) (E:Value->Shared->Prop),Q (.int (g i) s.toks) {s with toks:=s.toks+1}->wpAny (model X.prog X.w) X.A (f (.int i t)) Q E s):
  UnR X f (rU λ i=>.int (g i)):=by
 intro pins s σ H x v Q I rx h;obtain⟨i,rfl,q⟩:=h;obtain⟨t,rfl⟩:=rx;exact rule i t s _ _ ⟨.int (g i),H,I.tok _,⟨_,rfl⟩,q⟩
theorem rN:UnR X (unaryOp .USub) (rU λ i=>.int (-i)):=unI λ _ _ _ _ _ q=>neg_int q
end
def yp:V->V->Bool
 | .non,.non=>true| .non,.int _=>true| .int _,.non=>true| .non,.bl _=>true| .bl _,.non=>true| .non,.str _=>true| .str _,.non=>true
 | .int _,.int _=>true| .bl _,.bl _=>true| .str _,.str _=>true| .byt _,.byt _=>true
 | .int _,.str _=>true| .str _,.int _=>true| .bl _,.str _=>true| .str _,.bl _=>true
 |_,_=>false
def rEq:R2:=λ x y H Q=>yp x y=true/\Q (.bl (decide (x=y))) H
def rNe:R2:=λ x y H Q=>yp x y=true/\Q (.bl (!decide (x=y))) H
theorem nU {i j:Int}:decide (V.int i=V.int j)=(i==j):=by
 rw [DO];simp
theorem sB {i j:Bool}:decide (V.bl i=V.bl j)=(i==j):=by
 rw [DO];simp
theorem pp {i j:Str}:decide (V.str i=V.str j)=(i==j):=by
 rw [DO];simp
theorem oR {i j:Array UInt8}:decide (V.byt i=V.byt j)=(i.toList==j.toList):=by
 rw [DO];cases i;cases j;simp
section
variable {X : Cx} {a b c : Expr} {ta tb tc : TE} {pos : Pos}
theorem aQ {Q:VK}{k k':Bool}(I:Inv X pins σ H s)(q:Q (.bl k) H)(e:k=k'):EP X pins σ Q (.bool k') s:=by
 subst e;exact⟨.bl k,H,I,rfl,q⟩
theorem bj:OpR X (compareOp .Eq) rEq:=by
 intro pins s σ H x y v u Q I rx ry h;obtain⟨hs,q⟩:=h;cases x with
 |non=>
  cases rx;cases y with
  |non=>cases ry;exact PySem.EqNone.eq_none_none (aQ I q (by simp))
  |bl j=>cases ry;exact PySem.EqNone.eq_none_bool (aQ I q (by simp))
  |int j=>obtain⟨t',rfl⟩:=ry;exact PySem.EqNone.eq_none_int (aQ I q (by simp))
  |str j=>obtain⟨t',rfl⟩:=ry;exact PySem.EqNone.eq_none_str (aQ I q (by simp))
  |_=>exact absurd (show false=true from hs) zN
 |bl i=>
  cases rx;cases y with
  |non=>cases ry;exact PySem.EqNone.eq_bool_none (aQ I q (by simp))
  |bl j=>cases ry;exact eq_bool (aQ I q sB)
  |str j=>obtain⟨t',rfl⟩:=ry;exact PySem.EqMixed.eq_bool_str (aQ I q (by simp))
  |_=>exact absurd (show false=true from hs) zN
 |int i=>
  obtain⟨t,rfl⟩:=rx;cases y with
  |non=>cases ry;exact PySem.EqNone.eq_int_none (aQ I q (by simp))
  |int j=>obtain⟨t',rfl⟩:=ry;exact eq_int (aQ I q nU)
  |str j=>obtain⟨t',rfl⟩:=ry;exact PySem.EqMixed.eq_int_str (aQ I q (by simp))
  |_=>exact absurd (show false=true from hs) zN
 |str i=>
  obtain⟨t,rfl⟩:=rx;cases y with
  |non=>cases ry;exact PySem.EqNone.eq_str_none (aQ I q (by simp))
  |bl j=>cases ry;exact PySem.EqMixed.eq_str_bool (aQ I q (by simp))
  |int j=>obtain⟨t',rfl⟩:=ry;exact PySem.EqMixed.eq_str_int (aQ I q (by simp))
  |str j=>obtain⟨t',rfl⟩:=ry;exact eq_str (aQ I q pp)
  |_=>exact absurd (show false=true from hs) zN
 |byt i=>
  obtain⟨t,rfl⟩:=rx;cases y with
  |byt j=>obtain⟨t',rfl⟩:=ry;exact PySem.W.eq_bytes (aQ I q oR)
  |_=>exact absurd (show false=true from hs) zN
 |_=>cases y<;>exact absurd (show false=true from hs) zN
theorem oN:OpR X (compareOp .NotEq) rNe:=by
 intro pins s σ H x y v u Q I rx ry h;obtain⟨hs,q⟩:=h;cases x with
 |non=>
  cases rx;cases y with
  |non=>cases ry;exact PySem.EqNone.ne_none_none (aQ I q (by simp))
  |bl j=>cases ry;exact PySem.EqNone.ne_none_bool (aQ I q (by simp))
  |int j=>obtain⟨t',rfl⟩:=ry;exact PySem.EqNone.ne_none_int (aQ I q (by simp))
  |str j=>obtain⟨t',rfl⟩:=ry;exact PySem.EqNone.ne_none_str (aQ I q (by simp))
  |_=>exact absurd (show false=true from hs) zN
 |bl i=>
  cases rx;cases y with
  |non=>cases ry;exact PySem.EqNone.ne_bool_none (aQ I q (by simp))
  |bl j=>cases ry;exact ne_bool (aQ I q (Bk not sB))
  |str j=>obtain⟨t',rfl⟩:=ry;exact PySem.EqMixed.ne_bool_str (aQ I q (by simp))
  |_=>exact absurd (show false=true from hs) zN
 |int i=>
  obtain⟨t,rfl⟩:=rx;cases y with
  |non=>cases ry;exact PySem.EqNone.ne_int_none (aQ I q (by simp))
  |int j=>obtain⟨t',rfl⟩:=ry;exact ne_int (aQ I q (Bk not nU))
  |str j=>obtain⟨t',rfl⟩:=ry;exact PySem.EqMixed.ne_int_str (aQ I q (by simp))
  |_=>exact absurd (show false=true from hs) zN
 |str i=>
  obtain⟨t,rfl⟩:=rx;cases y with
  |non=>cases ry;exact PySem.EqNone.ne_str_none (aQ I q (by simp))
  |bl j=>cases ry;exact PySem.EqMixed.ne_str_bool (aQ I q (by simp))
  |int j=>obtain⟨t',rfl⟩:=ry;exact PySem.EqMixed.ne_str_int (aQ I q (by simp))
  |str j=>obtain⟨t',rfl⟩:=ry;exact ne_str (aQ I q (Bk not pp))
  |_=>exact absurd (show false=true from hs) zN
 |byt i=>
  obtain⟨t,rfl⟩:=rx;cases y with
  |byt j=>obtain⟨t',rfl⟩:=ry;exact PySem.W.ne_bytes (aQ I q (Bk not oR))
  |_=>exact absurd (show false=true from hs) zN
 |_=>cases y<;>exact absurd (show false=true from hs) zN
theorem du:OpR X (compareOp .Lt) (rI0 λ i j=>.bl (decide (i<j))):=vV λ _ _ _ _ _ _ _ q=>lt_int q
theorem kD:OpR X (compareOp .LtE) (rI0 λ i j=>.bl (decide (i≤j))):=vV λ _ _ _ _ _ _ _ q=>le_int q
theorem bQ:OpR X (compareOp .Gt) (rI0 λ i j=>.bl (decide (j<i))):=vV λ _ _ _ _ _ _ _ q=>gt_int q
theorem tG:OpR X (compareOp .GtE) (rI0 λ i j=>.bl (decide (j≤i))):=vV λ _ _ _ _ _ _ _ q=>ge_int q
theorem qY:OpR X (compareOp .Is) (λ x y H Q=>y=.non/\Q (.bl (decide (x=.non))) H):=by
 intro pins s σ H x y v u Q I rx ry h;obtain⟨rfl,q⟩:=h;cases ry;refine is_none_gen (aQ I q ?_);cases x<;>first
  |(cases rx;rfl)
  |(obtain⟨t,rfl⟩:=rx;rfl)
theorem OpR.or {f:Value->Value->Sem Value}(h:OpR X f r)(h':OpR X f r'):OpR X f (λ x y H Q=>r x y H Q\/r' x y H Q):=by
 intro pins s σ H x y v u Q I rx ry q;rcases q with q|q
 ·exact h pins s σ H x y v u Q I rx ry q
 ·exact h' pins s σ H x y v u Q I rx ry q
theorem ax (b:Expr){op:CmpOp}(h:op≠ .In:=by decide)(h2:op≠ .NotIn:=by decide):behindInMarks op b=false:=by
 have e1:(op==CmpOp.In)=false:=by cases op<;>first|rfl|exact absurd rfl h
 have e2:(op==CmpOp.NotIn)=false:=by cases op<;>first|rfl|exact absurd rfl h2
 cases b<;>simp [behindInMarks,e1,e2]
theorem cQ {op:CmpOp}(ho:OpR X (compareOp op) r)(ha:PE X a ta)(hb:PE X b tb)(hm:behindInMarks op b=false):PE X (.Compare a [op] [b] pos) (tOp r ta tb):=by
 intro pins s σ H Q I h;exact wpAny_Compare1 (binT ha hb I h λ v u s2 x y H2 I2 rx ry q=>ho pins s2 σ H2 x y v u Q I2 rx ry q) hm
def kF (t:TE):TT:=λ σ H Q=>t σ H λ x H'=>∃k,x=.bl k/\Q k H'
theorem ar {op:CmpOp}(ho:OpR X (compareOp op) r)(ha:PE X a ta)(hb:PE X b tb)(hm:behindInMarks op b=false):PT X (.Compare a [op] [b] pos) (kF (tOp r ta tb)):=by
 intro pins s σ H Q I h;refine wpAny_isTrue_Compare1 (thn (ha pins s σ H _ I h) λ v s1 ⟨x,H1,I1,r1,q1⟩=>thn (hb pins s1 σ H1 _ I1 q1) λ u s2 ⟨y,H2,I2,r2,q2⟩=>
  thn (ho pins s2 σ H2 x y v u _ I2 r1 r2 q2) λ c s3 ⟨z,H3,I3,r3,k,e,q3⟩=>?_) hm
 subst e;cases r3;exact BO ⟨H3,I3,q3⟩
def w4 (r r':R2)(ta tb tc:TE):TE:=λ σ H Q=>ta σ H λ x H1=>tb σ H1 λ y H2=>r x y H2 λ z H3=>∃k,z=.bl k/\
 (if k=true then tc σ H3 λ w' H4=>r' y w' H4 Q else Q (.bl false) H3)
theorem li {op op':CmpOp}(ho:OpR X (compareOp op) r)(ho':OpR X (compareOp op') r')(ha:PE X a ta)(hb:PE X b tb)(hc:PE X c tc)
  (hm:lastMarks [op,op'] [b,c]=false:=by with_unfolding_all rfl):PE X (.Compare a [op,op'] [b,c] pos) (w4 r r' ta tb tc):=by
 intro pins s σ H Q I h;refine Compare_chain (thn (ha pins s σ H _ I h) λ v s1 ⟨x,H1,I1,r1,q1⟩=>chain_link (thn (hb pins s1 σ H1 _ I1 q1) λ u s2 ⟨y,H2,I2,r2,q2⟩=>
  thn (ho pins s2 σ H2 x y v u _ I2 r1 r2 q2) λ d s3 ⟨z,H3,I3,r3,k,e,q3⟩=>?_)) hm
 subst e;cases r3;refine BO ?_;cases k with
 |false=>exact ite_ff ⟨.bl false,H3,I3,rfl,q3⟩
 |true=>exact ite_tt (chain_last (thn (hc pins s3 σ H3 _ I3 q3) λ w' s4 ⟨z',H4,I4,r4,q4⟩=>ho' pins s4 σ H4 y z' u w' Q I4 r2 r4 q4))
theorem jr:(sizeLine:Nat)<2^63:=by rw [B0];decide
theorem gb {x:V}(r:Vals [x] us):∃u,us=[u]/\RelV x u:=by
 cases r with
 |cons r1 r2=>cases r2;exact⟨_,rfl,r1⟩
theorem nG {x:V}(r:Vals [x,y] us):∃u w',us=[u,w']/\RelV x u/\RelV y w':=by
 cases r with
 |cons r1 r2=>
  cases r2 with
  |cons r3 r4=>cases r4;exact⟨_,_,rfl,r1,r3⟩
theorem iN (hc:X.A.handled=none):CallR X (.builtin "max") (λ xs H Q=>∃i j,xs=[.int i,.int j]/\Q (.int (if j>i then j else i)) H):=by
 intro pins s σ H xs us Q I r h;obtain⟨i,j,rfl,q⟩:=h;obtain⟨u,w',rfl,⟨t,rfl⟩,⟨t',rfl⟩⟩:=nG r;refine max_two_ints hc λ h' tk k=>⟨_,H,I.kept k,?_,q⟩
 by_cases hj:j>i
 ·rw [zP hj,zP hj];exact⟨_,rfl⟩
 ·rw [zK hj,zK hj];exact⟨_,rfl⟩
theorem fU (hc:X.A.handled=none):CallR X (.builtin "min") (λ xs H Q=>∃i j,xs=[.int i,.int j]/\Q (.int (if j<i then j else i)) H):=by
 intro pins s σ H xs us Q I r h;obtain⟨i,j,rfl,q⟩:=h;obtain⟨u,w',rfl,⟨t,rfl⟩,⟨t',rfl⟩⟩:=nG r;refine min_two_ints hc λ h' tk k=>⟨_,H,I.kept k,?_,q⟩
 by_cases hj:j<i
 ·rw [zP hj,zP hj];exact⟨_,rfl⟩
 ·rw [zK hj,zK hj];exact⟨_,rfl⟩
end
structure ObjM (h:Heap)(x dx C:Addr)(mA:Str->Option Value):Prop where
 obj:h.get? x=some (PySem.W.instObj C dx)
 ns:h.Ns1 dx mA
 ne:dx≠x
theorem qp (n:h.Ns1 dx mA):∃od,h.get? dx=some od/\∀name,PySem.W.lookIn name od=some (mA name):=by
 obtain⟨o,es,ep,ho,hd,hk,_,hm⟩:=n;refine⟨o,ho,λ name=>?_⟩;have e:=hm name;unfold nsFind findBy at e;rw [<-Array.find?_toList] at e;unfold PySem.W.lookIn;rw [hd];dsimp only
 split
 ·rename_i y q
  rw [q] at e;exact Bk some e
 ·rename_i q
  rw [q] at e;have a:es.toList.any (·.refKey)=false:=by
   rw [List.any_eq_false];intro y hy;obtain⟨z,t,hkey⟩:=hk y (Array.mem_toList_iff.mp hy);simp [DictEntry.refKey,hkey]
  have a':¬es.toList.any (·.refKey)=true:=by rw [a];exact zN
  rw [zK a'];exact Bk some e
theorem ObjM.look {x:Addr}(I:ObjM h x dx C mA):∃od,PySem.W.InstAt h x (PySem.W.instObj C dx) C (some od)/\∀name,PySem.W.lookIn name od=some (mA name):=
 let⟨od,ho,hl⟩:=qp I.ns
 ⟨od,⟨I.obj,rfl,rfl,ho⟩,hl⟩
section
variable {prog : Program} {w : World} {A : Around} {E : Value -> Shared -> Prop} {s : Shared} {K : PySem.W.Frag} {x dx C f : Addr} {mA : Str -> Option Value} {name : Str} {v : Value}
theorem uR {expr:Bool}{Q:Value->Shared->Prop}(X:K.In s.heap)(I:ObjM s.heap x dx C mA)(hg:PySem.W.plainGet K C name=true)(hh:PySem.W.hasDictIn K C=true)
  (ha:PySem.W.findIn K (.ref C) name=some none) (hv:mA name=some v) (hv':PySem.W.handedIn v=true) (h:Q v {s with toks:=s.toks+1}):
  wpAny (model prog w) A (getAttr (.ref x) name expr) Q E s:=by
 obtain⟨od,J,hl⟩:=I.look;exact PySem.W.get_value X J (DP hg).1 (PySem.W.findObj_own hh ha rfl (by rw [hl,hv])) hv' h
theorem rH {pl:Sem Bool}{Q:Value×List Value->Shared->Prop}(X:K.In s.heap)(I:ObjM s.heap x dx C mA)(hg:PySem.W.plainGet K C name=true)
  (hf:PySem.W.findIn K (.ref C) name=some (some (.ref f))) (ht:PySem.W.isFn K (.ref f)=true) (hv:mA name=none) (h:Q (.ref f,[.ref x]) s):
  wpAny (model prog w) A (getMethod (.ref x) name pl) Q E s:=by
 obtain⟨od,J,hl⟩:=I.look;exact PySem.W.method_fn X J (DP hg).1 (DP hg).2 hf (Au.mp ht) (by show(PySem.W.lookIn name od).map (·.isSome)=some false;rw [hl,hv];rfl) h
theorem uK {ns:List Str}(X:K.In s.heap)(I:ObjM s.heap x dx C mA)
  (hs:PySem.W.findIn K (.ref C) "__setattr__"=some (some (.builtin "object.__setattr__"))) (hp:PySem.W.plainOver K C=true) (ht:PySem.W.takerIn K C name=some none) (hh:PySem.W.hasDictIn K C=true)
  (hw:PySem.Within mA ns) (hsz:ns.length≤sizeLine)
  (h:∀h',ObjM h' x dx C (λ y=>if y=name then some v else mA y)->Heap.SameBut dx s.heap h'->Q () {s with heap:=h',toks:=s.toks+2}):
  wpAny (model prog w) A (setAttr (.ref x) name v) Q E s:=by
 obtain⟨od,J,hl⟩:=I.look;refine PySem.W.set_plain X J hs (PySem.W.osa_open (s:={s with toks:=s.toks+1}) (r:=none) X J hp ht λ b=>?_);obtain⟨cd,hc,hd'⟩:=PySem.W.any_some hh;have hx:s.heap.get? x=some ⟨.ref C,some dx,.plain,#[]⟩:=I.obj;refine zx (Ai (zx (zx (wpAny_loadPart hx (zx (PySem.W.Looks.here (s:={s with toks:=s.toks+1}) (PySem.W.looks_clsIn X hc) ?_))))));rw [hd'];refine Ai (a:=some dx) (zx (Ai (zx ?_)));refine wpAny_nsSet1 (s:={s with toks:=s.toks+1}) I.ns λ h' hn2 hs2=>?_
 obtain⟨oD,esD,epD,hoD,hdD,hcD⟩:=hn2.count (PySem.Within.cons name v hw);refine zx (wpAny_lookBehind hoD (by rw [hdD];exact pastItsLine_dict (AM hcD (by rw [zD];lia))) ?_);exact Ai (h _ ⟨(hs2.2 _ (DN I.ne)).trans I.obj,hn2,I.ne⟩ hs2)
theorem tM {R:Result->Shared->Prop}{vs:List Value}(X:K.In s.heap)(hm:PySem.W.makesIn K C=true)
  (hi:PySem.W.findIn K (.ref C) "__init__"=some (some (.ref f))) (hf:PySem.W.typeIn K (.ref f)=some (.type "function"))
  (h:codeAny (model prog w) (A.under (.builtin "type.__call__" ⟨.ref C::vs,kw⟩)) (.call (.ref f) ⟨.ref (s.heap.objs.size+1)::vs,kw⟩) (PySem.W.InitBack (s.heap.objs.size+1) R)
   {s with heap:=(s.heap.push PySem.W.emptyDict).push (PySem.W.instObj C s.heap.objs.size)}):
  codeAny (model prog w) A (.call (.ref C) ⟨vs,kw⟩) R s:=by
 obtain⟨hh,g,d,t,os⟩:=s;exact PySem.W.make_core (D8 X hm) (PySem.W.looks_findIn X hi) (λ self=>PySem.W.bind_fn X self hf) (.inl rfl) h
theorem qr {R:Result->Shared->Prop}(X:K.In s.heap)(hm:PySem.W.makesIn K C=true)
  (hi:PySem.W.findIn K (.ref C) "__init__"=some (some (.builtin "object.__init__")))
  (hb:∀self,PySem.W.Looks (model prog w) s.heap (bindSpecial (.builtin "object.__init__") self) (.builtin "object.__init__",[self]))
  (h:codeAny (model prog w) (A.under (.builtin "type.__call__" ⟨[.ref C],[]⟩)) (.call (.builtin "object.__init__") ⟨[.ref (s.heap.objs.size+1)],[]⟩) (PySem.W.InitBack (s.heap.objs.size+1) R)
   {s with heap:=(s.heap.push PySem.W.emptyDict).push (PySem.W.instObj C s.heap.objs.size)}):
  codeAny (model prog w) A (.call (.ref C) ⟨[],[]⟩) R s:=by
 obtain⟨hh,g,d,t,os⟩:=s;exact PySem.W.make_core (D8 X hm) (PySem.W.looks_findIn X hi) hb (.inr ⟨rfl,rfl⟩) h
end
def putF (f:Str)(v:V):List (Str×V)->List (Str×V)
 | []=>[(f,v)]
 |(g,x)::r=>if g=f then(g,v)::r else(g,x)::putF f v r
theorem aD (f g:Str)(v:V):∀fs:List (Str×V),(putF f v fs).lookup g=if g=f then some v else fs.lookup g
 | []=>by
  show List.lookup g [(f,v)]=_;by_cases h:g=f
  ·have hb:(g==f)=true:=Au.mpr h;simp only [List.lookup,hb,zP h]
  ·have hb:(g==f)=false:=Cf.mpr h;simp only [List.lookup,hb,zK h]
 |(k,x)::r=>by
  have ih:=aD f g v r;rw [show putF f v ((k,x)::r)=(if k=f then(k,v)::r else(k,x)::putF f v r) from rfl];by_cases hk:k=f
  ·rw [zP hk];by_cases h:g=k
   ·have hb:(g==k)=true:=Au.mpr h;simp only [List.lookup,hb,zP (h.trans hk)]
   ·have hb:(g==k)=false:=Cf.mpr h;simp only [List.lookup,hb,zK (λ e:g=f=>h (e.trans hk.symm))]
  ·rw [zK hk];by_cases h:g=k
   ·have hb:(g==k)=true:=Au.mpr h;simp only [List.lookup,hb,zK (λ e:g=f=>hk (h.symm.trans e))]
   ·have hb:(g==k)=false:=Cf.mpr h;simp only [List.lookup,hb];exact ih
theorem fK (f:Str)(v:V):∀fs:List (Str×V),f∈(putF f v fs).map (·.1)/\∀g,g∈fs.map (·.1)->g∈(putF f v fs).map (·.1)
 | []=>⟨by simp [putF],λ g h=>by simp at h⟩
 |(k,x)::r=>by
  obtain⟨i1,i2⟩:=fK f v r;rw [show putF f v ((k,x)::r)=(if k=f then(k,v)::r else(k,x)::putF f v r) from rfl];by_cases hk:k=f
  ·rw [zP hk];subst hk;exact⟨by simp,λ g h=>by simpa using h⟩
  ·rw [zK hk];refine⟨?_,λ g h=>?_⟩
   ·rw [z8];exact zC _ i1
   ·rw [z8] at h ⊢;rcases zL.mp h with e|e
    ·exact zL.mpr (.inl e)
    ·exact zC _ (i2 g e)
theorem gc (f:Str)(v:V):∀fs:List (Str×V),(putF f v fs).length≤fs.length+1
 | []=>by simp [putF]
 |(k,x)::r=>by
  have ih:=gc f v r;rw [show putF f v ((k,x)::r)=(if k=f then(k,v)::r else(k,x)::putF f v r) from rfl];by_cases hk:k=f
  ·rw [zP hk,zD,zD];lia
  ·rw [zK hk,zD,zD];lia
theorem RelO.some_of {o:Option Value}(r:RelO (some v) o):∃u,o=some u/\RelV v u:=by
 cases o with
 |none=>exact(show False from r).elim
 |some u=>exact⟨u,rfl,r⟩
theorem RelO.none_of {o:Option Value}(r:RelO none o):o=none:=by
 cases o with
 |none=>rfl
 |some u=>exact(show False from r).elim
theorem qy (r:RelV v u):PySem.W.handedIn u=true:=by
 cases v with
 |non=>cases(show u=Value.none from r);rfl
 |bl b=>cases(show u=Value.bool b from r);rfl
 |int i=>obtain⟨t,e⟩:=(show∃t,u=Value.int i t from r);cases e;rfl
 |str x=>obtain⟨t,e⟩:=(show∃t,u=Value.str x t from r);cases e;rfl
 |byt b=>obtain⟨t,e⟩:=(show∃t,u=Value.bytes b t from r);cases e;rfl
 |flt b=>obtain⟨t,e⟩:=(show∃t,u=Value.float b t from r);cases e;rfl
 |ref a=>cases(show u=Value.ref a from r);rfl
 |ty n=>cases(show u=Value.type n from r);rfl
section
variable {P : Program} {w : World} {H H' : Hp} {h h' : Heap} {a C dx : Addr} {fs fs' : List (Str × V)}
theorem gs (hok:HOk P w H h)(e:H a=some (.ins C dx fs)):∃mA,ObjM h a dx C mA/\(∀f,RelO (fs.lookup f) (mA f))/\PySem.Within mA (fs.map (·.1))/\fs.length≤1000/\H dx=some (.own a):=by
 obtain⟨d,z,ne,ob,mA,n,r,q⟩:=(show ObjOk P w H h a (.ins C dx fs) from hok a _ e);exact⟨mA,⟨ob,n,ne⟩,r,q,z,d⟩
end
structure Cls (K:PySem.W.Frag)(C:Addr):Prop where
 pg:PySem.W.plainGet K C Str.empty=true
 hd:PySem.W.hasDictIn K C=true
 po:PySem.W.plainOver K C=true
 sa:PySem.W.findIn K (.ref C) "__setattr__"=some (some (.builtin "object.__setattr__"))
theorem Cls.get (c:Cls K C)(f:Str):PySem.W.plainGet K C f=true:=c.pg
def NoAttr (K:PySem.W.Frag)(C:Addr)(f:Str):Prop:=PySem.W.findIn K (.ref C) f=some none
theorem NoAttr.taker {f:Str}(n:NoAttr K C f):PySem.W.takerIn K C f=some none:=by
 unfold PySem.W.takerIn;rw [show PySem.W.findIn K (.ref C) f=some none from n];rfl
structure Con (K:PySem.W.Frag)(C:Addr)(f:Str)(v:V)(u:Value):Prop where
 at_:PySem.W.findIn K (.ref C) f=some (some u)
 rel:RelV v u
 get:PySem.W.specialIn K u "__get__"=some none
 cp:PySem.W.copiedNames.contains f=false
structure Meth (K:PySem.W.Frag)(C:Addr)(m:Str)(f:Addr):Prop where
 at_:PySem.W.findIn K (.ref C) m=some (some (.ref f))
 fn:PySem.W.isFn K (.ref f)=true
 kp:PySem.W.keepIn K (.ref f)=true
section
variable {X : Cx} {pins : List (Addr × Obj)} {σ : St} {H : Hp} {s : Shared} {a C dx : Addr} {fs : List (Str × V)} {f : Str} {v : V} {A : Around} {E : Value -> Shared -> Prop}
theorem mD {b:Bool}{Q:Value->Shared->Prop}(I:Inv X pins σ H s)(e:H a=some (.ins C dx fs))(c:Cls X.K C)(n:NoAttr X.K C f)(l:fs.lookup f=some v)
  (h:∀u s',Inv X pins σ H s'->RelV v u->Q u s'):wpAny (model X.prog X.w) A (getAttr (.ref a) f b) Q E s:=by
 obtain⟨mA,O,r,_,_,_⟩:=gs I.hok e;obtain⟨u,hu,ru⟩:=RelO.some_of (v:=v) (o:=mA f) (by rw [<-l];exact r f);exact uR I.kIn O (c.get f) c.hd n hu (qy ru) (h u _ (I.tok _) ru)
theorem eg {m:Str}{g:Addr}{pl:Sem Bool}{Q:Value×List Value->Shared->Prop}(I:Inv X pins σ H s)(e:H a=some (.ins C dx fs))(c:Cls X.K C)(k:Meth X.K C m g)(l:fs.lookup m=none)
  (h:Q (.ref g,[.ref a]) s):wpAny (model X.prog X.w) A (getMethod (.ref a) m pl) Q E s:=by
 obtain⟨mA,O,r,_,_,_⟩:=gs I.hok e;have hn:mA m=none:=RelO.none_of (by rw [<-l];exact r m);exact rH I.kIn O (c.get m) k.at_ k.fn hn h
theorem nw (I:Inv X pins σ H s)(e:H a=some (.ins C dx fs))(c:Cls X.K C)(n:NoAttr X.K C f)(hl:fs.length<1000)(ry:RelV y u)
  (h:∀s',Inv X pins σ (upd H a (.ins C dx (putF f y fs))) s'->Q () s'):wpAny (model X.prog X.w) A (setAttr (.ref a) f u) Q E s:=by
 obtain⟨mA,O,r,wi,_,ho⟩:=gs I.hok e;have hz:(fs.map (·.1)).length≤sizeLine:=by rw [zr,B0];lia
 refine uK I.kIn O c.sa c.po n.taker c.hd wi hz λ h' O' sb=>h _ ?_
 have hd:∃o,h'.get? dx=some o:=let⟨o,_,_,e',_⟩:=O'.ns;⟨o,e'⟩;refine I.write (x:=a) (e:=dx) (by rw [e];exact True.intro) (.inr ho) (λ b q hb z=>(sb.2 b hb).trans z) hd ?_;refine⟨by rw [upd_ne O.ne];exact ho,?_,O.ne,O'.obj,_,O'.ns,λ g=>?_,λ g hg=>?_⟩
 ·have:=gc f y fs;lia
 ·show RelO ((putF f y fs).lookup g) (if g=f then some u else mA g);rw [aD];by_cases q:g=f
  ·rw [zP q,zP q];exact ry
  ·rw [zK q,zK q];exact r g
 ·by_cases q:g=f
  ·rw [q];exact(fK f y fs).1
  ·refine(fK f y fs).2 g (wi g λ z=>hg ?_);show(if g=f then some u else mA g)=none;rw [zK q];exact z
theorem Inv.made (I:Inv X pins σ H s):Inv X pins σ (upd (upd H s.heap.objs.size (.own (s.heap.objs.size+1))) (s.heap.objs.size+1) (.ins C s.heap.objs.size []))
  {s with heap:=(s.heap.push PySem.W.emptyDict).push (PySem.W.instObj C s.heap.objs.size)}:=by
 have e1:(s.heap.push PySem.W.emptyDict).get? s.heap.objs.size=some PySem.W.emptyDict:=Ak s.heap rfl;have e2:((s.heap.push PySem.W.emptyDict).push (PySem.W.instObj C s.heap.objs.size)).get? (s.heap.objs.size+1)=some (PySem.W.instObj C s.heap.objs.size):=by
  have:=Ak (s.heap.push PySem.W.emptyDict) (o:=PySem.W.instObj C s.heap.objs.size) rfl
  rwa [CI] at this
 have e3:(s.heap.push PySem.W.emptyDict).Ns s.heap.objs.size (λ _=>none):=⟨PySem.W.emptyDict,#[],_,e1,rfl,(λ e he=>absurd he (by simp)),λ _=>rfl⟩;have I1:=I.laid (a:=s.heap.objs.size) (o:=.own (s.heap.objs.size+1)) (h':=s.heap.push PySem.W.emptyDict) (t':=s.toks) (λ b u q=>zB _ q) (zy _) ⟨_,e1⟩;refine I1.laid (a:=s.heap.objs.size+1) (o:=.ins C s.heap.objs.size []) (t':=s.toks) (λ b u q=>zB _ q) (Nat.le_of_eq (CI _ _)) ?_;have ne:s.heap.objs.size≠s.heap.objs.size+1:=AE (CP _);refine⟨by rw [upd_ne ne,upd_same],Ap _,ne,e2,λ _=>none,(Heap.Ns1.of_empty e3).at λ o q=>zB _ q,λ _=>True.intro,λ y hy=>absurd rfl hy⟩
theorem attr_of {prog:Program}{env:Env}{pos:Pos}{Q:Value->Shared->Prop}(hb:attributeBase e f env (eval e env)=eval e env)
  (h:wpAny (model prog w) A (eval e env) (λ o s₁=>wpAny (model prog w) A (getAttr o f true) Q E s₁) E s):wpAny (model prog w) A (eval (.Attribute e f pos) env) Q E s:=
 Attribute_any_ h (by rw [arm_eval_Attribute,hb])
end
def zb (K:PySem.W.Frag)(ta:TE)(f:Str):TE:=λ σ H Q=>ta σ H λ x H1=>∃a C dx fs v,x=.ref a/\H1 a=some (.ins C dx fs)/\Cls K C/\NoAttr K C f/\fs.lookup f=some v/\Q v H1
def zq (K:PySem.W.Frag)(ta tv:TE)(f:Str):TS:=λ D σ H=>tv σ H λ y H1=>ta σ H1 λ x H2=>∃a C dx fs,x=.ref a/\H2 a=some (.ins C dx fs)/\Cls K C/\NoAttr K C f/\fs.length<1000/\
 D.nx σ (upd H2 a (.ins C dx (putF f y fs)))
section
variable {X : Cx} {o e value : Expr} {f : Str} {pos pos' tpos : Pos} {ta tv : TE}
theorem aR (he:PE X e ta)(hb:attributeBase e f X.env (eval e X.env)=eval e X.env):PE X (.Attribute e f pos) (zb X.K ta f):=by
 intro pins s σ H Q I h;refine attr_of hb (thn (he pins s σ H _ I h) λ u s1 z9=>?_);obtain⟨x,H1,I1,rx,a,C,dx,fs,v,ex,ea,c,n,l,q⟩:=z9;subst ex;obtain rfl:u=Value.ref a:=rx;exact mD I1 ea c n l λ u' s2 I2 ru=>⟨v,H1,I2,ru,q⟩
theorem bV (ha:PE X o ta)(hv:PE X value tv)(hs:swapsWith value (some (.Attribute o f pos')) pos.line X.env=pure false):PS X (.Assign [.Attribute o f pos'] value pos) (zq X.K ta tv f):=by
 intro pins s σ H D I h;refine plainObj_wpAny_Assign_Attribute (thn (hv pins s σ H _ I h) λ u s1 ⟨y,H1,I1,ry,q⟩=>thn (ha pins s1 σ H1 _ I1 q) λ ov s2 z9=>?_) hs;obtain⟨x,H2,I2,rx,a,C,dx,fs,ex,ea,c,n,l,q2⟩:=z9;subst ex;obtain rfl:ov=Value.ref a:=rx;exact nw I2 ea c n l ry λ s3 I3=>⟨σ,_,I3,q2⟩
end
section
variable {X : Cx} {pins : List (Addr × Obj)} {σ : St} {H : Hp} {s : Shared} {A : Around} {E : Value -> Shared -> Prop} {Q : Value -> Shared -> Prop} {c : Value} {b : Bool}
inductive TyOf (K:PySem.W.Frag) (H:Hp):V->Value->Prop where
 |non:TyOf K H .non (.type "NoneType")
 |bl (x:Bool):TyOf K H (.bl x) (.type "bool")
 |int (i:Int):TyOf K H (.int i) (.type "int")
 |str (x:Str):TyOf K H (.str x) (.type "str")
 |flt (x:UInt64):TyOf K H (.flt x) (.type "float")
 |lst {a:Addr} {xs:List V} (e:H a=some (.lst xs)):TyOf K H (.ref a) (.type "list")
 |frz {a:Addr} {o:Obj} {xs:List V} (e:H a=some (.frz o (.lst xs))):TyOf K H (.ref a) (.type "list")
 |tup {a:Addr} {xs:List V} (e:H a=some (.tup xs)):TyOf K H (.ref a) (.type "tuple")
 |dK {a:Addr} {kvs:List (Key×V)} (e:H a=some (.dK kvs)):TyOf K H (.ref a) (.type "dict")
 |dT {a:Addr} {kvs:List (List Key×V)} (e:H a=some (.dT kvs)):TyOf K H (.ref a) (.type "dict")
 |ins {a C dx:Addr} {fs:List (Str×V)} (e:H a=some (.ins C dx fs)) (cl:Cls K C) (ha:PySem.W.findIn K (.ref C) "__class__"=some (some (.builtin "object.__class__")))
   (hn:PySem.W.specialIn K (.builtin "object.__class__") "__get__"=some (some (.builtin "getset_descriptor.__get__"))) (htk:PySem.W.takesIn K (.builtin "object.__class__")=some true)
   (hm:PySem.W.mroIn K C (.type "object")=some true):TyOf K H (.ref a) (.ref C)
theorem iO {x:V}{t:Value}(I:Inv X pins σ H s)(rx:RelV x u)(ty:TyOf X.K H x t)(e:PySem.W.kitOne X.K t c=some b)(h:∀tk,Q (.bool b) {s with toks:=tk}):
  wpAny (model X.prog X.w) A (call (.builtin "isinstance") [u,c]) Q E s:=by
 cases ty with
 |non=>cases(show u=Value.none from rx);exact Bq PySem.W.kitx_none I.kIn True.intro e (λ z=>nomatch z) h
 |bl y=>cases(show u=Value.bool y from rx);exact Bq PySem.W.kitx_bool I.kIn True.intro e (λ z=>nomatch z) h
 |int i=>obtain⟨t,q⟩:=(show∃t,u=Value.int i t from rx);cases q;exact Bq PySem.W.kitx_int I.kIn True.intro e (λ z=>nomatch z) h
 |str y=>obtain⟨t,q⟩:=(show∃t,u=Value.str y t from rx);cases q;exact Bq PySem.W.kitx_str I.kIn True.intro e (λ z=>nomatch z) h
 |flt y=>obtain⟨t,q⟩:=(show∃t,u=Value.float y t from rx);cases q;exact Bq PySem.W.kitx_float I.kIn True.intro e (λ z=>nomatch z) h
 | @lst a xs ea=>
  cases(show u=Value.ref a from rx);obtain⟨_,_,n,_,h1⟩:=(show ObjOk X.prog X.w H s.heap a (.lst xs) from I.hok a _ ea);exact Bq PySem.W.kitx_list I.kIn ⟨_,h1,rfl⟩ e (λ z=>nomatch z) h
 | @frz a ob xs ea=>
  cases(show u=Value.ref a from rx);obtain⟨_,_,_,n,_,h1⟩:=(show ObjOk X.prog X.w H s.heap a (.frz ob (.lst xs)) from I.hok a _ ea);exact Bq PySem.W.kitx_list I.kIn ⟨_,h1,rfl⟩ e (λ z=>nomatch z) h
 | @tup a xs ea=>
  cases(show u=Value.ref a from rx);obtain⟨_,_,_,p⟩:=(show ObjOk X.prog X.w H s.heap a (.tup xs) from I.hok a _ ea);obtain⟨o,h1,h2,_⟩:=p;exact Bq PySem.W.kitx_tuple I.kIn ⟨o,h1,h2⟩ e (λ z=>nomatch z) h
 | @dK a kvs ea=>
  cases(show u=Value.ref a from rx);obtain⟨_,_,vs,_,p⟩:=(show ObjOk X.prog X.w H s.heap a (.dK kvs) from I.hok a _ ea);obtain⟨o,es,ep,h1,h2,_⟩:=p;exact Bq PySem.W.kitx_dict I.kIn ⟨o,h1,h2.1⟩ e (λ z=>nomatch z) h
 | @dT a kvs ea=>
  cases(show u=Value.ref a from rx);obtain⟨_,_,xs,_,o,es,ep,h1,h2,_⟩:=(show ObjOk X.prog X.w H s.heap a (.dT kvs) from I.hok a _ ea);exact Bq PySem.W.kitx_dict I.kIn ⟨o,h1,h2.1⟩ e (λ z=>nomatch z) h
 | @ins a C dx fs ea cl ha hn htk hm=>
  cases(show u=Value.ref a from rx);obtain⟨mA,O,_⟩:=gs I.hok ea;obtain⟨od,J,_⟩:=O.look;exact Bq (PySem.W.kitx_own (cl.get _) cl.hd ha hn htk hm) I.kIn J e (λ z=>nomatch z) h
end
structure Room (k:Nat)(A:Around):Prop where
 hd:30≤k->A.handled=none
 dp:A.depth+3*k+5<recursionLimit
 un:A.units+16*k+200<cLine
theorem Room.mono {k:Nat}(r:Room k A)(h:j≤k):Room j A:=⟨λ z=>r.hd (by lia),by have:=r.dp;lia,by have:=r.un;lia⟩
theorem Room.deeper {k:Nat}(r:Room (k+1) A)(env:Env):Room k (A.deeper env):=
 ⟨λ z=>r.hd (by lia),by have:=r.dp;show A.depth+1+3*k+5<_;lia,by have:=r.un;show A.units+3+16*k+200<_;lia⟩
theorem Room.in1 {k:Nat}(r:Room (k+1) A):Room k A.in1:=
 ⟨λ z=>r.hd (by lia),by have:=r.dp;show A.depth+3*k+5<_;lia,by have:=r.un;show A.units+1+16*k+200<_;lia⟩
theorem mQ:(A.under (.builtin "type.__call__" ⟨.ref C::us,kw⟩)).depth=A.depth+1:=by
 first|rfl|simp [Around.under,Code.weight,Code.isCreation,Code.isGuard,Code.isCaller,Code.frames,Code.isFrame,guardIds]
theorem mF:(A.under (.builtin "type.__call__" ⟨.ref C::us,kw⟩)).units=A.units+1:=by
 first|rfl|simp [Around.under,Code.cUnits,Code.frames,Code.isFrame]
theorem Room.make {k:Nat}(r:Room (k+1) A)(C:Addr)(us:List Value)(kw:List (Str×Value)):Room k (A.under (.builtin "type.__call__" ⟨.ref C::us,kw⟩)):=
 ⟨λ z=>r.hd (by lia),by have:=r.dp;rw [mQ];lia,by have:=r.un;rw [mF];lia⟩
theorem Room.depth {k:Nat}(r:Room k A):A.depth<recursionLimit:=by have:=r.dp;lia
theorem Room.units {k:Nat}(r:Room k A):A.units+64<cLine:=by have:=r.un;lia
def jx:TA:=λ _ H Q=>Q [] H
def gg (ta:TE)(tr:TA):TA:=λ σ H Q=>ta σ H λ x H1=>tr σ H1 λ xs H2=>Q (x::xs) H2
section
variable {X : Cx} {e : Expr} {es : List Expr} {te : TE} {t : TA} {pos : Pos}
theorem ad:PA X [] jx:=λ _ _ _ _ H Q I h=>Calls.spliced_nil ⟨[],H,I,.nil,h⟩
theorem aa (ha:PE X e te)(hr:PA X es t)(hs:starEach (e::es) X.env=(false,eval e X.env)::starEach es X.env:=by rfl):PA X (e::es) (gg te t):=by
 intro pos pins s σ H Q I h;rw [hs];show wpAny _ _ (spliced ((false,eval e X.env)::backTo pos (starEach es X.env))) _ _ s;refine Calls.spliced_cons (thn (ha pins s σ H _ I h) λ u s1 z9=>?_);obtain⟨x,H1,I1,r1,q1⟩:=z9;exact thn (hr pos pins s1 σ H1 _ I1 q1) λ us s2 ⟨xs,H2,I2,r2,q2⟩=>⟨x::xs,H2,I2,.cons r1 r2,q2⟩
def yh (t:TA):TE:=λ σ H Q=>t σ H λ xs H1=>xs.length≤sizeLine/\∀p,H1 p=none->Q (.ref p) (upd H1 p (.tup xs))
def ye (t:TA):TE:=λ σ H Q=>t σ H λ xs H1=>xs.length≤sizeLine/\∀p,H1 p=none->Q (.ref p) (upd H1 p (.lst xs))
theorem cC {x1}(h:PA X es t):PE X (.Tuple es x1 pos) (yh t):=by
 intro pins s σ H Q I hq;refine wpAny_Tuple_spliced (thn (h pos pins s σ H _ I hq) λ us s1 ⟨xs,H1,I1,r,z,q⟩=>⟨by rw [<-r.length];exact z,?_⟩);have hf:H1 s1.heap.objs.size=none:=I1.hok.fresh (zy _);refine⟨.ref s1.heap.objs.size,upd H1 s1.heap.objs.size (.tup xs),I1.laid (t':=s1.toks) (λ b u e=>zB _ e) (zy _) ?_,rfl,q _ hf⟩;exact⟨z,us,r,⟨_,Ak _ rfl,rfl,_,rfl⟩⟩
theorem aW (h:PA X es t):PE X (.List es pos) (ye t):=by
 intro pins s σ H Q I hq;refine wpAny_List_spliced (thn (h pos pins s σ H _ I hq) λ us s1 ⟨xs,H1,I1,r,z,q⟩=>⟨by rw [<-r.length];exact z,?_⟩);have hf:H1 s1.heap.objs.size=none:=I1.hok.fresh (zy _);refine⟨.ref s1.heap.objs.size,upd H1 s1.heap.objs.size (.lst xs),I1.laid (t':=s1.toks) (λ b u e=>zB _ e) (zy _) ?_,rfl,q _ hf⟩;exact⟨z,us,0,r,Ak _ rfl⟩
end
abbrev Sp:=List V->Hp->VK->XK->Prop
abbrev CXT:=List Env->Hp->Shared->XK->Value->Shared->Prop
structure Env0 (P:Program)(w:World)(K:PySem.W.Frag)(mg:Str->Option Value)(base:Heap)(A:Around)(outer:List Env)(s:Shared)(H:Hp):Prop where
 frames:A.frames=some outer
 mod:Mod K mg base
 bs:∀b o,base.get? b=some o->s.heap.get? b=some o/\H b=none
 bsz:base.objs.size≤s.heap.objs.size
 funs:s.heap.FunFrames base outer
 frf:∀b∈frs outer,H b=none
 hok:HOk P w H s.heap
 bare:AllBare s.gens
 qt:Qt A H
def CE (outer:List Env)(P:Program)(w:World)(H:Hp)(s:Shared)(Q:VK)(u:Value)(s':Shared):Prop:=
 ∃v H',s'.os=s.os/\AllBare s'.gens/\Un (frs outer) [] H H' s.heap s'.heap/\HOk P w H' s'.heap/\RelV v u/\Q v H'
def CR (CX:CXT)(outer:List Env)(P:Program)(w:World)(H:Hp)(s:Shared)(Q:VK)(E:XK)(r:Result)(s':Shared):Prop:=
 match r with
 | .ok (.ret u)=>CE outer P w H s Q u s'
 | .ok _=>False
 | .error e=>CX outer H s E e s'
structure FnOk (P:Program)(w:World)(K:PySem.W.Frag)(mg:Str->Option Value)(base:Heap)(CX:CXT)(k:Nat)(f:Addr)(fd:FuncData)(ps:List Str)(sp:Sp):Prop where
 len:∀vs H Q E,sp vs H Q E->vs.length=ps.length
 run:∀(A:Around) (outer:List Env) (s:Shared) (H:Hp) (args:Args) (us:List Value) (vs:List V) (Q:VK) (E:XK),Room k A->Env0 P w K mg base A outer s H->BindsTo s fd args (ps.zip us)->Vals vs us->sp vs H Q E->
  codeAny (model P w) A (.call (.ref f) args) (CR CX outer P w H s Q E) s
theorem FnOk.mono {k:Nat}(F:FnOk P w K mg base CX j f fd ps sp)(h:j≤k):
  FnOk P w K mg base CX k f fd ps sp:=⟨F.len,λ A outer s H args us vs Q E hr=>F.run A outer s H args us vs Q E (hr.mono h)⟩
theorem FnOk.imp {k:Nat}{sp':Sp}(F:FnOk P w K mg base CX k f fd ps sp)
  (h:∀vs H Q E,sp' vs H Q E->sp vs H Q E):FnOk P w K mg base CX k f fd ps sp':=
 ⟨λ vs H Q E q=>F.len vs H Q E (h _ _ _ _ q),λ A outer s H args us vs Q E hr he hb hv hs=>F.run A outer s H args us vs Q E hr he hb hv (h _ _ _ _ hs)⟩
theorem Env0.make (e:Env0 P w K mg base A outer s H)(C:Addr)(us:List Value)(kw:List (Str×Value)):
  Env0 P w K mg base (A.under (.builtin "type.__call__" ⟨.ref C::us,kw⟩)) outer s H:=⟨by first|exact e.frames|(simpa [Around.under,Code.envs,Code.isFrame,pushEnvs] using e.frames),e.mod,e.bs,e.bsz,e.funs,e.frf,e.hok,e.bare,e.qt⟩
theorem Env0.in1 (e:Env0 P w K mg base A outer s H):
  Env0 P w K mg base A.in1 outer s H:=⟨e.frames,e.mod,e.bs,e.bsz,e.funs,e.frf,e.hok,e.bare,e.qt⟩
section
variable {X : Cx} {pins : List (Addr × Obj)} {σ : St} {H : Hp} {s s' : Shared}
theorem Inv.env0 (I:Inv X pins σ H s):Env0 X.prog X.w X.K X.mg X.base X.A X.stack s H:=
 ⟨I.ok.frames,I.ok.mod,I.bs,AM I.ok.bsz I.sz,I.stack,I.stkFree,I.hok,I.bare,I.qt⟩
theorem Inv.after {Q:VK}(I:Inv X pins σ H s)(h:CE X.stack X.prog X.w H s Q u s'):EP X pins σ Q u s':=by
 obtain⟨v,H',os,bare,un,hok,r,q⟩:=h;obtain⟨hh,g,d,t,os'⟩:=s';obtain rfl:os'=s.os:=os;exact⟨v,H',I.call (h':=hh) (g':=g) (d':=d) (t':=t) (ch:=[]) un hok bare (λ b z=>absurd z (by simp)),r,q⟩
end
def o1 (sp:Sp)(dvs:List V)(E:XK)(t:TA):TE:=λ σ H Q=>t σ H λ vs H1=>sp (vs++dvs) H1 Q E
def qX (C:Addr)(m:Str)(sp:Sp)(dvs:List V)(E:XK)(ta:TE)(t:TA):TE:=λ σ H Q=>ta σ H λ x H1=>∃a dx fs,x=.ref a/\H1 a=some (.ins C dx fs)/\fs.lookup m=none/\
 t σ H1 λ vs H2=>sp (x::(vs++dvs)) H2 Q E
def wp (C:Addr)(sp:Sp)(dvs:List V)(E:XK)(t:TA):TE:=λ σ H Q=>t σ H λ vs H1=>∀x dx,H1 x=none->H1 dx=none->dx≠x->
 sp (.ref x::(vs++dvs)) (upd (upd H1 dx (.own x)) x (.ins C dx [])) (λ v H2=>v=.non/\Q (.ref x) H2) E
def Binds (K:PySem.W.Frag)(fd:FuncData)(ps:List Str)(ds:List Value):Prop:=
 ∀(s:Shared) (us:List Value),K.In s.heap->(us++ds).length=ps.length->BindsTo s fd ⟨us,[]⟩ (ps.zip (us++ds))
theorem Binds.all (h:∀us:List Value,us.length=ps.length->bindArgs fd ⟨us,[]⟩=pure (ps.zip us)):Binds K fd ps []:=λ s us _ hl=>by
 rw [Ax] at hl ⊢;exact .of_eq (h us hl)
def dk (CX:CXT)(X:Cx)(E:XK):Prop:=∀(pins:List (Addr×Obj)) (σ:St) (H:Hp) (s:Shared) (e:Value) (s':Shared),Inv X pins σ H s->CX X.stack H s E e s'->X.xe e s'
section
variable {X : Cx} {CX : CXT} {k : Nat} {f C : Addr} {fd : FuncData} {ps : List Str} {sp : Sp} {dvs : List V} {ds : List Value} {E : XK} {x m : Str} {p pos apos : Pos} {e o : Expr} {es : List Expr} {ta : TE} {t : TA}
theorem run_fn {Q:VK}(F:FnOk X.prog X.w X.K X.mg X.base CX k f fd ps sp)(hr:Room k X.A)(hb:Binds X.K fd ps ds)(hd:Vals dvs ds)(hx:dk CX X E)
  (I:Inv X pins σ H s) (r:Vals vs us) (h:sp (vs++dvs) H Q E):wpAny (model X.prog X.w) X.A (call (.ref f) us) (EP X pins σ Q) X.xe s:=by
 have r2:Vals (vs++dvs) (us++ds):=r.append hd;have hl:(us++ds).length=ps.length:=by rw [<-r2.length];exact F.len _ _ _ _ h
 refine wpAny_call (Dp (F.run X.A X.stack s H ⟨us,[]⟩ (us++ds) (vs++dvs) Q E hr I.env0 (hb s us I.kIn hl) r2 h) λ r s' hq=>?_);cases r with
 |error e=>exact hx pins σ H s e s' I hq
 |ok fl=>
  cases fl with
  |ret u=>exact I.after hq
  |next=>exact False.elim hq
  |brk=>exact False.elim hq
  |cont=>exact False.elim hq
theorem am (F:FnOk X.prog X.w X.K X.mg X.base CX k f fd ps sp)(hr:Room k X.A)(hg:Gl X x)(hm:X.mg x=some (.ref f))(hk:PySem.W.keepIn X.K (.ref f)=true)(hb:Binds X.K fd ps ds)(hd:Vals dvs ds)(hx:dk CX X E)
  (ha:PA X (e::es) t) (hdb:(x==("__debug__":Str))=false:=by decide) (he:starEach (e::es) X.env=(false,eval e X.env)::starEach es X.env:=by rfl) (hpl:(backTo pos (starEach es X.env)).any (·.1)=false:=by rfl):
  PE X (.Call (.Name x p) (e::es) [] pos) (o1 sp dvs E t):=by
 intro pins s σ H Q I h;refine Bm (ld_glob I hg hm ?_ hdb);refine Dg (h₀:=X.base) I.ok.mod.kin hk (thn (ha pos pins s σ H _ I h) λ us s1 ⟨vs,H1,I1,r,q⟩=>⟨I1.kIn,?_⟩) he hpl;exact run_fn F hr hb hd hx I1 r q
theorem im (F:FnOk X.prog X.w X.K X.mg X.base CX k f fd ps sp)(hr:Room k X.A)(hg:Gl X x)(hm:X.mg x=some (.ref f))(hk:PySem.W.keepIn X.K (.ref f)=true)(hb:Binds X.K fd ps ds)(hd:Vals dvs ds)(hx:dk CX X E)
  (hdb:(x==("__debug__":Str))=false:=by decide):PE X (.Call (.Name x p) [] [] pos) (o1 sp dvs E jx):=by
 intro pins s σ H Q I h;refine Bm (ld_glob I hg hm ?_ hdb);exact CV I.kIn hk (run_fn (us:=[]) F hr hb hd hx I .nil h)
theorem aI {pl:Sem Bool}(he:PE X o ta)(c:Cls X.K C)(hm:Meth X.K C m f)(F:FnOk X.prog X.w X.K X.mg X.base CX k f fd ps sp)(hr:Room k X.A)(hb:Binds X.K fd ps ds)(hd:Vals dvs ds)(hx:dk CX X E)(ha:PA X (e::es) t)
    (hst:starEach (e::es) X.env=(false,eval e X.env)::starEach es X.env:=by rfl) (hpl:(backTo pos (starEach es X.env)).any (·.1)=false:=by rfl)
    (ht:eval (.Call (.Attribute o m apos) (e::es) [] pos) X.env=(do
      let ov<-eval o X.env
      standAt apos.atName
      let(f,first)<-holding [ov] (getMethod ov m pl)
      callWith pos f first (backTo pos (starEach (e::es) X.env)) (backToKw pos (keywordEach [] X.env))):=by rfl):
    PE X (.Call (.Attribute o m apos) (e::es) [] pos) (qX C m sp dvs E ta t):=by
  intro pins s σ H Q I h
  refine Du (pl:=pl) (thn (he pins s σ H _ I h) λ u s1 z9=>?_) ht
  obtain⟨x,H1,I1,rx,a,dx,fs,ex,ea,l,q⟩:=z9
  subst ex
  obtain rfl:u=Value.ref a:=rx
  refine eg I1 ea c hm l ?_
  refine Dg (first:=[.ref a]) (h₀:=X.base) I.ok.mod.kin hm.kp (thn (ha pos pins s1 σ H1 _ I1 q) λ us s2 ⟨vs,H2,I2,r,q2⟩=>⟨I2.kIn,?_⟩) hst hpl
  exact run_fn (us:=.ref a::us) (vs:=.ref a::vs) F hr hb hd hx I2 (.cons rfl r) q2
theorem bh {pl:Sem Bool}(he:PE X o ta)(c:Cls X.K C)(hm:Meth X.K C m f)(F:FnOk X.prog X.w X.K X.mg X.base CX k f fd ps sp)(hr:Room k X.A)(hb:Binds X.K fd ps ds)(hd:Vals dvs ds)(hx:dk CX X E)
    (ht:eval (.Call (.Attribute o m apos) [] [] pos) X.env=(do
      let ov<-eval o X.env
      standAt apos.atName
      let(f,first)<-holding [ov] (getMethod ov m pl)
      callWith pos f first (backTo pos (starEach [] X.env)) (backToKw pos (keywordEach [] X.env))):=by rfl):
    PE X (.Call (.Attribute o m apos) [] [] pos) (qX C m sp dvs E ta jx):=by
  intro pins s σ H Q I h
  refine Du (pl:=pl) (thn (he pins s σ H _ I h) λ u s1 z9=>?_) ht
  obtain⟨x,H1,I1,rx,a,dx,fs,ex,ea,l,q⟩:=z9
  subst ex
  obtain rfl:u=Value.ref a:=rx
  refine eg I1 ea c hm l ?_
  exact CV (first:=[.ref a]) I1.kIn hm.kp (run_fn (us:=[.ref a]) (vs:=[.ref a]) F hr hb hd hx I1 (.cons rfl .nil) q)
structure Mk (K:PySem.W.Frag)(C f:Addr):Prop where
 makes:PySem.W.makesIn K C=true
 init:PySem.W.findIn K (.ref C) "__init__"=some (some (.ref f))
 fn:PySem.W.isFn K (.ref f)=true
 kp:PySem.W.keepIn K (.ref C)=true
theorem run_make {Q:VK}(M:Mk X.K C f)(F:FnOk X.prog X.w X.K X.mg X.base CX k f fd ps sp)(hr:Room (k+1) X.A)(hb:Binds X.K fd ps ds)(hd:Vals dvs ds)
  (hx:dk CX X E) (I:Inv X pins σ H s) (r:Vals vs us)
  (h:∀x dx,H x=none->H dx=none->dx≠x->sp (.ref x::(vs++dvs)) (upd (upd H dx (.own x)) x (.ins C dx [])) (λ v H2=>v=.non/\Q (.ref x) H2) E):
  wpAny (model X.prog X.w) X.A (call (.ref C) us) (EP X pins σ Q) X.xe s:=by
 have hq:=h (s.heap.objs.size+1) s.heap.objs.size (I.hok.fresh (CT _)) (I.hok.fresh (zy _)) (AE (CP _));have I2:=Inv.made (C:=C) I;have r2:Vals (V.ref (s.heap.objs.size+1)::(vs++dvs)) (Value.ref (s.heap.objs.size+1)::(us++ds)):=.cons rfl (r.append hd);have hl:(Value.ref (s.heap.objs.size+1)::us++ds).length=ps.length:=by
  have e:=r2.length;rw [F.len _ _ _ _ hq] at e;exact e.symm
 refine wpAny_call (tM (f:=f) I.kIn M.makes M.init (Au.mp M.fn) (Dp (F.run _ X.stack _ _ ⟨Value.ref (s.heap.objs.size+1)::us,[]⟩ (Value.ref (s.heap.objs.size+1)::(us++ds)) _ _ E (hr.make C us [])
  (I2.env0.make C us []) (hb _ (Value.ref (s.heap.objs.size+1)::us) I2.kIn hl) r2 hq) λ r s' hq'=>?_))
 cases r with
 |error e=>exact hx pins σ _ _ e s' I2 hq'
 |ok fl=>
  cases fl with
  |ret u=>
   obtain⟨v,H',I3,rv,ev,q3⟩:=I2.after hq';subst ev;exact⟨rv,⟨V.ref (s.heap.objs.size+1),H',I3,rfl,q3⟩⟩
  |next=>exact False.elim hq'
  |brk=>exact False.elim hq'
  |cont=>exact False.elim hq'
theorem nJ (M:Mk X.K C f)(F:FnOk X.prog X.w X.K X.mg X.base CX k f fd ps sp)(hr:Room (k+1) X.A)(hg:Gl X x)(hm:X.mg x=some (.ref C))(hb:Binds X.K fd ps ds)(hd:Vals dvs ds)(hx:dk CX X E)
  (ha:PA X (e::es) t) (hdb:(x==("__debug__":Str))=false:=by decide) (he:starEach (e::es) X.env=(false,eval e X.env)::starEach es X.env:=by rfl) (hpl:(backTo pos (starEach es X.env)).any (·.1)=false:=by rfl):
  PE X (.Call (.Name x p) (e::es) [] pos) (wp C sp dvs E t):=by
 intro pins s σ H Q I h;refine Bm (ld_glob I hg hm ?_ hdb);refine Dg (h₀:=X.base) I.ok.mod.kin M.kp (thn (ha pos pins s σ H _ I h) λ us s1 ⟨vs,H1,I1,r,q⟩=>⟨I1.kIn,?_⟩) he hpl;exact run_make M F hr hb hd hx I1 r q
theorem kO (M:Mk X.K C f)(F:FnOk X.prog X.w X.K X.mg X.base CX k f fd ps sp)(hr:Room (k+1) X.A)(hg:Gl X x)(hm:X.mg x=some (.ref C))(hb:Binds X.K fd ps ds)(hd:Vals dvs ds)(hx:dk CX X E)
  (hdb:(x==("__debug__":Str))=false:=by decide):PE X (.Call (.Name x p) [] [] pos) (wp C sp dvs E jx):=by
 intro pins s σ H Q I h;refine Bm (ld_glob I hg hm ?_ hdb);exact CV I.kIn M.kp (run_make (us:=[]) M F hr hb hd hx I .nil h)
end
section
variable {X : Cx} {CX : CXT} {k : Nat} {f C : Addr} {fd : FuncData} {ps ks : List Str} {sp : Sp} {E : XK} {x m : Str} {p pos apos kpos : Pos} {e o : Expr} {es : List Expr} {kws : List Keyword} {te ta : TE} {t tk : TA} {nm : Option Str}
structure KBinds (K:PySem.W.Frag)(fd:FuncData)(ps ks:List Str)(g:List Value->List Value->List Value)(gV:List V->List V->List V):Prop where
 to:∀(s:Shared) (us ws:List Value),K.In s.heap->(g us ws).length=ps.length->BindsTo s fd ⟨us,ks.zip ws⟩ (ps.zip (g us ws))
 rel:∀{vs:List V} {us:List Value} {zs:List V} {ws:List Value},Vals vs us->Vals zs ws->Vals (gV vs zs) (g us ws)
variable {g : List Value -> List Value -> List Value} {gV : List V -> List V -> List V}
end
structure FnScope (N P:List Str)(sc:Scope):Prop where
 kind:sc.kind=.function
 co:sc.isCoroutine=false
 gen:sc.isGenerator=false
 nd:N.Nodup
 pre:N.take P.length=P
 par:∀x∈P,sc.names.lookup x=some .local\/sc.names.lookup x=some .cell
 nofree:∀y∈sc.names,y.2≠ .free
def scB (N P:List Str)(c:Scope):Bool:=decide (c.kind=.function)&& !c.isCoroutine&& !c.isGenerator&&decide N.Nodup&&decide (N.take P.length=P)&&P.all (λ x=>decide (c.names.lookup x=some .local\/c.names.lookup x=some .cell))&&c.names.all λ y=>decide (y.2≠.free)
theorem scK {P:List Str}{c:Scope}(h:scB N P c=true):FnScope N P c:=by
 simp only [scB,Bool.and_eq_true,decide_eq_true_eq,Bool.not_eq_true',D5] at h;obtain⟨⟨⟨⟨⟨⟨a,b⟩,d⟩,e⟩,f⟩,g⟩,i⟩:=h;exact⟨a,b,d,e,f,g,i⟩
theorem iS:∀{binds:List (Str×Value)} {m:Str->Option Value},(∀v,(x,v)∉binds)->bindL kindOf binds m x=m x
 | [],_,_=>rfl
 |(n,v)::r,m,h=>by
  unfold bindL;rw [iS λ w hw=>h w (zC _ hw)]
  split
  ·have:x≠n:=by rintro rfl;exact h v zH
   simp [this]
  ·rfl
theorem iX:∀{binds:List (Str×Value)} {m:Str->Option Value},(∀v,(x,v)∉binds)->bindC kindOf binds m x=m x
 | [],_,_=>rfl
 |(n,v)::r,m,h=>by
  unfold bindC;rw [iX λ w hw=>h w (zC _ hw)]
  split
  ·rfl
  ·have:x≠n:=by rintro rfl;exact h v zH
   simp [this]
theorem iP {v:Value}:∀{P:List Str} {vs:List Value} {i:Nat} {m:Str->Option Value},P.Nodup->P[i]?=some x->vs[i]?=some v->kindOf x=some .local->
  bindL kindOf (P.zip vs) m x=some v
 | [],_,_,_,_,h,_,_=>by simp at h
 |_::_,[],_,_,_,_,h,_=>by simp at h
 |p::P,w::vs,0,m,nd,h1,h2,hk=>by
  simp at h1 h2;subst h1;subst h2;show bindL kindOf ((p,w)::P.zip vs) m p=_;unfold bindL;rw [iS λ v hv=>(Cy.mp nd).1 (Da hv).1,zP hk];simp
 |p::P,w::vs,i+1,m,nd,h1,h2,hk=>by
  show bindL kindOf ((p,w)::P.zip vs) m x=_;unfold bindL;exact iP (i:=i) (Cy.mp nd).2 (by simpa using h1) (by simpa using h2) hk
theorem iR {v:Value}:∀{P:List Str} {vs:List Value} {i:Nat} {m:Str->Option Value},P.Nodup->P[i]?=some x->vs[i]?=some v->kindOf x≠some .local->
  bindC kindOf (P.zip vs) m x=some v
 | [],_,_,_,_,h,_,_=>by simp at h
 |_::_,[],_,_,_,_,h,_=>by simp at h
 |p::P,w::vs,0,m,nd,h1,h2,hk=>by
  simp at h1 h2;subst h1;subst h2;show bindC kindOf ((p,w)::P.zip vs) m p=_;unfold bindC;rw [iX λ v hv=>(Cy.mp nd).1 (Da hv).1,zK hk];simp
 |p::P,w::vs,i+1,m,nd,h1,h2,hk=>by
  show bindC kindOf ((p,w)::P.zip vs) m x=_;unfold bindC;exact iR (i:=i) (Cy.mp nd).2 (by simpa using h1) (by simpa using h2) hk
def start (N:List Str)(vs:List V):St:=vs.map some++List.replicate (N.length-vs.length) none
def cxOf (CX:CXT)(P:Program)(w:World)(K:PySem.W.Frag)(mg:Str->Option Value)(base:Heap)(N:List Str)(qual:Str)(scope:Scope)(f:Addr)(cd:Value)(A:Around)(outer:List Env)(s:Shared)(H:Hp)(E:XK):Cx where
 prog:=P
 w:=w
 K:=K
 mg:=mg
 base:=base
 A:=A.deeper (envOfC qual scope s.heap.objs.size f cd)
 N:=N
 s₀:=s
 H₀:=H
 env:=envOfC qual scope s.heap.objs.size f cd
 outer:=outer
 stack:=envOfC qual scope s.heap.objs.size f cd::outer
 ex:=[]
 calm:=true
 fn:=λ _=>true
 pn:=[]
 xe:=λ e s'=>wpAny (model P w) (A.deeper (envOfC qual scope s.heap.objs.size f cd)) (leaving (envOfC qual scope s.heap.objs.size f cd) e) (λ _ s''=>CX outer H s E e s'') (λ e' s''=>CX outer H s E e' s'') s'
theorem kG {sc:Scope}(h:sc.names.lookup x=some .cell):∃c,(cellsFrom n sc.names []).lookup x=some c:=by
 have q:=Dn sc.names n [] (.inl h);exact Option.isSome_iff_exists.mp q
theorem iU {cd:Value}{s1:Shared}{E:XK}
  (S:FnScope N ps scope) (e0:Env0 P w K mg base A outer s H) (hl:vs.length=ps.length) (r:Vals vs us)
  (x:InCallC s s.heap.objs.size (bindL (envOfC qual scope s.heap.objs.size f cd).kindOf (ps.zip us) λ _=>none) (cellsFrom (s.heap.objs.size+1) scope.names []) (bindC (envOfC qual scope s.heap.objs.size f cd).kindOf (ps.zip us) λ _=>none) s1):
  Inv (cxOf CX P w K mg base N qual scope f cd A outer s H E) [] (start N vs) H s1:=by
 have hpl:ps.length≤N.length:=by have:=Bk List.length S.pre;rw [zW] at this;lia
 obtain⟨h1,tk,rfl,hk⟩:=x.done;have noA:∀b:Addr,b∉(cxOf CX P w K mg base N qual scope f cd A outer s H E).ex:=λ b z=>absurd (show b∈([]:List Addr) from z) (by simp)
 refine⟨⟨e0.mod,S.kind,rfl,rfl,zy _,λ y z c h1 h2=>?_,λ y hy=>?_,λ y c _ h=>?_,e0.qt,Around.frames_deeper e0.frames,.inr ⟨rfl,rfl⟩,λ b z=>absurd z (noA b),e0.bs,e0.bsz,λ b _ _=>noA b,λ b z=>absurd z (noA b),e0.funs,e0.frf⟩,
  rfl,e0.bare,Un.kept hk,⟨_,x.toInCall.ns,λ i y v h1 h2 h3=>?_⟩,λ y c h=>⟨_,x.cell y c h⟩,e0.hok.fresh (zy _),λ y c h=>?_,λ p hp=>absurd (show p∈([]:List (Addr×Obj)) from hp) (by simp),e0.hok.kept hk,?_⟩
 ·exact name_of_addr x.apart (Ar h1) (Ar h2)
 ·have hy:scope.names.lookup y=some .cell\/scope.names.lookup y=some .free:=hy;rcases hy with hy|hy
  ·exact kG hy
  ·exact absurd rfl (S.nofree _ (Ar hy))
 ·exact Nat.le_of_lt (x.above y c (Ar h))
 ·have hi:i<vs.length:=by
   unfold start at h2;by_cases hi:i<vs.length
   ·exact hi
   ·rw [Aj (by simpa using hi)] at h2;rw [Cc] at h2
    split at h2<;>cases h2
  have ha:vs[i]?=some v:=by
   unfold start at h2;rw [AV (by simpa using hi),AA] at h2;cases e:vs[i]? with
   |none=>rw [e] at h2;cases h2
   |some a=>rw [e] at h2;cases h2;rfl
  obtain⟨u,hu,rv⟩:=r.get ha;have hp:ps[i]?=some y:=by
   rw [<-S.pre,List.getElem?_take_of_lt (by lia)];exact h1
  have ndP:ps.Nodup:=by rw [<-S.pre];exact S.nd.sublist (B4 _ _)
  refine⟨u,rv,?_⟩;rcases S.par y (AK hp) with k|k
  ·exact .inl ⟨k,iP ndP hp hu k⟩
  ·obtain⟨c,e⟩:=kG (n:=s.heap.objs.size+1) k;refine .inr ⟨.inl k,c,e,?_⟩;have q:=x.cell y c e;rw [iR ndP hp hu (by show scope.names.lookup y≠_;rw [k];decide)] at q;exact q
 ·exact e0.hok.fresh (Nat.le_of_lt (x.above y c (Ar h)))
 ·unfold start;show _=N.length;rw [zv,zr,AR];lia
theorem sP {k:Nat}{name:Str}{params:Arguments}{dV kV doc pm cdv ct oc:Value}{an od:Option Addr}
  {osl:Array (Option Value)} {N ps:List Str} {sp:Sp} (lk:K.lookup f=some ⟨oc,od,.func (PySem.W.fnOf name qual params body scope dV kV doc pm an cdv ct),osl⟩) (hcd:PySem.W.codeIn K cdv qual=true) (S:FnScope N ps scope)
  (len:∀vs H Q E,sp vs H Q E->vs.length=ps.length)
  (hbody:∀(A:Around) (outer:List Env) (s:Shared) (H:Hp) (vs:List V) (Q:VK) (E:XK),Room k (A.deeper (envOfC qual scope s.heap.objs.size f cdv))->sp vs H Q E->
   ∃t,PSs (cxOf CX P w K mg base N qual scope f cdv A outer s H E) body t/\t {nx:=λ _ H'=>Q .non H',rt:=Q} (start N vs) H):
  FnOk P w K mg base CX (k+1) f (PySem.W.fnOf name qual params body scope dV kV doc pm an cdv ct) ps sp:=by
 refine⟨len,λ A outer s H args us vs Q E hr e0 hb r hsp=>?_⟩;have hl:=len _ _ _ _ hsp;have KX:K.In s.heap:=e0.mod.kin.keeps λ b o e=>(e0.bs b o e).1
 have lim:s.heap.NoLimit:=e0.mod.nolimit.keeps λ b o e=>(e0.bs b o e).1
 have hkind:∀y∈ps.zip us,scope.names.lookup y.1=some .local\/(scope.names.lookup y.1=some .cell/\((cellsFrom (s.heap.objs.size+1) scope.names []).lookup y.1).isSome=true):=λ⟨n,v⟩ hy=>by
  rcases S.par n (Da hy).1 with q|q
  ·exact .inl q
  ·exact .inr ⟨q,Dn _ _ _ (.inl q)⟩
 refine codeAny_call_function hr.depth (KX _ _ lk) rfl S.co S.gen rfl (PySem.W.codeRec_of KX hcd) (hb _ _ _ _ ?_);refine wpAny_newFunctionEnv_cells S.kind hkind λ env he s1 x=>?_
 subst he;refine⟨lim.keeps x.toInCall.keep,codeAny_func ?_⟩;obtain⟨t,ht,hq⟩:=hbody A outer s H vs Q E (hr.deeper _) hsp;have I:Inv (cxOf CX P w K mg base N qual scope f cdv A outer s H E) [] (start N vs) H s1:=iU S e0 hl r x;refine AX (ht [] s1 (start N vs) H _ I hq) (λ fl s' hs=>?_) λ e s' hs=>hs
 have fin:∀{σ':St} {H':Hp} {v:V} {u:Value},Inv (cxOf CX P w K mg base N qual scope f cdv A outer s H E) [] σ' H' s'->RelV v u->Q v H'->CE outer P w H s Q u s':=
  λ {σ' H' v u} J rv q=>⟨v,H',J.os,J.bare,J.base,J.hok,rv,q⟩
 cases fl with
 |ret u=>
  obtain⟨v,σ',H',J,rv,q⟩:=hs;exact fin J rv q
 |next=>
  obtain⟨σ',H',J,q⟩:=hs;exact fin (v:=V.non) (u:=Value.none) J rfl q
 |brk=>
  obtain⟨_,_,_,q⟩:=hs;exact False.elim q
 |cont=>
  obtain⟨_,_,_,q⟩:=hs;exact False.elim q
section
variable {X : Cx} {x : Str} {p pos : Pos} {e : Expr} {es : List Expr} {t : TA} {id T : String} {r : List V -> Hp -> VK -> Prop}
def tCB (r:List V->Hp->VK->Prop)(t:TA):TE:=λ σ H Q=>t σ H λ vs H1=>r vs H1 Q
theorem aq (hc:CallR X (.builtin id) r)(hg:Gl X x)(hm:X.mg x=none)(hv:bootBuiltins x=some (.builtin id))(ha:PA X (e::es) t)(hn:x≠ "__name__":=by decide)(hdb:(x==("__debug__":Str))=false:=by decide)
  (he:starEach (e::es) X.env=(false,eval e X.env)::starEach es X.env:=by rfl) (hpl:(backTo pos (starEach es X.env)).any (·.1)=false:=by rfl):PE X (.Call (.Name x p) (e::es) [] pos) (tCB r t):=by
 intro pins s σ H Q I h;refine Bm (ld_blt I hg hm hv ?_ hn hdb);exact PyProof.Rows.callWith_builtin1 (thn (ha pos pins s σ H _ I h) λ us s1 ⟨vs,H1,I1,r1,q1⟩=>hc pins s1 σ H1 vs us Q I1 r1 q1) he hpl
theorem aU (hc:CallR X (.type T) r)(hg:Gl X x)(hm:X.mg x=none)(hv:bootBuiltins x=some (.type T))(ha:PA X (e::es) t)(hn:x≠ "__name__":=by decide)(hdb:(x==("__debug__":Str))=false:=by decide)
  (he:starEach (e::es) X.env=(false,eval e X.env)::starEach es X.env:=by rfl) (hpl:(backTo pos (starEach es X.env)).any (·.1)=false:=by rfl):PE X (.Call (.Name x p) (e::es) [] pos) (tCB r t):=by
 intro pins s σ H Q I h;refine Bm (ld_blt I hg hm hv ?_ hn hdb);exact Bz (thn (ha pos pins s σ H _ I h) λ us s1 ⟨vs,H1,I1,r1,q1⟩=>hc pins s1 σ H1 vs us Q I1 r1 q1) he hpl
end
end L2
namespace HT
open PySem PyProof.Rows
section
open PySem.SeqAt
open PySem.AutoSeq1 (wpAny_loadPart')
open PySem.MeetsSeq PySem.MeetsSeq2 PySem.MeetsSeq3
end
section
variable {prog : Program} {w : World} {A : Around} {E : Value -> Shared -> Prop} {s : Shared}
def sIx (n d:Nat):Option Int->Nat
 |none=>d
 |some v=>if v<0 then(v+(n:Int)).toNat else min v.toNat n
theorem sIx_none (n d:Nat):sIx n d none=d:=rfl
theorem sIx_nat (n d k:Nat):sIx n d (some (k:Int))=min k n:=by
 show(if(k:Int)<0 then((k:Int)+(n:Int)).toNat else min (k:Int).toNat n)=min k n;rw [zK (by lia),zV]
end
end HT
namespace L2
open PySem PySem.Spec PyProof.Rows
variable {s : Shared} {j n t' : Nat} {H : Hp} {x y : V} {p : Addr} {its its' us : List Value} {xs : List V} {σ : St} {u v : Value} {A : Around} {r : V->Option Int->Option Int->Hp->VK->Prop} {pins : List (Addr×Obj)}
abbrev TO:=St->Hp->(Option Int->Hp->Prop)->Prop
def PO (X:Cx)(e:Option Expr)(t:TO):Prop:=
 ∀(pins:List (Addr×Obj)) (s:Shared) (σ:St) (H:Hp) (Q:Option Int->Hp->Prop),Inv X pins σ H s->t σ H Q->
  wpAny (model X.prog X.w) X.A (evalPart e X.env) (λ u s'=>∃o H',Inv X pins σ H' s'/\IsPart u o/\Q o H') X.xe s
def uo:TO:=λ _ H Q=>Q none H
def yd (t:TE):TO:=λ σ H Q=>t σ H λ x H1=>∃i,x=.int i/\Q (some i) H1
theorem cx {ns:List Int}:∀{us:List Value},Vals (ns.map V.int) us->IntsAre us ns:=by
 induction ns with
 |nil=>intro us r;rw [CZ] at r;cases r;exact .nil
 |cons n ns ih=>
  intro us r;rw [z8] at r;cases r with
  |cons r1 r2=>
   obtain⟨t,e⟩:=r1;subst e;exact .cons n t (ih r2)
section
variable {X : Cx} {e : Expr} {te : TE} {lo hi : Option Expr} {tl th : TO} {pos p2 : Pos}
theorem gk:PO X none uo:=by
 intro pins s σ H Q I h;rw [evalPart_none];exact Ai ⟨none,H,I,.none,h⟩
theorem cL (h:PE X e te):PO X (some e) (yd te):=by
 intro pins s σ H Q I hw;rw [evalPart_some];refine thn (h pins s σ H _ I hw) λ u s1 z9=>?_
 obtain⟨x,H1,I1,r1,q1⟩:=z9;obtain⟨i,rfl,q⟩:=q1;obtain⟨t,rfl⟩:=r1;exact⟨some i,H1,I1,.int i t,q⟩
def SlR (X:Cx)(r:V->Option Int->Option Int->Hp->VK->Prop):Prop:=
 ∀(pins:List (Addr×Obj)) (s:Shared) (σ:St) (H:Hp) (x:V) (v vl vu:Value) (lo hi:Option Int) (sl:Addr) (Q:VK),Inv X pins σ H s->RelV x v->s.heap.IsSliceOf sl vl vu .none->IsPart vl lo->IsPart vu hi->r x lo hi H Q->
  ∃T id,typeLookup (.type T) "__getitem__"=pure (some (.builtin id))/\s.TypeIs v T/\wpAny (model X.prog X.w) X.A (getItem v (.ref sl)) (EP X pins σ Q) X.xe s
theorem SlR.or {r':V->Option Int->Option Int->Hp->VK->Prop}(h:SlR X r)(h':SlR X r'):SlR X (λ x lo hi H Q=>r x lo hi H Q\/r' x lo hi H Q):=by
 intro pins s σ H x v vl vu lo hi sl Q I rx hs pl pu q;rcases q with q|q
 ·exact h pins s σ H x v vl vu lo hi sl Q I rx hs pl pu q
 ·exact h' pins s σ H x v vl vu lo hi sl Q I rx hs pl pu q
def tSl (r:V->Option Int->Option Int->Hp->VK->Prop)(te:TE)(tl th:TO):TE:=λ σ H Q=>te σ H λ x H1=>tl σ H1 λ l H2=>th σ H2 λ u H3=>r x l u H3 Q
theorem cV (hr:SlR X r)(he:PE X e te)(hl:PO X lo tl)(hu:PO X hi th):PE X (.Subscript e (.Slice lo hi none p2) pos) (tSl r te tl th):=by
 intro pins s σ H Q I h;refine Subscript_ (thn (he pins s σ H _ I h) λ v s1 z9=>?_);obtain⟨x,H1,I1,r1,q1⟩:=z9;refine wpAny_Slice (thn (hl pins s1 σ H1 _ I1 q1) λ vl s2 ⟨l,H2,I2,pl,q2⟩=>thn (hu pins s2 σ H2 _ I2 q2) λ vu s3 z9=>?_);obtain⟨u,H3,I3,pu,q3⟩:=z9;rw [evalPart_none];refine Ai ?_;have I4:Inv X pins σ H3 {s3 with heap:=s3.heap.push {cls:=.type "slice",data:=.fields #[vl,vu,.none]}}:=I3.kept (t':=s3.toks) λ b ob q=>zB _ q
 obtain⟨T,id,hT,ht,hg⟩:=hr pins {s3 with heap:=s3.heap.push {cls:=.type "slice",data:=.fields #[vl,vu,.none]}} σ H3 x v vl vu l u s3.heap.objs.size Q I4 r1 (Heap.IsSliceOf.new ..) pl pu q3;show wpAny (model X.prog X.w) X.A (subscriptTail e (.Slice lo hi none p2) v (.ref s3.heap.objs.size)) (EP X pins σ Q) X.xe {s3 with heap:=s3.heap.push {cls:=.type "slice",data:=.fields #[vl,vu,.none]}};exact tail_any (ops:=[.ref s3.heap.objs.size,v]) ht hT hg (by with_unfolding_all rfl)
def cutV (xs:List V)(lo hi:Option Int):List V:=(xs.drop (HT.sIx xs.length 0 lo)).take (HT.sIx xs.length xs.length hi-HT.sIx xs.length 0 lo)
theorem kI (xs:List V)(lo hi:Option Int):(cutV xs lo hi).length≤xs.length:=by
 unfold cutV;rw [zW,zR];lia
end
def ixN (n:Nat)(i:Int):Option Nat:=if 0≤i then(if i<n then some i.toNat else none) else if-(n:Int)≤i then some (i+n).toNat else none
def atI {α:Type}(xs:List α)(i:Int):Option α:=(ixN xs.length i).bind λ j=>xs[j]?
theorem o8 {i:Int}(h:ixN n i=some j):seqIndex? i n=some j/\j<n/\-(n:Int)≤i/\i<n:=by
 unfold ixN at h;by_cases h0:0≤i
 ·rw [zP h0] at h;by_cases h1:i<n
  ·rw [zP h1] at h;have e:i.toNat=j:=zS h;exact⟨by rw [seqIndex_of h0 h1,e],by lia,by lia,h1⟩
  ·rw [zK h1] at h;cases h
 ·rw [zK h0] at h;by_cases h1:-(n:Int)≤i
  ·rw [zP h1] at h;have e:(i+n).toNat=j:=zS h;exact⟨by rw [seqIndex_neg (by lia) h1,e],by lia,h1,by lia⟩
  ·rw [zK h1] at h;cases h
theorem nL {α:Type}{xs:List α}{i:Int}{v:α}(h:atI xs i=some v):∃j,seqIndex? i xs.length=some j/\xs[j]?=some v/\j<xs.length/\-(xs.length:Int)≤i/\i<xs.length:=by
 unfold atI at h;cases e:ixN xs.length i with
 |none=>rw [e] at h;cases h
 |some j=>
  rw [e] at h;obtain⟨h1,h2,h3,h4⟩:=o8 e;exact⟨j,h1,h,h2,h3,h4⟩
theorem ay {α:Type}{xs:List α}{v:α}(h:xs[j]?=some v):atI xs (j:Int)=some v:=by
 have hj:j<xs.length:=(zz.mp h).1;have e:ixN xs.length (j:Int)=some j:=by
  unfold ixN;rw [zP (by lia),zP (by lia)];simp
 unfold atI;rw [e];exact h
def uF (b:Expr):Prop:=∀o i,subscripted b false o i=operate [o,i] (getItem o i)
def IxR (X:Cx)(r:R2):Prop:=
 ∀(value slice:Expr) (pins:List (Addr×Obj)) (s:Shared) (σ:St) (H:Hp) (x y:V) (v u:Value) (Q:VK),Inv X pins σ H s->RelV x v->RelV y u->r x y H Q->
  subscripted slice false v u=operate [v,u] (getItem v u)->wpAny (model X.prog X.w) X.A (subscriptTail value slice v u) (EP X pins σ Q) X.xe s
def MtR (X:Cx)(id:String)(r:V->List V->Hp->VK->Prop):Prop:=
 ∀(pins:List (Addr×Obj)) (s:Shared) (σ:St) (H:Hp) (x:V) (xs:List V) (v:Value) (us:List Value) (Q:VK),Inv X pins σ H s->RelV x v->Vals xs us->r x xs H Q->
  wpAny (model X.prog X.w) X.A (call (.builtin id) (v::us)) (EP X pins σ Q) X.xe s
section
variable {X : Cx} {a b : Expr} {ta tb : TE} {pos : Pos}
theorem IxR.or {r r':R2}(h:IxR X r)(h':IxR X r'):IxR X (λ x y H Q=>r x y H Q\/r' x y H Q):=by
 intro value slice pins s σ H x y v u Q I rx ry q hs;rcases q with q|q
 ·exact h value slice pins s σ H x y v u Q I rx ry q hs
 ·exact h' value slice pins s σ H x y v u Q I rx ry q hs
theorem MtR.or {id:String}{r r':V->List V->Hp->VK->Prop}(h:MtR X id r)(h':MtR X id r'):MtR X id (λ x xs H Q=>r x xs H Q\/r' x xs H Q):=by
 intro pins s σ H x xs v us Q I rx rs q;rcases q with q|q
 ·exact h pins s σ H x xs v us Q I rx rs q
 ·exact h' pins s σ H x xs v us Q I rx rs q
theorem aM {r:R2}(hr:IxR X r)(ha:PE X a ta)(hb:PE X b tb)(hs:uF b):PE X (.Subscript a b pos) (tOp r ta tb):=by
 intro pins s σ H Q I h;exact Subscript_ (binT ha hb I h λ v u s2 x y H2 I2 rx ry q=>hr a b pins s2 σ H2 x y v u Q I2 rx ry q (hs _ _))
def yA (K:PySem.W.Frag):R2:=λ x y H Q=>∃p xs i v,x=.ref p/\y=.int i/\SqL K H p xs/\atI xs i=some v/\Q v H
def zd (K:PySem.W.Frag):R2:=λ x y H Q=>∃p xs i v,x=.ref p/\y=.int i/\SqT K H p xs/\atI xs i=some v/\Q v H
theorem aP:IxR X (yA X.K):=by
 intro value slice pins s σ H x y v u Q I rx ry h hs;obtain⟨p,xs,i,z,rfl,rfl,hq,he,q⟩:=h;cases rx;obtain⟨t,rfl⟩:=ry;obtain⟨its,r,pl,hz⟩:=I.list hq;obtain⟨j,h1,h2,h3,h4,h5⟩:=nL he;obtain⟨w,ew,rw'⟩:=r.get h2;have hl:=r.length;have hn:=jr;have fin:EP X pins σ Q w s:=⟨z,H,I,rw',q⟩;by_cases h0:0≤i
 ·have hj:i.toNat=j:=by
   rw [seqIndex_of h0 h5] at h1;exact zS h1
  exact item_listR pl.isList h0 (by lia) (by rw [hj];simpa using ew) fin hs
 ·have hj:(i+(its.toArray.size:Int)).toNat=j:=by
   rw [seqIndex_neg (by lia) h4] at h1;rw [zE,<-hl];exact zS h1
  exact subscriptTail_builtinR (x:=w) pl.isList.typeIs slot_list_getitem.lookup
   (wpAny_getItem_list_neg (Q:=λ r s'=>r=w/\EP X pins σ Q r s') pl.isList (by lia) (by rw [zE]<;>lia) (by lia) (by rw [hj];simpa using ew) ⟨rfl,fin⟩) hs
theorem a7:IxR X (zd X.K):=by
 intro value slice pins s σ H x y v u Q I rx ry h hs;obtain⟨p,xs,i,z,rfl,rfl,hq,he,q⟩:=h;cases rx;obtain⟨t,rfl⟩:=ry;obtain⟨its,r,pl,hz⟩:=I.tuple hq;obtain⟨j,h1,h2,h3,h4,h5⟩:=nL he;obtain⟨w,ew,rw'⟩:=r.get h2;have hl:=r.length;have hn:=jr;have fin:EP X pins σ Q w s:=⟨z,H,I,rw',q⟩;exact subscriptTail_builtinR (x:=w) pl.typeIs slot_tuple_getitem.lookup
  (getItem_tuple (j:=j) (Q:=λ r s'=>r=w/\EP X pins σ Q r s') pl (by lia) (by lia) (by rw [zE,<-hl];exact h1) (by simpa using ew) ⟨rfl,fin⟩) hs
theorem mq (its:List Value)(n j:Nat)(u:Value):Obj.mapSeq (·.setIfInBounds j u) {cls:=.type "list",data:=.seq its.toArray n}={cls:=.type "list",data:=.seq (its.set j u).toArray n}:=by
 simp [Obj.mapSeq]
theorem Inv.lst (I:Inv X pins σ H s)(h:H p=some (.lst xs)):
  ∃(its:List Value) (n:Nat),Vals xs its/\s.heap.get? p=some {cls:=.type "list",data:=.seq its.toArray n}/\xs.length≤sizeLine:=by
 obtain⟨z,its,n,r,e⟩:=I.hok p _ h;exact⟨its,n,r,e,z⟩
theorem Inv.lstUpd {ys:List V}{n':Nat}{f:Obj->Obj}(I:Inv X pins σ H s)(h:H p=some (.lst xs))
  (ho:s.heap.get? p=some {cls:=.type "list",data:=.seq its.toArray n}) (hf:f {cls:=.type "list",data:=.seq its.toArray n}={cls:=.type "list",data:=.seq its'.toArray n'}) (r:Vals ys its') (hz:ys.length≤sizeLine) (t:Nat):
  Inv X pins σ (upd H p (.lst ys)) {s with heap:=s.heap.update p f,toks:=t}:=by
 have e:(s.heap.update p f).get? p=some {cls:=.type "list",data:=.seq its'.toArray n'}:=by
  rw [Heap.get?_update_self f ho (by rw [hf]<;>rfl),hf]
 refine I.write (x:=p) (e:=p) (by rw [h];trivial) (.inl rfl) (λ b u hb q=>(Heap.get?_update_other _ _ (DN hb)).trans q) ⟨_,e⟩ ?_;exact⟨hz,its',n',r,e⟩
def yJ:V->V->V->Hp->(Hp->Prop)->Prop:=λ o i v H Q=>∃p xs k j,o=.ref p/\i=.int k/\H p=some (.lst xs)/\ixN xs.length k=some j/\Q (upd H p (.lst (xs.set j v)))
theorem g9:yF X yJ:=by
 intro pins s σ H o i v ov iv u Q I ro ri rv h;obtain⟨p,xs,k,j,rfl,rfl,hp,hj,q⟩:=h;cases ro;obtain⟨t,rfl⟩:=ri;obtain⟨its,n,r,ho,hz⟩:=I.lst hp;obtain⟨h1,h2,h3,h4⟩:=o8 hj;have hl:=r.length;have hn:=jr;have I':Inv X pins σ (upd H p (.lst (xs.set j v))) {s with heap:=s.heap.update p (Obj.mapSeq (·.setIfInBounds j u))}:=
  I.lstUpd hp ho (mq its n j u) (r.set rv j) (by rw [DJ];exact hz) s.toks
 by_cases h0:0≤k
 ·have hk:k.toNat=j:=by
   rw [seqIndex_of h0 h4] at h1;exact zS h1
  exact PySem.W.ki_setAt ho h0 (by lia) (by rw [zE,<-hl];exact h4) (by rw [hk];exact⟨_,I',q⟩)
 ·have hk:(k+(its.toArray.size:Int)).toNat=j:=by
   rw [seqIndex_neg (by lia) h3] at h1;rw [zE,<-hl];exact zS h1
  exact PySem.W.ki_setBack ho (by lia) (by rw [zE,<-hl];exact h3) (by lia) (by rw [hk];exact⟨_,I',q⟩)
theorem jz (lo hi:Option Int)(n:Nat):(sliceBounds lo hi none n).1=((HT.sIx n 0 lo:Nat):Int)/\(sliceBounds lo hi none n).2.1=((HT.sIx n n hi:Nat):Int)/\(sliceBounds lo hi none n).2.2=1:=by
 refine⟨?_,?_,rfl⟩
 ·cases lo with
  |none=>simp [sliceBounds,HT.sIx]
  |some i=>
   simp only [sliceBounds,HT.sIx,Option.getD_none,show(1:Int)>0 by decide,if_true];by_cases h:i<0
   ·simp only [h,if_true]<;>lia
   ·simp only [h,if_false]<;>lia
 ·cases hi with
  |none=>simp [sliceBounds,HT.sIx]
  |some i=>
   simp only [sliceBounds,HT.sIx,Option.getD_none,show(1:Int)>0 by decide,if_true];by_cases h:i<0
   ·simp only [h,if_true]<;>lia
   ·simp only [h,if_false]<;>lia
theorem iM (its:List Value)(lo hi:Option Int):slicePick its.toArray lo hi none=((its.drop (HT.sIx its.length 0 lo)).take (HT.sIx its.length its.length hi-HT.sIx its.length 0 lo)).toArray:=by
 obtain⟨h1,h2,h3⟩:=jz lo hi its.toArray.size;unfold slicePick;rw [h1,h2,h3];simp only [sliceRange_one,pick_run,zE]<;>rfl
def x9 (K:PySem.W.Frag):V->Option Int->Option Int->Hp->VK->Prop:=λ x lo hi H Q=>∃a xs,x=.ref a/\SqL K H a xs/\∀p,H p=none->Q (.ref p) (upd H p (.lst (cutV xs lo hi)))
theorem dE:SlR X (x9 X.K):=by
 intro pins s σ H x v vl vu lo hi sl Q I rx hs pl pu h;obtain⟨a,xs,rfl,hx,q⟩:=h;cases rx;obtain⟨its,r,ht,hz⟩:=I.list hx;have hlen:=r.length;refine⟨"list",_,slot_list_getitem.lookup,ht.isList.typeIs,?_⟩;refine wpAny_getItem_list_slice ht.isList hs pl pu .none (by simp) ?_ (by rw [zE]<;>lia);rw [iM,<-hlen];refine⟨.ref s.heap.objs.size,_,I.laid (t':=s.toks) (o:=.lst (cutV xs lo hi)) (λ b ob q=>zB _ q) (zy _) ?_,rfl,q _ (I.hok.fresh (zy _))⟩;exact⟨AM (kI xs lo hi) hz,_,0,(r.drop (HT.sIx xs.length 0 lo)).take (HT.sIx xs.length xs.length hi-HT.sIx xs.length 0 lo),Ak _ rfl⟩
def flatV:V->Bool
 | .non=>true
 | .bl _=>true
 | .int _=>true
 | .str _=>true
 |_=>false
def eqV:V->V->Bool
 | .non,.non=>true
 | .bl a,.bl b=>a==b
 | .bl a,.int b=>(if a then 1 else 0)==b
 | .int a,.bl b=>a==(if b then 1 else 0)
 | .int a,.int b=>a==b
 | .str a,.str b=>a==b
 |_,_=>false
theorem sI (ry:RelV y u)(rx:RelV x v)(fy:flatV y=true)(fx:flatV x=true):SeqAt.EqAt A s u v (eqV y x):=by
 cases y with
 |non=>
  cases ry;cases x with
  |non=>cases rx;exact SeqAt.EqAt.same _
  |bl b=>cases rx;exact SeqAt.EqAt.none_bool b
  |int b=>obtain⟨t,rfl⟩:=rx;exact SeqAt.EqAt.none_int b t
  |str b=>obtain⟨t,rfl⟩:=rx;exact SeqAt.EqAt.none_str b t
  |_=>exact absurd (show false=true from fx) zN
 |bl a=>
  cases ry;cases x with
  |non=>cases rx;exact SeqAt.EqAt.bool_none a
  |bl b=>cases rx;exact SeqAt.EqAt.bool_bool a b
  |int b=>obtain⟨t,rfl⟩:=rx;exact SeqAt.EqAt.bool_int a b t
  |str b=>obtain⟨t,rfl⟩:=rx;exact SeqAt.EqAt.bool_str a b t
  |_=>exact absurd (show false=true from fx) zN
 |int a=>
  obtain⟨t',rfl⟩:=ry;cases x with
  |non=>cases rx;exact SeqAt.EqAt.int_none a t'
  |bl b=>cases rx;exact SeqAt.EqAt.int_bool a t' b
  |int b=>obtain⟨t,rfl⟩:=rx;exact SeqAt.EqAt.int_int a t' b t
  |str b=>obtain⟨t,rfl⟩:=rx;exact SeqAt.EqAt.int_str a t' b t
  |_=>exact absurd (show false=true from fx) zN
 |str a=>
  obtain⟨t',rfl⟩:=ry;cases x with
  |non=>cases rx;exact SeqAt.EqAt.str_none a t'
  |bl b=>cases rx;exact SeqAt.EqAt.str_bool a t' b
  |int b=>obtain⟨t,rfl⟩:=rx;exact SeqAt.EqAt.str_int a t' b t
  |str b=>obtain⟨t,rfl⟩:=rx;exact SeqAt.EqAt.str_str a t' b t
  |_=>exact absurd (show false=true from fx) zN
 |_=>exact absurd (show false=true from fy) zN
def eqU (x:V)(u:Value):Bool:=match u with
 | .none=>eqV .non x
 | .bool b=>eqV (.bl b) x
 | .int i _=>eqV (.int i) x
 | .str z _=>eqV (.str z) x
 |_=>false
theorem xR (r:RelV y u)(f:flatV y=true):eqU x u=eqV y x:=by
 cases y with
 |non=>cases r;rfl
 |bl b=>cases r;rfl
 |int i=>obtain⟨t,rfl⟩:=r;rfl
 |str z=>obtain⟨t,rfl⟩:=r;rfl
 |_=>exact absurd (show false=true from f) zN
theorem ko (rx:RelV x v)(fx:flatV x=true):∀{xs:List V} {us:List Value},Vals xs us->xs.all flatV=true->∀u∈us,SeqAt.EqAt A s u v (eqU x u)
 |_,_,.nil,_=>λ u hu=>by cases hu
 |y::xs,u::us,.cons r t,f=>λ u' hu=>by
  rw [List.all_cons,Bool.and_eq_true] at f;rcases zL.mp hu with rfl|hu
  ·rw [xR r f.1];exact sI r rx f.1 fx
  ·exact ko rx fx t f.2 u' hu
theorem ap:CallR X (.builtin "len") (λ xs H Q=>∃p ys,xs=[.ref p]/\(SqL X.K H p ys\/SqT X.K H p ys)/\Q (.int ys.length) H):=by
 intro pins s σ H xs us Q I r h;obtain⟨p,ys,rfl,hq,q⟩:=h;obtain⟨u,rfl,rx⟩:=gb r;cases rx;have hn:=jr;rcases hq with hq|hq
 ·obtain⟨its,r',pl,hz⟩:=I.list hq;have hlen:=r'.length;exact Calls.call_len_list pl.isList (by simp only [zE]<;>lia) ⟨.int ys.length,H,I.tok _,⟨s.toks+1,by rw [zE,hlen]⟩,q⟩
 ·obtain⟨its,r',pl,hz⟩:=I.tuple hq;have hlen:=r'.length;exact len_tuple pl (by simp only [zE]<;>lia) ⟨.int ys.length,H,I.tok _,⟨s.toks+1,by rw [zE,hlen]⟩,q⟩
theorem CallR.or {f:Value}{r r':List V->Hp->VK->Prop}(h:CallR X f r)(h':CallR X f r'):CallR X f (λ xs H Q=>r xs H Q\/r' xs H Q):=by
 intro pins s σ H xs us Q I rs q;rcases q with q|q
 ·exact h pins s σ H xs us Q I rs q
 ·exact h' pins s σ H xs us Q I rs q
theorem aN:CallR X (.type "list") (λ xs H Q=>∃p ys,xs=[.ref p]/\(SqL X.K H p ys\/SqT X.K H p ys)/\∀l,H l=none->Q (.ref l) (upd H l (.lst ys))):=by
 intro pins s σ H xs us Q I r h;obtain⟨p,ys,rfl,hq,q⟩:=h;obtain⟨u,rfl,rx⟩:=gb r;cases rx;have fin:∀(its:List Value),Vals ys its->ys.length≤sizeLine->∀(h':Heap) (c':Nat),(∀b o',s.heap.get? b=some o'->h'.get? b=some o')->
   h'.get? s.heap.objs.size=some {cls:=.type "list",dict:=none,data:=.seq its.toArray c',slots:=#[]}->EP X pins σ Q (.ref s.heap.objs.size) {s with heap:=h'}:=λ its r' hz h' c' kp e=>
  ⟨.ref s.heap.objs.size,_,I.laid (t':=s.toks) kp (zy _) (show ObjOk X.prog X.w _ h' _ (.lst ys) from⟨hz,its,c',r',e⟩),rfl,q _ (I.hok.fresh (zy _))⟩
 rcases hq with hq|hq
 ·obtain⟨its,r',pl,hz⟩:=I.list hq;have hlen:=r'.length;obtain⟨o,ho,hc,n,hd⟩:=pl.isList;exact call_list_seq p (.inl rfl) ho hc hd (λ h' c' kp e=>fin its r' hz h' c' kp e) (by simp only [zE]<;>lia)
 ·obtain⟨its,r',pl,hz⟩:=I.tuple hq;have hlen:=r'.length;obtain⟨o,ho,hc,n,hd⟩:=pl;exact call_list_seq p (.inr rfl) ho hc hd (λ h' c' kp e=>fin its r' hz h' c' kp e) (by simp only [zE]<;>lia)
def tyV (K:PySem.W.Frag)(T:String)(x:V)(H:Hp):Prop:=match x with
 | .str _=>T="str"
 | .int _=>T="int"
 | .ref p=>(T="list"/\∃xs,SqL K H p xs)\/(T="tuple"/\∃o,K.lookup p=some o/\o.cls=.type "tuple"/\o.dict=none)\/
   (T="dict"/\((∃kvs,H p=some (.dK kvs))\/∃kvs,H p=some (.dT kvs)))\/(T="set"/\∃S n,H p=some (.set S n))
 |_=>False
theorem sF {T:String}(I:Inv X pins σ H s)(r:RelV x v)(ty:tyV X.K T x H):
  s.TypeIs v T/\∀a,v=.ref a->∃ob,s.heap.get? a=some ob/\ob.dict=none:=by
 cases x with
 |str z=>
  obtain⟨t,rfl⟩:=r;cases(show T="str" from ty);exact⟨typeIs_str s z t,λ _ e=>nomatch e⟩
 |int i=>
  obtain⟨t,rfl⟩:=r;cases(show T="int" from ty);exact⟨typeIs_int s i t,λ _ e=>nomatch e⟩
 |ref p=>
  cases r;rcases ty with⟨rfl,xs,hq⟩|⟨rfl,o,hk,hc,hd⟩|⟨rfl,hk⟩|⟨rfl,S,n,hk⟩
  ·obtain⟨its,_,pl,_⟩:=I.list hq;refine⟨pl.isList.typeIs,λ a e=>?_⟩;cases e;obtain⟨o,n,e,c,hd,_⟩:=pl;exact⟨o,e,hd⟩
  ·refine⟨⟨o,I.kIn p o hk,hc⟩,λ a e=>?_⟩;cases e;exact⟨o,I.kIn _ o hk,hd⟩
  ·have z:∃o,s.heap.get? p=some o/\o.ExactDict:=by
    rcases hk with⟨kvs,hk⟩|⟨kvs,hk⟩
    ·obtain⟨_,_,_,_,o,_,_,e,ex,_⟩:=I.hok p _ hk;exact⟨o,e,ex⟩
    ·obtain⟨_,_,_,_,o,_,_,e,ex,_⟩:=I.hok p _ hk;exact⟨o,e,ex⟩
   obtain⟨o,e,ex⟩:=z;refine⟨⟨o,e,ex.1⟩,λ a e2=>?_⟩;cases e2;exact⟨o,e,ex.2.1⟩
  ·obtain⟨o,_,_,_,e,ex,_⟩:=I.hok p _ hk;refine⟨⟨o,e,ex.1⟩,λ a e2=>?_⟩;cases e2;exact⟨o,e,ex.2.1⟩
 |_=>exact False.elim ty
def yV (K:PySem.W.Frag)(T:String)(r:V->List V->Hp->VK->Prop)(to:TE):TE:=λ σ H Q=>to σ H λ x H1=>tyV K T x H1/\r x [] H1 Q
def tBM (K:PySem.W.Frag)(T:String)(r:V->List V->Hp->VK->Prop)(to:TE)(t:TA):TE:=λ σ H Q=>to σ H λ x H1=>tyV K T x H1/\t σ H1 λ xs H2=>r x xs H2 Q
variable {o e : Expr} {es : List Expr} {to : TE} {t : TA} {name : Str} {apos cpos : Pos} {T id : String} {r : V -> List V -> Hp -> VK -> Prop}
theorem mZ (pa:PlainAttrs T)(slot:Slot T name id)(hty:typeOf (.builtin id)=pure (.type "method_descriptor"))(hm:MtR X id r)(ho:PE X o to)
  (hbase:attributeBase o name X.env (eval o X.env)=eval o X.env:=by rfl) (hline:(apos.endLine==cpos.line)=true:=by rfl):PE X (.Call (.Attribute o name apos) [] [] cpos) (yV X.K T r to):=by
 intro pins s σ H Q I h;refine wpAny_Call_method0_late hbase hline (thn (ho pins s σ H _ I h) λ v s1 z9=>?_);obtain⟨x,H1,I1,r1,ty,q1⟩:=z9;obtain⟨h1,h2⟩:=sF I1 r1 ty;exact⟨T,id,pa,slot,hty,h1,h2,Calls.callWith_builtin rfl (PySem.evalArgs_none (hm pins s1 σ H1 x [] v [] Q I1 r1 .nil q1))⟩
theorem cH (pa:PlainAttrs T)(slot:Slot T name id)(hty:typeOf (.builtin id)=pure (.type "method_descriptor"))(hm:MtR X id r)(ho:PE X o to)(ha:PA X (e::es) t)
  (hbase:attributeBase o name X.env (eval o X.env)=eval o X.env:=by rfl)
  (hfew:((backTo cpos (starEach (e::es) X.env)).all (λ x=> !x.1)&&(backToKw cpos (keywordEach [] X.env)).all (λ x=>x.1.isSome)
   &&decide ((e::es).length+([]:List Keyword).length+(if([]:List Keyword).isEmpty then 0 else 1)<30))=true:=by rfl)
  (hline:(apos.endLine==cpos.line)=true:=by rfl) (hs:starEach (e::es) X.env=(false,eval e X.env)::starEach es X.env:=by rfl) (hplain:(backTo cpos (starEach es X.env)).any (·.1)=false:=by rfl):
  PE X (.Call (.Attribute o name apos) (e::es) [] cpos) (tBM X.K T r to t):=by
 intro pins s σ H Q I h;refine wpAny_Call_method_late hbase hfew hline rfl (thn (ho pins s σ H _ I h) λ v s1 z9=>?_);obtain⟨x,H1,I1,r1,ty,q1⟩:=z9;obtain⟨h1,h2⟩:=sF I1 r1 ty;refine⟨T,id,pa,slot,hty,h1,h2,?_⟩;have hA:=ha cpos pins s1 σ H1 _ I1 q1;rw [hs] at hA ⊢;refine Calls.callWith_builtin (by show(false||(backTo cpos (starEach es X.env)).any (·.1))=false;rw [hplain]<;>rfl) (Calls.evalArgs_plain ?_);exact thn hA λ us s2 ⟨vs,H2,I2,r2,q2⟩=>hm pins s2 σ H2 x vs v us Q I2 r1 r2 q2
end
def MtM (X:Cx)(id:String)(r:V->List V->Hp->VK->Prop):Prop:=
 ∀(pins:List (Addr×Obj)) (s:Shared) (σ:St) (H:Hp) (x:V) (xs:List V) (v:Value) (us:List Value) (Q:VK),Inv X pins σ H s->RelV x v->Vals xs us->r x xs H Q->
  wpAny (model X.prog X.w) X.A (call (.builtin id) (v::us)) (EP X pins σ Q) X.xe s
theorem Vals.one (h:Vals [x] us):∃u,us=[u]/\RelV x u:=by
 cases h with
 |cons r q=>
  cases q;exact⟨_,rfl,r⟩
theorem Vals.two (h:Vals [x,y] us):∃u v,us=[u,v]/\RelV x u/\RelV y v:=by
 cases h with
 |cons r q=>
  obtain⟨u,rfl,q2⟩:=Vals.one q;exact⟨_,_,rfl,r,q2⟩
theorem Vals.zero:∀{us:List Value},Vals [] us->us=[]
 |_,.nil=>rfl
theorem Vals.eraseIdx:∀{xs:List V} {us:List Value} (i:Nat),Vals xs us->Vals (xs.eraseIdx i) (us.eraseIdx i)
 |_,_,_,.nil=>.nil
 |_,_,0,.cons _ t=>t
 |_,_,i+1,.cons r t=>.cons r (Vals.eraseIdx i t)
theorem Vals.reverse (h:Vals xs us):Vals xs.reverse us.reverse:=by
 induction h with
 |nil=>exact .nil
 |cons r t ih=>rw [List.reverse_cons,List.reverse_cons];exact Vals.append ih (.cons r .nil)
theorem Vals.rep (h:Vals xs us):∀k:Nat,Vals (List.replicate k xs).flatten (List.replicate k us).flatten
 |0=>.nil
 |k+1=>by
  rw [AJ,AJ,A4,A4];exact Vals.append h (Vals.rep h k)
theorem iZ (its:List Value):∀(k:Nat) (acc:List Value),
  List.foldl (λ x1 x2=>x1++x2) acc.toArray (List.replicate k its.toArray)=(acc++(List.replicate k its).flatten).toArray
 |0,acc=>by simp
 |k+1,acc=>by
  have e:acc.toArray++its.toArray=(acc++its).toArray:=by simp
  have e2:(acc++its)++(List.replicate k its).flatten=acc++(List.replicate (k+1) its).flatten:=by
   rw [AJ,A4,zt]
  rw [<-e2,<-iZ its k (acc++its),<-e,AJ,List.foldl_cons]
section
variable {X : Cx} {pins : List (Addr × Obj)} {σ : St} {H : Hp} {s : Shared} {l b : Addr} {xs ys zs : List V}
theorem Inv.lset {f:Array Value->Array Value}(I:Inv X pins σ H s)(hH:H l=some (.lst xs))
  (e:s.heap.get? l=some {cls:=.type "list",data:=.seq its.toArray n}) (hf:f its.toArray=its'.toArray) (hv:Vals ys its') (hz:ys.length≤sizeLine):
  Inv X pins σ (upd H l (.lst ys)) {s with heap:=s.heap.update l (Obj.mapSeq f),toks:=t'}:=by
 have q:=PySem.IsL.update e f;rw [hf] at q;refine I.write (x:=l) (e:=l) (by rw [hH];exact trivial) (.inl rfl) (λ b' u hb hu=>(Heap.get?_update_other s.heap (Obj.mapSeq f) (DN hb)).trans hu) ⟨_,q⟩ ?_;exact⟨hz,its',_,hv,q⟩
theorem Inv.lnew (I:Inv X pins σ H s)(hv:Vals ys its)(hz:ys.length≤sizeLine):
  Inv X pins σ (upd H s.heap.objs.size (.lst ys)) {s with heap:=s.heap.push {cls:=.type "list",data:=.seq its.toArray},toks:=t'}:=
 I.laid (λ _ _ q=>zB _ q) (zy _) ⟨hz,its,0,hv,Ak _ rfl⟩
theorem Inv.fresh (I:Inv X pins σ H s):H s.heap.objs.size=none:=I.hok.fresh (zy _)
theorem Inv.lstM (I:Inv X pins σ H s)(hH:H l=some (.lst xs)):xs.length≤sizeLine/\∃(its:List Value) (n:Nat),Vals xs its/\xs.length=its.length/\s.heap.get? l=some {cls:=.type "list",data:=.seq its.toArray n}:=by
 obtain⟨z,its,n,r,e⟩:=I.hok l _ hH;exact⟨z,its,n,r,r.length,e⟩
theorem lS (h:n≤sizeLine):Builtin.List.listTooLong n=false:=by
 unfold Builtin.List.listTooLong;exact AC (by lia)
end
section
variable {X : Cx}
def vW:V->List V->Hp->VK->Prop:=λ x vs H Q=>∃l xs y,x=.ref l/\vs=[y]/\H l=some (.lst xs)/\xs.length<sizeLine/\Q .non (upd H l (.lst (xs++[y])))
theorem a6:MtM X "list.append" vW:=by
 intro pins s σ H x vs v us Q I rx rv h;obtain⟨l,xs,y,rfl,rfl,hH,hz,q⟩:=h;cases rx;obtain⟨u,rfl,ru⟩:=rv.one;obtain⟨z,its,n,r,hl,e⟩:=I.lstM hH;refine call_meets AG ⟨_,e,rfl⟩ F.entry_list_append (F.args_list_append_2 _ _) (PySem.list_append l its.toArray n u (by rw [zE];lia)) ⟨e,?_⟩;refine⟨.non,_,I.lset (its':=its++[u]) hH e (by simp) (r.append (.cons ru .nil)) ?_,rfl,q⟩;rw [zv,Bv];lia
def vK:V->List V->Hp->VK->Prop:=λ x vs H Q=>∃l b xs zs,x=.ref l/\vs=[.ref b]/\H l=some (.lst xs)/\H b=some (.lst zs)/\xs.length+zs.length≤sizeLine/\Q .non (upd H l (.lst (xs++zs)))
theorem jc:MtM X "list.extend" vK:=by
 intro pins s σ H x vs v us Q I rx rv h;obtain⟨l,b,xs,zs,rfl,rfl,hH,hB,hz,q⟩:=h;cases rx;obtain⟨u,rfl,ru⟩:=rv.one;cases ru;obtain⟨z,its,n,r,hl,e⟩:=I.lstM hH;obtain⟨z2,its2,n2,r2,hl2,e2⟩:=I.lstM hB;have hsz:its.toArray.size+its2.toArray.size≤sizeLine:=by rw [zE,zE];lia
 have hlong:¬(!its.toArray.isEmpty&&Builtin.List.listTooLong (its.toArray.size+its2.toArray.size))=true:=by
  rw [lS hsz,Bool.and_false];exact zN
 refine call_meets Dm ⟨_,e,rfl⟩ F.entry_list_extend (F.args_list_extend_2 _ _)
  (AutoSeq1.list_extend_list_list_0 l its.toArray n b its2.toArray n2 hlong (by rw [zE];lia) (by lia)) ⟨e,e2,?_⟩
 refine⟨.non,_,I.lset (its':=its++its2) hH e (by simp) (r.append r2) ?_,rfl,q⟩;rw [zv];lia
def ww:V->List V->Hp->VK->Prop:=λ x vs H Q=>∃l xs,x=.ref l/\vs=[]/\H l=some (.lst xs)/\Q .non (upd H l (.lst []))
theorem iq:MtM X "list.clear" ww:=by
 intro pins s σ H x vs v us Q I rx rv h;obtain⟨l,xs,rfl,rfl,hH,q⟩:=h;cases rx;have hus:=rv.zero;subst hus;obtain⟨z,its,n,r,hl,e⟩:=I.lstM hH;refine call_meets Cr ⟨_,e,rfl⟩ F.entry_list_clear (F.args_list_clear_1 _) (AutoSeq1.list_clear_list_0 l its.toArray n (by rw [zE];lia)) ⟨e,?_⟩;exact⟨.non,_,I.lset (its':=[]) (ys:=[]) hH e rfl .nil (Ap _),rfl,q⟩
def zo:R2:=λ x y H Q=>∃l b xs zs,x=.ref l/\y=.ref b/\H l=some (.lst xs)/\H b=some (.lst zs)/\xs.length+zs.length≤sizeLine/\∀p,H p=none->Q (.ref p) (upd H p (.lst (xs++zs)))
theorem nn:OpR X (binaryOp .Add) zo:=by
 intro pins s σ H x y v u Q I rx ry h;obtain⟨l,b,xs,zs,rfl,rfl,hH,hB,hz,q⟩:=h;cases rx;cases ry;obtain⟨z,its,n,r,hl,e⟩:=I.lstM hH;obtain⟨z2,its2,n2,r2,hl2,e2⟩:=I.lstM hB;refine PySem.P.add_list e e2 ?_ (by rw [zE,zE];lia);have ea:its.toArray++its2.toArray=(its++its2).toArray:=by simp
 rw [ea];exact⟨.ref _,_,I.lnew (t':=s.toks) (r.append r2) (by rw [zv];lia),rfl,q _ I.fresh⟩
def zh:R2:=λ x y H Q=>∃l k xs,x=.ref l/\y=.int k/\H l=some (.lst xs)/\-(2^63)≤k/\k<2^63/\xs.length*k.toNat≤sizeLine/\
 ∀p,H p=none->Q (.ref p) (upd H p (.lst (List.replicate k.toNat xs).flatten))
theorem vc {α:Type}(xs:List α)(k:Nat):(List.replicate k xs).flatten.length=k*xs.length:=by
 induction k with
 |zero=>simp
 |succ k ih=>rw [AJ,A4,zv,ih,Nat.succ_mul,DU]
theorem gM:OpR X (binaryOp .Mult) zh:=by
 intro pins s σ H x y v u Q I rx ry h;obtain⟨l,k,xs,rfl,rfl,hH,h1,h2,hz,q⟩:=h;cases rx;obtain⟨t,rfl⟩:=ry;obtain⟨z,its,n,r,hl,e⟩:=I.lstM hH;have hlen:its.toArray.size*k.toNat≤sizeLine:=by rw [zE,<-hl];exact hz
 have hcap:¬its.toArray.size*k.toNat>(2^63-1)/8:=by
  have:(sizeLine:Nat)≤(2^63-1)/8:=by decide
  lia
 have hfit:¬(!Builtin.List.listFitsIndex k)=true:=by
  rw [fitsIndex_both h1 h2];exact zN
 have hlong:¬Builtin.List.listTooLong (its.toArray.size*k.toNat)=true:=by
  rw [lS hlen];exact zN
 have hnew:List.foldl (λ x1 x2=>x1++x2) #[] (List.replicate (if its.toArray.isEmpty=true then 0 else k.toNat) its.toArray)=(List.replicate k.toNat its).flatten.toArray:=by
  have f0:∀m:Nat,List.foldl (λ x1 x2=>x1++x2) #[] (List.replicate m its.toArray)=(List.replicate m its).flatten.toArray:=λ m=>by
   have:=iZ its m [];rw [A3] at this;exact this
  rw [f0];cases its with
  |nil=>simp
  |cons a r'=>rw [zK (by simp)]
 refine wpAny_binaryOp_repeat_ref (T:="list") (U:="int") (by decide) ⟨_,e,rfl⟩ (λ s'=>typeIs_int s' k t) noFill_list_mul F.fills_int_mul F.slot_int_rmul repeat_list F.slot_int_index.lookup
  (call_meets F.slot_int_rmul (typeIs_int s k t) F.entry_int_rmul (F.args_int_rmul_2 _ _) (int___rmul___int_list k t l its.toArray n)
   ⟨e,rfl,⟨_,e,rfl⟩,call_meets F.slot_list_mul ⟨_,e,rfl⟩ F.entry_list_mul (F.args_list_mul_2 _ _) (AutoListH.list___mul___list_int_3 l its.toArray n k t hfit hcap hlong) ⟨e,?_⟩⟩)
 rw [hnew];exact⟨.ref _,_,I.lnew (t':=s.toks) (r.rep k.toNat) (by rw [vc,AQ];exact hz),rfl,q _ I.fresh⟩
end
section
variable {prog : Program} {w : World} {A : Around} {E : Value -> Shared -> Prop} {s : Shared}
set_option maxRecDepth 100000 in
end
section
variable {X : Cx}
end
end L2
namespace Att
open PySem PySem.W PySem.Calls PyProof.Rows
variable {h : Heap} {n : Nat} {P : Params}
theorem gj:∀(ns:List Int) (vs:List Value),WellAll P h vs (ns.map WData.int)->IntsAre vs ns:=by
 intro ns
 induction ns with
 |nil=>
  intro vs w;rw [CZ] at w;cases w;exact .nil
 |cons n ns ih=>
  intro vs w;rw [z8] at w;cases w with
  |cons a b=>
   cases a;exact .cons _ _ (ih _ b)
theorem pK {l:OpenLaw}(hn:l.most=some n){args:List WData}{vals:List Value}
  (hpre:l.row.toRowW.claim.pre args=true) (hwl:WellAll P h vals args):
  ∃a vs ns,vals=[Value.ref a]/\args=[WData.list (ns.map WData.int)]/\h.get? a=some {cls:=.type "list",data:=.seq vs.toArray}/\IntsAre vs ns/\ns.length≤n:=by
 have hsh:WShape.hasAll [] args [.list .int]=true:=(pre_splitW hpre).1;have hc:l.pre.holds [] {args:=args}=true:=(pre_splitW hpre).2;obtain⟨d,r,rfl,h1,h2⟩:=hasAllW_cons hsh;obtain rfl:=hasAllW_nil h2;obtain⟨xs,rfl,h3⟩:=hasW_list h1;obtain⟨ns,rfl⟩:=items_int h3;have hlen:ns.length≤n:=by
  unfold OpenLaw.pre at hc;have h4:(WTm.not (.lt (.lit (.int (n:Int))) (.len (.arg 0)))).holds [] {args:=[.list (ns.map .int)]}=true:=by
   have h4:=(holds_andW hc).1;rw [hn] at h4;exact h4
  have h5:=condW_of h4 (w_not (w_lt w_lit (w_len_list (w_arg rfl))));rw [zr] at h5;refine Nat.le_of_not_lt λ q=>?_
  have q':(n:Int)<((ns.length:Nat):Int):=by lia
  first
   |(rw [zw q'] at h5;exact absurd h5 (by decide))
   |(simp at h5;lia)
 cases hwl with
 |cons w1 w2=>
  cases w2;cases w1 with
  |list ho hall=>exact⟨_,_,ns,rfl,rfl,ho,gj ns _ hall,hlen⟩
theorem qE (l:OpenLaw)(args:List WData):l.row.toRowW.claim.post args (.bool true) args=true:=
 postW_of (r:=l.row.toRowW) (X:=(true==true))
  (show WShape.has [] (.bool true) .bool=true by first|rfl|decide|simp [WShape.has,WShape.arms,WShape.armsAll])
  (show(WTm.eq .res (.lit (.bool true))).value [] {args:=args,res:=some (.bool true),after:=args}=some (.bool (true==true)) from w_eq_bool (w_res rfl) w_lit) rfl
theorem attach_call {l:OpenLaw}{q:Program}{loose:List Str}{XP:(Str->Option Value)->Heap->Prop}{YP:World->Heap->Prop}{d:DefRec}
  (hn:l.most=some n) (hdf:d.params.defaults=[])
  (call:∀(w:World) (s₀ s₁:Shared) (mg mb:Str->Option Value) (fa:Addr) (o:Obj) (pm cd doc:Value) (a:Addr) (vs:List Value) (ns:List Int),
   Ground q loose [] XP w s₀ mg mb s₁.heap->YP w s₁.heap->
   s₁.heap.get? fa=some o->o.data=.func (docDef d.name d.params d.body d.scope pm cd doc)->s₁.heap.CodeRec cd d.name->mg d.name=some (.ref fa)->
   s₁.heap.get? a=some {cls:=.type "list",data:=.seq vs.toArray}->IntsAre vs ns->ns.length≤n->s₁.gens=#[]->
   codeAny (model l.prog w) callerA (.call (.ref fa) ⟨[.ref a],[]⟩) (λ r s'=>r=.ok (.ret (.bool true))/\OldK s₁.heap s'.heap/\s'.os=s₁.os/\AllBare s'.gens) s₁):
  WalkO q loose XP YP l.row.toRowW d [] (λ f vs=>PySem.call f vs):=by
 intro w s₀ s₁ mg mb G Y fa o pm cd doc dV kV ho hd hcd hD hmg hg args vals as hpre hlay hrd hwl hlo;obtain rfl:dV=.none:=Dflts.none hD hdf;obtain rfl:kV=.none:=Dflts.noKw hD;obtain⟨a,vs,ns,rfl,rfl,hobj,hints,hlen⟩:=pK hn hpre hwl;refine enter_call (Dp (call w s₀ s₁ mg mb fa o pm cd doc a vs ns G Y ho (fd_plain hd) hcd hmg hobj hints hlen hg) λ r s' hq=>?_);obtain⟨rfl,h2,h3,h4⟩:=hq;exact⟨.inl ⟨.bool true,.bool true,[],rfl,λ _=>rfl,.bool true,qE l _,λ _=>⟨List.Pairwise.nil,λ _ hm=>(nomatch hm)⟩⟩,h2,h3,h4⟩
section
variable {prog : Program} {w : World} {A : Around} {E : Value -> Shared -> Prop} {s : Shared} {K : Frag}
def yU (h:Heap)(L d:Addr):List (Addr×Obj):=(List.range h.objs.size).filterMap λ a=>if a=L\/a=d then none else(h.get? a).map λ o=>(a,o)
end
end Att
namespace L2
open PySem PySem.Spec PyProof.Rows
variable {a f l : Addr} {qual x y : Str} {H H' H1 : Hp} {mg : Str->Option Value} {n : Nat} {P : Program} {Q : VK} {K : PySem.W.Frag} {py spos : Pos} {xs : List V} {A B c : Prop} {wi : TI} {fd : FuncData} {N ps : List Str} {st : Stmt} {scope : Scope} {X : Cx} {sp : Sp} {te : TE} {R : Hp->Prop} {σ : St} {w : World} {tt : TT}
theorem fG:∀{vs:List Value} {ns:List Int},IntsAre vs ns->Vals (ns.map V.int) vs
 |_,_,.nil=>.nil
 |_,_,.cons n t h=>.cons ⟨t,rfl⟩ (fG h)
def xb (H:Hp):Prop:=∀b,H b=none\/∃o xs,H b=some (.frz o (.lst xs))
theorem tZ {mb:Str->Option Value}{CX:CXT}{k:Nat}{fa:Addr}{s₁:Shared}{vs:List Value}{ns:List Int}
  (KX:K.In s₁.heap) (hns:s₁.heap.Ns mainGlobals mg) (hb:s₁.heap.Ns builtinsNs mb) (hbb:∀x:Str,x≠ "__name__"->mb x=bootBuiltins x) (hlim:s₁.heap.NoLimit) (hg:s₁.gens=#[])
  (ha:s₁.heap.get? a=some {cls:=.type "list",data:=.seq vs.toArray}) (hi:IntsAre vs ns) (hl:ns.length≤sizeLine) (hr:Room k callerA)
  (F:∀base:Heap,K.In base->base.Ns mainGlobals mg->FnOk P w K mg base CX k fa fd [x] sp) (hbind:∀(s:Shared) (u:Value),BindsTo s fd ⟨[u],[]⟩ [(x,u)])
  (hsp:∀H:Hp,xb H->SqL K H a (ns.map V.int)->sp [.ref a] H (λ v _=>v=.bl true) λ _ _ _=>False)
  (hCX:∀H e s',CX [] H s₁ (λ _ _ _=>False) e s'->False):
  codeAny (model P w) callerA (.call (.ref fa) ⟨[.ref a],[]⟩) (λ r s'=>r=.ok (.ret (.bool true))/\OldK s₁.heap s'.heap/\s'.os=s₁.os/\AllBare s'.gens) s₁:=by
 have rv:=fG hi;have lenV:=hi.length;have core:∀H:Hp,xb H->SqL K H a (ns.map V.int)->HOk P w H s₁.heap->(∀b,H b≠none->b=a)->(H a≠none->K.lookup a=none)->
   codeAny (model P w) callerA (.call (.ref fa) ⟨[.ref a],[]⟩) (λ r s'=>r=.ok (.ret (.bool true))/\OldK s₁.heap s'.heap/\s'.os=s₁.os/\AllBare s'.gens) s₁:=by
  intro H hO hS hok hA hK;have base_of:∀{b:Addr} {o:Obj},s₁.heap.get? b=some o->H b=none->(hidT s₁.heap H).get? b=some o:=λ e n=>kn e n
  have noA:∀{b:Addr} {o:Obj} {es:Array DictEntry} {ep:Nat},s₁.heap.get? b=some o->o.data=.dict es ep->H b=none:=λ {b o es ep} e d=>by
   cases q:H b with
   |none=>rfl
   |some u=>
    have e':b=a:=hA b (by rw [q];simp);subst e';rw [ha] at e;cases e;have d':Data.seq vs.toArray _=Data.dict es ep:=d;cases d'
  have nsK:∀{b:Addr} {m:Str->Option Value},s₁.heap.Ns b m->(hidT s₁.heap H).Ns b m:=λ {b m} ⟨o,es,ep,e,d,r⟩=>⟨o,es,ep,base_of e (noA e d),d,r⟩
  have hKb:K.In (hidT s₁.heap H):=λ b o e=>base_of (KX b o e) (by
   cases q:H b with
   |none=>rfl
   |some u=>
    have e':b=a:=hA b (by rw [q];simp);subst e';rw [hK (by rw [q];simp)] at e;cases e)
  have hM:Mod K mg (hidT s₁.heap H):=⟨hKb,nsK hns,⟨mb,nsK hb,hbb⟩,let⟨mc,h1,h2⟩:=hlim;⟨mc,nsK h1,h2⟩⟩;have e0:Env0 P w K mg (hidT s₁.heap H) callerA [] s₁ H:=⟨rfl,hM,λ b o e=>o4 e,Nat.le_of_eq (je _ _),trivial,λ b hb=>absurd (show b∈([]:List Addr) from hb) (by simp),hok,.of_eq hg,.inl rfl⟩;refine Dp ((F _ hKb (nsK hns)).run callerA [] s₁ H ⟨[.ref a],[]⟩ [.ref a] [.ref a] _ _ hr e0 (hbind s₁ (.ref a)) (.cons rfl .nil) (hsp H hO hS)) λ r s' h=>?_
  cases r with
  |error e=>exact(hCX H e s' h).elim
  |ok fl=>
   cases fl with
   |next=>exact False.elim h
   |brk=>exact False.elim h
   |cont=>exact False.elim h
   |ret u=>
    obtain⟨v,H',os,bare,un,hok',r',q⟩:=h;have q':v=.bl true:=q;subst q';obtain rfl:u=Value.bool true:=r';refine⟨rfl,OldK.of_keep λ b o e=>?_,os,bare⟩;cases q:H b with
    |none=>exact un.keep b o e q (by intro z;exact absurd (show b∈([]:List Addr) from z) (by simp)) (by simp)
    |some u=>
     rcases hO b with z|⟨ob,xs,z⟩
     ·rw [q] at z;cases z
     ·have z2:=un.frzs b ob _ z;obtain⟨e1,_⟩:=hok b _ z;obtain⟨e2,_⟩:=hok' b _ z2;rw [e] at e1;cases e1;exact e2
 cases hk:K.lookup a with
 |some o=>
  have e:=KX a o hk;rw [ha] at e;cases e;refine core (λ _=>none) (λ _=>.inl rfl) (.inr ⟨_,vs.toArray,_,hk,rfl,rfl,rfl,by rw [zE,lenV];exact hl,by simpa using rv⟩) (λ b u z=>by have z':(none:Option HO)=some u:=z;cases z') (λ b z=>absurd rfl z) λ z=>absurd rfl z
 |none=>
  refine core (λ b=>if b=a then some (.frz {cls:=.type "list",data:=.seq vs.toArray} (.lst (ns.map V.int))) else none) (λ b=>?_) (.inl (.inr ⟨{cls:=.type "list",data:=.seq vs.toArray},zP rfl⟩)) (λ b u z=>?_) (λ b z=>?_) λ _=>hk
  ·by_cases hb:b=a
   ·exact .inr ⟨_,_,zP hb⟩
   ·exact .inl (zK hb)
  ·by_cases hb:b=a
   ·have z':=(zP hb).symm.trans z;cases z';subst hb;exact⟨ha,by rw [zr];exact hl,vs,_,rv,ha⟩
   ·have z':=(zK hb).symm.trans z;cases z'
  ·by_cases hb:b=a
   ·exact hb
   ·exact absurd (zK hb) z
abbrev KOf {K:PySem.W.Frag}{h:Heap}(_:K.In h):PySem.W.Frag:=K
theorem yO {l:PySem.W.OpenLaw}{k:Nat}{q:Program}{loose:List Str}{XP:(Str->Option Value)->Heap->Prop}{YP:World->Heap->Prop}{d:DefRec}{K:Params->PySem.W.Frag}{CX:World->CXT}{sp:World->Sp}
  (hn:l.most=some n) (hn2:n≤sizeLine) (hdf:d.params.defaults=[]) (hr:Room k callerA)
  (hY:∀(w:World) (h:Heap),YP w h->(K w.params).In h)
  (F:∀(w:World) (mg:Str->Option Value) (fa:Addr) (h:Heap),(K w.params).In h->h.Ns mainGlobals mg->mg d.name=some (.ref fa)->
   ∃fd:FuncData,(∀(s:Shared) (u:Value),BindsTo s fd ⟨[u],[]⟩ [(x,u)])/\
    ∀base:Heap,(K w.params).In base->base.Ns mainGlobals mg->FnOk l.prog w (K w.params) mg base (CX w) k fa fd [x] (sp w))
  (hsp:∀(w:World) (H:Hp) (a:Addr) (ns:List Int),ns.length≤n->xb H->SqL (K w.params) H a (ns.map V.int)->sp w [.ref a] H (λ v _=>v=.bl true) λ _ _ _=>False)
  (hCX:∀(w:World) (H:Hp) (s:Shared) (e:Value) (s':Shared),CX w [] H s (λ _ _ _=>False) e s'->False):
  PySem.W.WalkO q loose XP YP l.row.toRowW d [] (λ f vs=>PySem.call f vs):=by
 refine Att.attach_call hn hdf λ w s₀ s₁ mg mb fa o pm cd doc a vs ns G Y ho hd hcd hmg hobj hints hlen hg=>?_
 have KX:=hY w _ Y;obtain⟨fd,hb,hF⟩:=F w mg fa _ KX G.T.g hmg;exact tZ KX G.T.g G.T.b G.T.builtins G.T.nolimit hg hobj hints (AM hlen hn2) hr hF hb (λ H hO hS=>hsp w H a ns hlen hO hS) λ H e s'=>hCX w H s₁ e s'
def aO (s:Stmt)(j:Nat):Stmt:=match s with
 | .ClassDef _ _ _ body _ _ _ _ _ _ _=>body.getD j (.Pass ⟨0,0,0,0⟩)
 |_=>.Pass ⟨0,0,0,0⟩
def defArgs (s:Stmt):Arguments:=match s with
 | .FunctionDef _ a _ _ _ _ _ _ _ _=>a
 |_=>{posonlyargs:=[],args:=[],vararg:=none,kwonlyargs:=[],kw_defaults:=[],kwarg:=none,defaults:=[]}
def defBody (s:Stmt):List Stmt:=match s with
 | .FunctionDef _ _ b _ _ _ _ _ _ _=>b
 |_=>[]
def defScope (s:Stmt):Scope:=match s with
 | .FunctionDef _ _ _ _ _ _ sc _ _ _=>sc
 |_=>{kind:=.function,names:=[],isGenerator:=false,isCoroutine:=false}
abbrev CX0:CXT:=λ _ _ _ _ _ _=>False
abbrev E0:XK:=λ _ _ _=>False
theorem ao:dk CX0 X E0:=λ _ _ _ _ _ _ _ h=>h.elim
structure Fun (K:PySem.W.Frag)(x qual:Str)(st:Stmt)(f:Addr)(fd:FuncData):Prop where
 ex:∃(oc:Value) (od:Option Addr) (kV doc pm:Value) (an:Option Addr) (cdv ct:Value) (osl:Array (Option Value)),
  fd=PySem.W.fnOf x qual (defArgs st) (defBody st) (defScope st) .none kV doc pm an cdv ct/\K.lookup f=some ⟨oc,od,.func fd,osl⟩/\PySem.W.codeIn K cdv qual=true
 kp:PySem.W.keepIn K (.ref f)=true
section
variable {P : Program} {w : World} {K : PySem.W.Frag} {mg : Str -> Option Value} {base : Heap}
theorem Fun.ok {k:Nat}(F:Fun K x qual st f fd)(S:FnScope N ps (defScope st))(len:∀vs H Q E,sp vs H Q E->vs.length=ps.length)
  (hbody:∀(cdv:Value) (A:Around) (outer:List Env) (s:Shared) (H:Hp) (vs:List V) (Q:VK) (E:XK),Room k (A.deeper (envOfC qual (defScope st) s.heap.objs.size f cdv))->sp vs H Q E->
   ∃t,PSs (cxOf CX0 P w K mg base N qual (defScope st) f cdv A outer s H E).nox (defBody st) t/\t {nx:=λ _ H'=>Q .non H',rt:=Q} (start N vs) H):FnOk P w K mg base CX0 (k+1) f fd ps sp:=by
 obtain⟨oc,od,kV,doc,pm,an,cdv,ct,osl,rfl,lk,hcd⟩:=F.ex;refine sP lk hcd S len λ A outer s H vs Q E hr hsp=>?_
 obtain⟨t,h,q⟩:=hbody cdv A outer s H vs Q E hr hsp;exact⟨t,h.nox,q⟩
theorem Fun.binds (F:Fun K x qual st f fd)
  (h:∀(kV doc pm:Value) (an:Option Addr) (cdv ct:Value) (us:List Value),us.length=ps.length->bindArgs (PySem.W.fnOf x qual (defArgs st) (defBody st) (defScope st) .none kV doc pm an cdv ct) ⟨us,[]⟩=pure (ps.zip us)):Binds K fd ps []:=by
 obtain⟨oc,od,kV,doc,pm,an,cdv,ct,osl,rfl,lk,hcd⟩:=F.ex;exact .all (h kV doc pm an cdv ct)
theorem jV {oc:Value}{od an:Option Addr}{osl:Array (Option Value)}{kV doc pm cdv ct:Value}(l:K.lookup f=some ⟨oc,od,.func (PySem.W.fnOf x qual (defArgs st) (defBody st) (defScope st) .none kV doc pm an cdv ct),osl⟩)
  (c:PySem.W.codeIn K cdv qual=true) (k:PySem.W.keepIn K (.ref f)=true):Fun K x qual st f (PySem.W.fnOf x qual (defArgs st) (defBody st) (defScope st) .none kV doc pm an cdv ct):=⟨⟨oc,od,kV,doc,pm,an,cdv,ct,osl,rfl,l,c⟩,k⟩
end
theorem jb (h:n≤1000):n<sizeLine:=C5 h (by decide)
section
variable {X : Cx}
theorem pv (i:Nat){pos:Pos}(hN:X.N[i]?=some x:=by rfl)(hv:Vis X.env.scope x:=by first|exact Or.inl rfl|exact Or.inr (Or.inl rfl)|exact Or.inr (Or.inr rfl))(hd:(x==("__debug__":Str))=false:=by decide)
  (hcd:(x==("__classdict__":Str))=false:=by decide):PE X (.Name x pos) (eF i):=wF hN hv hd hcd
end
theorem bz (h:B):if false=true then A else B:=by
 rw [zK zN];exact h
theorem iA (h:A):if true=true then A else B:=by
 rw [zP rfl];exact h
theorem aL  [Decidable c] (h1:c->A)(h2:¬c->B):if c then A else B:=by
 by_cases h:c
 ·rw [zP h];exact h1 h
 ·rw [zK h];exact h2 h
theorem ym  [Decidable c] (hc:c)(h:B):if(!decide c)=true then A else B:=by
 rw [zw hc];exact bz h
def Same (H H':Hp):Prop:=∀b o,H b=some o->H' b=some o
theorem Same.refl (H:Hp):Same H H:=λ _ _ h=>h
theorem Same.trans {H2:Hp}(a:Same H H1)(b:Same H1 H2):Same H H2:=λ c o h=>b c o (a c o h)
theorem Same.free (e:Same H H')(h:H' l=Option.none):H l=Option.none:=by
 cases q:H l with
 |none=>rfl
 |some o=>
  rw [e l o q] at h;cases h
theorem Same.seq (e:Same H H')(h:SqL K H a xs):SqL K H' a xs:=by
 rcases h with(h|⟨o,h⟩)|h
 ·exact .inl (.inl (e _ _ h))
 ·exact .inl (.inr ⟨o,e _ _ h⟩)
 ·exact .inr h
def vZ (n:Nat)(wi:TI)(g:TG)(te:TE):TE:=λ σ H Q=>wi σ H λ J H1=>∀l,H1 l=none->∃W:Nat->Nat->List V->St->Hp->Prop,
 (∃m,W 0 m [] (List.replicate n none) (upd H1 l (.lst [])))/\∀i m ys σ' H',W i m ys σ' H'->
  (J.stop i H'/\Q (.ref l) H')\/(J.go i H'/\∀x H2,J.yld i H' x H2->g x σ' H2 λ σ3 H3=>te σ3 H3 λ y H4=>
   H4 l=some (.lst ys)/\ys.length<sizeLine/\∃m',m'<m/\W (i+1) m' (ys++[y]) σ3 (upd H4 l (.lst (ys++[y]))))
def wk (i:Nat)(t:TE):TS:=λ D σ H=>t σ H λ v H1=>D.nx (σ.set i (some v)) H1
theorem vC {g:TG}(Pv:Nat->List V->Hp->Prop)(h0:Pv 0 [] (upd H1 l (.lst [])))(hl:∀i ys H,i≤xs.length->Pv i ys H->SqL K H a xs)
  (hs:∀i x ys σ H,xs[i]?=some x->Pv i ys H->σ.length=n->g x σ H λ σ3 H3=>te σ3 H3 λ y H4=>H4 l=some (.lst ys)/\ys.length<sizeLine/\σ3.length=n/\Pv (i+1) (ys++[y]) (upd H4 l (.lst (ys++[y]))))
  (hd:∀ys H,Pv xs.length ys H->R H) (mg:∀x σ H (A B:St->Hp->Prop),(∀σ' H',A σ' H'->B σ' H')->g x σ H A->g x σ H B) (mt:∀σ H (A B:VK),(∀v H',A v H'->B v H')->te σ H A->te σ H B):
  ∃W:Nat->Nat->List V->St->Hp->Prop,(∃m,W 0 m [] (List.replicate n none) (upd H1 l (.lst [])))/\∀i m ys σ' H',W i m ys σ' H'->
   ((Itl K a).stop i H'/\R H')\/((Itl K a).go i H'/\∀x H2,(Itl K a).yld i H' x H2->g x σ' H2 λ σ3 H3=>te σ3 H3 λ y H4=>
    H4 l=some (.lst ys)/\ys.length<sizeLine/\∃m',m'<m/\W (i+1) m' (ys++[y]) σ3 (upd H4 l (.lst (ys++[y])))):=by
 refine⟨λ i m ys σ H=>m=xs.length-i/\i≤xs.length/\σ.length=n/\Pv i ys H,⟨xs.length,by simp,Ap _,AR,h0⟩,?_⟩;rintro i m ys σ H ⟨rfl,hi,hn,p⟩;have q:=hl i ys H hi p;by_cases hlt:i<xs.length
 ·refine .inr ⟨⟨xs,xs[i],q,by simp [hlt]⟩,λ x H' y=>?_⟩;obtain⟨e,y⟩:=y;subst e;exact mg _ _ _ _ _ (λ σ3 H3 z=>mt _ _ _ _ (λ y H4 ⟨z1,z2,z3,z4⟩=>⟨z1,z2,xs.length-(i+1),by lia,rfl,hlt,z3,z4⟩) z) (hs i x ys σ _ (y xs q) p hn)
 ·have e:i=xs.length:=by lia
  subst e;exact .inl ⟨⟨xs,q,zy _⟩,hd ys H p⟩
section
variable {X : Cx}
theorem sC (hc:X.A.handled=none):CallR X (.builtin "sum") (λ xs H Q=>∃(p:Addr) (ns:List Int),xs=[.ref p]/\SqL X.K H p (ns.map V.int)/\Q (.int ns.sum) H):=by
 intro pins s σ H xs us Q I r h;obtain⟨p,ns,rfl,hq,q⟩:=h;obtain⟨u,rfl,rx⟩:=gb r;cases rx;obtain⟨its,rv,pl,hz⟩:=I.list hq;have hi:=cx rv;obtain⟨ys,hx⟩:=hi.allInts.items;have hl:s.heap.IsList p (intItems ys):=hx▸pl.isList;refine sum_intListG hc hl λ h' tk t' hk=>?_
 have e1:ns=ys.toList.map (·.1):=by
  rw [<-nums_intItems,<-hx];exact(show numsOf its.toArray.toList=ns from hi.numsOf).symm
 have e2:preSum (numAt ys) ys.size=ns.sum:=by
  rw [preSum_eq,Ad (by simp),e1]
 rw [e2];exact⟨.int ns.sum,H,I.kept (t':=tk) hk,⟨_,rfl⟩,q⟩
theorem fm:CallR X (.builtin "isinstance") (λ xs H Q=>∃x c t b,xs=[x,.ty c]/\TyOf X.K H x t/\PySem.W.kitOne X.K t (.type c)=some b/\Q (.bl b) H):=by
 intro pins s σ H xs us Q I r h;obtain⟨x,c,t,b,rfl,ty,e,q⟩:=h;obtain⟨u,v,rfl,ru,rv⟩:=nG r;cases rv;exact iO I ru ty e λ tk=>⟨.bl b,H,I.tok tk,rfl,q⟩
end
def aJ (X:Cx)(N:List Str)(scope:Scope)(cl:List (Str×Addr))(fp:List Addr)(s:Shared)(H:Hp):Cx where
 prog:=X.prog
 w:=X.w
 K:=X.K
 mg:=X.mg
 base:=X.base
 A:=X.A
 N:=N
 s₀:=s
 H₀:=H
 env:=compEnvC scope cl s.heap.objs.size X.env
 outer:=X.stack
 stack:=X.stack
 ex:=fp
 fn:=λ _=>false
 calm:=X.calm
 pn:=[]
 xe:=λ _ _=>False
def cap (js:List (Option Nat))(σ:St):St:=js.map λ o=>match o with
 |none=>none
 |some j=>(σ[j]?).getD none
structure Caps (X:Cx)(N:List Str)(scope:Scope)(cl:List (Str×Addr))(js:List (Option Nat)):Prop where
 kind:scope.kind=.function
 nocell:∀x∈scope.names,x.2≠ .cell
 names:∀x∈scope.names,x.2=.local->scope.names.lookup x.1=some .local
 clos:closureFor scope X.env=pure cl
 sub:∀x c,cl.lookup x=some c->X.env.cells.lookup x=some c
 has:∀x,((relabel scope X.env).names.lookup x=some .cell\/(relabel scope X.env).names.lookup x=some .free)->∃c,cl.lookup x=some c
 len:js.length=N.length
 slot:∀(i:Nat) (x:Str) (j:Nat),N[i]?=some x->js[i]?=some (some j)->X.N[j]?=some x/\X.env.scope.names.lookup x=some .cell/\(relabel scope X.env).names.lookup x=some .cell/\∀c,X.env.cells.lookup x=some c->cl.lookup x=some c
section
variable {X : Cx} {pins : List (Addr × Obj)} {σ : St} {H : Hp} {s : Shared} {N : List Str} {scope : Scope} {cl : List (Str × Addr)} {js : List (Option Nat)} {fp : List Addr}
theorem p7 {h':Heap}{t':Nat}{m:Str->Option Value}(I:Inv X pins σ H s)(C:Caps X N scope cl js)
  (hf:∀b∈fp,FpOk X pins H b) (hlt:∀b∈fp,b<s.heap.objs.size) (hn:h'.Ns s.heap.objs.size m) (hk:∀b o,s.heap.get? b=some o->h'.get? b=some o):
  Inv (aJ X N scope cl fp s H) [] (cap js σ) H {s with heap:=h',toks:=t'}:=by
 have sub:∀{x:Str} {c:Addr},(aJ X N scope cl fp s H).env.cells.lookup x=some c->X.env.cells.lookup x=some c:=λ {x c} e=>C.sub x c e
 refine⟨⟨I.ok.mod,C.kind,I.ok.glob,I.ok.blt,zy _,λ x y c e1 e2=>I.ok.inj x y c (sub e1) (sub e2),λ x hx=>C.has x hx,λ x c e _=>(by cases e),I.qt,I.ok.frames,.inl rfl,
  λ b hb=>⟨AE (hlt b hb),λ x c e=>(hf b hb).2.2.2.2.1 x c (sub e)⟩,I.bs,AM I.ok.bsz I.sz,λ b o e hb=>?_,λ b hb hs=>?_,I.stack,I.stkFree⟩,
  rfl,I.bare,Un.kept hk,⟨m,hn,λ i x v h1 h2 h3=>?_⟩,λ x c e=>?_,I.hok.fresh (zy _),λ x c e=>I.freeC x c (sub e),λ p hp=>?_,I.hok.kept hk,by unfold cap;rw [zr];exact C.len⟩
 ·rcases(hf b hb).2.2.2.1 with z|z
  ·exact I.ok.noex b o e z
  ·exact absurd (Am (zZ e) (AM I.ok.bsz z)) (BX _)
 ·rcases zL.mp (I.stkSub b hs) with z|z
  ·exact(hf b hb).2.1 z
  ·exact(hf b hb).2.2.1 z
 ·unfold cap at h2;rw [AA] at h2;cases ej:js[i]? with
  |none=>rw [ej] at h2;cases h2
  |some o=>
   rw [ej] at h2;cases o with
   |none=>cases h2
   |some j=>
    have h2':(σ[j]?).getD none=some v:=zS h2;obtain⟨hj1,hk1,hk2,hc⟩:=C.slot i x j h1 ej;have hj2:σ[j]?=some (some v):=by
     cases e:σ[j]? with
     |none=>rw [e] at h2';cases h2'
     |some w'=>rw [e] at h2';exact Bk some h2'
    obtain⟨mo,hno,hl⟩:=I.loc;obtain⟨u,r,l⟩:=hl j x v hj1 hj2 (.inr (.inl hk1));refine⟨u,r,?_⟩;rcases l with⟨q,_⟩|⟨_,c,ec,o,ho,hd⟩
    ·have q':X.env.scope.names.lookup x=some .local:=q;rw [hk1] at q';cases q'
    ·exact .inr ⟨.inl hk2,c,hc c ec,o,hk c o ho,hd⟩
 ·obtain⟨v,o,ho,hd⟩:=I.cell x c (sub e);exact⟨v,o,hk c o ho,hd⟩
 ·exact absurd (show p∈([]:List (Addr×Obj)) from hp) (by simp)
theorem mE {pins':List (Addr×Obj)}{σ':St}{s':Shared}(I:Inv X pins σ H s)(hf:∀b∈fp,FpOk X pins H b)(I':Inv (aJ X N scope cl fp s H) pins' σ' H' s'):Inv X pins σ H' s':=
 I.call' (ch:=fp) I'.os I'.base I'.hok I'.bare λ b hb=>⟨(hf b hb).2.2.2.1,(hf b hb).2.1,(hf b hb).2.2.2.2.1,(hf b hb).2.2.2.2.2⟩
end
def se (js:List (Option Nat))(wi:TI)(g:TG)(te:TE):TE:=λ σ H Q=>wi σ H λ J H1=>∀l,H1 l=none->∃W:Nat->Nat->List V->St->Hp->Prop,
 (∃m,W 0 m [] (cap js σ) (upd H1 l (.lst [])))/\∀i m ys σ' H',W i m ys σ' H'->
  (J.stop i H'/\Q (.ref l) H')\/(J.go i H'/\∀x H2,J.yld i H' x H2->g x σ' H2 λ σ3 H3=>te σ3 H3 λ y H4=>
   H4 l=some (.lst ys)/\ys.length<sizeLine/\∃m',m'<m/\W (i+1) m' (ys++[y]) σ3 (upd H4 l (.lst (ys++[y]))))
def cF (js:List (Option Nat))(wi:TI)(g:TG)(tt:TT)(te:TE):TE:=λ σ H Q=>wi σ H λ J H1=>∀l,H1 l=none->∃W:Nat->Nat->List V->St->Hp->Prop,
 (∃m,W 0 m [] (cap js σ) (upd H1 l (.lst [])))/\∀i m ys σ' H',W i m ys σ' H'->
  (J.stop i H'/\Q (.ref l) H')\/(J.go i H'/\∀x H2,J.yld i H' x H2->g x σ' H2 λ σ3 H3=>tt σ3 H3 λ c H5=>if c=true then te σ3 H5 λ y H4=>
   H4 l=some (.lst ys)/\ys.length<sizeLine/\∃m',m'<m/\W (i+1) m' (ys++[y]) σ3 (upd H4 l (.lst (ys++[y]))) else∃m',m'<m/\W (i+1) m' ys σ3 H5)
def ra (n:Nat)(wi:TI)(g:TG)(tt:TT)(te:TE):TE:=λ σ H Q=>wi σ H λ J H1=>∀l,H1 l=none->∃W:Nat->Nat->List V->St->Hp->Prop,
 (∃m,W 0 m [] (List.replicate n none) (upd H1 l (.lst [])))/\∀i m ys σ' H',W i m ys σ' H'->
  (J.stop i H'/\Q (.ref l) H')\/(J.go i H'/\∀x H2,J.yld i H' x H2->g x σ' H2 λ σ3 H3=>tt σ3 H3 λ c H5=>if c=true then te σ3 H5 λ y H4=>
   H4 l=some (.lst ys)/\ys.length<sizeLine/\∃m',m'<m/\W (i+1) m' (ys++[y]) σ3 (upd H4 l (.lst (ys++[y]))) else∃m',m'<m/\W (i+1) m' ys σ3 H5)
def pb (prog:Program)(w:World)(A:Around)(elt target iter:Expr)(cs:List Expr)(scope:Scope)(pos:Pos)(tw:Env->(Bool->Shared->Prop)->(Value->Shared->Prop)->Shared->Prop):Prop:=
 ∀(R:Result->Shared->Prop) (s:Shared) (it acc:Value) (env:Env) (J:Nat->Shared->Prop),(∀n z,J n z->wpAny (model prog w) A (pyNext it) (λ r z1=>match r with
   |none=>R (.ok .next) z1
   |some v=>wpAny (model prog w) A (letOwnedTupleGo target it v) (λ _ z2=>wpAny (model prog w) A (assign target env v) (λ _ z3=>tw env (λ b z6=>if b=true then wpAny (model prog w) A (eval elt env) (λ x z4=>
     wpAny (model prog w) A (call (.builtin "list.append") [acc,x]) (λ _ z5=>∃m,m<n/\J m z5)
      (notedBy (model prog w) A env λ e s'=>R (.error e) s') z4) (notedBy (model prog w) A env λ e s'=>R (.error e) s') z6 else∃m,m<n/\J m z6) (notedBy (model prog w) A env λ e s'=>R (.error e) s') z3)
      (notedBy (model prog w) A env λ e s'=>R (.error e) s') z2) (notedBy (model prog w) A env λ e s'=>R (.error e) s') z1) (notedBy (model prog w) A env λ e s'=>R (.error e) s') z)->
  ∀n,J n s->codeAny (model prog w) A (.compLoop (.ListComp elt [⟨target,iter,cs,0⟩] scope pos) 0 it acc env) R s
def twI (prog:Program)(w:World)(A:Around)(cnd:Expr):Env->(Bool->Shared->Prop)->(Value->Shared->Prop)->Shared->Prop:=λ env Q E z=>wpAny (model prog w) A (isTrue cnd env (eval cnd env)) Q E z
def tw0:Env->(Bool->Shared->Prop)->(Value->Shared->Prop)->Shared->Prop:=λ _ Q _ z=>Q true z
section
variable {prog : Program} {w : World} {A : Around}
theorem lG {elt target iter:Expr}{cs:List Expr}{pos:Pos}{tw:Env->(Bool->Shared->Prop)->(Value->Shared->Prop)->Shared->Prop}
    (h:(∃cnd,cs=[cnd]/\tw=twI prog w A cnd)\/(cs=[]/\tw=tw0)):pb prog w A elt target iter cs scope pos tw:=by
  intro R s it acc env J turn n h0
  refine codeAny_loop rfl J (λ k z hz=>?_) n h0
  show wpAny _ _ ((compTurn (.ListComp elt [⟨target,iter,cs,0⟩] scope pos) 0 it acc env).onRaise (λ q=>do noteFrame q env;theTreesLotGoes q)) _ _ z
  refine wpAny_noted ?_
  rw [compTurn_list]
  refine zx (wpAny_standAt (zx (AX (turn k z hz) (λ r z1 g1=>?_) λ _ _ q=>q)))
  cases r with
  |none=>exact Ai g1
  |some v=>
    refine zx (AX g1 (λ _ z2 g2=>zx (AX g2 (λ _ z3 g3=>?_) λ _ _ q=>q)) λ _ _ q=>q)
    rcases h with⟨cnd,rfl,rfl⟩|⟨rfl,rfl⟩
    · refine zx (wpAny_tests_one (AX g3 (λ b z6 g6=>?_) λ _ _ q=>q))
      cases b with
      |false=>exact Ai ⟨rfl,g6⟩
      |true=>exact zx (zx (AX g6 (λ x z4 g4=>zx (AX g4 (λ _ z5 g5=>Ai (Ai ⟨rfl,g5⟩)) λ _ _ q=>q)) λ _ _ q=>q))
    · exact zx (Ai (zx (zx (AX g3 (λ x z4 g4=>zx (AX g4 (λ _ z5 g5=>Ai (Ai ⟨rfl,g5⟩)) λ _ _ q=>q)) λ _ _ q=>q))))
end
def PTw (X:Cx)(tw:Env->(Bool->Shared->Prop)->(Value->Shared->Prop)->Shared->Prop)(tt:TT):Prop:=∀pins s σ H (Q:Bool->Hp->Prop) (Q':Bool->Shared->Prop) (E:Value->Shared->Prop),Inv X pins σ H s->tt σ H Q->(∀b s',(∃H',Inv X pins σ H' s'/\Q b H')->Q' b s')->tw X.env Q' E s
def ttT:TT:=λ _ H Q=>Q true H
theorem rQ:PTw X tw0 ttT:=λ _ _ _ H _ _ _ I h k=>k _ _ ⟨H,I,h⟩
theorem wo {cnd:Expr}(ht:PT X cnd tt)(hx:∀e s,X.xe e s->False):PTw X (twI X.prog X.w X.A cnd) tt:=
 λ pins s σ H Q Q' E I h k=>AX (ht pins s σ H Q I h) (λ b s' z=>k b s' z) λ _ _ z=>(hx _ _ z).elim
theorem ku:cap (N.map λ _=>none) σ=List.replicate N.length none:=by
 unfold cap;rw [A5];exact Ea
theorem wf (hkind:scope.kind=.function)(hfree:∀x∈scope.names,x.2≠ .free)(hcell:∀x∈scope.names,x.2≠ .cell)(hnames:∀x∈scope.names,x.2=.local->scope.names.lookup x.1=some .local):Caps X N scope [] (N.map λ _=>none):=by
 have rl:∀x∈(relabel scope X.env).names,x∈scope.names:=by
  intro x hx;obtain⟨⟨n,k⟩,m,e⟩:=Bl.mp hx;have hk:k≠ .free:=hfree _ m;have:(k==NameKind.free)=false:=by simpa using hk
  simp [this] at e;rw [<-e];exact m
 refine⟨hkind,hcell,hnames,closureFor_none hfree,λ x c h=>(by cases h),λ x h=>?_,zr ..,λ i x j h1 h2=>?_⟩
 ·rcases h with h|h
  ·exact absurd rfl (hcell _ (rl _ (Ar h)))
  ·exact absurd rfl (hfree _ (rl _ (Ar h)))
 ·rw [AA] at h2;cases e:N[i]? with
  |none=>rw [e] at h2;cases h2
  |some y=>rw [e] at h2;cases h2
theorem yq {g:TG}(h:vZ N.length wi g te σ H Q):cF (N.map λ _=>none) wi g ttT te σ H Q:=by
 unfold cF;rw [ku];exact h
theorem yl {g:TG}(h:ra N.length wi g tt te σ H Q):cF (N.map λ _=>none) wi g tt te σ H Q:=by
 unfold cF;rw [ku];exact h
section
variable {X : Cx} {N : List Str} {scope : Scope} {cl : List (Str × Addr)} {js : List (Option Nat)} {elt cnd target iter : Expr} {cs : List Expr} {pos : Pos} {wi : TI} {g : TG} {tt : TT} {te : TE} {tw : Env -> (Bool -> Shared -> Prop) -> (Value -> Shared -> Prop) -> Shared -> Prop}
theorem gO {pins:List (Addr×Obj)}{s:Shared}{RR:Value->Addr->Result->Shared->Prop}
  (hc:X.calm=true) (Cp:Caps X N scope cl js)
  (hi:PI X target iter wi) (hg:∀fp s H,PG (aJ X N scope cl fp s H) target g) (LR:pb X.prog X.w X.A elt target iter cs scope pos tw) (ht:∀fp s H,PTw (aJ X N scope cl fp s H) tw tt) (he:∀fp s H,PE (aJ X N scope cl fp s H) elt te)
  (I:Inv X pins σ H s) (h:cF js wi g tt te σ H Q)
  (hR:∀(l C:Addr) (H':Hp) (s':Shared),Inv X pins σ H' s'->FpOk X pins H' C->(∃m,s'.heap.Ns C m)->Q (.ref l) H'->RR (.ref l) C (.ok .next) s'):
  wpAny (model X.prog X.w) X.A (eval iter X.env) (λ x s₁=>wpAny (model X.prog X.w) X.A (pyIter x) (λ it s₂=>wpAny (model X.prog X.w) X.A (newList []) (λ acc s₃=>
   wpAny (model X.prog X.w) X.A (newFunctionEnv scope X.env.globals cl [] X.env.qual none .none (some X.env)) (λ cenv s₄=>
    codeAny (model X.prog X.w) X.A (.compStart (.ListComp elt [⟨target,iter,cs,0⟩] scope pos) 0 it acc {cenv with scope:=relabel scope X.env}) (RR acc cenv.locals) s₄) X.xe s₃) X.xe s₂) X.xe s₁) X.xe s:=by
 refine thn (hi pins s σ H _ I h) λ v s1 h1=>thn h1 λ itv s2 h2=>?_
 obtain⟨it,fp,tn,J,H2,e,I2,T,st2,f2,hw⟩:=h2;subst e;have hl2:H2 s2.heap.objs.size=none:=I2.hok.fresh (zy _);obtain⟨W,⟨m0,w0⟩,turn⟩:=hw s2.heap.objs.size hl2;have lt2:∀b∈fp,b<s2.heap.objs.size:=λ b hb=>let⟨o,e,_⟩:=T.obj _ _ st2 b hb;zZ e
 refine wpAny_newList ?_;have I3:Inv X pins σ (upd H2 s2.heap.objs.size (.lst [])) {s2 with heap:=s2.heap.push {cls:=.type "list",data:=.seq ([]:List Value).toArray}}:=
  I2.laid (t':=s2.toks) (λ b u e=>zB _ e) (zy _) ⟨Ap _,[],0,.nil,Ak _ rfl⟩
 have st3:tn 0 (s2.heap.push {cls:=.type "list",data:=.seq ([]:List Value).toArray}):=T.keep _ _ _ st2 λ b hb o e=>zB _ e
 have lt3:∀b∈fp,b<(s2.heap.push {cls:=.type "list",data:=.seq ([]:List Value).toArray}).objs.size:=λ b hb=>by rw [CI];exact DX (lt2 b hb)
 have f3:∀b∈fp,FpOk X pins (upd H2 s2.heap.objs.size (.lst [])) b:=λ b hb=>⟨by rw [upd_ne (AE (lt2 b hb))];exact(f2 b hb).1,(f2 b hb).2⟩
 generalize s2.heap.objs.size=l at*;generalize upd H2 l (.lst [])=H3 at*;have hs3:∃s3:Shared,s3={s2 with heap:=s2.heap.push {cls:=.type "list",data:=.seq ([]:List Value).toArray}}:=⟨_,rfl⟩;obtain⟨s3,e3⟩:=hs3;rw [<-e3] at I3;rw [<-e3];have st3:tn 0 s3.heap:=by rw [e3];exact st3
 have lt3:∀b∈fp,b<s3.heap.objs.size:=by rw [e3];exact lt3
 clear e3;refine wpAny_newFunctionEnv Cp.nocell (by intro y hy;simp at hy) (λ h4 hns hsb=>?_) Cp.kind;have kp:∀b o,s3.heap.get? b=some o->h4.get? b=some o:=λ b o e=>hsb.extBut b o (AE (zZ e)) (zB _ e)
 have I4:=p7 (N:=N) (t':=s3.toks+([]:List (Str×Value)).length) I3 Cp f3 lt3 hns kp;have st4:tn 0 h4:=T.keep _ _ _ st3 λ b hb o e=>kp b o e
 have stat:∀{H':Hp},(∀b∈fp,H' b=none)->∀b∈fp,FpOk (aJ X N scope cl fp s3 H3) [] H' b:=λ hn b hb=>
  ⟨hn b hb,(I4.ok.exf b hb).1,I4.ok.exfs b hb,.inl hb,(I4.ok.exf b hb).2,λ p hp=>absurd (show p∈([]:List (Addr×Obj)) from hp) (by simp)⟩
 have loop:codeAny (model X.prog X.w) X.A (.compLoop (.ListComp elt [⟨target,iter,cs,0⟩] scope pos) 0 (.ref it) (.ref l) (compEnvC scope cl s3.heap.objs.size X.env)) (RR (.ref l) s3.heap.objs.size)
   {s3 with heap:=h4,toks:=s3.toks+([]:List (Str×Value)).length}:=by
  refine LR _ _ _ _ _ (λ n s'=>∃i ys σ' H',Inv (aJ X N scope cl fp s3 H3) [] σ' H' s'/\tn i s'.heap/\(∀b∈fp,H' b=none)/\W i n ys σ' H') ?_ m0 ⟨0,[],_,_,I4,st4,λ b hb=>(f3 b hb).1,w0⟩;rintro n s5 ⟨i,ys,σ5,H5,I5,st5,fr5,w5⟩;rcases turn i n ys σ5 H5 w5 with⟨stop,q⟩|⟨go,step⟩
  ·refine thn (T.done (aJ X N scope cl fp s3 H3) rfl rfl rfl hc i [] s5 σ5 H5 _ I5 (stat fr5) st5 stop) λ r s6 z9=>?_
   obtain⟨hr,I6⟩:=z9;subst hr;exact hR _ _ _ _ (mE I3 f3 I6) (I3.fpOk (zy _) I6.free) (let⟨m,hn,_⟩:=I6.loc;⟨m,hn⟩) q
  ·refine thn (T.item (aJ X N scope cl fp s3 H3) rfl rfl rfl hc i [] s5 σ5 H5 _ I5 (stat fr5) st5 go) λ r s6 z9=>?_
   obtain⟨u,hr,h6⟩:=z9;subst hr;refine thn h6 λ _ s7 z9=>?_
   obtain⟨x,H7,I7,r7,y7,st7,fr7⟩:=z9;have I7':=I7.pinned (stat fr7) (T.obj _ _ st7);refine AX (hg fp s3 H3 _ s7 σ5 H7 x u _ I7' r7 (step x H7 y7)) (λ _ s8 z9=>?_) (λ _ _ z=>False.elim z);obtain⟨σ8,H8,I8,q8⟩:=z9;refine ht fp s3 H3 _ s8 σ8 H8 _ _ _ I8 q8 λ bb s85 z85=>?_
   obtain⟨H85,I85,q85⟩:=z85;cases bb with
   |false=>
    rw [zK zN] at q85 ⊢;obtain⟨m',hm',w9⟩:=q85;refine⟨m',hm',i+1,ys,σ8,H85,I85.unpinned,T.keep _ _ _ st7 λ b hb o e=>(I85.pin (b,o) (zJ _ (zJ _ (a8 hb e)))).1,λ b hb=>?_,w9⟩;obtain⟨o,e,d⟩:=T.obj _ _ st7 b hb;exact(I85.pin (b,o) (zJ _ (zJ _ (a8 hb e)))).2.1
   |true=>
   rw [zP rfl] at q85 ⊢;refine AX (he fp s3 H3 _ s85 σ8 H85 _ I85 q85) (λ v s9 z9=>?_) (λ _ _ z=>False.elim z);obtain⟨y,H9,I9,r9,hl9,hz9,m',hm',w9⟩:=z9;refine AX (a6 (X:=aJ X N scope cl fp s3 H3) _ s9 σ8 H9 (.ref l) [y] (.ref l) [v] (λ z Hz=>Hz=upd H9 l (.lst (ys++[y]))) I9 rfl (.cons r9 .nil) ⟨l,ys,y,rfl,rfl,hl9,hz9,rfl⟩)
    (λ _ s10 ⟨z,Hz,I10,_,eH⟩=>?_) (λ _ _ z=>False.elim z)
   subst eH;refine⟨m',hm',i+1,ys++[y],σ8,_,I10.unpinned,T.keep _ _ _ st7 λ b hb o e=>(I10.pin (b,o) (zJ _ (zJ _ (a8 hb e)))).1,λ b hb=>?_,w9⟩;obtain⟨o,e,d⟩:=T.obj _ _ st7 b hb;exact(I10.pin (b,o) (zJ _ (zJ _ (a8 hb e)))).2.1
 exact codeAny_compStart_list loop (T.self X.A 0 _ _ _ st4 loop)
theorem eR (hc:X.calm=true)(Cp:Caps X N scope cl js)
  (hi:PI X target iter wi) (hg:∀fp s H,PG (aJ X N scope cl fp s H) target g) (LR:pb X.prog X.w X.A elt target iter cs scope pos tw) (ht:∀fp s H,PTw (aJ X N scope cl fp s H) tw tt) (he:∀fp s H,PE (aJ X N scope cl fp s H) elt te)
  (hs:∀x,foldedSetIterable iter X.env x=pure x:=by intro _;rfl):PE X (.ListComp elt [⟨target,iter,cs,0⟩] scope pos) (cF js wi g tt te):=by
 intro pins s σ H Q I h;rw [eval_ListComp];refine wpAny_comprehension_free (use:=none) (Q:=EP X pins σ Q) rfl hs Cp.clos Cp.kind Cp.names
  (gO (RR:=λ acc C=>compPost (model X.prog X.w) X.A X.xe none (EP X pins σ Q) acc C) hc Cp hi hg LR ht he I h ?_)
 rintro l C H' s' I' fC ⟨m,hn⟩ q;exact⟨m,hn,λ h' sb'=>⟨.ref l,H',I'.turned (t':=s'.toks) (λ b o hb e=>(sb'.2 b hb).trans e) fC.1 fC.2.1 fC.2.2.2.1 fC.2.2.2.2.1 fC.2.2.2.2.2,rfl,q⟩⟩
theorem va {i:Nat}(hN:X.N.Nodup)(hiy:X.N[i]?=some y)(hy:Loc X.env.scope y)
    (hc:X.calm=true) (Cp:Caps X N scope cl js)
    (hi:PI X target iter wi) (hg:∀fp s H,PG (aJ X N scope cl fp s H) target g) (LR:pb X.prog X.w X.A elt target iter cs scope pos tw) (ht:∀fp s H,PTw (aJ X N scope cl fp s H) tw tt) (he:∀fp s H,PE (aJ X N scope cl fp s H) elt te)
    (hsw:swapsWith (.ListComp elt [⟨target,iter,cs,0⟩] scope pos) (some (.Name y py)) spos.line X.env=pure true)
    (hs:∀x,foldedSetIterable iter X.env x=pure x:=by intro _;rfl) (hf:X.fn y=true\/X.env.scope.names.lookup y=some .local:=by first|exact .inl rfl|exact .inr rfl|assumption):
    PS X (.Assign [.Name y py] (.ListComp elt [⟨target,iter,cs,0⟩] scope pos) spos) (wk i (cF js wi g tt te)):=by
  intro pins s σ H D I h
  rw [exec_Assign_Name_used _ _ _ _ hsw]
  refine zx (wpAny_standAt (zx ?_))
  show wpAny _ X.A (do let _<-comprehension (.ListComp elt [⟨target,iter,cs,0⟩] scope pos) scope X.env _ (newList []) false (eval iter X.env) (some (assign (.Name y py) X.env))) _ _ s
  refine zx (AX (wpAny_comprehension_free (use:=some (assign (.Name y py) X.env)) (Q:=λ _ s'=>SP X pins D .next s') rfl hs Cp.clos Cp.kind Cp.names
    (gO (RR:=λ acc C=>compPost (model X.prog X.w) X.A X.xe (some (assign (.Name y py) X.env)) (λ _ s'=>SP X pins D .next s') acc C) hc Cp hi hg LR ht he I h ?_)) (λ _ s' hq=>Ai (Ai hq)) λ _ _ e=>e)
  rintro l C H' s' I' fC ⟨m,hn⟩ q
  show wpAny _ X.A (assign (.Name y py) X.env (.ref l)) _ _ _
  refine wpAny_assign_Name (jl (v:=.ref l) I' hN hiy hy (show RelV (.ref l) (.ref l) from rfl) (λ s2 I2 z9=>?_) hf)
  obtain⟨a,sb,ha⟩:=z9
  have hCa:C≠a:=by
    rcases ha with ha|ha
    · rw [ha];exact fC.2.1
    · exact DN (fC.2.2.2.2.1 y a ha)
  exact⟨m,hn.sameBut sb hCa,λ h' sb'=>⟨_,H',I2.turned (t':=s2.toks) (λ b o hb e=>(sb'.2 b hb).trans e) fC.1 fC.2.1 fC.2.2.2.1 fC.2.2.2.2.1 fC.2.2.2.2.2,q⟩⟩
theorem uY (hc:X.calm=true)(hkind:scope.kind=.function)(hfree:∀x∈scope.names,x.2≠ .free)(hcell:∀x∈scope.names,x.2≠ .cell)(hnames:∀x∈scope.names,x.2=.local->scope.names.lookup x.1=some .local)(hi:PI X target iter wi)(hg:∀fp s H,PG (aJ X N scope [] fp s H) target g)(he:∀fp s H,PE (aJ X N scope [] fp s H) elt te)(hs:∀x,foldedSetIterable iter X.env x=pure x:=by intro _;rfl):
  PE X (.ListComp elt [⟨target,iter,[],0⟩] scope pos) (vZ N.length wi g te):=
 λ pins s σ H Q I h=>eR hc (wf hkind hfree hcell hnames) hi hg (lG (.inr ⟨rfl,rfl⟩)) (λ _ _ _=>rQ) he hs pins s σ H Q I (yq h)
theorem hI (hc:X.calm=true)(hkind:scope.kind=.function)(hfree:∀x∈scope.names,x.2≠ .free)(hcell:∀x∈scope.names,x.2≠ .cell)(hnames:∀x∈scope.names,x.2=.local->scope.names.lookup x.1=some .local)(hi:PI X target iter wi)(hg:∀fp s H,PG (aJ X N scope [] fp s H) target g)(ht:∀fp s H,PT (aJ X N scope [] fp s H) cnd tt)(he:∀fp s H,PE (aJ X N scope [] fp s H) elt te)(hs:∀x,foldedSetIterable iter X.env x=pure x:=by intro _;rfl):
  PE X (.ListComp elt [⟨target,iter,[cnd],0⟩] scope pos) (ra N.length wi g tt te):=
 λ pins s σ H Q I h=>eR hc (wf hkind hfree hcell hnames) hi hg (lG (.inl ⟨_,rfl,rfl⟩)) (λ _ _ _=>wo (ht _ _ _) λ _ _ z=>z) he hs pins s σ H Q I (yl h)
theorem lR (hc:X.calm=true)(Cp:Caps X N scope cl js)(hi:PI X target iter wi)(hg:∀fp s H,PG (aJ X N scope cl fp s H) target g)(he:∀fp s H,PE (aJ X N scope cl fp s H) elt te)(hs:∀x,foldedSetIterable iter X.env x=pure x:=by intro _;rfl):
  PE X (.ListComp elt [⟨target,iter,[],0⟩] scope pos) (se js wi g te):=
 λ pins s σ H Q I h=>eR hc Cp hi hg (lG (.inr ⟨rfl,rfl⟩)) (λ _ _ _=>rQ) he hs pins s σ H Q I (h)
theorem kP {i:Nat}(hN:X.N.Nodup)(hiy:X.N[i]?=some y)(hy:Loc X.env.scope y)(hc:X.calm=true)(Cp:Caps X N scope cl js)(hi:PI X target iter wi)(hg:∀fp s H,PG (aJ X N scope cl fp s H) target g)(he:∀fp s H,PE (aJ X N scope cl fp s H) elt te)(hsw:swapsWith (.ListComp elt [⟨target,iter,[],0⟩] scope pos) (some (.Name y py)) spos.line X.env=pure true)(hs:∀x,foldedSetIterable iter X.env x=pure x:=by intro _;rfl)(hf:X.fn y=true\/X.env.scope.names.lookup y=some .local:=by first|exact .inl rfl|exact .inr rfl|assumption):
  PS X (.Assign [.Name y py] (.ListComp elt [⟨target,iter,[],0⟩] scope pos) spos) (wk i (se js wi g te)):=
 λ pins s σ H D I h=>va hN hiy hy hc Cp hi hg (lG (.inr ⟨rfl,rfl⟩)) (λ _ _ _=>rQ) he hsw hs hf pins s σ H D I (h)
theorem iW (hc:X.calm=true)(Cp:Caps X N scope cl js)(hi:PI X target iter wi)(hg:∀fp s H,PG (aJ X N scope cl fp s H) target g)(ht:∀fp s H,PT (aJ X N scope cl fp s H) cnd tt)(he:∀fp s H,PE (aJ X N scope cl fp s H) elt te)(hs:∀x,foldedSetIterable iter X.env x=pure x:=by intro _;rfl):
  PE X (.ListComp elt [⟨target,iter,[cnd],0⟩] scope pos) (cF js wi g tt te):=
 λ pins s σ H Q I h=>eR hc Cp hi hg (lG (.inl ⟨_,rfl,rfl⟩)) (λ _ _ _=>wo (ht _ _ _) λ _ _ z=>z) he hs pins s σ H Q I (h)
end
theorem f8 {lo:Int}{k:Nat}{σ0:St}{g:TG}(Pv:Nat->List V->St->Hp->Prop)(h0:Pv 0 [] σ0 (upd H1 l (.lst [])))
  (hs:∀i ys σ H,i<k->Pv i ys σ H->g (.int (lo+(i:Nat))) σ H λ σ3 H3=>te σ3 H3 λ y H4=>H4 l=some (.lst ys)/\ys.length<sizeLine/\Pv (i+1) (ys++[y]) σ3 (upd H4 l (.lst (ys++[y]))))
  (hd:∀ys σ H,Pv k ys σ H->R H) (mg:∀x σ H (A B:St->Hp->Prop),(∀σ' H',A σ' H'->B σ' H')->g x σ H A->g x σ H B) (mt:∀σ H (A B:VK),(∀v H',A v H'->B v H')->te σ H A->te σ H B):
  ∃W:Nat->Nat->List V->St->Hp->Prop,(∃m,W 0 m [] σ0 (upd H1 l (.lst [])))/\∀i m ys σ' H',W i m ys σ' H'->
   ((Itr lo k).stop i H'/\R H')\/((Itr lo k).go i H'/\∀x H2,(Itr lo k).yld i H' x H2->g x σ' H2 λ σ3 H3=>te σ3 H3 λ y H4=>
    H4 l=some (.lst ys)/\ys.length<sizeLine/\∃m',m'<m/\W (i+1) m' (ys++[y]) σ3 (upd H4 l (.lst (ys++[y])))):=by
 refine⟨λ i m ys σ H=>m=k-i/\i≤k/\Pv i ys σ H,⟨k,by simp,Ap _,h0⟩,?_⟩;rintro i m ys σ H ⟨rfl,hi,p⟩;by_cases hlt:i<k
 ·refine .inr ⟨hlt,λ x H' y=>?_⟩;obtain⟨e,y⟩:=y;subst e y;exact mg _ _ _ _ _ (λ σ3 H3 z=>mt _ _ _ _ (λ y H4 ⟨z1,z2,z4⟩=>⟨z1,z2,k-(i+1),by lia,rfl,hlt,z4⟩) z) (hs i ys σ _ hlt p)
 ·have e:i=k:=by lia
  subst e;exact .inl ⟨zy _,hd ys σ H p⟩
structure FunD (K:PySem.W.Frag)(x qual:Str)(st:Stmt)(dV:Value)(f:Addr)(fd:FuncData):Prop where
 ex:∃(oc:Value) (od:Option Addr) (kV doc pm:Value) (an:Option Addr) (cdv ct:Value) (osl:Array (Option Value)),
  fd=PySem.W.fnOf x qual (defArgs st) (defBody st) (defScope st) dV kV doc pm an cdv ct/\K.lookup f=some ⟨oc,od,.func fd,osl⟩/\PySem.W.codeIn K cdv qual=true
 kp:PySem.W.keepIn K (.ref f)=true
theorem FunD.ok {base:Heap}{dV:Value}{k:Nat}(F:FunD K x qual st dV f fd)(S:FnScope N ps (defScope st))(len:∀vs H Q E,sp vs H Q E->vs.length=ps.length)
  (hb:∀(cdv:Value) (A:Around) (outer:List Env) (s:Shared) (H:Hp) (vs:List V) (Q:VK) (E:XK),Room k (A.deeper (envOfC qual (defScope st) s.heap.objs.size f cdv))->sp vs H Q E->
   ∃t,PSs (cxOf CX0 P w K mg base N qual (defScope st) f cdv A outer s H E).nox (defBody st) t/\t {nx:=λ _ H'=>Q .non H',rt:=Q} (start N vs) H):FnOk P w K mg base CX0 (k+1) f fd ps sp:=by
 obtain⟨oc,od,kV,doc,pm,an,cdv,ct,osl,rfl,lk,hcd⟩:=F.ex;refine sP lk hcd S len λ A outer s H vs Q E hr hsp=>?_
 obtain⟨t,h,q⟩:=hb cdv A outer s H vs Q E hr hsp;exact⟨t,h.nox,q⟩
def y8 (P:Program)(w:World)(h:Heap)(d:Addr)(a b:Int):Prop:=∃t t':Tok,h.MapOf (intKind P w) d (valueAt [((8:Int),Value.int a t),(16,.int b t')])
def TabK (K:PySem.W.Frag)(d:Addr)(a b:Int):Prop:=(d==sysModules)=false/\∃(t1 t2 t3 t4:Tok) (ep:Nat),K.lookup d=some ⟨.type "dict",none,.dict #[⟨8,.int 8 t1,.int a t2⟩,⟨16,.int 16 t3,.int b t4⟩] ep,#[]⟩
theorem TabK.map {d:Addr}{a b:Int}{h:Heap}(P:Program)(w:World)(T:TabK K d a b)(X:K.In h):y8 P w h d a b:=by
 obtain⟨_,t1,t2,t3,t4,ep,e⟩:=T;refine⟨t2,t4,_,_,ep,X _ _ e,⟨rfl,rfl,rfl⟩,rfl,?_,?_⟩
 ·intro en hen;have hen':en=⟨8,.int 8 t1,.int a t2⟩\/en=⟨16,.int 16 t3,.int b t4⟩:=by simpa using hen
  rcases hen' with rfl|rfl
  ·exact⟨8,intKind_is P w 8 t1,by show(8:Int)=hashInt 8;decide+kernel⟩
  ·exact⟨16,intKind_is P w 16 t3,by show(16:Int)=hashInt 16;decide+kernel⟩
 ·intro k;show findBy Value.isInt _ k=_;unfold findBy valueAt;by_cases h8:k=8
  ·subst h8;simp [Value.isInt]
  ·by_cases h16:k=16
   ·subst h16;simp [Value.isInt]
   ·have e1:¬(8:Int)=k:=λ z=>h8 z.symm
    have e2:¬(16:Int)=k:=λ z=>h16 z.symm
    simp [Value.isInt,e1,e2]
section
variable {X : Cx} {pins : List (Addr × Obj)} {σ : St} {H : Hp} {s : Shared}
end
end L2
namespace QQ
open PySem
section
variable {M : Model} {A : Around} {E : Value -> Shared -> Prop}
variable {nm q nm' q' : Str} {C N D N' : Addr} {bs bm bs' bm' : List Value} {hdct hdct' : Bool} {sn sn' : List Str} {sub sub' : List Value} {ab ab' : Bool} {col col' : Option Bool} {dd dd' : Option Addr} {k0 k1 k2 k3 k5 j0 j1 j2 j3 j5 : Option Value} {newId newId' : String}
end
end QQ
set_option maxHeartbeats 4000000
namespace L2
open PySem PySem.Spec PyProof.Rows QQ
variable {a b : Addr}
theorem ObjOk.there {P:Program}{w:World}{H:Hp}{h:Heap}{o:HO}(x:ObjOk P w H h a o):∃ob,h.get? a=some ob:=by
 cases o with
 |lst xs=>obtain⟨_,_,_,_,e⟩:=x;exact⟨_,e⟩
 |tup xs=>obtain⟨_,_,_,ob,e,_⟩:=x;exact⟨_,e⟩
 |dK kvs=>obtain⟨_,_,_,_,o,_,_,e,_⟩:=x;exact⟨_,e⟩
 |dT kvs=>obtain⟨_,_,_,_,o,_,_,e,_⟩:=x;exact⟨_,e⟩
 |set S n=>obtain⟨o,_,_,_,e,_⟩:=x;exact⟨_,e⟩
 |ins C dx fs=>obtain⟨_,_,_,e,_⟩:=x;exact⟨_,e⟩
 |own y=>exact x
 |xd fs=>obtain⟨_,⟨_,_,_,e,_⟩,_⟩:=x;exact⟨_,e⟩
 |rng lo hi=>obtain⟨_,_,_,e⟩:=x;exact⟨_,e⟩
 |frz ob u=>obtain⟨e,_⟩:=x;exact⟨_,e⟩
 |tbl ps=>exact⟨_,show h.get? a=some _ from x⟩
 |met f y=>exact⟨_,show h.get? a=some _ from x⟩
 |ext φ=>obtain⟨_,e,_⟩:=x;exact e
structure New (X:Cx)(pins:List (Addr×Obj))(H:Hp)(b:Addr):Prop where
 s0:X.s₀.heap.get? b=none
 h:H b=none
 loc:b≠X.env.locals
 cel:∀x c,X.env.cells.lookup x=some c->c≠b
 pin:∀p∈X.pn++pins,p.1≠b
section
variable {X : Cx} {pins : List (Addr × Obj)} {σ : St} {H H' : Hp} {s : Shared}
theorem Inv.new (I:Inv X pins σ H s)(e:s.heap.get? b=none)(n:H' b=none)(hx:b∉X.ex):New X pins H' b:=by
 refine⟨?_,n,λ z=>?_,λ x c ec z=>?_,λ p hp z=>?_⟩
 ·cases q:X.s₀.heap.get? b with
  |none=>rfl
  |some o=>
   obtain⟨o',r⟩:=I.base.there b o q hx;rw [e] at r;cases r
 ·obtain⟨m,⟨o,_,_,ho,_⟩,_⟩:=I.loc;rw [<-z,e] at ho;cases ho
 ·obtain⟨v,o,ho,_⟩:=I.cell x c ec;rw [z,e] at ho;cases ho
 ·have:=(I.pin p hp).1;rw [z,e] at this;cases this
theorem New.ch (n:New X pins H b):(b∈X.ex\/X.s₀.heap.get? b=none)/\b≠X.env.locals/\(∀x c,X.env.cells.lookup x=some c->c≠b)/\∀p∈X.pn++pins,p.1≠b:=⟨.inr n.s0,n.loc,n.cel,n.pin⟩
end
def wM (X:Cx)(e:Addr)(o:Obj):Cx:={X with
 A:=X.A.mark (some (.ref e))
 H₀:=upd X.H₀ e (.frz o (.own e))
 xe:=λ _ _=>False}
section
variable {X : Cx} {pins pn : List (Addr × Obj)} {σ σ0 : St} {H : Hp} {s : Shared} {E : XK} {W : Value -> Shared -> Prop}
end
section
variable {X : Cx} {CX : CXT} {k : Nat} {f C : Addr} {fd : FuncData} {ps : List Str} {sp : Sp} {dvs : List V} {ds : List Value} {E : XK} {x m : Str} {p pos apos : Pos} {e o : Expr} {es : List Expr} {ta : TE} {t : TA} {σ0 : St}
end
section
variable {X : Cx} {pins : List (Addr × Obj)} {σ : St} {H : Hp} {s : Shared}
theorem Inv.hand {e:Addr}{cls:Value}{vs:Array Value}(I:Inv X pins σ H s)(n:New X pins H e)(g:s.heap.get? e=some (exO cls vs))(h2:vs[2]?=some Value.none):
  Inv (wM X e (exO cls vs)) pins σ (upd H e (.frz (exO cls vs) (.own e))) s:=by
 have neF:∀b∈X.fs,b≠e:=λ b hb z=>by
  obtain⟨_,o,ho,_⟩:=I.ok.funs.mem hb;rw [z,n.s0] at ho;cases ho
 have ne0:∀b o,X.s₀.heap.get? b=some o->b≠e:=λ b o q z=>by rw [z,n.s0] at q;cases q
 have neB:∀b o,X.base.get? b=some o->b≠e:=λ b o q=>ne0 b o (I.ok.bs b o q).1
 have h0:X.H₀ e=none\/True:=.inr trivial;refine⟨⟨I.ok.mod,I.ok.kind,I.ok.glob,I.ok.blt,I.ok.above,I.ok.inj,I.ok.has,I.ok.cab,.inr ⟨e,_,vs,rfl,upd_same,rfl,h2⟩,I.ok.frames,I.ok.stk,I.ok.exf,λ b o q=>⟨(I.ok.bs b o q).1,?_⟩,I.ok.bsz,I.ok.noex,I.ok.exfs,I.ok.funs,λ b hb=>?_⟩,
  I.os,I.bare,⟨λ b o q z hb hx=>?_,λ b o q z hb hx=>?_,λ b o q z hx=>?_,I.base.there,λ b xs q=>?_,λ b o u q=>?_,λ b ps q=>?_⟩,I.loc,I.cell,?_,λ x c ec=>?_,λ p hp=>?_,λ a o q=>?_,I.len⟩
 ·show upd X.H₀ e _ b=none;rw [upd_ne (neB b o q)];exact(I.ok.bs b o q).2
 ·show upd X.H₀ e _ b=none;rw [upd_ne (neF b hb)];exact I.ok.frf b hb
 ·have z':upd X.H₀ e (.frz (exO cls vs) (.own e)) b=none:=z;rw [upd_ne (ne0 b o q)] at z';exact I.base.keep b o q z' hb hx
 ·have z':upd X.H₀ e (.frz (exO cls vs) (.own e)) b=none:=z;rw [upd_ne (ne0 b o q)] at z';exact I.base.slot b o q z' hb hx
 ·have z':upd X.H₀ e (.frz (exO cls vs) (.own e)) b=none:=z;rw [upd_ne (ne0 b o q)] at z' ⊢;exact I.base.free b o q z' hx
 ·have q':upd X.H₀ e (.frz (exO cls vs) (.own e)) b=some (.tup xs):=q;by_cases hb:b=e
  ·rw [hb,upd_same] at q';cases q'
  ·rw [upd_ne hb] at q' ⊢;exact I.base.tups b xs q'
 ·have q':upd X.H₀ e (.frz (exO cls vs) (.own e)) b=some (.frz o u):=q;by_cases hb:b=e
  ·rw [hb] at q' ⊢;rw [upd_same] at q' ⊢;exact q'
  ·rw [upd_ne hb] at q' ⊢;exact I.base.frzs b o u q'
 ·have q':upd X.H₀ e (.frz (exO cls vs) (.own e)) b=some (.tbl ps):=q;by_cases hb:b=e
  ·rw [hb,upd_same] at q';cases q'
  ·rw [upd_ne hb] at q' ⊢;exact I.base.tbls b ps q'
 ·show upd H e _ X.env.locals=none;rw [upd_ne (DN n.loc)];exact I.free
 ·rw [upd_ne (n.cel x c ec)];exact I.freeC x c ec
 ·obtain⟨a1,a2,a3⟩:=I.pin p hp;exact⟨a1,by rw [upd_ne (n.pin p hp)];exact a2,a3⟩
 ·by_cases ha:a=e
  ·subst ha;rw [upd_same] at q;cases q;exact⟨g,_,g⟩
  ·rw [upd_ne ha] at q;have nt:∀b u,H b=some u->b≠e:=λ b u r z=>by rw [z,n.h] at r;cases r
   exact(I.hok a o q).stay (λ b u _ r=>r) (λ b r=>by rw [upd_ne (nt b _ r)];exact r) λ b xs r=>by rw [upd_ne (nt b _ r)];exact r
end
theorem Room.hand {j k:Nat}{A:Around}{v:Option Value}(r:Room k A)(h:j≤k)(h30:j<30):Room j (A.mark v):=
 ⟨λ z=>absurd z (Nat.not_le.mpr h30),by have:=r.dp;show A.depth+_+5<_;lia,by have:=r.un;show A.units+_+200<_;lia⟩
structure ExI (K:PySem.W.Frag)(C:Addr):Prop where
 ga:PySem.W.findIn K (.ref C) "__getattribute__"=some (some (.builtin "BaseException.__getattribute__"))
 gt:PySem.W.findIn K (.ref C) "__getattr__"=some none
 hd:PySem.W.hasDictIn K C=true
 ha:PySem.W.findIn K (.ref C) "__class__"=some (some (.builtin "object.__class__"))
 hn:PySem.W.specialIn K (.builtin "object.__class__") "__get__"=some (some (.builtin "getset_descriptor.__get__"))
 htk:PySem.W.takesIn K (.builtin "object.__class__")=some true
 hm:PySem.W.mroIn K C (.type "object")=some true
 be:PySem.W.mroIn K C (.type "BaseException")=some true
section
variable {X : Cx}
end
theorem lN {K:PySem.W.Frag}{l:Addr}{xs:List V}{n:Nat}{g:TG}{tt:TT}{te:TE}{R:Hp->Prop}{H1:Hp}(Pv:Nat->List V->Hp->Prop)(h0:Pv 0 [] (upd H1 l (.lst [])))(hl:∀i ys H,i≤xs.length->Pv i ys H->SqL K H a xs)
  (hs:∀i x ys σ H,xs[i]?=some x->Pv i ys H->σ.length=n->g x σ H λ σ3 H3=>tt σ3 H3 λ c H5=>if c=true then te σ3 H5 λ y H4=>H4 l=some (.lst ys)/\ys.length<sizeLine/\σ3.length=n/\Pv (i+1) (ys++[y]) (upd H4 l (.lst (ys++[y]))) else σ3.length=n/\Pv (i+1) ys H5)
  (hd:∀ys H,Pv xs.length ys H->R H) (mg:∀x σ H (A B:St->Hp->Prop),(∀σ' H',A σ' H'->B σ' H')->g x σ H A->g x σ H B) (mtt:∀σ H (A B:Bool->Hp->Prop),(∀v H',A v H'->B v H')->tt σ H A->tt σ H B) (mt:∀σ H (A B:VK),(∀v H',A v H'->B v H')->te σ H A->te σ H B):
  ∃W:Nat->Nat->List V->St->Hp->Prop,(∃m,W 0 m [] (List.replicate n none) (upd H1 l (.lst [])))/\∀i m ys σ' H',W i m ys σ' H'->
   ((Itl K a).stop i H'/\R H')\/((Itl K a).go i H'/\∀x H2,(Itl K a).yld i H' x H2->g x σ' H2 λ σ3 H3=>tt σ3 H3 λ c H5=>if c=true then te σ3 H5 λ y H4=>
    H4 l=some (.lst ys)/\ys.length<sizeLine/\∃m',m'<m/\W (i+1) m' (ys++[y]) σ3 (upd H4 l (.lst (ys++[y]))) else∃m',m'<m/\W (i+1) m' ys σ3 H5):=by
 refine⟨λ i m ys σ H=>m=xs.length-i/\i≤xs.length/\σ.length=n/\Pv i ys H,⟨xs.length,by simp,Ap _,AR,h0⟩,?_⟩;rintro i m ys σ H ⟨rfl,hi,hn,p⟩;have q:=hl i ys H hi p;by_cases hlt:i<xs.length
 ·refine .inr ⟨⟨xs,xs[i],q,by simp [hlt]⟩,λ x H' y=>?_⟩;obtain⟨e,y⟩:=y;subst e;refine mg _ _ _ _ _ (λ σ3 H3 z=>mtt _ _ _ _ (λ c H5 z=>?_) z) (hs i x ys σ _ (y xs q) p hn);cases c with
  |true=>
   rw [zP rfl] at z ⊢;exact mt _ _ _ _ (λ y H4 ⟨z1,z2,z3,z4⟩=>⟨z1,z2,xs.length-(i+1),by lia,rfl,hlt,z3,z4⟩) z
  |false=>
   rw [zK zN] at z ⊢;exact⟨xs.length-(i+1),by lia,rfl,hlt,z.1,z.2⟩
 ·have e:i=xs.length:=by lia
  subst e;exact .inl ⟨⟨xs,q,zy _⟩,hd ys H p⟩
end L2
set_option maxHeartbeats 4000000
namespace L2
open PySem
variable {f : Addr} {K : PySem.W.Frag} {qual : Str} {base : Heap} {w : World} {mg : Str->Option Value} {P : Program}
theorem wP {CX:CXT}{name:Str}{params:Arguments}{body:List Stmt}{scope:Scope}{dV kV doc pm cdv ct oc:Value}{an od:Option Addr}
  {osl:Array (Option Value)} {N ps:List Str} {sp:Sp} (lk:K.lookup f=some ⟨oc,od,.func (PySem.W.fnOf name qual params body scope dV kV doc pm an cdv ct),osl⟩) (hcd:PySem.W.codeIn K cdv qual=true) (S:FnScope N ps scope)
  (len:∀vs H Q E,sp vs H Q E->vs.length=ps.length)
  (hbody:∀(A:Around) (outer:List Env) (s:Shared) (H:Hp) (vs:List V) (Q:VK) (E:XK),sp vs H Q E->
   ∃t,PSs (cxOf CX P w K mg base N qual scope f cdv A outer s H E) body t/\t {nx:=λ _ H'=>Q .non H',rt:=Q} (start N vs) H):
  FnOk P w K mg base CX 0 f (PySem.W.fnOf name qual params body scope dV kV doc pm an cdv ct) ps sp:=by
 refine⟨len,λ A outer s H args us vs Q E hr e0 hb r hsp=>?_⟩;have hl:=len _ _ _ _ hsp;have KX:K.In s.heap:=e0.mod.kin.keeps λ b o e=>(e0.bs b o e).1
 have lim:s.heap.NoLimit:=e0.mod.nolimit.keeps λ b o e=>(e0.bs b o e).1
 have hkind:∀y∈ps.zip us,scope.names.lookup y.1=some .local\/(scope.names.lookup y.1=some .cell/\((cellsFrom (s.heap.objs.size+1) scope.names []).lookup y.1).isSome=true):=λ⟨n,v⟩ hy=>by
  rcases S.par n (Da hy).1 with q|q
  ·exact .inl q
  ·exact .inr ⟨q,Dn _ _ _ (.inl q)⟩
 refine codeAny_call_function hr.depth (KX _ _ lk) rfl S.co S.gen rfl (PySem.W.codeRec_of KX hcd) (hb _ _ _ _ ?_);refine wpAny_newFunctionEnv_cells S.kind hkind λ env he s1 x=>?_
 subst he;refine⟨lim.keeps x.toInCall.keep,codeAny_func ?_⟩;obtain⟨t,ht,hq⟩:=hbody A outer s H vs Q E hsp;have I:Inv (cxOf CX P w K mg base N qual scope f cdv A outer s H E) [] (start N vs) H s1:=iU S e0 hl r x;refine AX (ht [] s1 (start N vs) H _ I hq) (λ fl s' hs=>?_) λ e s' hs=>hs
 have fin:∀{σ':St} {H':Hp} {v:V} {u:Value},Inv (cxOf CX P w K mg base N qual scope f cdv A outer s H E) [] σ' H' s'->RelV v u->Q v H'->CE outer P w H s Q u s':=
  λ {σ' H' v u} J rv q=>⟨v,H',J.os,J.bare,J.base,J.hok,rv,q⟩
 cases fl with
 |ret u=>
  obtain⟨v,σ',H',J,rv,q⟩:=hs;exact fin J rv q
 |next=>
  obtain⟨σ',H',J,q⟩:=hs;exact fin (v:=V.non) (u:=Value.none) J rfl q
 |brk=>
  obtain⟨_,_,_,q⟩:=hs;exact False.elim q
 |cont=>
  obtain⟨_,_,_,q⟩:=hs;exact False.elim q
theorem Fun.ok0 {x:Str}{st:Stmt}{fd:FuncData}{N ps:List Str}{sp:Sp}(F:Fun K x qual st f fd)(S:FnScope N ps (defScope st))(len:∀vs H Q E,sp vs H Q E->vs.length=ps.length)
  (hbody:∀(cdv:Value) (A:Around) (outer:List Env) (s:Shared) (H:Hp) (vs:List V) (Q:VK) (E:XK),sp vs H Q E->
   ∃t,PSs (cxOf CX0 P w K mg base N qual (defScope st) f cdv A outer s H E).nox (defBody st) t/\t {nx:=λ _ H'=>Q .non H',rt:=Q} (start N vs) H):FnOk P w K mg base CX0 0 f fd ps sp:=by
 obtain⟨oc,od,kV,doc,pm,an,cdv,ct,osl,rfl,lk,hcd⟩:=F.ex;refine wP lk hcd S len λ A outer s H vs Q E hsp=>?_
 obtain⟨t,h,q⟩:=hbody cdv A outer s H vs Q E hsp;exact⟨t,h.nox,q⟩
end L2
set_option maxHeartbeats 4000000
namespace L2
open PySem PySem.Spec PyProof.Rows QQ
variable {H : Hp} {X : Cx}
theorem seq_g {t u:TS}{D:Ends}{σ:St}(h:∀R:St->Hp->Prop,(∀σ H,u D σ H->R σ H)->t {D with nx:=R} σ H):yD t u D σ H:=h (u D) λ _ _ z=>z
theorem lB {K:PySem.W.Frag}(hK:X.K=K):IxR X (yA K):=by
 subst hK;exact aP
def yj (K:PySem.W.Frag):R2:=λ x y H Q=>∃(p q:Addr) (ns ms:List Int),x=.ref p/\y=.ref q/\SqL K H p (ns.map V.int)/\SqL K H q (ms.map V.int)/\Q (.bl (!decide (ns=ms))) H
theorem jC (hu:X.A.units+64<cLine):OpR X (compareOp .NotEq) (yj X.K):=by
 intro pins s σ H x y v u Q I rx ry h;obtain⟨p,q,ns,ms,rfl,rfl,h1,h2,k⟩:=h;cases rx;cases ry;obtain⟨its,rv,pl,hz⟩:=I.list h1;obtain⟨its2,rv2,pl2,hz2⟩:=I.list h2;exact PySem.W.ne_intsK pl.isList (cx rv) pl2.isList (cx rv2) hu ⟨.bl _,H,I,rfl,k⟩
theorem tE (xs:List V)(k:Nat):cutV xs none (some ((k:Nat):Int))=xs.take k:=by
 unfold cutV;rw [HT.sIx_none,HT.sIx_nat,BH,Ca];by_cases h:k≤xs.length
 ·rw [BS h]
 ·rw [Ck (by lia),An,Ad (by lia)]
theorem iz (xs:List V)(k:Nat):cutV xs (some ((k:Nat):Int)) none=xs.drop k:=by
 unfold cutV;rw [HT.sIx_none,HT.sIx_nat];by_cases h:k≤xs.length
 ·rw [BS h,<-zR,An]
 ·rw [Ck (by lia),Dx,List.drop_of_length_le (by lia),List.take_nil]
theorem cy {a x:Str}{b c:Addr}(h:List.lookup x [(a,b)]=some c):x=a/\c=b:=by
 rw [List.lookup_cons] at h;cases hx:x==a with
 |true=>rw [hx] at h;exact⟨eq_of_beq hx,(zS h).symm⟩
 |false=>rw [hx] at h;cases h
theorem none_of {H':Hp}(s:Same H H'){q:Addr}(h:H' q=none):H q=none:=by
 cases e:H q with
 |none=>rfl
 |some o=>rw [s _ _ e] at h;cases h
theorem ai {p:Addr}{o:HO}(h:H p=none):Same H (upd H p o):=λ b u e=>by
 rw [upd_ne (ag e h)];exact e
section
variable {X : Cx}
theorem tD:∀x:V,flatV x=true->eqV x x=true:=by
 intro x h;cases x<;>simp [flatV,eqV] at h ⊢
theorem tK:OpR X (compareOp .Is) (λ x y H Q=>∃c d,x=.bl c/\y=.bl d/\Q (.bl (c==d)) H):=by
 intro pins s σ H x y v u Q I rx ry h;obtain⟨c,d,rfl,rfl,q⟩:=h;cases rx;cases ry;exact PyProof.Rows.is_bool ⟨.bl (c==d),H,I,rfl,q⟩
theorem jM {body:List Stmt}{h₀:ExceptHandler}{hs:List ExceptHandler}{tb:TS}{pos:Pos}(hb:PSs X.nox body tb):PS X (.Try body (h₀::hs) [] [] pos) tb:=by
 intro pins s σ H D I h;refine wpAny_Try_except (AX (hb pins s σ H D (I.wish _) h) (λ f s1 q=>?_) λ e s1 q=>q.elim);have q':SP X pins D f s1:=SP.unwish q;cases f with
 |next=>exact Df q'
 |brk=>exact q'
 |cont=>exact q'
 |ret u=>exact q'
end
end L2
set_option maxHeartbeats 4000000
namespace QQ
open PySem PyProof.Rows
section
variable {prog : Program} {w : World} {A : Around} {E : Value -> Shared -> Prop} {s : Shared}
theorem jL {it l:Addr}{i:Nat}{items}{Q:Value->Shared->Prop}(hq:Hq A s.heap)
  (hit:s.heap.IsListIter it l i) (hl:s.heap.IsList l items) (hx:items[i]?=none)
  (hE:∀h' e,Heap.ExtBut it s.heap h'->(∃o,h'.get? e=some o/\o.cls=.type "StopIteration")->E (.ref e) {s with heap:=h'}):
  wpAny (model prog w) A (Builtin.SmallTypes.nextOf (.ref it)) Q E s:=by
 obtain⟨o,ho,hc,hd⟩:=id hit;obtain⟨ol,hol,_,nl,hdl⟩:=hl;have hn:=mG hq ho hd (by simp);unfold Builtin.SmallTypes.nextOf;refine zx (BM (name:=Str.ofString "__next__") hit.typeIs Dj (CQ Dj hit.typeIs entry_listiter_next ?_ (args_listiter_next _)));show wpAny _ _ (field (.ref it) 0>>= _) _ _ s;refine zx (B1 ho hd (x:=.ref l) rfl ?_);show wpAny _ _ (if(Value.ref l==Value.none)=true then _ else _) _ _ s;rw [zK (show¬((Value.ref l==Value.none)=true) from zN)];show wpAny _ _ (field (.ref it) 1>>= _) _ _ s;refine zx (B1 ho hd (x:=.int i 0) rfl ?_);show wpAny _ _ (seqItems? (.ref l)>>= _) _ _ s;refine zx (CJ hol hdl ?_);simp only [zV,hx];refine zx (Cq (zx (wpAny_setField ho hd (by simp) ?_)));have sb1:=CY (h:=s.heap) it (Obj.mapFields (·.setIfInBounds 0 Value.none));refine cY (A:=A.in1) (hq.keep λ a ea o' e=>sb1.extBut a o' (λ z=>hn (by rw [ea,z])) e) λ h' e k he=>?_
 exact hE _ e (λ b ob hb e1=>k b ob (sb1.extBut b ob hb e1)) he
end
end QQ
namespace L2
open PySem PySem.Spec PyProof.Rows QQ
theorem sD {X:Cx}{pins:List (Addr×Obj)}{σ:St}{H:Hp}{s:Shared}(I:Inv X pins σ H s){a b:Addr}{ns:List Int}(ha:SqL X.K H a (ns.map V.int))(hb:SqL X.K H b (ns.map V.int)){A:Around}(hu:A.units<cLine):SeqAt.EqAt A s (.ref a) (.ref b) true:=by
 by_cases e:a=b
 ·subst e;exact .same _
 ·obtain⟨its,rv,pl,hz⟩:=I.list ha;obtain⟨its2,rv2,pl2,hz2⟩:=I.list hb;have l1:=rv.length;have l2:=rv2.length;rw [zr] at l1 l2;refine .of_refs e ?_;have R:=SeqAt.RcAt.lists (A:=A) (e:=λ _=>true) pl.isList pl2.isList (by rw [zE,zE];lia) hu (λ j h1 h2=>?_)
  ·have e2:(List.range its.toArray.size).all (λ _=>true)=true:=by simp
   rw [e2] at R;exact R
  ·have j1:j<ns.length:=by simp at h1;lia
   obtain⟨u1,e1,r1⟩:=rv.get (i:=j) (x:=.int ns[j]) (by simp [j1]);obtain⟨u2,e2,r2⟩:=rv2.get (i:=j) (x:=.int ns[j]) (by simp [j1]);have g1:its.toArray[j]=u1:=by
    obtain⟨_,z⟩:=zz.mp e1;simpa using z
   have g2:its2.toArray[j]=u2:=by
    obtain⟨_,z⟩:=zz.mp e2;simpa using z
   have hh:eqV (V.int ns[j]) (V.int ns[j])=true:=tD _ rfl;rw [g1,g2,<-hh];exact sI r1 r2 rfl rfl
end L2
namespace QQ
open PySem PyProof.Rows
section
variable {prog : Program} {w : World} {A : Around} {E : Value -> Shared -> Prop} {s : Shared}
end
end QQ
namespace L2
open PySem PySem.Spec PyProof.Rows
section
variable {X : Cx} {tg : Expr}
def si (lo c:Int)(n:Nat):It:=⟨λ i _=>i<n,λ i H x H'=>H'=H/\x=.int (lo+i*c),λ i _=>n≤i⟩
theorem lM {P:Program}{w:World}{K:PySem.W.Frag}(it:Addr)(lo c:Int)(n:Nat):Turn P w K tg (si lo c n) [it] it (λ i h=>IsRangeIter h it (lo+(i:Nat)*c) ((n:Int)-(i:Nat)) c) where
 mem:=by simp
 obj:=λ i h st b hb=>by
  have e:b=it:=by simpa using hb
  subst e;exact⟨_,st,λ v z=>by
   have z':Data.fields _=Data.cell v:=z;cases z'⟩
 keep:=λ i h h' st k=>k it (by simp) _ st
 item:=by
  intro X hP hw hK hc i pins s σ H E I hf st hg;subst hP hw hK;obtain⟨f0,f1,f2,f3,f4,f5⟩:=hf it (by simp);refine wpAny_pyNext_range_item st (by have:i<n:=hg;lia) λ h' st1 sb=>?_
  have st':IsRangeIter h' it (lo+((i+1:Nat):Int)*c) ((n:Int)-((i+1:Nat):Int)) c:=by
   have e1:lo+((i+1:Nat):Int)*c=lo+(i:Int)*c+c:=by rw [show((i+1:Nat):Int)=(i:Int)+1 from rfl,Int.add_mul];lia
   have e2:(n:Int)-((i+1:Nat):Int)=(n:Int)-(i:Int)-1:=by lia
   rw [e1,e2];exact st1
  have I1:Inv X pins σ H {s with heap:=h',toks:=s.toks+1}:=I.turned (λ b o hb e=>sb.extBut b o hb e) f0 f1 f3 f4 f5;exact⟨_,rfl,qJ (s:={s with heap:=h',toks:=s.toks+1}) (n:="range_iterator") st' rfl rfl (by decide) ⟨.int (lo+i*c),H,I1,⟨s.toks,rfl⟩,⟨rfl,rfl⟩,st',λ b hb=>(hf b hb).1⟩⟩
 done:=by
  intro X hP hw hK hc i pins s σ H E I hf st hg;subst hP hw hK;obtain⟨f0,f1,f2,f3,f4,f5⟩:=hf it (by simp);exact QQ.range_end_q I.hq st (by have:n≤i:=hg;lia) λ h' eb=>⟨rfl,I.turned (t':=s.toks) (λ b o hb e=>eb b o hb e) f0 f1 f3 f4 f5⟩
 self:=λ _ _ _ _ _ st h=>wpAny_pyIter_rangeiter st h
def xS (ta:TA):TI:=λ σ H R=>ta σ H λ vs H1=>∃(i j c:Int) (n:Nat),vs=[.int i,.int j,.int c]/\c≠0/\Builtin.Range.small i j c=true/\Builtin.Range.rangeSize i j c=(n:Int)/\Builtin.divisionGoesByPylong (j-i) c=false/\R (si i c n) H1
theorem pz {a b c:Expr}{ta:TA}{p pos:Pos}(hg:Gl X "range")(hm:X.mg "range"=none)(ha:PA X [a,b,c] ta)(hs:starEach [a,b,c] X.env=[(false,eval a X.env),(false,eval b X.env),(false,eval c X.env)]:=by rfl)(hs2:starEach [b,c] X.env=[(false,eval b X.env),(false,eval c X.env)]:=by rfl):
  PI X tg (.Call (.Name "range" p) [a,b,c] [] pos) (xS ta):=by
 intro pins s σ H R I h;refine Call_ (ld_blt I hg hm boot_range (Bz (thn (ha pos pins s σ H _ I h) λ us s1 z9=>?_) (by rw [hs,hs2]) (by rw [hs2];rfl)));obtain⟨vs,H1,I1,r1,q1⟩:=z9;obtain⟨i,j,c,n,e,h0,h1,h2,h3,q⟩:=q1;subst e;cases r1 with
 |cons r rr=>
  cases rr with
  |cons r' rr=>
   cases rr with
   |cons r'' rr=>
    cases rr;obtain⟨t,rfl⟩:=r;obtain⟨t',rfl⟩:=r';obtain⟨t'',rfl⟩:=r'';refine call_range_3 h0 ?_ (.inl h3);refine wpAny_pyIter_range (IsRange.new ..) h1 ?_;have I2:Inv X pins σ H1 {s1 with heap:=s1.heap.push {cls:=.type "range",data:=.fields #[.int i t,.int j t',.int c t'']},toks:=s1.toks}:=I1.kept λ b o e=>zB _ e
    refine⟨(s1.heap.push {cls:=.type "range",data:=.fields #[.int i t,.int j t',.int c t'']}).objs.size,[(s1.heap.push {cls:=.type "range",data:=.fields #[.int i t,.int j t',.int c t'']}).objs.size],_,_,H1,rfl,
     I2.kept (t':=s1.toks) λ b o e=>zB _ e,lM _ i c n,?_,λ b hb=>?_,q⟩
    ·have e1:i+((0:Nat):Int)*c=i:=by simp
     have e2:((n:Nat):Int)-((0:Nat):Int)=Builtin.Range.rangeSize i j c:=by rw [h2];lia
     show IsRangeIter _ _ (i+((0:Nat):Int)*c) (((n:Nat):Int)-((0:Nat):Int)) c;rw [e1,e2];exact Ak _ rfl
    ·have e:b=(s1.heap.push {cls:=.type "range",data:=.fields #[.int i t,.int j t',.int c t'']}).objs.size:=by simpa using hb
     subst e;exact I2.fpOk (zy _) (I2.hok.fresh (zy _))
theorem m6 {lo c:Int}{n:Nat}{g:TG}{tb:TS}{D:Ends}{σ:St}{H:Hp}(Pv:Nat->St->Hp->Prop)(h0:Pv 0 σ H)
  (hs:∀i σ H,i<n->Pv i σ H->g (.int (lo+i*c)) σ H λ σ2 H2=>tb {D with nx:=Pv (i+1),ct:=Pv (i+1),bk:=D.nx} σ2 H2) (hd:∀σ H,Pv n σ H->D.nx σ H):
  ∃W:Nat->Nat->St->Hp->Prop,(∃m,W 0 m σ H)/\∀i m σ H,W i m σ H->
   ((si lo c n).stop i H/\D.nx σ H)\/((si lo c n).go i H/\∃N:St->Hp->Prop,(∀σ' H',N σ' H'->∃m',m'<m/\W (i+1) m' σ' H')/\∀x H',(si lo c n).yld i H x H'->g x σ H' λ σ2 H2=>tb {D with nx:=N,ct:=N,bk:=D.nx} σ2 H2):=by
 refine⟨λ i m σ H=>m=n-i/\i≤n/\Pv i σ H,⟨n,by simp,Ap _,h0⟩,?_⟩;rintro i m σ H ⟨rfl,hi,p⟩;by_cases hlt:i<n
 ·refine .inr ⟨hlt,Pv (i+1),λ σ' H' p'=>⟨n-(i+1),by lia,rfl,hlt,p'⟩,λ x H' y=>?_⟩;obtain⟨e,y⟩:=y;subst e y;exact hs i σ _ hlt p
 ·have e:i=n:=by lia
  subst e;exact .inl ⟨zy _,hd σ H p⟩
end
end L2
set_option maxHeartbeats 4000000
namespace L2
open PySem PySem.Spec PyProof.Rows QQ
section
variable {X : Cx} {pos : Pos}
end
section
variable {X : Cx} {e e1 : Expr} {te t1 : TE} {pos p2 : Pos}
end
section
variable {X : Cx} {a b : Expr} {rest : List Expr} {ta tb : TE} {pos : Pos}
end
structure MkB (K:PySem.W.Frag)(C:Addr):Prop where
 makes:PySem.W.makesIn K C=true
 init:PySem.W.findIn K (.ref C) "__init__"=some (some (.builtin "object.__init__"))
 kp:PySem.W.keepIn K (.ref C)=true
def wW (C:Addr):TE:=λ _ H Q=>∀x dx,H x=none->H dx=none->dx≠x->Q (.ref x) (upd (upd H dx (.own x)) x (.ins C dx []))
theorem eV {X:Cx}{C:Addr}{x:Str}{p pos:Pos}(M:MkB X.K C)(hg:Gl X x)(hm:X.mg x=some (.ref C))(hdb:(x==("__debug__":Str))=false:=by decide):PE X (.Call (.Name x p) [] [] pos) (wW C):=by
 intro pins s σ H Q I h;refine Bm (ld_glob I hg hm ?_ hdb);refine CV I.kIn M.kp ?_;have I2:=Inv.made (C:=C) I;have hq:=h (s.heap.objs.size+1) s.heap.objs.size (I.hok.fresh (CT _)) (I.hok.fresh (zy _)) (AE (CP _));refine wpAny_call (qr I.kIn M.makes M.init (λ self=>PySem.W.Looks.of_pure (PySem.W.oi_bind self)) ?_);have Y:=D8 (M:=model X.prog X.w) I.kIn M.makes;have e2:((s.heap.push PySem.W.emptyDict).push (PySem.W.instObj C s.heap.objs.size)).get? (s.heap.objs.size+1)=some (PySem.W.instObj C s.heap.objs.size):=by
  have:=Ak (s.heap.push PySem.W.emptyDict) (o:=PySem.W.instObj C s.heap.objs.size) rfl
  rwa [CI] at this
 have t1:PySem.W.Looks (model X.prog X.w) ((s.heap.push PySem.W.emptyDict).push (PySem.W.instObj C s.heap.objs.size)) (typeOf (.ref (s.heap.objs.size+1))) (.ref C):=(PySem.W.Looks.ld e2).andThen .now;have t2:PySem.W.Looks (model X.prog X.w) ((s.heap.push PySem.W.emptyDict).push (PySem.W.instObj C s.heap.objs.size)) (isInstance (.ref (s.heap.objs.size+1)) (.type "object")) true:=t1.andThen (Y.top.keeps λ b o e=>zB _ (zB _ e));refine codeAny_call_builtin PySem.W.oi_plain PySem.W.entry_oi (@PySem.W.check_slot (model X.prog X.w) _ _ _ "object.__init__" "object" "__init__" (.ref (s.heap.objs.size+1)) [] [] _ PySem.W.oi_kind PySem.W.oi_split t2 (PySem.W.oi_args (.ref (s.heap.objs.size+1))) ?_);rw [PySem.W.oi_run];exact Ai (And.intro rfl ⟨.ref (s.heap.objs.size+1),_,I2,rfl,hq⟩)
section
variable {X : Cx}
theorem cU:CallR X (.builtin "isinstance") (λ xs H Q=>∃(x:V) (D:Addr) (t:Value) (b:Bool),xs=[x,.ref D]/\TyOf X.K H x t/\PySem.W.kitOne X.K t (.ref D)=some b/\Q (.bl b) H):=by
 intro pins s σ H xs us Q I r h;obtain⟨x,D,t,b,rfl,ty,e,q⟩:=h;obtain⟨u,v,rfl,ru,rv⟩:=nG r;cases rv;exact iO I ru ty e λ tk=>⟨.bl b,H,I.tok tk,rfl,q⟩
def wz (K:PySem.W.Frag)(H:Hp)(p q:Addr):Prop:=∃xs ys:List V,SqL K H p xs/\SqL K H q ys/\xs.length=ys.length/\∀(i:Nat) (x y:V),xs[i]?=some x->ys[i]?=some y->(x=.non/\y=.non)\/∃(a b:Addr) (ns:List Int),x=.ref a/\y=.ref b/\SqL K H a (ns.map V.int)/\SqL K H b (ns.map V.int)
end
end L2
set_option maxHeartbeats 2000000
namespace L2
open PySem PyProof.Rows
theorem iL (a f:Addr):Builtin.«list.sort» ⟨[.ref a],[(Str.ofString "key",.ref f)]⟩=(do
    let items<-Builtin.List.listItems (.ref a)
    Builtin.List.listUpdate (.ref a) λ _=>#[]
    let before<-seqEpoch a
    let held<-newTuple items.toList
    let keyStore<-newList []
    holding [held,keyStore] do
      rule "list.sort.key"
      for x in items do
        match<-(call (.ref f) [x]).attempt with
        | .ok k=>Builtin.List.listUpdate keyStore (·.push k)
        | .error e=>
          rule "list.sort.key-raised"
          let made<-Builtin.List.listItems keyStore
          Builtin.List.listUpdate keyStore λ _=>#[]
          letGo made.toList.reverse [e]
          Builtin.List.listUpdate (.ref a) λ _=>items;throw e
      let keys<-Builtin.List.listItems keyStore
      let kind<-if items.size<2 then pure general' else keyKind' keys
      let((),s)<-(if items.size<2 then pure () else sortRuns').run (SortSt.mk' kind (keys.zip items) #[] 7 none)
      let sorted:=(arrOf s).map (·.2)
      Builtin.List.listUpdate keyStore λ _=>#[]
      letGo ((arrOf s).map (·.1)).toList (failedOf s).toList
      let touched:=(<-seqEpoch a) !=before
      Builtin.List.listUpdate (.ref a) λ _=>sorted
      if let some e:=failedOf s then rule "list.sort.comparison-raised";throw e
      if touched then rule "list.sort.modified";raiseError "ValueError" "list modified during sort"
      ret .none):=by
  first|rfl|(fail "not by rfl")
theorem eA (a v:Value):argsOk "list.sort" ⟨[a],[(Str.ofString "key",v)]⟩:=by unfold argsOk;kernel_rfl
theorem args_sorted_key (a v:Value):argsOk "sorted" ⟨[a],[(Str.ofString "key",v)]⟩:=by unfold argsOk;kernel_rfl
theorem iQ:∀{vs:List Value} {ns:List Int} {n:Int} {t:Tok},IntsAre vs ns->IntsAre (vs++[.int n t]) (ns++[n])
 |_,_,n,t,.nil=>.cons n t .nil
 |_,_,_,_,.cons m u h=>.cons m u (iQ h)
theorem dh {c:String}{xs:Array Value}{n:Nat}:∀v,(seqObj c xs n).data≠ .cell v:=λ v h=>by cases h
theorem Inv.turn {X:Cx}{pins:List (Addr×Obj)}{σ:St}{H:Hp}{s:Shared}{a:Addr}{g:Obj->Obj}(I:Inv X pins σ H s)(fa:FpOk X pins H a):Inv X pins σ H {s with heap:=s.heap.update a g}:=
 I.turned (t':=s.toks) (λ b o hb e=>by rw [Bu _ _ _ _ hb];exact e) fa.1 fa.2.1 fa.2.2.2.1 fa.2.2.2.2.1 fa.2.2.2.2.2
end L2
set_option maxHeartbeats 2000000
namespace L2
open PySem PyProof.Rows QQ
theorem Inv.adopt {X:Cx}{pins:List (Addr×Obj)}{σ:St}{H:Hp}{s:Shared}{a:Addr}{xs:List V}{its:List Value}{n:Nat}(I:Inv X pins σ H s)(fa:FpOk X pins H a)(rv:Vals xs its)(hz:xs.length≤sizeLine)
  (ho:s.heap.get? a=some (seqObj "list" its.toArray n)):Inv X pins σ (upd H a (.lst xs)) s:=by
 have hn:=fa.1;refine I.step (h':=s.heap) (g':=s.gens) (d':=s.drawn) (t':=s.toks) (ch:=[a]) (λ b hb=>?_) (λ b o _ _ _ e _=>e) (λ b o _ _ _ e _=>⟨o.slots,e⟩) (λ b o hb e n=>?_)
  (λ b o _ e=>⟨o,e⟩) (λ b ys e=>?_) (λ b o u e=>?_) (λ b ps e=>⟨#[],?_⟩) (λ m hm=>hm) (λ b u e=>?_) I.bare
 ·rw [zX.mp hb];exact⟨fa.2.2.2.1,fa.2.1,fa.2.2.2.2.1,fa.2.2.2.2.2⟩
 ·rw [upd_ne (λ z=>hb (by simp [z]))];exact n
 ·rw [upd_ne (ag e hn)];exact e
 ·rw [upd_ne (ag e hn)];exact e
 ·rw [upd_ne (ag e hn),e];simp
 ·by_cases hb:b=a
  ·subst hb;rw [upd_same] at e;cases e;exact⟨hz,its,n,rv,ho⟩
  ·rw [upd_ne hb] at e;exact(I.hok b u e).stay (λ c v _ q=>q) (λ c q=>by rw [upd_ne (ag q hn)];exact q) λ c xs q=>by rw [upd_ne (ag q hn)];exact q
inductive PR:List (Value×Value)->List (Int×V)->Prop
 |nil:PR [] []
 |cons {k v:Value} {n:Int} {x:V} {l:List (Value×Value)} {m:List (Int×V)}:(∃t,k=.int n t)->RelV x v->PR l m->PR ((k,v)::l) ((n,x)::m)
theorem rT:∀{kv its:List Value} {ks:List Int} {xs:List V},IntsAre kv ks->Vals xs its->PR (kv.zip its) (ks.zip xs)
 |_,_,_,_,.nil,_=>by simp;exact .nil
 |_,_,_,_,.cons n t h,.nil=>by simp;exact .nil
 |_,_,_,_,.cons n t h,.cons r rs=>.cons ⟨t,rfl⟩ r (rT h rs)
theorem nZ:∀{l:List (Value×Value)} {m:List (Int×V)},PR l m->Vals (m.map (·.2)) (l.map (·.2))
 |_,_,.nil=>.nil
 |_,_,.cons _ r h=>.cons r (nZ h)
theorem rG:∀{l:List (Value×Value)} {m:List (Int×V)},PR l m->l.length=m.length
 |_,_,.nil=>rfl
 |_,_,.cons _ r h=>by simp [rG h]
theorem we:∀{l:List (Value×Value)} {m:List (Int×V)},PR l m->∀{i:Nat} {q:Int×V},m[i]?=some q->∃t v,l[i]?=some (.int q.1 t,v)
 |_,_,.cons ⟨t,e⟩ r h,0,q,hq=>by
  simp at hq;subst hq;subst e;exact⟨t,_,rfl⟩
 |_,_,.cons _ r h,i+1,q,hq=>by simp at hq;simpa using we h hq
section
variable {X : Cx} {k : Nat} {f : Addr} {fd : FuncData} {x : Str} {sp : Sp} {e : Expr} {te : TE} {fe : Expr} {p kp pos : Pos} {y : Str}
end
section
variable {X : Cx}
theorem jy {ys:Array (Int×Tok)}{ns:List Int}(e1:ns=ys.toList.map (·.1)){i:Nat}(h:i<ns.length):numAt ys i=ns[i]:=by
 subst e1;rw [zr,AS] at h;simp [numAt,h]
theorem qv (hc:X.A.handled=none):CallR X (.builtin "max") (λ xs H Q=>∃(p:Addr) (ns:List Int),xs=[.ref p]/\SqL X.K H p (ns.map V.int)/\0<ns.length/\∀n∈ns,(∀m∈ns,m≤n)->Q (.int n) H):=by
 intro pins s σ H xs us Q I r h;obtain⟨p,ns,rfl,hq,hne,q⟩:=h;obtain⟨u,rfl,rx⟩:=gb r;cases rx;obtain⟨its,rv,pl,hz⟩:=I.list hq;have hi:=cx rv;obtain⟨ys,hx⟩:=hi.allInts.items;have hl:s.heap.IsList p (intItems ys):=hx▸pl.isList;have e1:ns=ys.toList.map (·.1):=by
  rw [<-nums_intItems,<-hx];exact(show numsOf its.toArray.toList=ns from hi.numsOf).symm
 have hsz:ns.length=ys.size:=by rw [e1];simp
 refine max_intList hc hl (by lia) λ v h' tk hv hk=>?_
 obtain⟨t,rfl⟩:=intItems_at hv;obtain⟨h1,h2⟩:=argBest_gt (numAt ys) (ys.size-1);generalize argBest (λ i j=>decide (numAt ys i>numAt ys j)) (ys.size-1)=b at*;have hb:b<ns.length:=by lia
 have eb:=jy e1 hb;refine⟨.int ns[b],H,I.kept (t':=tk) hk,⟨t,by rw [eb]⟩,q _ (Ay hb) λ m hm=>?_⟩;obtain⟨j,hj,rfl⟩:=DH hm;have:=h2 j (by lia);rw [jy e1 hj,eb] at this;exact this
theorem p4 (hc:X.A.handled=none):CallR X (.builtin "min") (λ xs H Q=>∃(p:Addr) (ns:List Int),xs=[.ref p]/\SqL X.K H p (ns.map V.int)/\0<ns.length/\∀n∈ns,(∀m∈ns,n≤m)->Q (.int n) H):=by
 intro pins s σ H xs us Q I r h;obtain⟨p,ns,rfl,hq,hne,q⟩:=h;obtain⟨u,rfl,rx⟩:=gb r;cases rx;obtain⟨its,rv,pl,hz⟩:=I.list hq;have hi:=cx rv;obtain⟨ys,hx⟩:=hi.allInts.items;have hl:s.heap.IsList p (intItems ys):=hx▸pl.isList;have e1:ns=ys.toList.map (·.1):=by
  rw [<-nums_intItems,<-hx];exact(show numsOf its.toArray.toList=ns from hi.numsOf).symm
 have hsz:ns.length=ys.size:=by rw [e1];simp
 refine min_intList hc hl (by lia) λ v h' tk hv hk=>?_
 obtain⟨t,rfl⟩:=intItems_at hv;obtain⟨h1,h2⟩:=argBest_lt (numAt ys) (ys.size-1);generalize argBest (λ i j=>decide (numAt ys i<numAt ys j)) (ys.size-1)=b at*;have hb:b<ns.length:=by lia
 have eb:=jy e1 hb;refine⟨.int ns[b],H,I.kept (t':=tk) hk,⟨t,by rw [eb]⟩,q _ (Ay hb) λ m hm=>?_⟩;obtain⟨j,hj,rfl⟩:=DH hm;have:=h2 j (by lia);rw [jy e1 hj,eb] at this;exact this
end
end L2
set_option maxHeartbeats 4000000
namespace L2
open PySem PySem.Spec PyProof.Rows QQ
section
variable {X : Cx}
def xq (K:PySem.W.Frag):V->List V->Hp->VK->Prop:=λ x vs H Q=>∃(l:Addr) (ns:List Int) (k:Int) (j:Nat),x=.ref l/\vs=[.int k]/\H l=some (.lst (ns.map V.int))/\ns[j]?=some k/\(∀i<j,ns[i]?≠some k)/\Q (.int ((j:Nat):Int)) H
theorem tp:MtR X "list.index" (xq X.K):=by
 intro pins s σ H x vs v us Q I rx rv h;obtain⟨l,ns,k,j,rfl,rfl,hH,hj,hno,q⟩:=h;cases rx;obtain⟨u,rfl,ru⟩:=gb rv;obtain⟨t,rfl⟩:=ru;obtain⟨z,its,n,r,hl,e⟩:=I.lstM hH;rw [zr] at hl z;have hjl:j<ns.length:=(zz.mp hj).1;have hjs:((j:Nat):Int)<2^63-1:=by
  have hsl:sizeLine≤16777216:=by decide
  lia
 have key:∀i (hi:i<its.length),∃t',its[i]=.int (ns[i]'(by lia)) t':=λ i hi=>by
  have k1:i<ns.length:=by lia
  obtain⟨u1,e1,r1⟩:=r.get (i:=i) (x:=.int ns[i]) (by simp [k1]);obtain⟨t',rfl⟩:=r1;obtain⟨_,z⟩:=zz.mp e1;exact⟨t',z⟩
 have hf:(ns.map V.int).all flatV=true:=by simp [flatV]
 have ejv:ns[j]=k:=by rw [zu hjl] at hj;exact zS hj
 have g:=SeqAt.list_indexAt l its.toArray n none #[] (.int k t) (eqU (.int k)) j (by rw [zE];lia) hjs (by
   obtain⟨t',e1⟩:=key j (by lia);have e2:its.toArray[j]'(by rw [zE];lia)=its[j]'(by lia):=by simp
   rw [e2,e1,ejv];show(k==k)=true;simp) (λ m hm hmj=>by
   obtain⟨t',e1⟩:=key m (by lia);have e2:its.toArray[m]=its[m]'(by lia):=by simp
   rw [e2,e1];show(ns[m]'(by lia)==k)=false;have h1:=hno m hmj;rw [zu (by lia)] at h1;simpa using h1)
 refine call_meets F.slot_list_index ⟨_,e,rfl⟩ F.entry_list_index (F.args_list_index_2 (.ref l) (.int k t)) g ⟨e,λ y hy=>ko (x:=.int k) ⟨t,rfl⟩ rfl r hf y (by simpa using hy),?_⟩;exact⟨.int ((j:Nat):Int),H,I.tok _,⟨_,rfl⟩,q⟩
end
end L2
namespace W16
variable {b m p : Nat} {S : List Nat}
inductive Pc where
 |sg (s:Nat)
 |cp (b z:Nat)
deriving DecidableEq
def Pc.size:Pc->Nat
 | .sg _=>1
 | .cp _ z=>z
def al (S:List Nat)(p b:Nat):Nat->Nat
 |0=>0
 |m+1=>if al S p b m=m/\S[p+m]?=S[p+m-b]? then m+1 else al S p b m
theorem oV (S:List Nat)(p b:Nat):∀m,al S p b m≤m
 |0=>zy _
 |m+1=>by
  unfold al;have:=oV S p b m
  split<;>lia
theorem al_all:∀{m:Nat},∀i<al S p b m,S[p+i]?=S[p+i-b]?
 |0,i,h=>by simp [al] at h
 |m+1,i,h=>by
  unfold al at h
  split at h
  ·rename_i c
   by_cases e:i=m
   ·subst e;exact c.2
   ·exact al_all (m:=m) i (by rw [c.1];lia)
  ·exact al_all (m:=m) i h
theorem tO:∀{m:Nat},(∀i<m,S[p+i]?=S[p+i-b]?)->al S p b m=m
 |0,_=>rfl
 |m+1,h=>by
  unfold al;rw [zP ⟨tO λ i hi=>h i (by lia),h m (by lia)⟩]
theorem qV {r:Nat}(h:∀i<r,S[p+i]?=S[p+i-b]?)(hn:S[p+r]?≠S[p+r-b]?):∀m,r≤m->al S p b m=r
 |0,hm=>by
  have:r=0:=by lia
  subst this;rfl
 |m+1,hm=>by
  by_cases e:r=m+1
  ·subst e;exact tO h
  ·have ih:=qV h hn m (by lia);unfold al;rw [ih]
   split
   ·rename_i c
    rw [<-c.1] at c;exact absurd c.2 hn
   ·rfl
theorem vv (h:al S p b m<m):S[p+al S p b m]?≠S[p+al S p b m-b]?:=by
 induction m with
 |zero=>simp [al] at h
 |succ m ih=>
  by_cases c:al S p b m=m/\S[p+m]?=S[p+m-b]?
  ·have e:al S p b (m+1)=m+1:=by unfold al;rw [zP c]
   lia
  ·have e:al S p b (m+1)=al S p b m:=by rw [al,zK c]
   rw [e];by_cases q:al S p b m=m
   ·rw [q];exact λ z=>c ⟨q,z⟩
   ·exact ih (by have:=oV S p b m;lia)
def lc (S:List Nat)(p m:Nat):Nat->Nat×Nat
 |0=>(0,0)
 |n+1=>if(lc S p m n).2<al S p (n+1) m then(n+1,al S p (n+1) m) else lc S p m n
theorem oE (S:List Nat)(p m:Nat):∀n,(lc S p m n).2≤m
 |0=>Ap _
 |n+1=>by
  unfold lc
  split
  ·exact oV ..
  ·exact oE S p m n
theorem og {k:Nat}(h:(lc S p m k).2=m):∀n,k≤n->lc S p m n=lc S p m k
 |0,hk=>by
  have:k=0:=by lia
  subst this;rfl
 |n+1,hk=>by
  by_cases e:k=n+1
  ·subst e;rfl
  ·have ih:=og h n (by lia);rw [lc,ih,h,zK];have:=oV S p (n+1) m;lia
theorem vf {n:Nat}(h:S[p+(lc S p m n).2]?≠S[p+(lc S p m n).2-(n+1)]?):lc S p m (n+1)=lc S p m n:=by
 rw [lc,zK];intro c;exact h (al_all _ c)
theorem pd:∀{n:Nat},0<(lc S p m n).2->1≤(lc S p m n).1/\(lc S p m n).1≤n/\(lc S p m n).2=al S p (lc S p m n).1 m
 |0,h=>by simp [lc] at h
 |n+1,h=>by
  unfold lc at h ⊢
  split
  ·exact⟨Nat.succ_le_succ (Ap _),zy _,rfl⟩
  ·rename_i c
   rw [zK c] at h;obtain⟨a,b,e⟩:=pd h;exact⟨a,by lia,e⟩
def most (S:List Nat)(p:Nat):Nat:=min 18 (S.length-p)
def far (p:Nat):Nat:=min 255 p
def lcAt (S:List Nat)(p:Nat):Nat×Nat:=lc S p (most S p) (far p)
def pcAt (S:List Nat)(p:Nat):Pc:=if 3≤(lcAt S p).2 then .cp (lcAt S p).1 (lcAt S p).2 else .sg (S.getD p 0)
def Walk (S:List Nat):Nat->List Pc->Nat->Prop
 |p,[],q=>p=q
 |p,x::xs,q=>p<S.length/\x=pcAt S p/\Walk S (p+x.size) xs q
theorem cr:∀{P:List Pc} {p q:Nat},Walk S p P q->q<S.length->Walk S p (P++[pcAt S q]) (q+(pcAt S q).size)
 | [],p,q,h,hq=>by
  cases h;exact⟨hq,rfl,rfl⟩
 |x::P,p,q,h,hq=>⟨h.1,h.2.1,cr h.2.2 hq⟩
theorem fY (h:p<S.length):1≤(pcAt S p).size/\p+(pcAt S p).size≤S.length:=by
 unfold pcAt
 split
 ·rename_i c
  have:=oE S p (most S p) (far p);show 1≤(lcAt S p).2/\p+(lcAt S p).2≤S.length;unfold lcAt at c ⊢;unfold most at this c ⊢;lia
 ·show 1≤1/\p+1≤S.length;lia
def pos (a:Nat)(P:List Pc):Nat:=a+(P.map Pc.size).sum
theorem b9:∀{P:List Pc} {p q:Nat},Walk S p P q->p+P.length≤q
 | [],p,q,h=>by cases h;simp
 |x::P,p,q,h=>by
  have:=b9 h.2.2;have h1:=(fY h.1).1;rw [<-h.2.1] at h1;simp;lia
theorem uq {z:Nat}(hp:p<S.length)(h:pcAt S p=.cp b z):1≤b/\b≤p/\b≤255/\3≤z/\z≤18/\p+z≤S.length/\(∀i<z,S[p+i]?=S[p+i-b]?)/\(z<18->p+z<S.length->S[p+z]?≠S[p+z-b]?):=by
 unfold pcAt at h
 split at h
 ·rename_i c
  have e1:(lcAt S p).1=b:=by injection h
  have e2:(lcAt S p).2=z:=by injection h
  rw [e2] at c;have g:=pd (S:=S) (p:=p) (m:=most S p) (n:=far p) (by show 0<(lcAt S p).2;lia);have l:=oE S p (most S p) (far p);change 1≤(lcAt S p).1/\(lcAt S p).1≤far p/\(lcAt S p).2=al S p (lcAt S p).1 (most S p) at g;change (lcAt S p).2≤most S p at l;rw [e1,e2] at g;rw [e2] at l;have hf:far p≤255/\far p≤p:=by unfold far;lia
  have hm:most S p≤18/\most S p≤S.length-p/\(most S p=18\/most S p=S.length-p):=by unfold most;lia
  refine⟨g.1,by lia,by lia,c,by lia,by lia,λ i hi=>al_all (m:=most S p) i (by lia),λ h1 h2=>?_⟩;have:=vv (S:=S) (p:=p) (b:=b) (m:=most S p) (by rw [<-g.2.2];lia);rw [<-g.2.2] at this;exact this
 ·cases h
theorem vH {s:Nat}(hp:p<S.length)(h:pcAt S p=.sg s):S[p]?=some s:=by
 unfold pcAt at h
 split at h
 ·cases h
 ·injection h with h
  rw [<-h];simp [List.getD,hp]
def Pc.turn (f:Nat->Nat):Pc->Pc
 | .sg s=>.sg (f s)
 | .cp b z=>.cp b z
end W16
namespace BP
variable {N T n r s : Nat} {B : List Nat}
def val (B:List Nat):Nat:=B.foldl (λ a b=>a*256+b) 0
theorem jg (B:List Nat):∀a,B.foldl (λ a b=>a*256+b) a=a*256^B.length+val B:=by
 induction B with
 |nil=>intro a;simp [val]
 |cons b B ih=>
  intro a;have h0:val (b::B)=b*256^B.length+val B:=by
   show B.foldl (λ a b=>a*256+b) (0*256+b)=_;rw [ih,Nat.zero_mul,A9]
  show B.foldl (λ a b=>a*256+b) (a*256+b)=_;rw [ih,h0,zD,AZ,Cb,AT,AQ 256,Bc]
theorem ir (b:Nat)(B:List Nat):val (b::B)=b*256^B.length+val B:=by
 show B.foldl (λ a b=>a*256+b) (0*256+b)=_;rw [jg,Nat.zero_mul,A9]
theorem iG (A B:List Nat):val (A++B)=val A*256^B.length+val B:=by
 show(A++B).foldl (λ a b=>a*256+b) 0=_;rw [CC,jg];rfl
theorem val_snoc (A:List Nat)(b:Nat):val (A++[b])=val A*256+b:=by
 show(A++[b]).foldl (λ a b=>a*256+b) 0=_;rw [CC];rfl
theorem val_lt (h:∀b∈B,b<256):val B<256^B.length:=by
 induction B with
 |nil=>simp [val]
 |cons b B ih=>
  rw [ir,zD,AZ];have h1:=ih λ x hx=>h x (zC _ hx)
  have h2:b<256:=h b zH;have h3:b*256^B.length≤255*256^B.length:=DC _ (by lia);lia
theorem mL (n:Nat):256^n=2^(8*n):=by rw [Nat.pow_mul]
theorem pow_pos2 (n:Nat):0<2^n:=Cs (by decide)
theorem tq (h:∀b∈B,b<256)(n:Nat)(hn:n≤B.length):val (B.take n)=val B/256^(B.length-n):=by
 have e:val B=val (B.take n)*256^(B.drop n).length+val (B.drop n):=by rw [<-iG,zM]
 have hd:val (B.drop n)<256^(B.drop n).length:=val_lt λ b hb=>h b (A1 hb)
 rw [zR] at e hd;rw [e,AQ,C4 (Cs (by decide)),CO hd,Bw]
theorem vX (h:∀b∈B,b<256){m:Nat}(hmn:m≤n)(hn:n≤B.length):val ((B.take n).drop m)=val B/256^(B.length-n)%256^(n-m):=by
 have e:val (B.take n)=val ((B.take n).take m)*256^((B.take n).drop m).length+val ((B.take n).drop m):=by rw [<-iG,zM]
 have hl:((B.take n).drop m).length=n-m:=by rw [zR,zW];lia
 have hd:val ((B.take n).drop m)<256^((B.take n).drop m).length:=val_lt λ b hb=>h b (A7 (A1 hb))
 rw [hl] at e hd;rw [<-tq h n hn,e,AQ,Nat.mul_add_mod,Cj hd]
theorem bits_cut (h:∀b∈B,b<256){p:Nat}(hp:p+s≤8*B.length):
  val ((B.take ((p+s+7)/8)).drop (p/8))/2^(8*((p+s+7)/8)-(p+s))%2^s=val B/2^(8*B.length-(p+s))%2^s:=by
 have h1:p/8≤(p+s+7)/8:=by lia
 have h2:(p+s+7)/8≤B.length:=by lia
 rw [vX h h1 h2,mL,mL];have e1:2^(8*((p+s+7)/8-p/8))=2^(8*((p+s+7)/8)-(p+s))*2^(8*((p+s+7)/8-p/8)-(8*((p+s+7)/8)-(p+s))):=by
  rw [<-Bx];congr 1;lia
 rw [e1,Nat.mod_mul_right_div_self,Dl,<-Bx];have e2:2^(8*((p+s+7)/8-p/8)-(8*((p+s+7)/8)-(p+s)))=2^s*2^(8*((p+s+7)/8-p/8)-(8*((p+s+7)/8)-(p+s))-s):=by
  rw [<-Bx];congr 1;lia
 rw [e2,Nat.mod_mul_right_mod];congr 3;lia
structure BR (N T:Nat)(B:List Nat)(r k:Nat):Prop where
 tot:T=8*B.length+k
 num:N=val B*2^k+r
 low:r<2^k
 byt:∀b∈B,b<256
theorem BR.init:BR 0 0 [] 0 0:=⟨rfl,rfl,by decide,λ _ h=>nomatch h⟩
theorem BR.put {k:Nat}(h:BR N T B r k)(hn:n<2^s):BR (N*2^s+n) (T+s) B (r*2^s+n) (k+s):=by
 refine⟨by rw [h.tot];lia,?_,?_,h.byt⟩
 ·rw [h.num,Bx,Cb,AT,Bc]
 ·have h1:r+1≤2^k:=h.low;have h2:(r+1)*2^s≤2^k*2^s:=DC _ h1;rw [Cb,Ef] at h2;rw [Bx];lia
theorem BR.move {k:Nat}(h:BR N T B r (k+8)):BR N T (B++[r/2^k]) (r%2^k) k:=by
 have e:=Nat.div_add_mod r (2^k);refine⟨by rw [h.tot,zv,Bv];lia,?_,DG _ (pow_pos2 k),λ b hb=>?_⟩
 ·rw [h.num,val_snoc,Cb,Bx];have:val B*(2^k*2^8)=val B*256*2^k:=by rw [AQ (2^k),<-AT]
  rw [this,Bc];rw [AQ (r/2^k),e]
 ·rcases zI.mp hb with hb|hb
  ·exact h.byt b hb
  ·rw [zX.mp hb];have:=h.low;rw [Bx] at this;exact Nat.div_lt_of_lt_mul this
structure RowOf (N T:Nat)(R:List Nat):Prop where
 len:R.length=(T+7)/8
 byt:∀b∈R,b<256
 num:val R=N*2^(8*R.length-T)
theorem BR.row0 (h:BR N T B r 0):RowOf N T B:=by
 have h1:=h.low;refine⟨by rw [h.tot];lia,h.byt,?_⟩;rw [h.num,h.tot];have:r=0:=by simpa using h1
 subst this;simp
theorem BR.row1 {k:Nat}(h:BR N T B r k)(h0:0<k)(h8:k<8):RowOf N T (B++[r*2^(8-k)]):=by
 refine⟨by rw [h.tot,zv,Bv];lia,λ b hb=>?_,?_⟩
 ·rcases zI.mp hb with hb|hb
  ·exact h.byt b hb
  ·rw [zX.mp hb];have h2:r*2^(8-k)<2^k*2^(8-k):=(Nat.mul_lt_mul_right (pow_pos2 _)).mpr h.low;rw [<-Bx] at h2;have:k+(8-k)=8:=by lia
   rw [this] at h2;exact h2
 ·have e:8*(B++[r*2^(8-k)]).length-T=8-k:=by rw [h.tot,zv,Bv];lia
  have e2:256=2^k*2^(8-k):=by
   rw [<-Bx];have:k+(8-k)=8:=by lia
   rw [this]
  rw [e,val_snoc,h.num,Cb,AT,<-e2]
theorem BR.lt {k:Nat}(h:BR N T B r k):N<2^T:=by
 have h1:=val_lt h.byt;rw [mL] at h1;rw [h.num,h.tot,Bx];have h2:(val B+1)*2^k≤2^(8*B.length)*2^k:=DC _ h1;have:=h.low;rw [Cb,Ef] at h2;lia
def nums:List (Nat×Nat)->Nat->Nat
 | [],N=>N
 |p::ps,N=>nums ps (N*2^p.2+p.1)
def tots (ps:List (Nat×Nat)):Nat:=(ps.map (·.2)).sum
theorem aT (a b:List (Nat×Nat))(N:Nat):nums (a++b) N=nums b (nums a N):=by
 induction a generalizing N with
 |nil=>rfl
 |cons p a ih=>exact ih _
theorem aw (a b:List (Nat×Nat)):tots (a++b)=tots a+tots b:=by simp [tots,zG,Bp]
theorem bL (p:Nat×Nat)(b:List (Nat×Nat)):tots (p::b)=p.2+tots b:=by simp [tots]
def Good (ps:List (Nat×Nat)):Prop:=∀p∈ps,p.1<2^p.2
theorem rM (b:List (Nat×Nat))(hb:Good b):∀N,nums b N/2^tots b=N:=by
 induction b with
 |nil=>intro N;simp [nums,tots]
 |cons p b ih=>
  intro N;have h1:p.1<2^p.2:=hb p zH;rw [nums,bL,DU p.2 (tots b),Bx,<-Dl,ih (λ q hq=>hb q (zC _ hq))];rw [AQ,C4 (pow_pos2 _),CO h1,Bw]
theorem gv (a b c:List (Nat×Nat))(hc:Good c)(e:Nat)(L:Nat)(hL:L=tots (a++b++c)+e):
  nums (a++b++c) 0*2^e/2^(L-(tots a+tots b))=nums b (nums a 0):=by
 have h1:L-(tots a+tots b)=e+tots c:=by rw [hL,aw,aw];lia
 rw [h1,Bx,<-Dl,Nat.mul_div_cancel _ (pow_pos2 e),aT,aT];exact rM c hc _
theorem lO {a c:List (Nat×Nat)}(hc:Good c)(hn:n<2^s){e L:Nat}(hL:L=tots (a++(n,s)::c)+e):
  nums (a++(n,s)::c) 0*2^e/2^(L-(tots a+s))%2^s=n:=by
 have h:=gv a [(n,s)] c hc e L (by simpa using hL);have e1:tots [(n,s)]=s:=by simp [tots]
 rw [e1] at h;have e2:a++[(n,s)]++c=a++(n,s)::c:=by simp
 rw [e2] at h;rw [h];show(nums a 0*2^s+n)%2^s=n;rw [AQ,Nat.mul_add_mod,Cj hn]
def num (bs:List Bool):Nat:=bs.foldl (λ a b=>2*a+b.toNat) 0
theorem qk (bs:List Bool):∀a,bs.foldl (λ a b=>2*a+b.toNat) a=a*2^bs.length+num bs:=by
 induction bs with
 |nil=>intro a;simp [num]
 |cons b bs ih=>
  intro a;have h0:num (b::bs)=b.toNat*2^bs.length+num bs:=by
   show bs.foldl (λ a b=>2*a+b.toNat) (2*0+b.toNat)=_;rw [ih,Nat.mul_zero,A9]
  show bs.foldl (λ a b=>2*a+b.toNat) (2*a+b.toNat)=_;rw [ih,h0,zD,AZ,Cb,AQ 2 a,AT a 2,AQ 2 (2^bs.length),Bc]
theorem eD (a b:List Bool):num (a++b)=num a*2^b.length+num b:=by
 show(a++b).foldl (λ a b=>2*a+b.toNat) 0=_;rw [CC,qk];rfl
theorem num_snoc (a:List Bool)(b:Bool):num (a++[b])=2*num a+b.toNat:=by
 show(a++[b]).foldl (λ a b=>2*a+b.toNat) 0=_;rw [CC];rfl
theorem eG (b:Bool)(bs:List Bool):num (b::bs)=b.toNat*2^bs.length+num bs:=by
 have:=eD [b] bs;simpa [num] using this
theorem num_lt (bs:List Bool):num bs<2^bs.length:=by
 induction bs with
 |nil=>decide
 |cons b bs ih=>
  rw [eG,zD,AZ];cases b<;>simp<;>lia
def dig (n:Nat):Nat->List Bool
 |0=>[]
 |k+1=>decide (n/2^k%2=1)::dig n k
theorem dig_length (n k:Nat):(dig n k).length=k:=by
 induction k with
 |zero=>rfl
 |succ k ih=>show(dig n k).length+1=k+1;rw [ih]
theorem jI (n k:Nat):num (dig n k)=n%2^k:=by
 induction k with
 |zero=>simp [dig,num,Nat.mod_one]
 |succ k ih=>
  show num (decide (n/2^k%2=1)::dig n k)=_;rw [eG,dig_length,ih,AZ,Nat.mod_mul];have h2:n/2^k%2<2:=DG _ (by decide);by_cases h:n/2^k%2=1
  ·rw [zw h,h];simp;lia
  ·have h0:n/2^k%2=0:=by lia
   rw [AC h,h0];simp
theorem ph:∀{A B:List Nat},(∀b∈A,b<256)->(∀b∈B,b<256)->A.length=B.length->val A=val B->A=B
 | [],[],_,_,_,_=>rfl
 | [],_::_,_,_,h,_=>by cases h
 |_::_,[],_,_,h,_=>by cases h
 |a::A,b::B,hA,hB,hl,hv=>by
  have hl':A.length=B.length:=by simpa using hl
  rw [ir,ir,hl'] at hv;have h1:val A<256^B.length:=by rw [<-hl'];exact val_lt λ x hx=>hA x (zC _ hx)
  have h2:val B<256^B.length:=val_lt λ x hx=>hB x (zC _ hx)
  have p:0<256^B.length:=Cs (by decide);have e1:a=b:=by
   have q1:(a*256^B.length+val A)/256^B.length=a:=by rw [AQ,C4 p,CO h1,Bw]
   have q2:(b*256^B.length+val B)/256^B.length=b:=by rw [AQ,C4 p,CO h2,Bw]
   rw [<-q1,hv,q2]
  subst e1;rw [ph (λ x hx=>hA x (zC _ hx)) (λ x hx=>hB x (zC _ hx)) hl' (Nat.add_left_cancel hv)]
theorem RowOf.uniq {R R':List Nat}(h:RowOf N T R)(h':RowOf N T R'):R=R':=by
 have e:R.length=R'.length:=by rw [h.len,h'.len]
 exact ph h.byt h'.byt e (by rw [h.num,h'.num,e])
end BP
namespace W13
variable {a p : Nat} {L : List Nat}
def run (a:Nat):List Nat->Nat
 | []=>0
 |x::xs=>if x=a then run a xs+1 else 0
theorem gK (a:Nat):∀L:List Nat,run a L≤L.length
 | []=>zy _
 |x::xs=>by
  unfold run;have:=gK a xs
  split<;>simp<;>lia
theorem ni:∀{L:List Nat} {i:Nat},i<run a L->L[i]?=some a
 | [],i,h=>by simp [run] at h
 |x::xs,0,h=>by
  unfold run at h
  split at h
  ·rename_i c;simp [c]
  ·lia
 |x::xs,i+1,h=>by
  unfold run at h
  split at h
  ·simpa using ni (L:=xs) (i:=i) (by lia)
  ·lia
theorem mj:∀{L:List Nat} {n:Nat},(∀i<n,L[i]?=some a)->n≤run a L
 | [],0,_=>Ap _
 | [],n+1,h=>by simpa using h 0 (by lia)
 |x::xs,0,_=>Ap _
 |x::xs,n+1,h=>by
  have h0:x=a:=by simpa using h 0 (by lia)
  rw [run,zP h0];have:=mj (L:=xs) (n:=n) (λ i hi=>by simpa using h (i+1) (by lia));lia
theorem qT {n:Nat}(h:∀i<n,L[i]?=some a)(hn:L[n]?≠some a):run a L=n:=by
 have h1:=mj h;rcases AB n (run a L) with h2|h2
 ·exact absurd (ni h2) hn
 ·lia
inductive Itm where
 |one (x:Nat)
 |rep (r:Nat)
def Itm.size:Itm->Nat
 | .one _=>1
 | .rep r=>r
def Itm.cost:Itm->Nat
 | .one _=>3
 | .rep _=>9
def Itm.next (a:Nat):Itm->Nat
 | .one x=>x
 | .rep _=>a
def Itm.puts:Itm->List (Nat×Nat)
 | .one x=>[(x,3)]
 | .rep r=>[(7,3),(r-3,6)]
def stAt (L:List Nat)(p a:Nat):Itm:=if 3≤min 66 (run a (L.drop p)) then .rep (min 66 (run a (L.drop p))) else .one (L.getD p 0)
def Walk (L:List Nat):Nat->Nat->List Itm->Nat->Nat->Prop
 |p,a,[],q,b=>p=q/\a=b
 |p,a,x::xs,q,b=>p<L.length/\x=stAt L p a/\Walk L (p+x.size) (x.next a) xs q b
theorem cr:∀{P:List Itm} {p a q b:Nat},Walk L p a P q b->q<L.length->Walk L p a (P++[stAt L q b]) (q+(stAt L q b).size) ((stAt L q b).next b)
 | [],p,a,q,b,h,hq=>by
  obtain⟨rfl,rfl⟩:=h;exact⟨hq,rfl,rfl,rfl⟩
 |x::P,p,a,q,b,h,hq=>⟨h.1,h.2.1,cr h.2.2 hq⟩
theorem iT (h:p<L.length):1≤(stAt L p a).size/\p+(stAt L p a).size≤L.length:=by
 unfold stAt
 split
 ·rename_i c
  have:=gK a (L.drop p);rw [zR] at this;show 1≤min 66 (run a (L.drop p))/\p+min 66 (run a (L.drop p))≤L.length;lia
 ·show 1≤1/\p+1≤L.length;lia
theorem b9:∀{P:List Itm} {p a q b:Nat},Walk L p a P q b->p+P.length≤q
 | [],p,a,q,b,h=>by obtain⟨rfl,rfl⟩:=h;simp
 |x::P,p,a,q,b,h=>by
  have h1:=b9 h.2.2;have h2:=(iT (a:=a) h.1).1;rw [<-h.2.1] at h2;simp;lia
def nxtS (a:Nat):List Itm->Nat
 | []=>a
 |x::xs=>nxtS (x.next a) xs
theorem jj (a:Nat):∀(P:List Itm) (x:Itm),nxtS a (P++[x])=x.next (nxtS a P)
 | [],x=>rfl
 |y::P,x=>jj (y.next a) P x
theorem nN (hp:p<L.length):(∀x,stAt L p a=.one x->L.take (p+1)=L.take p++[x]/\L[p]?=some x)/\(∀r,stAt L p a=.rep r->3≤r/\r≤66/\p+r≤L.length/\L.take (p+r)=L.take p++List.replicate r a):=by
 have hle:=gK a (L.drop p);rw [zR] at hle;unfold stAt
 split
 ·rename_i c
  refine⟨λ x h=>(by cases h),λ r h=>?_⟩;injection h with h
  have hr:r≤run a (L.drop p):=by lia
  refine⟨by lia,by lia,by lia,?_⟩;rw [List.take_add];congr 1;apply Be;intro i;rw [DV,Cc]
  split
  ·rename_i hi
   exact ni (by lia)
  ·rfl
 ·refine⟨λ x h=>?_,λ r h=>(by cases h)⟩;injection h with h
  have e:L[p]?=some x:=by rw [<-h];simp [List.getD,hp]
  exact⟨by rw [AO,e];rfl,e⟩
def decL (a:Nat):List Itm->List Nat
 | []=>[]
 | .one x::P=>x::decL x P
 | .rep r::P=>List.replicate r a++decL a P
def StOk:Itm->Prop
 | .one x=>x≤6
 | .rep r=>3≤r/\r≤66
theorem f6:∀(P:List Itm) (a:Nat) (x:Itm),decL a (P++[x])=decL a P++decL (nxtS a P) [x]
 | [],a,x=>by simp [decL,nxtS]
 | .one y::P,a,x=>by
  show y::decL y (P++[x])=y::(decL y P++_);rw [f6 P y x];rfl
 | .rep r::P,a,x=>by
  show List.replicate r a++decL a (P++[x])=List.replicate r a++decL a P++_;rw [f6 P a x,zt];rfl
theorem lT (a:Nat)(x:Itm):(decL a [x]).length=x.size:=by cases x<;>simp [decL,Itm.size]
theorem bM:∀(P Q:List Itm) (a:Nat),decL a (P++Q)=decL a P++decL (nxtS a P) Q
 | [],Q,a=>rfl
 | .one y::P,Q,a=>by
  show y::decL y (P++Q)=y::(decL y P++_);rw [bM P Q y];rfl
 | .rep r::P,Q,a=>by
  show List.replicate r a++decL a (P++Q)=List.replicate r a++decL a P++_;rw [bM P Q a,zt];rfl
theorem walk_dec:∀{P:List Itm} {p a q b:Nat},Walk L p a P q b->L.take q=L.take p++decL a P
 | [],p,a,q,b,h=>by obtain⟨rfl,rfl⟩:=h;simp [decL]
 |x::P,p,a,q,b,h=>by
  obtain⟨hp,hx,hw⟩:=h;have ih:=walk_dec hw;have ht:=nN (a:=a) hp;rw [ih];cases x with
  |one y=>
   have h1:=(ht.1 y hx.symm).1;show L.take (p+1)++decL y P=L.take p++y::decL y P;rw [h1];simp
  |rep r=>
   have h1:=(ht.2 r hx.symm).2.2.2;show L.take (p+r)++decL a P=L.take p++(List.replicate r a++decL a P);rw [h1,zt]
theorem walk_ok (hL:∀b∈L,b≤6):∀{P:List Itm} {p a q b:Nat},Walk L p a P q b->∀x∈P,StOk x
 | [],p,a,q,b,h,x,hx=>by simp at hx
 |y::P,p,a,q,b,h,x,hx=>by
  rcases zL.mp hx with rfl|hx
  ·have ht:=nN (a:=a) h.1;cases x with
   |one y=>exact hL _ (AK (ht.1 y h.2.1.symm).2)
   |rep r=>have:=ht.2 r h.2.1.symm;exact⟨this.1,this.2.1⟩
  ·exact walk_ok hL h.2.2 x hx
def puts (P:List Itm):List (Nat×Nat):=P.flatMap Itm.puts
theorem cO (P Q:List Itm):puts (P++Q)=puts P++puts Q:=by simp [puts]
theorem fV:∀P:List Itm,((puts P).map (·.2)).sum=(P.map Itm.cost).sum
 | []=>rfl
 | .one x::P=>by
  show((Itm.puts (.one x)++puts P).map (·.2)).sum=_;rw [zG,Bp,fV P];simp [Itm.puts,Itm.cost]
 | .rep r::P=>by
  show((Itm.puts (.rep r)++puts P).map (·.2)).sum=_;rw [zG,Bp,fV P];simp [Itm.puts,Itm.cost]
theorem puts_good {P:List Itm}(h:∀x∈P,StOk x):∀q∈puts P,q.1<2^q.2:=by
 intro q hq;obtain⟨x,hx,hq⟩:=D4.mp hq;have ok:=h x hx;cases x with
 |one y=>
  have:y≤6:=ok;simp [Itm.puts] at hq;subst hq;show y<2^3;lia
 |rep r=>
  obtain⟨h1,h2⟩:3≤r/\r≤66:=ok;simp [Itm.puts] at hq;rcases hq with rfl|rfl
  ·decide
  ·show r-3<2^6;lia
def cost (P:List Itm):Nat:=(P.map Itm.cost).sum
def g (m:Nat):Nat:=9*(m/66)+min 9 (3*(m%66))
inductive PC:Nat->List Nat->Nat->Prop
 |nil (a:Nat):PC a [] 0
 |rep {a:Nat} {L:List Nat} {c:Nat} (h:3≤min 66 (run a L)) (k:PC a (L.drop (min 66 (run a L))) c):PC a L (9+c)
 |one {a x:Nat} {xs:List Nat} {c:Nat} (h:¬3≤min 66 (run a (x::xs))) (k:PC x xs c):PC a (x::xs) (3+c)
inductive LF:Nat->List Nat->Nat->Prop
 |nil (a:Nat):LF a [] 0
 |new {a x:Nat} {xs:List Nat} {c:Nat} (h:x≠a) (k:LF x (xs.drop (run x xs)) c):LF a (x::xs) (3+g (run x xs)+c)
 |old {a:Nat} {x:Nat} {xs:List Nat} {c:Nat} (h:x=a) (k:LF a ((x::xs).drop (run a (x::xs))) c):LF a (x::xs) (g (run a (x::xs))+c)
def cst:Nat->List Nat
 |0=>[0]
 |n+1=>cst n++[if n+1>2 then min ((cst n).getD n 0+3) ((cst n).getD (n+1-66) 0+9) else(cst n).getD n 0+3]
end W13
namespace W17
open BP W13
variable {R T : List Nat} {a : Nat} {ps : List (Nat×Nat)}
def bitsP (ps:List (Nat×Nat)):List Bool:=ps.flatMap λ q=>dig q.1 q.2
theorem eh (q:Nat×Nat)(ps:List (Nat×Nat)):bitsP (q::ps)=dig q.1 q.2++bitsP ps:=by simp [bitsP]
theorem jN (a b:List (Nat×Nat)):bitsP (a++b)=bitsP a++bitsP b:=by simp [bitsP]
theorem ci:∀ps:List (Nat×Nat),(bitsP ps).length=tots ps
 | []=>rfl
 |q::ps=>by rw [eh,zv,dig_length,ci ps,bL]
theorem jf:∀{ps:List (Nat×Nat)},Good ps->∀N,nums ps N=N*2^tots ps+num (bitsP ps)
 | [],_,N=>by simp [nums,tots,bitsP,num]
 |q::ps,h,N=>by
  have h1:q.1<2^q.2:=h q zH;have ih:=jf (ps:=ps) λ z hz=>h z (zC _ hz)
  show nums ps (N*2^q.2+q.1)=_;rw [ih,eh,eD,ci,jI,Cj h1,bL,Bx,Cb,AT,Bc]
theorem pZ (h:Good ps):num (bitsP ps)=nums ps 0:=by rw [jf h 0];simp
structure RdOf (R:List Nat)(ps:List (Nat×Nat)):Prop where
 len:8*R.length=tots ps
 num:val R=nums ps 0
 good:Good ps
 byt:∀b∈R,b<256
theorem RdOf.at {a c:List (Nat×Nat)}{n s:Nat}(h:RdOf R ps)(e:ps=a++(n,s)::c):tots a+s≤8*R.length/\val R/2^(8*R.length-(tots a+s))%2^s=n:=by
 subst e;have g:=h.good;have t:=lO (a:=a) (c:=c) (n:=n) (s:=s) (λ q hq=>g q (by simp [hq])) (g (n,s) (by simp)) (e:=0) (L:=8*R.length) (by rw [h.len];rfl);rw [Nat.pow_zero,Eg,<-h.num] at t;refine⟨?_,t⟩;rw [h.len,aw,bL];show tots a+s≤tots a+(s+tots c);lia
theorem RdOf.mk' (h:RowOf (nums ps 0) (tots ps) R)(g:Good ps){z:Nat}(hz:z<256):RdOf (R++[z]) (ps++[(0,8*R.length-tots ps),(z,8)]):=by
 have hl:=h.len;refine⟨?_,?_,?_,?_⟩
 ·rw [aw];have:tots [(0,8*R.length-tots ps),(z,8)]=(8*R.length-tots ps)+8:=by simp [tots]
  rw [this,zv,Bv];lia
 ·rw [val_snoc,h.num,aT];show _=(nums ps 0*2^(8*R.length-tots ps)+0)*2^8+z;rw [Bw]
 ·intro q hq;rcases zI.mp hq with hq|hq
  ·exact g q hq
  ·simp at hq;rcases hq with rfl|rfl
   ·exact pow_pos2 _
   ·exact hz
 ·intro b hb;rcases zI.mp hb with hb|hb
  ·exact h.byt b hb
  ·rw [zX.mp hb];exact hz
def rlF:Nat->List Nat->List (Nat×Nat)
 |0,_=>[]
 |_+1,[]=>[]
 |n+1,a::L=>(a,1+run a L)::rlF n (L.drop (run a L))
theorem gX:∀{n m:Nat} {L:List Nat},L.length≤n->L.length≤m->rlF n L=rlF m L
 |0,0,_,_,_=>rfl
 |0,m+1,[],_,_=>rfl
 |0,_+1,_::_,h,_=>by simp at h
 |n+1,0,[],_,_=>rfl
 |_+1,0,_::_,_,h=>by simp at h
 |n+1,m+1,[],_,_=>rfl
 |n+1,m+1,a::L,h1,h2=>by
  have h1':L.length≤n:=by simpa using h1
  have h2':L.length≤m:=by simpa using h2
  show(a,1+run a L)::rlF n (L.drop (run a L))=(a,1+run a L)::rlF m (L.drop (run a L));rw [gX (n:=n) (m:=m) (by rw [zR];lia) (by rw [zR];lia)]
def rl (L:List Nat):List (Nat×Nat):=rlF L.length L
theorem xO:rl []=[]:=rfl
theorem oC (a:Nat)(L:List Nat):rl (a::L)=(a,1+run a L)::rl (L.drop (run a L)):=by
 show(a,1+run a L)::rlF L.length (L.drop (run a L))=_;rw [gX (n:=L.length) (m:=(L.drop (run a L)).length) (by rw [zR];lia) (zy _)];rfl
theorem uT {b e:Nat}(hbe:b<e)(heT:e≤T.length)(hal:∀j,b≤j->j<e->T[j]?=some a)(hend:T[e]?≠some a):rl (T.drop b)=(a,e-b)::rl (T.drop e):=by
 have hb:b<T.length:=by lia
 have e1:T.drop b=a::T.drop (b+1):=by
  have:=hal b (zy _) hbe;rw [zu hb] at this;rw [AH hb,zS this]
 have e2:run a (T.drop (b+1))=e-(b+1):=by
  refine qT (λ i hi=>?_) ?_
  ·rw [BY];exact hal _ (by lia) (by lia)
  ·rw [BY,show b+1+(e-(b+1))=e by lia];exact hend
 rw [e1,oC,e2,CM,show b+1+(e-(b+1))=e by lia,show 1+(e-(b+1))=e-b by lia]
def exp (rs:List (Nat×Nat)):List Nat:=rs.flatMap λ q=>List.replicate q.2 q.1
theorem oY:∀L:List Nat,L=List.replicate (run a L) a++L.drop (run a L)
 | []=>rfl
 |x::L=>by
  by_cases h:x=a
  ·have e:run a (x::L)=run a L+1:=by rw [run,zP h]
   rw [e,AJ,List.drop_succ_cons,D9,<-oY L,h]
  ·have e:run a (x::L)=0:=by rw [run,zK h]
   rw [e];rfl
theorem oj:∀{n:Nat} {L:List Nat},L.length≤n->exp (rlF n L)=L
 |0,[],_=>rfl
 |0,_::_,h=>by simp at h
 |n+1,[],_=>rfl
 |n+1,a::L,h=>by
  have h':L.length≤n:=by simpa using h
  show List.replicate (1+run a L) a++exp (rlF n (L.drop (run a L)))=_;rw [oj (by rw [zR];lia),DU,AJ,D9,<-oY]
theorem mH (L:List Nat):exp (rl L)=L:=oj (zy _)
theorem ox:∀{n:Nat} {L:List Nat},∀q∈rlF n L,1≤q.2/\q.2≤L.length/\q.1∈L
 |0,_,q,h=>by cases h
 |n+1,[],q,h=>by cases h
 |n+1,a::L,q,h=>by
  have hr:=gK a L;rcases zL.mp (show q∈(a,1+run a L)::rlF n (L.drop (run a L)) from h) with rfl|h
  ·exact⟨by show 1≤1+run a L;lia,by show 1+run a L≤(a::L).length;rw [zD];lia,zH⟩
  ·obtain⟨h1,h2,h3⟩:=ox q h;rw [zR] at h2;exact⟨h1,by rw [zD];lia,zC _ (A1 h3)⟩
theorem jZ {L:List Nat}{q:Nat×Nat}(h:q∈rl L):1≤q.2/\q.2≤L.length/\q.1∈L:=ox q h
theorem ee (a b:List (Nat×Nat)):exp (a++b)=exp a++exp b:=by simp [exp]
theorem gR (q:Nat×Nat)(b:List (Nat×Nat)):exp (q::b)=List.replicate q.2 q.1++exp b:=by simp [exp]
def pR (rs:List (Nat×Nat)):List (Nat×Nat):=rs.flatMap λ q=>[(q.2-1,6),(q.1,8)]
theorem fQ (a b:List (Nat×Nat)):pR (a++b)=pR a++pR b:=by simp [pR]
theorem nM (q:Nat×Nat)(b:List (Nat×Nat)):pR (q::b)=(q.2-1,6)::(q.1,8)::pR b:=by simp [pR]
def pf:Bool->List Nat->List (Nat×Nat)
 |false,T=>T.map λ s=>(s,8)
 |true,T=>pR (rl T)
theorem dj:∀{rs:List (Nat×Nat)},(∀q∈rs,1≤q.2)->rs.length≤(exp rs).length
 | [],_=>zy _
 |q::rs,h=>by
  have h1:=h q zH;have ih:=dj (rs:=rs) λ z hz=>h z (zC _ hz)
  rw [gR,zv,AR,zD];lia
theorem dg:∀rs:List (Nat×Nat),tots (pR rs)=14*rs.length
 | []=>rfl
 |q::rs=>by rw [nM,bL,bL,dg rs,zD];show 6+(8+14*rs.length)=_;lia
theorem eW:∀T:List Nat,tots (pf false T)=8*T.length
 | []=>rfl
 |s::T=>by
  show tots ((s,8)::pf false T)=_;rw [bL,eW T,zD];show 8+8*T.length=_;lia
theorem nO (u:Bool)(T:List Nat):tots (pf u T)≤14*T.length:=by
 cases u with
 |false=>rw [eW];lia
 |true=>
  show tots (pR (rl T))≤_;rw [dg];have:=dj (rs:=rl T) λ q hq=>(jZ hq).1
  rw [mH] at this;lia
theorem vm {rs:List (Nat×Nat)}(h:∀q∈rs,1≤q.2/\q.2≤64/\q.1<256):Good (pR rs):=by
 intro z hz;obtain⟨q,hq,hz⟩:=D4.mp hz;obtain⟨h1,h2,h3⟩:=h q hq;simp at hz;rcases hz with rfl|rfl
 ·show q.2-1<2^6;lia
 ·show q.1<2^8;lia
theorem qS (hT:T.length≤64)(hb:∀b∈T,b<256):∀q∈rl T,1≤q.2/\q.2≤64/\q.1<256:=λ q hq=>by
 obtain⟨h1,h2,h3⟩:=jZ hq;exact⟨h1,by lia,hb _ h3⟩
theorem o0 (u:Bool)(hT:T.length≤64)(hb:∀b∈T,b<256):Good (pf u T):=by
 cases u with
 |false=>
  intro z hz;obtain⟨s,hs,rfl⟩:=Bl.mp hz;exact hb s hs
 |true=>exact vm (qS hT hb)
end W17
set_option maxHeartbeats 4000000
namespace K20
open PySem L2 QQ W17 W16
seal PE PA PS PSs PT PW PG PI
variable {fd fdO fdS fdW : FuncData} {f fO fS fW' : Addr} {m : Str} {B : List Nat} {n : Nat}
def top (i:Nat):Stmt:=PySem.Challenge.pw_balepress_k20_whole_best_way.main.body.getD i (.Pass ⟨0,0,0,0⟩)
abbrev gy:Stmt:=top 12
abbrev bJ:Stmt:=top 13
abbrev bv:Stmt:=top 14
abbrev jo:Stmt:=top 15
abbrev bO:Stmt:=top 16
abbrev bK:Stmt:=top 19
abbrev dC:Stmt:=top 20
abbrev c6:Stmt:=top 21
abbrev cT:Stmt:=top 54
abbrev gN:Stmt:=top 55
abbrev eQ:Stmt:=top 56
abbrev sPiecesOf:Stmt:=top 57
abbrev dt:Stmt:=top 58
abbrev cE:Stmt:=top 63
abbrev db:Stmt:=top 64
abbrev eS:Stmt:=top 68
abbrev cX:Stmt:=top 69
abbrev fq:Stmt:=top 70
abbrev c4:Stmt:=top 29
abbrev lj:Stmt:=top 30
abbrev dW:Stmt:=top 31
abbrev fX:Stmt:=top 32
abbrev gW:Stmt:=top 33
abbrev sLengths:Stmt:=top 34
abbrev oF:Stmt:=top 36
abbrev dz:Stmt:=top 37
abbrev fj:Stmt:=top 38
abbrev cu:Stmt:=top 45
abbrev gJ:Stmt:=top 46
abbrev dL:Stmt:=top 47
abbrev ie:Stmt:=top 48
abbrev de:Stmt:=top 49
abbrev eM:Stmt:=top 66
abbrev dQ:Stmt:=top 67
abbrev fh:Stmt:=top 71
abbrev fz:Stmt:=top 72
abbrev jY:Stmt:=aO (top 22) 0
abbrev uf:Stmt:=aO (top 22) 1
abbrev lI:Stmt:=aO (top 22) 2
abbrev ow:Stmt:=aO (top 22) 3
abbrev gu:Stmt:=aO (top 22) 4
abbrev jP:Stmt:=aO (top 23) 0
abbrev lP:Stmt:=aO (top 23) 1
abbrev ig:Stmt:=aO (top 23) 2
abbrev gP:Stmt:=aO (top 23) 3
abbrev sGo:Stmt:=aO (top 23) 4
abbrev jG:Stmt:=aO (top 39) 0
abbrev on:Stmt:=aO (top 39) 1
abbrev jE:Stmt:=aO (top 39) 2
abbrev g7:Stmt:=aO (top 73) 3
abbrev gz:Stmt:=aO (top 77) 2
abbrev gm:Stmt:=aO (top 77) 1
abbrev dS:Stmt:=aO (top 77) 0
abbrev dJ:Stmt:=top 65
abbrev df:Stmt:=aO (top 74) 0
abbrev fg:Stmt:=aO (top 74) 1
abbrev fb:Stmt:=aO (top 74) 2
abbrev c9:Stmt:=aO (top 75) 0
abbrev eJ:Stmt:=aO (top 75) 1
abbrev fE:Stmt:=aO (top 75) 2
abbrev cI:Stmt:=aO (top 76) 0
abbrev dG:Stmt:=aO (top 76) 1
abbrev dF:Stmt:=aO (top 76) 2
abbrev o7:Stmt:=top 78
abbrev sBestWay:Stmt:=top 79
abbrev jW:Stmt:=aO (top 23) 5
abbrev vN (n:Nat):V:=.int ((n:Nat):Int)
structure Txt (K:PySem.W.Frag)(mg:Str->Option Value):Prop where
 isi:mg "isinstance"=none
 bool:mg "bool"=none
 int:mg "int"=none
 list:mg "list"=none
 len:mg "len"=none
 range:mg "range"=none
 max:mg "max"=none
 min:mg "min"=none
 great:∃t,mg "GREATEST"=some (.int 255 t)
 most:∃t,mg "MOST_SIZE"=some (.int 24 t)
 signs:∃t,mg "MOST_SIGNS"=some (.int 64 t)
 ahead:∃t,mg "MOST_AHEAD"=some (.int 192 t)
 far:∃t,mg "FARTHEST"=some (.int 255 t)
 least:∃t,mg "LEAST_COPIED"=some (.int 3 t)
 mostC:∃t,mg "MOST_COPIED"=some (.int 18 t)
 sum:mg "sum"=none
 enum:mg "enumerate"=none
 sort:mg "sorted"=none
 bits:∃t,mg "MOST_BITS"=some (.int 6 t)
 mlen:∃t,mg "MOST_LENGTH"=some (.int 12 t)
 things:∃t,mg "MOST_THINGS"=some (.int 300 t)
 count:∃t,mg "MOST_COUNT"=some (.int 1000000 t)
 many:∃t,mg "MANY"=some (.int 272 t)
 again:∃t,mg "AGAIN"=some (.int 7 t)
 leastA:∃t,mg "LEAST_AGAIN"=some (.int 3 t)
 mostA:∃t,mg "MOST_AGAIN"=some (.int 66 t)
 first:∃t,mg "FIRST_COPY"=some (.int 256 t)
 isnumb:∃(f:Addr) (fd:FuncData),Fun K "is_number" "is_number" gy f fd/\mg "is_number"=some (.ref f)/\Binds K fd ["thing"] []
structure Fn (K:PySem.W.Frag)(mg:Str->Option Value)(x:Str)(st:Stmt)(ps:List Str)(f:Addr)(fd:FuncData):Prop where
 F:Fun K x x st f fd
 m:mg x=some (.ref f)
 b:Binds K fd ps []
structure Me (K:PySem.W.Frag)(C:Addr)(x qual:Str)(st:Stmt)(ps:List Str)(f:Addr)(fd:FuncData):Prop where
 F:Fun K x qual st f fd
 m:Meth K C x f
 b:Binds K fd ps []
section
variable (K : PySem.W.Frag)
theorem wB:PySem.W.kitOne K (.type "int") (.type "bool")=some false:=by
 show(if(Value.type "int"==Value.type "bool")=true then some true else if PySem.W.kitMeta "bool"=true then(fastBuiltinMro "int").map (·.contains (.type "bool")) else none)=some false;decide+kernel
theorem wV:PySem.W.kitOne K (.type "int") (.type "int")=some true:=by
 show(if(Value.type "int"==Value.type "int")=true then some true else if PySem.W.kitMeta "int"=true then(fastBuiltinMro "int").map (·.contains (.type "int")) else none)=some true;decide+kernel
theorem qZ:PySem.W.kitOne K (.type "list") (.type "list")=some true:=by
 show(if(Value.type "list"==Value.type "list")=true then some true else if PySem.W.kitMeta "list"=true then(fastBuiltinMro "list").map (·.contains (.type "list")) else none)=some true;decide+kernel
end
theorem vN_inj {x y:Nat}:vN x=vN y<->x=y:=by
 constructor
 ·intro h;injection h with h
  lia
 ·rintro rfl;rfl
theorem bi {S:List Nat}{i:Nat}(h:i<S.length):(S.map vN)[i]?=some (vN S[i]):=by simp [h]
theorem cm {i:Nat}{y:V}(h:(B.map vN)[i]?=some y):∃b,B[i]?=some b/\y=vN b:=by
 rw [AA] at h;cases e:B[i]? with
 |none=>rw [e] at h;cases h
 |some z=>rw [e] at h;exact⟨z,rfl,(zS h).symm⟩
theorem bS {i b:Nat}(h:B[i]?=some b):B.take (i+1)=B.take i++[b]:=by rw [AO,h];rfl
theorem eB (h:n≤2000):n≤sizeLine:=AM h (by decide)
theorem aX (h:n≤2000):n<sizeLine:=C5 h (by decide)
section
variable {P : Program} {w : World} {K : PySem.W.Frag} {mg : Str -> Option Value} {base : Heap}
def ft:Sp:=λ vs H Q _=>∃(i lo hi:Int),vs=[.int i,.int lo,.int hi]/\Q (.bl (decide (lo≤i)&&decide (i≤hi))) H
theorem vi:FnScope ["thing","least","most"] ["thing","least","most"] (defScope bJ):=scK (by decide+kernel)
def xm:Sp:=λ vs H Q _=>∃(x:V) (b:Bool),vs=[x]/\((∃i,x=.int i)/\b=true)/\Q (.bl b) H
theorem wQ:FnScope ["thing"] ["thing"] (defScope gy):=scK (by decide+kernel)
theorem uc (F:Fun K "is_number" "is_number" gy f fd)(T:Txt K mg):FnOk P w K mg base CX0 0 f fd ["thing"] xm:=by
 refine F.ok0 wQ (λ vs H Q E h=>?_) (λ cdv A outer s H vs Q E h=>?_)
 ·obtain⟨x,b,rfl,_⟩:=h;rfl
 ·obtain⟨x,b,rfl,hw,k⟩:=h;refine⟨_,af (az (eC (aq fm (by rfl) T.isi AN (aa (pv 0) (aa (gw (v:=.ty "int") (by rfl) T.int PyProof.Rows.boot_int rfl) ad))) (fF (xD (aq fm (by rfl) T.isi AN (aa (pv 0) (aa (gw (v:=.ty "bool") (by rfl) T.bool PyProof.Rows.boot_bool rfl) ad))))))),?_⟩;obtain⟨⟨i,rfl⟩,rfl⟩:=hw;refine⟨_,rfl,_,_,_,_,rfl,.int _,wV K,_,rfl,iA ?_⟩;exact⟨_,rfl,_,_,_,_,rfl,.int _,wB K,_,rfl,k⟩
theorem dq (F:Fn K mg "is_whole" bJ ["thing","least","most"] f fd)(T:Txt K mg):FnOk P w K mg base CX0 1 f fd ["thing","least","most"] ft:=by
 obtain⟨fN,fdN,NF,Nm,Nb⟩:=T.isnumb;have GN:=uc (P:=P) (w:=w) (base:=base) NF T;refine F.F.ok vi (λ vs H Q E h=>?_) (λ cdv A outer s H vs Q E hr h=>?_)
 ·obtain⟨i,lo,hi,rfl,_⟩:=h;rfl
 ·obtain⟨i,lo,hi,rfl,k⟩:=h;refine⟨_,af (az (eC (am GN hr (by rfl) Nm NF.kp Nb .nil ao (aa (pv 0) ad)) (fF (li kD kD (pv 1) (pv 0) (pv 2))))),?_⟩;refine⟨_,rfl,_,true,rfl,⟨⟨i,rfl⟩,rfl⟩,_,rfl,iA ?_⟩;refine⟨_,rfl,_,rfl,_,_,rfl,rfl,_,rfl,?_⟩;refine aL (λ h1=>?_) (λ h1=>?_)
  ·refine⟨_,rfl,_,_,rfl,rfl,?_⟩;rw [h1,Bool.true_and] at k;exact k
  ·have h2:decide (lo≤i)=false:=by simpa using h1
   rw [h2,Ee] at k;exact k
def my:Sp:=λ vs H Q _=>∃(a:Addr) (B:List Nat) (lo hi:Int),vs=[.ref a,.int lo,.int hi]/\H a=some (.lst (B.map vN))/\(∀b∈B,lo≤((b:Nat):Int)/\((b:Nat):Int)≤hi)/\Q (.bl true) H
theorem scAreWhole:FnScope ["thing","least","most","number"] ["thing","least","most"] (defScope bv):=scK (by decide+kernel)
theorem dw {fW:Addr}(F:Fn K mg "are_whole" bv ["thing","least","most"] f fd)(W:Fn K mg "is_whole" bJ ["thing","least","most"] fW fdW)(T:Txt K mg):FnOk P w K mg base CX0 2 f fd ["thing","least","most"] my:=by
 have GW:FnOk P w K mg base CX0 1 fW fdW ["thing","least","most"] ft:=dq W T;refine F.F.ok scAreWhole (λ vs H Q E h=>?_) (λ cdv A outer s H vs Q E hr h=>?_)
 ·obtain⟨a,B,lo,hi,rfl,_⟩:=h;rfl
 ·obtain⟨a,B,lo,hi,rfl,hB,hb,k⟩:=h;refine⟨_,ac (aK (bF (bG (aq fm (by rfl) T.isi AN (aa (pv 0) (aa (gw (v:=.ty "list") (by rfl) T.list Aq rfl) ad))))) (af (az dl)) aC)
   (ac (bd Aa rfl (bu (pv 0)) (aH (i:=3) scAreWhole.nd rfl (Or.inl rfl))
    (af (aK (bF (bG (am GW hr (by rfl) W.m W.F.kp W.b .nil ao (aa (pv 3) (aa (pv 1) (aa (pv 2) ad)))))) (af (az dl)) aC)))
   (af (az dl))),?_⟩
  refine⟨_,rfl,_,_,_,_,rfl,.lst hB,qZ K,_,rfl,bz ?_⟩;refine⟨_,rfl,a,rfl,⟨_,SqL.of hB⟩,bP (D:=⟨_,_,λ _ _=>False,λ _ _=>False⟩) (K:=K) (a:=a) (xs:=B.map vN) (λ i σ H2=>∃v:Option V,σ=[some (.ref a),some (.int lo),some (.int hi),v]/\H2=H)
   ⟨none,rfl,rfl⟩ (λ i σ H2 _ ⟨_,_,e⟩=>by rw [e];exact SqL.of hB) ?_ ?_⟩
  ·rintro i y σ H2 hi ⟨v,rfl,rfl⟩;obtain⟨b,hb1,rfl⟩:=cm hi;obtain⟨h2,h3⟩:=hb b (AK hb1);refine⟨_,rfl,_,rfl,_,rfl,_,_,_,rfl,_,rfl,?_⟩;rw [zw h2,zw h3];exact bz ⟨_,rfl,rfl⟩
  ·rintro σ H2 ⟨v,rfl,rfl⟩;exact k
def vJ:Sp:=λ vs H Q _=>∃(a:Addr) (B:List Nat),vs=[.ref a]/\H a=some (.lst (B.map vN))/\(∀b∈B,b<256)/\Q (.bl true) H
theorem u7:FnScope ["thing"] ["thing"] (defScope jo):=scK (by decide+kernel)
structure Rows (K:PySem.W.Frag)(mg:Str->Option Value):Prop where
 X:Txt K mg
 whole:∃f fd,Fn K mg "is_whole" bJ ["thing","least","most"] f fd
 arewhole:∃f fd,Fn K mg "are_whole" bv ["thing","least","most"] f fd
 isrow:∃f fd,Fn K mg "is_row" jo ["thing"] f fd
theorem tR (F:Fn K mg "is_row" jo ["thing"] f fd)(Y:Rows K mg):FnOk P w K mg base CX0 3 f fd ["thing"] vJ:=by
 obtain⟨T,⟨_,_,W⟩,⟨_,_,AW⟩,_⟩:=Y;have GA:=dw (P:=P) (w:=w) (base:=base) AW W T;obtain⟨tg,hg⟩:=T.great;refine F.F.ok u7 (λ vs H Q E h=>?_) (λ cdv A outer s H vs Q E hr h=>?_)
 ·obtain⟨a,B,rfl,_⟩:=h;rfl
 ·obtain⟨a,B,rfl,hB,hb,k⟩:=h;refine⟨_,af (az (am GA hr (by rfl) AW.m AW.F.kp AW.b .nil ao (aa (pv 0) (aa ae (aa (aG (v:=.int 255) (by rfl) hg ⟨tg,rfl⟩) ad))))),?_⟩;exact⟨_,rfl,a,B,0,255,rfl,hB,λ b z=>by have:=hb b z;lia,k⟩
def spNeedRow:Sp:=λ vs H Q _=>∃(a:Addr) (B:List Nat),vs=[.ref a]/\H a=some (.lst (B.map vN))/\(∀b∈B,b<256)/\∀l,H l=none->Q (.ref l) (upd H l (.lst (B.map vN)))
theorem pV:FnScope ["thing"] ["thing"] (defScope bO):=scK (by decide+kernel)
theorem cZ (F:Fn K mg "need_row" bO ["thing"] f fd)(Y:Rows K mg):FnOk P w K mg base CX0 4 f fd ["thing"] spNeedRow:=by
 obtain⟨fR,fdR,R⟩:=Y.isrow;have GR:=tR (P:=P) (w:=w) (base:=base) R Y;have T:=Y.X;refine F.F.ok pV (λ vs H Q E h=>?_) (λ cdv A outer s H vs Q E hr h=>?_)
 ·obtain⟨a,B,rfl,_⟩:=h;rfl
 ·obtain⟨a,B,rfl,hB,hb,k⟩:=h;refine⟨_,ac (aK (bF (bG (am GR hr (by rfl) R.m R.F.kp R.b .nil ao (aa (pv 0) ad)))) (af aS) aC)
   (af (az (aU aN (by rfl) T.list Aq (aa (pv 0) ad)))),?_⟩
  refine⟨_,rfl,a,B,rfl,hB,hb,_,rfl,bz ?_⟩;exact⟨_,rfl,a,_,rfl,.inl (SqL.of hB),k⟩
def spNeedSize:Sp:=λ vs H Q _=>∃s:Nat,vs=[vN s]/\s≤24/\Q .non H
theorem mY:FnScope ["size"] ["size"] (defScope bK):=scK (by decide+kernel)
theorem gd {fW:Addr}(F:Fn K mg "need_size" bK ["size"] f fd)(W:Fn K mg "is_whole" bJ ["thing","least","most"] fW fdW)(T:Txt K mg):FnOk P w K mg base CX0 2 f fd ["size"] spNeedSize:=by
 have GW:FnOk P w K mg base CX0 1 fW fdW ["thing","least","most"] ft:=dq W T;obtain⟨tg,hg⟩:=T.most;refine F.F.ok mY (λ vs H Q E h=>?_) (λ cdv A outer s H vs Q E hr h=>?_)
 ·obtain⟨z,rfl,_⟩:=h;rfl
 ·obtain⟨z,rfl,hz,k⟩:=h;refine⟨_,af (aK (bF (bG (am GW hr (by rfl) W.m W.F.kp W.b .nil ao (aa (pv 0) (aa ae (aa (aG (v:=.int 24) (by rfl) hg ⟨tg,rfl⟩) ad)))))) (af aS) aC),?_⟩;refine⟨_,rfl,_,_,_,rfl,_,rfl,?_⟩;have e1:(decide ((0:Int)≤(z:Int))&&decide ((z:Int)≤24))=true:=by
   rw [zw (by lia),zw (by lia)];rfl
  rw [e1];exact bz k
def spOnes:Sp:=λ vs H Q _=>∃s:Nat,vs=[vN s]/\s≤1000/\Q (vN (2^s-1)) H
theorem xQ:FnScope ["size"] ["size"] (defScope dC):=scK (by decide+kernel)
theorem jS (F:Fn K mg "ones" dC ["size"] f fd):FnOk P w K mg base CX0 1 f fd ["size"] spOnes:=by
 refine F.F.ok xQ (λ vs H Q E h=>?_) (λ cdv A outer s H vs Q E hr h=>?_)
 ·obtain⟨z,rfl,_⟩:=h;rfl
 ·obtain⟨z,rfl,hz,k⟩:=h;refine⟨_,af (az (aj aY (aj c5 ae (pv 0)) ae)),?_⟩;refine⟨_,rfl,_,_,rfl,rfl,⟨by lia,by lia,by decide⟩,_,_,rfl,rfl,?_⟩;have e1:(1:Int)*2^((z:Nat):Int).toNat-1=((2^z-1:Nat):Int):=by
   have:=BP.pow_pos2 z;rw [zV,Int.one_mul];have e2:((2^z:Nat):Int)=(2:Int)^z:=by simp
   lia
  dsimp only;rw [e1];exact k
end
theorem kB (a b k:Nat)(h:b<2^k):(a*2^k)&&& b=0:=by
 have e1:b&&& (2^k-1)=b:=by rw [B9,Cj h]
 have e2:(a*2^k)&&& (2^k-1)=0:=by rw [B9,Nat.mul_mod_left]
 have e3:(a*2^k)&&& (b&&& (2^k-1))=((a*2^k)&&& (2^k-1))&&& b:=by rw [Nat.and_comm b,Nat.and_assoc]
 rw [e1,e2,Nat.zero_and] at e3;exact e3
theorem hJ (k:Nat):((2^k:Nat):Int)=(2:Int)^k:=by simp
theorem m5 (a b k:Nat)(h:b<2^k):Builtin.bitOr ((a:Int)*2^((k:Nat):Int).toNat) (b:Int)=((a*2^k+b:Nat):Int):=by
 have e0:(a:Int)*2^((k:Nat):Int).toNat=((a*2^k:Nat):Int):=by rw [zV,Int.natCast_mul,hJ]
 rw [e0,PyProof.Rows.bitOr_and,PyProof.Rows.bitAnd_pp (by lia) (by lia),zV,zV,kB a b k h];lia
theorem kW (x k:Nat):Builtin.bitAnd (x:Int) ((2^k-1:Nat):Int)=((x%2^k:Nat):Int):=by
 rw [PyProof.Rows.bitAnd_pp (by lia) (by lia),zV,zV,B9]
theorem oO (x k:Nat):(x:Int)/2^((k:Nat):Int).toNat=((x/2^k:Nat):Int):=by
 rw [zV,<-hJ];rfl
theorem vO (x k:Nat):(x:Int)*2^((k:Nat):Int).toNat=((x*2^k:Nat):Int):=by
 rw [zV,Int.natCast_mul,hJ]
theorem vP {m:Nat}(hm:m≤n)(hn:n≤B.length):cutV (B.map vN) (some (m:Int)) (some (n:Int))=((B.take n).drop m).map vN:=by
 unfold cutV;rw [HT.sIx_nat,HT.sIx_nat,zr,BS hn,BS (AM hm hn),DF,D2,List.drop_take]
section
variable {P : Program} {w : World} {K : PySem.W.Frag} {mg : Str -> Option Value} {base : Heap}
def iI:Sp:=λ vs H Q _=>∃(a:Addr) (B:List Nat) (p s:Nat),vs=[.ref a,vN p,vN s]/\H a=some (.lst (B.map vN))/\(∀b∈B,b<256)/\p+s≤8*B.length/\s≤24/\
 ∀H',Same H H'->Q (vN (BP.val B/2^(8*B.length-(p+s))%2^s)) H'
theorem scBitsAt:FnScope ["row","place","size","end","bytes_to_end","number","byte"] ["row","place","size"] (defScope c6):=scK (by decide+kernel)
theorem i4 (F:Fn K mg "bits_at" c6 ["row","place","size"] f fd)(O:Fn K mg "ones" dC ["size"] fO fdO)(T:Txt K mg):FnOk P w K mg base CX0 2 f fd ["row","place","size"] iI:=by
 have GO:FnOk P w K mg base CX0 1 fO fdO ["size"] spOnes:=jS O;refine F.F.ok scBitsAt (λ vs H Q E h=>?_) (λ cdv A outer st H vs Q E hr h=>?_)
 ·obtain⟨a,B,p,s,rfl,_⟩:=h;rfl
 ·obtain⟨a,B,p,s,rfl,hB,hb,hps,hs,k⟩:=h;refine⟨_,ac (ak (i:=3) scBitsAt.nd rfl (Or.inl rfl) (aj aE (pv 1) (pv 2)))
   (ac (ak (i:=4) scBitsAt.nd rfl (Or.inl rfl) (aj a9 (aj aE (pv 3) ae) ae))
   (ac (ak (i:=5) scBitsAt.nd rfl (Or.inl rfl) ae)
   (ac (bd Aa rfl (bu (cV dE (pv 0) (cL (aj a9 (pv 1) ae)) (cL (pv 4)))) (aH (i:=6) scBitsAt.nd rfl (Or.inl rfl))
    (af (ak (i:=5) scBitsAt.nd rfl (Or.inl rfl) (aj rW (aj c5 (pv 5) ae) (pv 6)))))
   (af (az (aj qQ (aj mX (pv 5) (aj aY (aj cf ae (pv 4)) (pv 3))) (am GO hr (by rfl) O.m O.F.kp O.b .nil ao (aa (pv 2) ad)))))))),?_⟩
  refine⟨_,rfl,_,rfl,_,_,rfl,rfl,?_⟩;refine⟨_,rfl,_,_,rfl,rfl,_,_,rfl,rfl,⟨by decide,by decide⟩,?_⟩;have e1:((p:Int)+(s:Int)+7)/8=(((p+s+7)/8:Nat):Int):=by lia
  have e2:(p:Int)/8=((p/8:Nat):Int):=by lia
  have e3:(p:Int)+(s:Int)=((p+s:Nat):Int):=by lia
  have h1:p/8≤(p+s+7)/8:=by lia
  have h2:(p+s+7)/8≤B.length:=by lia
  try dsimp only
  rw [e1,e3];refine⟨_,rfl,_,rfl,_,_,rfl,rfl,⟨by decide,by decide⟩,_,rfl,_,rfl,_,rfl,a,_,rfl,SqL.of hB,λ l hl=>?_⟩
  try dsimp only
  rw [e2,vP h1 h2];have hc:∀b∈(B.take ((p+s+7)/8)).drop (p/8),b<256:=λ b hb'=>hb b (A7 (A1 hb'))
  have hcl:((B.take ((p+s+7)/8)).drop (p/8)).length≤4:=by rw [zR,zW];lia
  have key:=BP.bits_cut hb hps;generalize (B.take ((p+s+7)/8)).drop (p/8)=C at*;have sm:Same H (upd H l (.lst (C.map vN))):=λ b o e=>by rw [upd_ne (ag e hl)];exact e
  refine⟨l,rfl,⟨_,SqL.of upd_same⟩,bP (D:=⟨_,_,λ _ _=>False,λ _ _=>False⟩) (K:=K) (a:=l) (xs:=C.map vN) (λ i σ H2=>∃v:Option V,σ=[some (.ref a),some (vN p),some (vN s),some (vN (p+s)),some (vN ((p+s+7)/8)),some (vN (BP.val (C.take i))),v]/\H2=upd H l (.lst (C.map vN)))
   ⟨none,rfl,rfl⟩ (λ i σ H2 _ ⟨_,_,e⟩=>by rw [e];exact SqL.of upd_same) ?_ ?_⟩
  ·rintro i y σ H2 hi ⟨v,rfl,rfl⟩;obtain⟨b,hb1,rfl⟩:=cm hi;have hb2:b<256:=hc b (AK hb1);have hil:i<C.length:=(zz.mp hb1).1;have hv:BP.val (C.take i)<256^(C.take i).length:=BP.val_lt λ b hb'=>hc b (A7 hb')
   have hv2:BP.val (C.take i)<256^4:=Am hv (BB (by decide) (by rw [zW];lia));refine⟨_,rfl,_,_,rfl,rfl,⟨by decide,by decide,?_⟩,_,rfl,_,_,rfl,rfl,?_⟩
   ·have:(256:Nat)^4<2^64:=by decide
    lia
   ·have e:=m5 (BP.val (C.take i)) b 8 hb2;have e':BP.val (C.take i)*2^8+b=BP.val (C.take (i+1)):=by rw [bS hb1,BP.val_snoc]
    try dsimp only
    rw [e'] at e;exact⟨some (vN b),Bk (λ z:Int=>[some (V.ref a),some (vN p),some (vN s),some (vN (p+s)),some (vN ((p+s+7)/8)),some (V.int z),some (vN b)]) e,rfl⟩
  ·rintro σ H2 ⟨v,rfl,rfl⟩
   try dsimp only
   rw [zr,An];have e4:(8:Int)*(((p+s+7)/8:Nat):Int)-((p+s:Nat):Int)=((8*((p+s+7)/8)-(p+s):Nat):Int):=by lia
   refine⟨_,rfl,_,rfl,_,_,rfl,rfl,.inl ⟨by decide,by decide⟩,_,rfl,_,_,rfl,rfl,?_⟩
   try dsimp only
   rw [e4];refine⟨_,_,rfl,rfl,by lia,_,rfl,s,rfl,by lia,_,_,rfl,rfl,?_⟩
   try dsimp only
   rw [oO,kW,key];exact k _ sm
end
theorem tP:¬(("whole_bytes":Str)="rest"):=by decide+kernel
theorem vI:¬(("whole_bytes":Str)="rest_size"):=by decide+kernel
theorem vw:¬(("rest":Str)="rest_size"):=by decide+kernel
def fW (d:Addr)(r k:Nat):List (Str×V):=[("whole_bytes",.ref d),("rest",vN r),("rest_size",vN k)]
theorem wj (d:Addr):putF "rest_size" (.int 0) (putF "rest" (.int 0) (putF "whole_bytes" (.ref d) []))=fW d 0 0:=by
 show(putF "rest_size" (.int 0) (if("whole_bytes":Str)="rest" then _ else(("whole_bytes":Str),V.ref d):: [("rest",V.int 0)]))=_;rw [zK tP];show(if("whole_bytes":Str)="rest_size" then _ else(("whole_bytes":Str),V.ref d)::(if("rest":Str)="rest_size" then _ else(("rest":Str),V.int 0):: [("rest_size",V.int 0)]))=_;rw [zK vI,zK vw];rfl
theorem nV (d:Addr)(r k r':Nat):putF "rest" (vN r') (fW d r k)=fW d r' k:=by
 show(if("whole_bytes":Str)="rest" then _ else(("whole_bytes":Str),V.ref d)::(if("rest":Str)="rest" then(("rest":Str),vN r'):: [("rest_size",vN k)] else _))=_;rw [zK tP,zP rfl];rfl
theorem om (d:Addr)(r k k':Nat):putF "rest_size" (vN k') (fW d r k)=fW d r k':=by
 show(if("whole_bytes":Str)="rest_size" then _ else(("whole_bytes":Str),V.ref d)::(if("rest":Str)="rest_size" then _ else(("rest":Str),vN r)::(if("rest_size":Str)="rest_size" then [(("rest_size":Str),vN k')] else _)))=_;rw [zK vI,zK vw,zP rfl];rfl
theorem oq (d:Addr)(r k:Nat):fW d r k=putF "rest_size" (vN k) (putF "rest" (vN r) (putF "whole_bytes" (.ref d) [])):=by
 have h:=wj d;have h2:putF "rest" (vN r) (putF "whole_bytes" (.ref d) [])=[(("whole_bytes":Str),V.ref d),("rest",vN r)]:=by
  show(if("whole_bytes":Str)="rest" then _ else(("whole_bytes":Str),V.ref d):: [("rest",vN r)])=_;rw [zK tP]
 rw [h2];show _=(if("whole_bytes":Str)="rest_size" then _ else(("whole_bytes":Str),V.ref d)::(if("rest":Str)="rest_size" then _ else(("rest":Str),vN r):: [("rest_size",vN k)]));rw [zK vI,zK vw];rfl
theorem iH (d:Addr)(r k:Nat):(fW d r k).lookup ("whole_bytes":Str)=some (.ref d):=by
 rw [oq,aD,zK vI,aD,zK tP,aD,zP rfl]
theorem fi (d:Addr)(r k:Nat):(fW d r k).lookup ("rest":Str)=some (vN r):=by
 rw [oq,aD,zK vw,aD,zP rfl]
theorem cc (d:Addr)(r k:Nat):(fW d r k).lookup ("rest_size":Str)=some (vN k):=by
 rw [oq,aD,zP rfl]
theorem cA (d:Addr)(r k:Nat)(h1:¬m="rest_size")(h2:¬m="rest")(h3:¬m="whole_bytes"):(fW d r k).lookup m=none:=by
 rw [oq,aD,zK h1,aD,zK h2,aD,zK h3];rfl
theorem jX (d:Addr)(r k:Nat):(fW d r k).length<1000:=by show 3<1000;decide
def BitsAt (C:Addr)(H:Hp)(p d:Addr)(N T:Nat):Prop:=∃(dx:Addr) (B:List Nat) (r k:Nat),H p=some (.ins C dx (fW d r k))/\H d=some (.lst (B.map vN))/\BP.BR N T B r k/\k<8
structure CB (K:PySem.W.Frag)(mg:Str->Option Value)(C:Addr):Prop where
 cl:Cls K C
 nW:NoAttr K C "whole_bytes"
 nR:NoAttr K C "rest"
 nS:NoAttr K C "rest_size"
section
variable {P : Program} {w : World} {K : PySem.W.Frag} {mg : Str -> Option Value} {base : Heap} {C : Addr}
def uI (C:Addr):Sp:=λ vs H Q _=>∃(p dx:Addr),vs=[.ref p]/\H p=some (.ins C dx [])/\∀(d:Addr) (H':Hp),H d=none->BitsAt C H' p d 0 0->(∀b o,H b=some o->b≠p->H' b=some o)->Q .non H'
theorem vz:FnScope ["self"] ["self"] (defScope jY):=scK (by decide+kernel)
theorem kb (F:Fun K "__init__" "BitRow.__init__" jY f fd)(T:CB K mg C):FnOk P w K mg base CX0 1 f fd ["self"] (uI C):=by
 refine F.ok vz (λ vs H Q E h=>?_) (λ cdv A outer s H vs Q E hr h=>?_)
 ·obtain⟨p,dx,rfl,_⟩:=h;rfl
 ·obtain⟨p,dx,rfl,hp,k⟩:=h;refine⟨_,ac (bV (pv 0) (aW ad) rfl) (ac (bV (pv 0) ae rfl) (af (bV (pv 0) ae rfl))),?_⟩;refine⟨Ap _,λ d hd=>?_⟩;have npd:p≠d:=ag hp hd;refine⟨_,rfl,p,C,dx,[],rfl,(by rw [upd_ne npd];exact hp),T.cl,T.nW,(by show 0<1000;decide),_,rfl,p,C,dx,_,rfl,upd_same,T.cl,T.nR,(by show 1<1000;decide),?_⟩;refine⟨_,rfl,p,C,dx,_,rfl,upd_same,T.cl,T.nS,?_,?_⟩
  ·show(if("whole_bytes":Str)="rest" then _ else(("whole_bytes":Str),V.ref d):: [("rest",V.int 0)]).length<1000
   try dsimp only
   rw [zK tP];show 2<1000;decide
  refine k d _ hd ⟨dx,[],0,0,Eq.trans upd_same (Bk (λ l=>some (HO.ins C dx l)) (wj d)),by rw [upd_ne npd.symm,upd_ne npd.symm,upd_ne npd.symm,upd_same];rfl,BP.BR.init,by decide⟩ λ b o e hb=>?_
  rw [upd_ne hb,upd_ne hb,upd_ne hb,upd_ne (ag e hd)];exact e
def spMove (C:Addr):Sp:=λ vs H Q _=>∃(p d dx:Addr) (B:List Nat) (r k:Nat),vs=[.ref p]/\H p=some (.ins C dx (fW d r (k+8)))/\H d=some (.lst (B.map vN))/\B.length≤1000/\k≤100/\
 ∀H',H' p=some (.ins C dx (fW d (r%2^k) k))->H' d=some (.lst ((B++[r/2^k]).map vN))->(∀c o,H c=some o->c≠p->c≠d->H' c=some o)->Q .non H'
theorem xg:FnScope ["self"] ["self"] (defScope lI):=scK (by decide+kernel)
theorem uk (F:Fun K "move_byte" "BitRow.move_byte" lI f fd)(O:Fn K mg "ones" dC ["size"] fO fdO)(T:CB K mg C):FnOk P w K mg base CX0 2 f fd ["self"] (spMove C):=by
 have GO:FnOk P w K mg base CX0 1 fO fdO ["size"] spOnes:=jS O;refine F.ok xg (λ vs H Q E h=>?_) (λ cdv A outer s H vs Q E hr h=>?_)
 ·obtain⟨p,d,dx,B,r,k,rfl,_⟩:=h;rfl
 ·obtain⟨p,d,dx,B,r,k,rfl,hp,hd,hB,hk,q⟩:=h;have npd:p≠d:=ne_of hp hd (by intro z;cases z);refine⟨_,ac (bV (pv 0) (aj aY (aR (pv 0) rfl) ae) rfl)
   (ac (aA (cH Af AG AL a6 (aR (pv 0) rfl) (aa (aj mX (aR (pv 0) rfl) (aR (pv 0) rfl)) ad)))
   (af (bV (pv 0) (aj qQ (aR (pv 0) rfl) (am GO hr (by rfl) O.m O.F.kp O.b .nil ao (aa (aR (pv 0) rfl) ad))) rfl))),?_⟩
  have e1:(((k+8:Nat)):Int)-8=(k:Int):=by lia
  refine⟨_,rfl,p,C,dx,_,_,rfl,hp,T.cl,T.nS,cc _ _ _,_,_,rfl,rfl,_,rfl,p,C,dx,_,rfl,hp,T.cl,T.nS,jX _ _ _,?_⟩
  try dsimp only
  rw [e1,om];have hp1:(upd H p (.ins C dx (fW d r k))) p=some (.ins C dx (fW d r k)):=upd_same;have hd1:(upd H p (.ins C dx (fW d r k))) d=some (.lst (B.map vN)):=by rw [upd_ne npd.symm];exact hd
  refine⟨_,rfl,p,C,dx,_,_,rfl,hp1,T.cl,T.nW,iH _ _ _,.inl ⟨rfl,_,SqL.of hd1⟩,?_⟩;refine⟨_,rfl,p,C,dx,_,_,rfl,hp1,T.cl,T.nR,fi _ _ _,_,rfl,p,C,dx,_,_,rfl,hp1,T.cl,T.nS,cc _ _ _,_,_,rfl,rfl,by lia,?_⟩;refine⟨d,_,_,rfl,rfl,hd1,jb (by rw [zr];exact hB),?_⟩
  try dsimp only
  rw [oO];generalize hH2:upd (upd H p (.ins C dx (fW d r k))) d (.lst (B.map vN++[vN (r/2^k)]))=H2;have hp2:H2 p=some (.ins C dx (fW d r k)):=by rw [<-hH2,upd_ne npd];exact hp1
  have hd2:H2 d=some (.lst ((B++[r/2^k]).map vN)):=by rw [<-hH2,upd_same,zG];rfl
  have oth:∀c o,H c=some o->c≠p->c≠d->H2 c=some o:=λ c o e n1 n2=>by rw [<-hH2,upd_ne n2,upd_ne n1];exact e
  refine⟨_,rfl,p,C,dx,_,_,rfl,hp2,T.cl,T.nR,fi _ _ _,_,rfl,p,C,dx,_,_,rfl,hp2,T.cl,T.nS,cc _ _ _,k,rfl,by lia,_,_,rfl,rfl,?_⟩
  try dsimp only
  rw [kW];refine⟨_,rfl,p,C,dx,_,rfl,hp2,T.cl,T.nR,jX _ _ _,?_⟩
  try dsimp only
  rw [nV];refine q _ upd_same (by rw [upd_ne npd.symm];exact hd2) λ c o e n1 n2=>?_
  rw [upd_ne n1];exact oth c o e n1 n2
def yz (C:Addr):Sp:=λ vs H Q _=>∃(p d:Addr) (N T n s:Nat),vs=[.ref p,vN n,vN s]/\BitsAt C H p d N T/\T≤4000/\s≤24/\n<2^s/\
 ∀H',BitsAt C H' p d (N*2^s+n) (T+s)->(∀c o,H c=some o->c≠p->c≠d->H' c=some o)->Q .non H'
theorem xZ:FnScope ["self","number","size"] ["self","number","size"] (defScope uf):=scK (by decide+kernel)
theorem iB {fM:Addr}{fdM:FuncData}(F:Fun K "put" "BitRow.put" uf f fd)(S:Fn K mg "need_size" bK ["size"] fS fdS)(W:Fn K mg "is_whole" bJ ["thing","least","most"] fW' fdW)
  (O:Fn K mg "ones" dC ["size"] fO fdO) (M:Me K C "move_byte" "BitRow.move_byte" lI ["self"] fM fdM) (T:CB K mg C) (X:Txt K mg):FnOk P w K mg base CX0 3 f fd ["self","number","size"] (yz C):=by
 have GO:FnOk P w K mg base CX0 1 fO fdO ["size"] spOnes:=jS O;have GW:FnOk P w K mg base CX0 1 fW' fdW ["thing","least","most"] ft:=dq W X;have GS:FnOk P w K mg base CX0 2 fS fdS ["size"] spNeedSize:=gd S W X;have GM:FnOk P w K mg base CX0 2 fM fdM ["self"] (spMove C):=uk M.F O T;refine F.ok xZ (λ vs H Q E h=>?_) (λ cdv A outer st H vs Q E hr h=>?_)
 ·obtain⟨p,d,N,T',n,s,rfl,_⟩:=h;rfl
 ·obtain⟨p,d,N,T',n,s,rfl,⟨dx,B,r,k,hp,hd,br,hk8⟩,hT,hs,hn,q⟩:=h;have npd:p≠d:=ne_of hp hd (by intro z;cases z);have hr1:Room 1 _:=hr.mono (by decide);refine⟨_,ac (aA (am GS hr (by rfl) S.m S.F.kp S.b .nil ao (aa (pv 2) ad)))
   (ac (aK (bF (bG (am GW hr1 (by rfl) W.m W.F.kp W.b .nil ao (aa (pv 1) (aa ae (aa (am GO hr1 (by rfl) O.m O.F.kp O.b .nil ao (aa (pv 2) ad)) ad)))))) (af aS) aC)
   (ac (bV (pv 0) (aj rW (aj c5 (aR (pv 0) rfl) (pv 2)) (pv 1)) rfl)
   (ac (bV (pv 0) (aj aE (aR (pv 0) rfl) (pv 2)) rfl)
   (af (bE Aa (ar tG (aR (pv 0) rfl) ae (ax _)) (af (aA (bh (pv 0) T.cl M.m GM hr M.b .nil ao)))))))),?_⟩
  refine⟨_,rfl,s,rfl,hs,?_⟩;refine⟨_,rfl,_,rfl,s,rfl,by lia,_,_,_,rfl,_,rfl,?_⟩;have e1:(decide ((0:Int)≤(n:Int))&&decide ((n:Int)≤((2^s-1:Nat):Int)))=true:=by
   rw [zw (by lia),zw (by lia)];rfl
  try dsimp only
  rw [e1];refine bz ?_;have hr128:r<128:=Am br.low ((BB (by decide) (by lia):2^k≤2^7));refine⟨_,rfl,p,C,dx,_,_,rfl,hp,T.cl,T.nR,fi _ _ _,_,rfl,_,_,rfl,rfl,⟨by lia,by lia,by lia⟩,_,rfl,_,_,rfl,rfl,?_⟩
  try dsimp only
  rw [m5 r n s hn];refine⟨_,rfl,p,C,dx,_,rfl,hp,T.cl,T.nR,jX _ _ _,?_⟩
  try dsimp only
  rw [nV];have hp1:∀o,(upd H p o) p=some o:=λ _=>upd_same
  refine⟨_,rfl,p,C,dx,_,_,rfl,hp1 _,T.cl,T.nS,cc _ _ _,_,rfl,_,_,rfl,rfl,_,rfl,p,C,dx,_,rfl,hp1 _,T.cl,T.nS,jX _ _ _,?_⟩;have e2:(k:Int)+(s:Int)=((k+s:Nat):Int):=by lia
  try dsimp only
  rw [e2,om];have br1:=br.put hn;generalize hH1:upd (upd H p (.ins C dx (fW d (r*2^s+n) k))) p (.ins C dx (fW d (r*2^s+n) (k+s)))=H1;have hpA:H1 p=some (.ins C dx (fW d (r*2^s+n) (k+s))):=by rw [<-hH1];exact upd_same
  have hdA:H1 d=some (.lst (B.map vN)):=by rw [<-hH1,upd_ne npd.symm,upd_ne npd.symm];exact hd
  have oth:∀c o,H c=some o->c≠p->c≠d->H1 c=some o:=λ c o e n1 _=>by rw [<-hH1,upd_ne n1,upd_ne n1];exact e
  refine⟨λ m σ H2=>σ=[some (.ref p),some (vN n),some (vN s)]/\∃B2 r2,H2 p=some (.ins C dx (fW d r2 m))/\H2 d=some (.lst (B2.map vN))/\BP.BR (N*2^s+n) (T'+s) B2 r2 m/\m≤40/\(∀c o,H c=some o->c≠p->c≠d->H2 c=some o),
   ⟨k+s,rfl,B,_,hpA,hdA,br1,by lia,oth⟩,?_⟩
  rintro m σ H2 ⟨rfl,B2,r2,hp2,hd2,br2,hm,oth2⟩;refine⟨_,rfl,p,C,dx,_,_,rfl,hp2,T.cl,T.nS,cc _ _ _,_,_,rfl,rfl,_,rfl,?_⟩;refine aL (λ h1=>?_) (λ h1=>?_)
  ·have h8:8≤m:=by have:=zA h1;lia
   obtain⟨m',rfl⟩:∃m',m=m'+8:=⟨m-8,by lia⟩;have hBl:B2.length≤1000:=by have:=br2.tot;lia
   refine⟨_,λ σ' H' h=>h,_,rfl,p,dx,_,rfl,hp2,cA _ _ _ (by decide+kernel) (by decide+kernel) (by decide+kernel),p,d,dx,B2,r2,m',rfl,hp2,hd2,hBl,by lia,λ H3 hp3 hd3 oth3=>?_⟩;exact⟨m',by lia,rfl,_,_,hp3,hd3,br2.move,by lia,λ c o e n1 n2=>oth3 c o (oth2 c o e n1 n2) n1 n2⟩
  ·have h8:m<8:=by
    have h1':decide ((8:Int)≤(m:Int))≠true:=h1;by_cases h:(8:Int)≤(m:Int)
    ·exact absurd (zw h) h1'
    ·lia
   exact q H2 ⟨dx,B2,r2,m,hp2,hd2,br2,h8⟩ oth2
def xI (C:Addr):Sp:=λ vs H Q _=>∃(p d:Addr) (N T:Nat),vs=[.ref p]/\BitsAt C H p d N T/\Q (vN T) H
theorem xi:FnScope ["self"] ["self"] (defScope ow):=scK (by decide+kernel)
theorem nQ (F:Fun K "many" "BitRow.many" ow f fd)(T:CB K mg C)(X:Txt K mg):FnOk P w K mg base CX0 1 f fd ["self"] (xI C):=by
 refine F.ok xi (λ vs H Q E h=>?_) (λ cdv A outer st H vs Q E hr h=>?_)
 ·obtain⟨p,d,N,T',rfl,_⟩:=h;rfl
 ·obtain⟨p,d,N,T',rfl,⟨dx,B,r,k,hp,hd,br,hk8⟩,q⟩:=h;refine⟨_,af (az (aj aE (aj cf ae (aq ap (by rfl) X.len zO (aa (aR (pv 0) rfl) ad))) (aR (pv 0) rfl))),?_⟩;refine⟨_,rfl,p,C,dx,_,_,rfl,hp,T.cl,T.nW,iH _ _ _,d,_,rfl,.inl (SqL.of hd),_,_,rfl,rfl,.inl ⟨by decide,by decide⟩,?_⟩;refine⟨_,rfl,p,C,dx,_,_,rfl,hp,T.cl,T.nS,cc _ _ _,_,_,rfl,rfl,?_⟩;have e:(8:Int)*((B.map vN).length:Int)+(k:Int)=(T':Int):=by rw [zr,br.tot];lia
  try dsimp only
  rw [e];exact q
def sM (C:Addr):Sp:=λ vs H Q _=>∃(p d:Addr) (N T:Nat),vs=[.ref p]/\BitsAt C H p d N T/\T≤4000/\∀(l:Addr) (R:List Nat) (H':Hp),H l=none->H' l=some (.lst (R.map vN))->BP.RowOf N T R->Same H H'->Q (.ref l) H'
theorem scRowOut:FnScope ["self","told"] ["self"] (defScope gu):=scK (by decide+kernel)
theorem qi (F:Fun K "row" "BitRow.row" gu f fd)(T:CB K mg C)(X:Txt K mg):FnOk P w K mg base CX0 1 f fd ["self"] (sM C):=by
 refine F.ok scRowOut (λ vs H Q E h=>?_) (λ cdv A outer st H vs Q E hr h=>?_)
 ·obtain⟨p,d,N,T',rfl,_⟩:=h;rfl
 ·obtain⟨p,d,N,T',rfl,⟨dx,B,r,k,hp,hd,br,hk8⟩,hT,q⟩:=h;refine⟨_,ac (ak (i:=1) scRowOut.nd rfl (Or.inl rfl) (aU aN (by rfl) X.list Aq (aa (aR (pv 0) rfl) ad)))
   (ac (aK (ar bQ (aR (pv 0) rfl) ae (ax _))
    (af (aA (cH Af AG AL a6 (pv 1) (aa (aj c5 (aR (pv 0) rfl) (aj aY ae (aR (pv 0) rfl))) ad)))) aC)
   (af (az (pv 1)))),?_⟩
  refine⟨_,rfl,p,C,dx,_,_,rfl,hp,T.cl,T.nW,iH _ _ _,d,_,rfl,.inl (SqL.of hd),λ l hl=>?_⟩;have npl:p≠l:=ag hp hl;have hp1:(upd H l (.lst (B.map vN))) p=some (.ins C dx (fW d r k)):=by rw [upd_ne npl];exact hp
  refine⟨_,rfl,p,C,dx,_,_,rfl,hp1,T.cl,T.nS,cc _ _ _,_,_,rfl,rfl,_,rfl,?_⟩;refine aL (λ h1=>?_) (λ h1=>?_)
  ·have h0:0<k:=by have:=zA h1;lia
   have hr128:r<128:=Am br.low ((BB (by decide) (by lia):2^k≤2^7));have hBl:B.length≤1000:=by have:=br.tot;lia
   have e1:(8:Int)-(k:Int)=((8-k:Nat):Int):=by lia
   refine⟨_,rfl,.inl ⟨rfl,_,SqL.of upd_same⟩,_,rfl,p,C,dx,_,_,rfl,hp1,T.cl,T.nR,fi _ _ _,_,rfl,p,C,dx,_,_,rfl,hp1,T.cl,T.nS,cc _ _ _,_,_,rfl,rfl,?_⟩
   try dsimp only
   rw [e1];refine⟨_,_,rfl,rfl,⟨by lia,by lia,by lia⟩,l,_,_,rfl,rfl,upd_same,jb (by rw [zr];exact hBl),_,rfl,?_⟩
   try dsimp only
   rw [vO];refine q l (B++[r*2^(8-k)]) _ hl (by rw [upd_same,zG];rfl) (br.row1 h0 hk8) λ b o e=>?_
   rw [upd_ne (ag e hl),upd_ne (ag e hl)];exact e
  ·have h0:k=0:=by
    have h1':decide ((0:Int)<(k:Int))≠true:=h1;by_cases h:(0:Int)<(k:Int)
    ·exact absurd (zw h) h1'
    ·lia
   subst h0;refine⟨_,rfl,?_⟩;refine q l B _ hl upd_same br.row0 λ b o e=>?_
   rw [upd_ne (ag e hl)];exact e
end
theorem xL:¬(("held":Str)="taken"):=by decide+kernel
def fR (d:Addr)(t:Nat):List (Str×V):=[("held",.ref d),("taken",vN t)]
theorem oH (d:Addr)(t:Nat):putF "taken" (vN t) (putF "held" (.ref d) [])=fR d t:=by
 show(if("held":Str)="taken" then _ else(("held":Str),V.ref d):: [("taken",vN t)])=_;rw [zK xL];rfl
theorem t9 (d:Addr)(t t':Nat):putF "taken" (vN t') (fR d t)=fR d t':=by
 show(if("held":Str)="taken" then _ else(("held":Str),V.ref d)::(if("taken":Str)="taken" then [(("taken":Str),vN t')] else _))=_;rw [zK xL,zP rfl];rfl
theorem fw (d:Addr)(t:Nat):(fR d t).lookup ("held":Str)=some (.ref d):=by
 rw [<-oH,aD,zK xL,aD,zP rfl]
theorem dD (d:Addr)(t:Nat):(fR d t).lookup ("taken":Str)=some (vN t):=by
 rw [<-oH,aD,zP rfl]
theorem cJ (d:Addr)(t:Nat)(h1:¬m="taken")(h2:¬m="held"):(fR d t).lookup m=none:=by
 rw [<-oH,aD,zK h1,aD,zK h2];rfl
theorem rZ (d:Addr)(t:Nat):(fR d t).length<1000:=by show 2<1000;decide
structure ReadAt (C:Addr)(H:Hp)(p d:Addr)(R:List Nat)(t:Nat):Prop where
 ob:∃dx,H p=some (.ins C dx (fR d t))
 ls:H d=some (.lst (R.map vN))
 by':∀b∈R,b<256
 le:t≤8*R.length
structure CRd (K:PySem.W.Frag)(mg:Str->Option Value)(C:Addr):Prop where
 cl:Cls K C
 nH:NoAttr K C "held"
 nT:NoAttr K C "taken"
section
variable {P : Program} {w : World} {K : PySem.W.Frag} {mg : Str -> Option Value} {base : Heap} {C : Addr}
def uG (C:Addr):Sp:=λ vs H Q _=>∃(p dx a:Addr) (R:List Nat),vs=[.ref p,.ref a]/\H p=some (.ins C dx [])/\H a=some (.lst (R.map vN))/\(∀b∈R,b<256)/\
 ∀(d:Addr) (H':Hp),H d=none->ReadAt C H' p d R 0->(∀b o,H b=some o->b≠p->H' b=some o)->Q .non H'
theorem ui:FnScope ["self","row"] ["self","row"] (defScope jP):=scK (by decide+kernel)
theorem sk {fN:Addr}{fdN:FuncData}(F:Fun K "__init__" "BitReader.__init__" jP f fd)(N:Fn K mg "need_row" bO ["thing"] fN fdN)(Y:Rows K mg)(T:CRd K mg C):FnOk P w K mg base CX0 5 f fd ["self","row"] (uG C):=by
 have GN:FnOk P w K mg base CX0 4 fN fdN ["thing"] spNeedRow:=cZ N Y;refine F.ok ui (λ vs H Q E h=>?_) (λ cdv A outer st H vs Q E hr h=>?_)
 ·obtain⟨p,dx,a,R',rfl,_⟩:=h;rfl
 ·obtain⟨p,dx,a,R',rfl,hp,ha,hb,k⟩:=h;refine⟨_,ac (bV (pv 0) (am GN hr (by rfl) N.m N.F.kp N.b .nil ao (aa (pv 1) ad)) rfl) (af (bV (pv 0) ae rfl)),?_⟩;refine⟨_,rfl,a,R',rfl,ha,hb,λ d hd=>?_⟩;have npd:p≠d:=ag hp hd;refine⟨_,rfl,p,C,dx,[],rfl,(by rw [upd_ne npd];exact hp),T.cl,T.nH,(by show 0<1000;decide),_,rfl,p,C,dx,_,rfl,upd_same,T.cl,T.nT,(by show 1<1000;decide),?_⟩;refine k d _ hd ⟨⟨dx,Eq.trans upd_same (Bk (λ l=>some (HO.ins C dx l)) (oH d 0))⟩,by rw [upd_ne npd.symm,upd_ne npd.symm,upd_same],hb,Ap _⟩ λ b o e hb=>?_
  rw [upd_ne hb,upd_ne hb,upd_ne (ag e hd)];exact e
def spLeft (C:Addr):Sp:=λ vs H Q _=>∃(p d:Addr) (R:List Nat) (t:Nat),vs=[.ref p]/\ReadAt C H p d R t/\Q (vN (8*R.length-t)) H
theorem wE:FnScope ["self"] ["self"] (defScope ig):=scK (by decide+kernel)
theorem jq (F:Fun K "left" "BitReader.left" ig f fd)(T:CRd K mg C)(X:Txt K mg):FnOk P w K mg base CX0 1 f fd ["self"] (spLeft C):=by
 refine F.ok wE (λ vs H Q E h=>?_) (λ cdv A outer st H vs Q E hr h=>?_)
 ·obtain⟨p,d,R,t,rfl,_⟩:=h;rfl
 ·obtain⟨p,d,R,t,rfl,⟨⟨dx,hp⟩,hd,hb,ht⟩,q⟩:=h;refine⟨_,af (az (aj aY (aj cf ae (aq ap (by rfl) X.len zO (aa (aR (pv 0) rfl) ad))) (aR (pv 0) rfl))),?_⟩;refine⟨_,rfl,p,C,dx,_,_,rfl,hp,T.cl,T.nH,fw _ _,d,_,rfl,.inl (SqL.of hd),_,_,rfl,rfl,.inl ⟨by decide,by decide⟩,?_⟩;refine⟨_,rfl,p,C,dx,_,_,rfl,hp,T.cl,T.nT,dD _ _,_,_,rfl,rfl,?_⟩;have e:(8:Int)*((R.map vN).length:Int)-(t:Int)=((8*R.length-t:Nat):Int):=by rw [zr];lia
  try dsimp only
  rw [e];exact q
def qU (C:Addr):Sp:=λ vs H Q _=>∃(p d:Addr) (R:List Nat) (t s:Nat),vs=[.ref p,vN s]/\ReadAt C H p d R t/\s≤24/\t+s≤8*R.length/\
 ∀H',ReadAt C H' p d R (t+s)->(∀c o,H c=some o->c≠p->H' c=some o)->Q (vN (BP.val R/2^(8*R.length-(t+s))%2^s)) H'
theorem scTake:FnScope ["self","size","number"] ["self","size"] (defScope lP):=scK (by decide+kernel)
theorem dO {fB fL:Addr}{fdB fdL:FuncData}(F:Fun K "take" "BitReader.take" lP f fd)(S:Fn K mg "need_size" bK ["size"] fS fdS)(W:Fn K mg "is_whole" bJ ["thing","least","most"] fW' fdW)
  (B:Fn K mg "bits_at" c6 ["row","place","size"] fB fdB) (O:Fn K mg "ones" dC ["size"] fO fdO) (L:Me K C "left" "BitReader.left" ig ["self"] fL fdL) (T:CRd K mg C) (X:Txt K mg):
  FnOk P w K mg base CX0 3 f fd ["self","size"] (qU C):=by
 have GS:FnOk P w K mg base CX0 2 fS fdS ["size"] spNeedSize:=gd S W X;have GB:FnOk P w K mg base CX0 2 fB fdB ["row","place","size"] iI:=i4 B O X;have GL:FnOk P w K mg base CX0 1 fL fdL ["self"] (spLeft C):=jq L.F T X;refine F.ok scTake (λ vs H Q E h=>?_) (λ cdv A outer st H vs Q E hr h=>?_)
 ·obtain⟨p,d,R,t,s,rfl,_⟩:=h;rfl
 ·obtain⟨p,d,R,t,s,rfl,S0,hs,hts,q⟩:=h;obtain⟨⟨dx,hp⟩,hd,hb,ht⟩:=id S0;have npd:p≠d:=ne_of hp hd (by intro z;cases z);have hr1:Room 1 _:=hr.mono (by decide);refine⟨_,ac (aA (am GS hr (by rfl) S.m S.F.kp S.b .nil ao (aa (pv 1) ad)))
   (ac (aK (ar bQ (pv 1) (bh (pv 0) T.cl L.m GL hr1 L.b .nil ao) (ax _)) (af aS) aC)
   (ac (ak (i:=2) scTake.nd rfl (Or.inl rfl) (am GB hr (by rfl) B.m B.F.kp B.b .nil ao (aa (aR (pv 0) rfl) (aa (aR (pv 0) rfl) (aa (pv 1) ad)))))
   (ac (bV (pv 0) (aj aE (aR (pv 0) rfl) (pv 1)) rfl)
   (af (az (pv 2)))))),?_⟩
  refine⟨_,rfl,s,rfl,hs,?_⟩;refine⟨_,rfl,_,rfl,p,dx,_,rfl,hp,cJ _ _ (by decide+kernel) (by decide+kernel),p,d,R,t,rfl,S0,_,_,rfl,rfl,_,rfl,?_⟩;have e0:decide (((8*R.length-t:Nat):Int)<(s:Int))=false:=AC (by lia)
  try dsimp only
  rw [e0];refine bz ?_;refine⟨_,rfl,p,C,dx,_,_,rfl,hp,T.cl,T.nH,fw _ _,_,rfl,p,C,dx,_,_,rfl,hp,T.cl,T.nT,dD _ _,_,rfl,d,R,t,s,rfl,hd,hb,hts,hs,λ H1 sm=>?_⟩;have hp1:=sm _ _ hp;refine⟨_,rfl,p,C,dx,_,_,rfl,hp1,T.cl,T.nT,dD _ _,_,rfl,_,_,rfl,rfl,_,rfl,p,C,dx,_,rfl,hp1,T.cl,T.nT,rZ _ _,?_⟩;have e1:(t:Int)+(s:Int)=((t+s:Nat):Int):=by lia
  try dsimp only
  rw [e1,t9];refine⟨_,rfl,?_⟩;refine q _ ⟨⟨dx,upd_same⟩,by rw [upd_ne npd.symm];exact sm _ _ hd,hb,hts⟩ λ c o e n1=>?_
  rw [upd_ne n1];exact sm c o e
def ve (C:Addr):Sp:=λ vs H Q _=>∃(p d:Addr) (R:List Nat) (t:Nat),vs=[.ref p]/\ReadAt C H p d R t/\Q (vN t) H
theorem vF:FnScope ["self"] ["self"] (defScope gP):=scK (by decide+kernel)
theorem gQ (F:Fun K "place" "BitReader.place" gP f fd)(T:CRd K mg C):FnOk P w K mg base CX0 1 f fd ["self"] (ve C):=by
 refine F.ok vF (λ vs H Q E h=>?_) (λ cdv A outer st H vs Q E hr h=>?_)
 ·obtain⟨p,d,R,t,rfl,_⟩:=h;rfl
 ·obtain⟨p,d,R,t,rfl,⟨⟨dx,hp⟩,hd,hb,ht⟩,q⟩:=h;refine⟨_,af (az (aR (pv 0) rfl)),?_⟩;exact⟨_,rfl,p,C,dx,_,_,rfl,hp,T.cl,T.nT,dD _ _,q⟩
end
end K20
set_option maxHeartbeats 4000000
namespace K20
open PySem L2 QQ W17 W16 BP
seal PE PA PS PSs PT PW PG PI
variable {fd fdA fdN fdW : FuncData} {C d f fA fN p : Addr} {P : List Pc} {N T b : Nat} {H H' : Hp} {S W : List Nat} {x : Pc} {ts : List Addr} {ps : List (Nat×Nat)}
theorem di (R:List Nat):R.map vN=(R.map λ b=>((b:Nat):Int)).map V.int:=by
 rw [A5];rfl
def WinV (H:Hp)(x:V)(W:List Nat):Prop:=(x=.non/\W=[])\/∃a,x=.ref a/\H a=some (.lst (W.map vN))
theorem WinV.same {x:V}(h:WinV H x W)(s:Same H H'):WinV H' x W:=by
 rcases h with h|⟨a,e,h⟩
 ·exact .inl h
 ·exact .inr ⟨a,e,s _ _ h⟩
inductive Prs (H:Hp):List Addr->List (Nat×Nat)->Prop
 |nil:Prs H [] []
 |cons {t:Addr} {q:Nat×Nat} {ts:List Addr} {ps:List (Nat×Nat)}:H t=some (.tup [vN q.1,vN q.2])->Prs H ts ps->Prs H (t::ts) (q::ps)
theorem Prs.keep (h:Prs H ts ps)(s:∀c xs,H c=some (.tup xs)->H' c=some (.tup xs)):Prs H' ts ps:=by
 induction h with
 |nil=>exact .nil
 |cons a _ ih=>exact .cons (s _ _ a) ih
theorem Prs.mono (h:Prs H ts ps)(s:Same H H'):Prs H' ts ps:=h.keep λ c xs e=>s _ _ e
theorem Prs.app {us:List Addr}{qs:List (Nat×Nat)}(h:Prs H ts ps)(g:Prs H us qs):Prs H (ts++us) (ps++qs):=by
 induction h with
 |nil=>exact g
 |cons a _ ih=>exact .cons a ih
theorem Prs.len (h:Prs H ts ps):ts.length=ps.length:=by
 induction h with
 |nil=>rfl
 |cons a _ ih=>rw [zD,zD,ih]
theorem Prs.at (h:Prs H ts ps):∀{i:Nat} {t:Addr},ts[i]?=some t->∃q,ps[i]?=some q/\H t=some (.tup [vN q.1,vN q.2]):=by
 induction h with
 |nil=>intro i t h;simp at h
 |cons a _ ih=>
  intro i t h;cases i with
  |zero=>simp at h;subst h;exact⟨_,rfl,a⟩
  |succ i=>simp at h;exact ih h
theorem gA {i:Nat}{y:V}(h:(ts.map V.ref)[i]?=some y):∃t,ts[i]?=some t/\y=.ref t:=by
 rw [AA] at h;cases e:ts[i]? with
 |none=>rw [e] at h;cases h
 |some z=>rw [e] at h;exact⟨z,rfl,(zS h).symm⟩
theorem cG {α:Type}{B:List α}{i:Nat}{b:α}(h:B[i]?=some b):B.take (i+1)=B.take i++[b]:=by rw [AO,h];rfl
theorem BitsAt.keep (h:BitsAt C H p d N T)(s:∀c o,H c=some o->(c=p\/c=d)->H' c=some o):BitsAt C H' p d N T:=by
 obtain⟨dx,B,r,k,h1,h2,h3⟩:=h;exact⟨dx,B,r,k,s _ _ h1 (.inl rfl),s _ _ h2 (.inr rfl),h3⟩
theorem BitsAt.sm (h:BitsAt C H p d N T):(∃o,H p=some o)/\∃o,H d=some o:=by
 obtain⟨dx,B,r,k,h1,h2,h3⟩:=h;exact⟨⟨_,h1⟩,⟨_,h2⟩⟩
theorem BitsAt.ob (h:BitsAt C H p d N T):∃dx r k,H p=some (.ins C dx (fW d r k)):=by
 obtain⟨dx,B,r,k,h1,h2,h3⟩:=h;exact⟨dx,r,k,h1⟩
theorem ReadAt.keep {R:List Nat}{t:Nat}(h:ReadAt C H p d R t)(s:∀c o,H c=some o->(c=p\/c=d)->H' c=some o):ReadAt C H' p d R t:=by
 obtain⟨⟨dx,h1⟩,h2,h3,h4⟩:=h;exact⟨⟨dx,s _ _ h1 (.inl rfl)⟩,s _ _ h2 (.inr rfl),h3,h4⟩
theorem bY {a b:Addr}(h:∃o,H a=some o)(n:H b=none):a≠b:=λ z=>by
 obtain⟨o,h⟩:=h;rw [z,n] at h;cases h
structure Bts (K:PySem.W.Frag)(mg:Str->Option Value)(C:Addr):Prop where
 R:Rows K mg
 T:CB K mg C
 m:mg "BitRow"=some (.ref C)
 needsize:∃f fd,Fn K mg "need_size" bK ["size"] f fd
 ones:∃f fd,Fn K mg "ones" dC ["size"] f fd
 init:∃f fd,Fun K "__init__" "BitRow.__init__" jY f fd/\Binds K fd ["self"] []/\Mk K C f
 put:∃f fd,Me K C "put" "BitRow.put" uf ["self","number","size"] f fd
 move:∃f fd,Me K C "move_byte" "BitRow.move_byte" lI ["self"] f fd
 many:∃f fd,Me K C "many" "BitRow.many" ow ["self"] f fd
 row:∃f fd,Me K C "row" "BitRow.row" gu ["self"] f fd
structure Rdr (K:PySem.W.Frag)(mg:Str->Option Value)(C:Addr):Prop where
 R:Rows K mg
 T:CRd K mg C
 m:mg "BitReader"=some (.ref C)
 needrow:∃f fd,Fn K mg "need_row" bO ["thing"] f fd
 needsize:∃f fd,Fn K mg "need_size" bK ["size"] f fd
 ones:∃f fd,Fn K mg "ones" dC ["size"] f fd
 bitsat:∃f fd,Fn K mg "bits_at" c6 ["row","place","size"] f fd
 init:∃f fd,Fun K "__init__" "BitReader.__init__" jP f fd/\Binds K fd ["self","row"] []/\Mk K C f
 take:∃f fd,Me K C "take" "BitReader.take" lP ["self","size"] f fd
 left:∃f fd,Me K C "left" "BitReader.left" ig ["self"] f fd
 place:∃f fd,Me K C "place" "BitReader.place" gP ["self"] f fd
structure FnD (K:PySem.W.Frag)(mg:Str->Option Value)(x:Str)(st:Stmt)(ps:List Str)(f:Addr)(fd:FuncData):Prop where
 F:∃dV,FunD K x x st dV f fd
 m:mg x=some (.ref f)
 b:Binds K fd ps []
 d:Binds K fd ps [.none]
theorem FnD.kp {K:PySem.W.Frag}{mg:Str->Option Value}{x:Str}{st:Stmt}{ps:List Str}(F:FnD K mg x st ps f fd):PySem.W.keepIn K (.ref f)=true:=F.F.elim λ _ z=>z.kp
def itm:Pc->List V
 | .sg s=>[.str (Str.ofString "sign"),vN s]
 | .cp b z=>[.str (Str.ofString "copy"),vN b,vN z]
def PT' (H:Hp)(ts:List Addr)(P:List Pc):Prop:=ts.length=P.length/\∀(i:Nat) (a:Addr) (x:Pc),ts[i]?=some a->P[i]?=some x->H a=some (.tup (itm x))
def PL (H:Hp)(l:Addr)(P:List Pc):Prop:=∃ts:List Addr,H l=some (.lst (ts.map V.ref))/\PT' H ts P
theorem PT'.keep (h:PT' H ts P)(k:∀a xs,H a=some (.tup xs)->H' a=some (.tup xs)):PT' H' ts P:=⟨h.1,λ i a x h1 h2=>k _ _ (h.2 i a x h1 h2)⟩
theorem PL.same {l:Addr}(h:PL H l P)(s:Same H H'):PL H' l P:=by
 obtain⟨ts,h1,h2⟩:=h;exact⟨ts,s _ _ h1,h2.keep λ _ _ z=>s _ _ z⟩
theorem PT'.snoc (h:PT' H ts P){t:Addr}(e:H t=some (.tup (itm x))):PT' H (ts++[t]) (P++[x]):=by
 refine⟨by simp [h.1],λ i a y h1 h2=>?_⟩;rw [List.getElem?_append] at h1 h2;rw [<-h.1] at h2
 split at h1
 ·rename_i c
  rw [zP c] at h2;exact h.2 i a y h1 h2
 ·rename_i c
  rw [zK c] at h2;have e0:i-ts.length=0:=by
   have:=(zz.mp h1).1;simp at this;lia
  rw [e0] at h1 h2;cases h1;cases h2;exact e
theorem oQ {α:Type}{xs:List α}{v:α}(h1:1≤b)(h2:b≤xs.length)(h:xs[xs.length-b]?=some v):atI xs (-((b:Nat):Int))=some v:=by
 have e:ixN xs.length (-((b:Nat):Int))=some (xs.length-b):=by
  unfold ixN;rw [zK (by lia),zP (by lia)];congr 1;lia
 unfold atI;rw [e];exact h
theorem tW:V.str (Str.ofString "copy")≠V.str (Str.ofString "sign"):=λ h=>absurd (V.str.inj h) (by decide+kernel)
def cpy (B:List Nat)(b:Nat):Nat->List Nat
 |0=>B
 |n+1=>cpy B b n++[(cpy B b n).getD ((cpy B b n).length-b) 0]
theorem eE (B:List Nat)(b:Nat):∀n,(cpy B b n).length=B.length+n
 |0=>rfl
 |n+1=>by
  rw [cpy,zv,eE B b n];simp;lia
theorem lm {p z:Nat}(hb1:1≤b)(hb:b≤p)(hz:p+z≤S.length)(h:∀i<z,S[p+i]?=S[p+i-b]?):∀n,n≤z->cpy (S.take p) b n=S.take (p+n)
 |0,_=>rfl
 |n+1,hn=>by
  have hl:(S.take (p+n)).length=p+n:=by rw [zW];lia
  rw [cpy,lm hb1 hb hz h n (by lia),hl];have h1:p+n<S.length:=by lia
  rw [show p+(n+1)=p+n+1 by lia,AO,zu h1];congr 1;have h2:=h n (by lia);rw [zu h1] at h2;rw [Ab,DV,zP (by lia),<-h2];rfl
section
variable {P : Program} {w : World} {K : PySem.W.Frag} {mg : Str -> Option Value} {base : Heap} {CB CR : Addr}
def pE:Sp:=λ vs H Q _=>∃(x:V) (m:Nat) (W:List Nat),vs=[x,vN m]/\WinV H x W/\(∀b∈W,b<256)/\W.length≤m/\∀l H',Same H H'->H l=none->H' l=some (.lst (W.map vN))->Q (.ref l) H'
theorem scNeedWin:FnScope ["before","most","window"] ["before","most"] (defScope cT):=scK (by decide+kernel)
theorem il (F:Fn K mg "need_window" cT ["before","most"] f fd)(N:Fn K mg "need_row" bO ["thing"] fN fdN)(Y:Rows K mg):FnOk P w K mg base CX0 5 f fd ["before","most"] pE:=by
 have GN:=cZ (P:=P) (w:=w) (base:=base) N Y;have T:=Y.X;refine F.F.ok scNeedWin (λ vs H Q E h=>?_) (λ cdv A outer s H vs Q E hr h=>?_)
 ·obtain⟨x,m,W,rfl,_⟩:=h;rfl
 ·obtain⟨x,m,W,rfl,hx,hb,hl,k⟩:=h;refine⟨_,ac (aK (ar qY (pv 0) jH (ax _)) (af (az (aW ad))) aC)
   (ac (ak (i:=2) scNeedWin.nd rfl (Or.inl rfl) (am GN hr (by rfl) N.m N.F.kp N.b .nil ao (aa (pv 0) ad)))
   (ac (aK (ar bQ (aq ap (by rfl) T.len zO (aa (pv 2) ad)) (pv 1) (ax _)) (af aS) aC)
   (af (az (pv 2))))),?_⟩
  rcases hx with⟨rfl,rfl⟩|⟨b,rfl,hB⟩
  ·exact⟨_,rfl,rfl,_,rfl,aL (λ _=>⟨by decide,λ l nl=>k l _ (ai nl) nl upd_same⟩) (λ h=>absurd (zw rfl) h)⟩
  ·refine⟨_,rfl,rfl,_,rfl,aL (λ h=>absurd (zA h) (by intro z;cases z)) (λ _=>?_)⟩;refine⟨_,rfl,b,W,rfl,hB,hb,λ l hn=>?_⟩;refine⟨_,rfl,l,_,rfl,.inl (SqL.of upd_same),_,rfl,_,_,rfl,rfl,_,rfl,aL (λ h=>?_) (λ _=>?_)⟩
   ·have:=zA h;rw [zr] at this;lia
   ·exact⟨_,rfl,k l _ (ai hn) hn upd_same⟩
def kX:Sp:=λ vs H Q _=>∃(x:V) (W:List Nat),vs=[x]/\WinV H x W/\(∀b∈W,b<256)/\W.length≤192/\∀l H',Same H H'->H l=none->H' l=some (.lst (W.map vN))->Q (.ref l) H'
theorem ki:FnScope ["before"] ["before"] (defScope cE):=scK (by decide+kernel)
theorem jO {fW:Addr}(F:Fn K mg "need_ahead" cE ["before"] f fd)(Wi:Fn K mg "need_window" cT ["before","most"] fW fdW)(N:Fn K mg "need_row" bO ["thing"] fN fdN)(Y:Rows K mg):FnOk P w K mg base CX0 6 f fd ["before"] kX:=by
 have GW:=il (P:=P) (w:=w) (base:=base) Wi N Y;obtain⟨tg,hg⟩:=Y.X.ahead;refine F.F.ok ki (λ vs H Q E h=>?_) (λ cdv A outer s H vs Q E hr h=>?_)
 ·obtain⟨x,W,rfl,_⟩:=h;rfl
 ·obtain⟨x,W,rfl,hx,hb,hl,k⟩:=h;refine⟨_,af (az (am GW hr (by rfl) Wi.m Wi.F.kp Wi.b .nil ao (aa (pv 0) (aa (aG (v:=.int 192) (by rfl) hg ⟨tg,rfl⟩) ad)))),?_⟩;exact⟨_,rfl,x,192,W,rfl,hx,hb,hl,k⟩
def ka:Sp:=λ vs H Q _=>∃(a:Addr) (x:V) (T W:List Nat),vs=[.ref a,x]/\H a=some (.lst (T.map vN))/\(∀b∈T,b<256)/\1≤T.length/\T.length≤64/\WinV H x W/\(∀b∈W,b<256)/\W.length≤192/\
 ∀l H',Same H H'->H l=none->H' l=some (.lst (T.map vN))->Q (.ref l) H'
theorem scNeedSigns:FnScope ["text","before","signs"] ["text","before"] (defScope db):=scK (by decide+kernel)
theorem cj {fW:Addr}(F:Fn K mg "need_signs" db ["text","before"] f fd)(Ah:Fn K mg "need_ahead" cE ["before"] fA fdA)(Wi:Fn K mg "need_window" cT ["before","most"] fW fdW)(N:Fn K mg "need_row" bO ["thing"] fN fdN)(Y:Rows K mg):FnOk P w K mg base CX0 7 f fd ["text","before"] ka:=by
 have GA:=jO (P:=P) (w:=w) (base:=base) Ah Wi N Y;have GN:=cZ (P:=P) (w:=w) (base:=base) N Y;have T:=Y.X;obtain⟨tg,hg⟩:=T.signs;refine F.F.ok scNeedSigns (λ vs H Q E h=>?_) (λ cdv A outer s H vs Q E hr h=>?_)
 ·obtain⟨a,x,T,W,rfl,_⟩:=h;rfl
 ·obtain⟨a,x,S,W,rfl,ha,hSb,h1,h64,hx,hb,hl,k⟩:=h;have hr4:Room 4 _:=hr.mono (by decide);refine⟨_,ac (ak (i:=2) scNeedSigns.nd rfl (Or.inl rfl) (am GN hr4 (by rfl) N.m N.F.kp N.b .nil ao (aa (pv 0) ad)))
   (ac (aK (PW.pt (eT (ar bj (aq ap (by rfl) T.len zO (aa (pv 2) ad)) ae (ax _)) (dn (ar bQ (aq ap (by rfl) T.len zO (aa (pv 2) ad)) (aG (v:=.int 64) (by rfl) hg ⟨tg,rfl⟩) (ax _))))) (af aS) aC)
   (ac (aA (am GA hr (by rfl) Ah.m Ah.F.kp Ah.b .nil ao (aa (pv 1) ad)))
   (af (az (pv 2))))),?_⟩
  refine seq_g λ R1 g1=>?_
  refine⟨_,rfl,a,S,rfl,ha,hSb,λ l nl=>g1 _ _ ?_⟩;clear g1;have s0:=ai (o:=.lst (S.map vN)) nl;have hll:(upd H l (.lst (S.map vN))) l=some (.lst (S.map vN)):=upd_same;generalize upd H l (.lst (S.map vN))=H1 at*;refine seq_g λ R1 g1=>?_
  refine⟨_,rfl,l,_,rfl,.inl (SqL.of hll),rfl,_,rfl,aL (λ h=>?_) (λ _=>?_)⟩
  ·have:=zA h;injection this with this
   rw [zr] at this;lia
  refine⟨_,rfl,l,_,rfl,.inl (SqL.of hll),_,_,rfl,rfl,_,rfl,aL (λ h=>?_) (λ _=>g1 _ _ ?_)⟩
  ·have:=zA h;rw [zr] at this;lia
  clear g1;refine seq_g λ R1 g1=>?_
  refine⟨_,rfl,x,W,rfl,hx.same s0,hb,hl,λ l2 H2 s2 n2 h22=>g1 _ _ ?_⟩;exact⟨_,rfl,k l H2 (s0.trans s2) nl (s2 _ _ hll)⟩
def mJ:Sp:=λ vs H Q _=>∃(a:Addr) (xs:List V) (s e:Nat),vs=[.ref a,vN s,vN e]/\H a=some (.lst xs)/\xs.length+s≤e/\Q .non H
theorem mT:FnScope ["signs","size","end"] ["signs","size","end"] (defScope cX):=scK (by decide+kernel)
theorem f9 (F:Fn K mg "need_room" cX ["signs","size","end"] f fd)(T:Txt K mg):FnOk P w K mg base CX0 1 f fd ["signs","size","end"] mJ:=by
 refine F.F.ok mT (λ vs H Q E h=>?_) (λ cdv A outer st H vs Q E hr h=>?_)
 ·obtain⟨a,xs,s,e,rfl,_⟩:=h;rfl
 ·obtain⟨a,xs,s,e,rfl,ha,hl,k⟩:=h;refine⟨_,af (aK (ar bQ (aj aE (aq ap (by rfl) T.len zO (aa (pv 0) ad)) (pv 1)) (pv 2) (ax _)) (af aS) aC),?_⟩;refine⟨_,rfl,a,_,rfl,.inl (SqL.of ha),_,rfl,_,_,rfl,rfl,_,rfl,_,_,rfl,rfl,_,rfl,aL (λ h=>?_) (λ _=>k)⟩;have:=zA h;lia
def u6:Sp:=λ vs H Q _=>∃(a:Addr) (S:List Nat) (p b m:Nat),vs=[.ref a,vN p,vN b,vN m]/\H a=some (.lst (S.map vN))/\b≤p/\p+m≤S.length/\Q (vN (al S p b m)) H
theorem scAlike:FnScope ["signs","place","back","most","size"] ["signs","place","back","most"] (defScope gN):=scK (by decide+kernel)
theorem tQ (F:Fn K mg "alike_from" gN ["signs","place","back","most"] f fd):FnOk P w K mg base CX0 1 f fd ["signs","place","back","most"] u6:=by
 refine F.F.ok scAlike (λ vs H Q E h=>?_) (λ cdv A outer st H vs Q E hr h=>?_)
 ·obtain⟨a,S,p,b,m,rfl,_⟩:=h;rfl
 ·obtain⟨a,S,p,b,m,rfl,hS,hb,hm,k⟩:=h;refine⟨_,ac (ak (i:=4) scAlike.nd rfl (Or.inl rfl) ae)
   (ac (bE Aa (PW.pt (f7 (ar du (pv 4) (pv 3) (ax _)) (gn (ar bj (aM aP (pv 0) (aj aE (pv 1) (pv 4)) (λ _ _=>rfl)) (aM aP (pv 0) (aj aY (aj aE (pv 1) (pv 4)) (pv 2)) (λ _ _=>rfl)) (ax _)))))
    (af (ak (i:=4) scAlike.nd rfl (Or.inl rfl) (aj aE (pv 4) ae))))
   (af (az (pv 4)))),?_⟩
  refine seq_g λ R1 g1=>g1 _ _ ?_
  clear g1;refine seq_g λ R1 g1=>?_
  refine⟨λ n σ H2=>∃i:Nat,n=m-i/\σ=[some (.ref a),some (vN p),some (vN b),some (vN m),some (vN i)]/\H2=H/\i≤m/\∀j<i,S[p+j]?=S[p+j-b]?,⟨m,0,rfl,rfl,rfl,Ap _,λ j hj=>absurd hj (Ec _)⟩,?_⟩;rintro n σ H2 ⟨i,rfl,rfl,rfl,hi,hall⟩;refine⟨_,rfl,_,rfl,_,_,rfl,rfl,_,rfl,aL (λ h1=>?_) (λ h1=>?_)⟩
  ·have h2:i<m:=by have:=zA h1;lia
   have e1:((p:Nat):Int)+((i:Nat):Int)=((p+i:Nat):Int):=by lia
   have e2:((p+i:Nat):Int)-((b:Nat):Int)=((p+i-b:Nat):Int):=by lia
   have l1:p+i<S.length:=by lia
   have l2:p+i-b<S.length:=by lia
   refine⟨_,rfl,_,rfl,_,rfl,_,_,rfl,rfl,?_⟩
   try dsimp only
   rw [e1];refine⟨a,_,_,_,rfl,rfl,SqL.of hS,ay (bi l1),?_⟩;refine⟨_,rfl,_,rfl,_,rfl,_,_,rfl,rfl,_,rfl,_,_,rfl,rfl,?_⟩
   try dsimp only
   rw [e1,e2];refine⟨a,_,_,_,rfl,rfl,SqL.of hS,ay (bi l2),rfl,_,rfl,aL (λ h3=>?_) (λ h3=>?_)⟩
   ·have h4:S[p+i]=S[p+i-b]:=vN_inj.mp (zA h3);refine⟨λ σ' H'=>σ'=[some (.ref a),some (vN p),some (vN b),some (vN m),some (vN (i+1))]/\H'=H2,λ σ' H' z=>⟨m-(i+1),by lia,i+1,rfl,z.1,z.2,by lia,λ j hj=>?_⟩,?_⟩
    ·by_cases e:j=i
     ·subst e;rw [zu l1,zu l2,h4]
     ·exact hall j (by lia)
    ·exact⟨_,rfl,_,_,rfl,rfl,rfl,rfl⟩
   ·refine g1 _ _ ⟨_,rfl,?_⟩;have h4:S[p+i]?≠S[p+i-b]?:=by
     rw [zu l1,zu l2];intro z;exact h3 (zw (vN_inj.mpr (zS z)))
    rw [qV hall h4 m (by lia)] at k;exact k
  ·refine bz (g1 _ _ ⟨_,rfl,?_⟩);have h2:i=m:=by
    have h1':¬(decide ((i:Int)<(m:Int))=true):=h1;have:¬((i:Int)<(m:Int)):=λ z=>h1' (zw z)
    lia
   subst h2;rw [tO hall] at k;exact k
def pI:Sp:=λ vs H Q _=>∃(a:Addr) (S:List Nat) (p:Nat),vs=[.ref a,vN p]/\H a=some (.lst (S.map vN))/\p<S.length/\S.length≤1000/\∀t,H t=none->Q (.ref t) (upd H t (.tup [.str (Str.ofString "copy"),vN (lcAt S p).1,vN (lcAt S p).2]))
abbrev tV:List Str:=["signs","place","most","best_back","best_size","back","size"]
theorem scLongest:FnScope tV ["signs","place"] (defScope eQ):=scK (by decide+kernel)
theorem m9 (F:Fn K mg "longest_copy" eQ ["signs","place"] f fd)(AF:Fn K mg "alike_from" gN ["signs","place","back","most"] fA fdA)(T:Txt K mg):FnOk P w K mg base CX0 31 f fd ["signs","place"] pI:=by
 have GA:=tQ (P:=P) (w:=w) (base:=base) AF;obtain⟨tf,hf⟩:=T.far;obtain⟨tm,hm⟩:=T.mostC;refine F.F.ok scLongest (λ vs H Q E h=>?_) (λ cdv A outer st H vs Q E hr h=>?_)
 ·obtain⟨a,S,p,rfl,_⟩:=h;rfl
 ·obtain⟨a,S,p,rfl,hS,hp,hlen,k⟩:=h;have hn:=hr.hd (by decide);have hr1:Room 1 _:=hr.mono (by decide);refine⟨_,ac (ak (i:=2) scLongest.nd rfl (Or.inl rfl) (aq (fU hn) (by rfl) T.min Cv (aa (aG (v:=.int 18) (by rfl) hm ⟨tm,rfl⟩) (aa (aj aY (aq ap (by rfl) T.len zO (aa (pv 0) ad)) (pv 1)) ad))))
   (ac (ak (i:=3) scLongest.nd rfl (Or.inl rfl) ae)
   (ac (ak (i:=4) scLongest.nd rfl (Or.inl rfl) ae)
   (ac (bd Aa rfl (fZ (by rfl) T.range (aa ae (aa (aj aE (aq (fU hn) (by rfl) T.min Cv (aa (aG (v:=.int 255) (by rfl) hf ⟨tf,rfl⟩) (aa (pv 1) ad))) ae) ad))) (aH (i:=5) scLongest.nd rfl (Or.inl rfl))
    (ac (aK (ar bj (pv 4) (pv 2) (ax _)) (af sE) aC)
    (af (aK (ar bj (aM aP (pv 0) (aj aE (pv 1) (pv 4)) (λ _ _=>rfl)) (aM aP (pv 0) (aj aY (aj aE (pv 1) (pv 4)) (pv 5)) (λ _ _=>rfl)) (ax _))
     (ac (ak (i:=6) scLongest.nd rfl (Or.inl rfl) (am GA hr1 (by rfl) AF.m AF.F.kp AF.b .nil ao (aa (pv 0) (aa (pv 1) (aa (pv 5) (aa (pv 2) ad))))))
     (af (aK (ar bQ (pv 6) (pv 4) (ax _)) (ac (ak (i:=3) scLongest.nd rfl (Or.inl rfl) (pv 5)) (af (ak (i:=4) scLongest.nd rfl (Or.inl rfl) (pv 6)))) aC))) aC))))
   (af (az (cC (aa io (aa (pv 3) (aa (pv 4) ad))))))))),?_⟩
  refine seq_g λ R1 g1=>?_
  refine⟨_,rfl,a,_,rfl,.inl (SqL.of hS),_,rfl,_,_,rfl,rfl,_,_,rfl,g1 _ _ ?_⟩;clear g1;have em:(if((S.map vN).length:Int)-((p:Nat):Int)<18 then((S.map vN).length:Int)-((p:Nat):Int) else 18)=((most S p:Nat):Int):=by
   rw [zr];unfold most
   split<;>lia
  try dsimp only
  rw [em];have hm2:most S p≤18/\p+most S p≤S.length:=by unfold most;lia
  refine seq_g λ R1 g1=>g1 _ _ ?_
  clear g1;refine seq_g λ R1 g1=>g1 _ _ ?_
  clear g1;refine seq_g λ R1 g1=>?_
  have JR:∀v5 v6:Option V,R1 [some (.ref a),some (vN p),some (vN (most S p)),some (vN (lcAt S p).1),some (vN (lcAt S p).2),v5,v6] H:=λ v5 v6=>by
   refine g1 _ _ ?_;exact⟨_,rfl,_,rfl,(by show 3≤sizeLine;decide),k⟩
  clear g1;have ef:(if((p:Nat):Int)<255 then((p:Nat):Int) else 255)=((far p:Nat):Int):=by
   unfold far
   split<;>lia
  refine⟨_,rfl,_,_,rfl,?_⟩
  try dsimp only
  rw [ef];have hfar:far p≤255/\far p≤p:=by unfold far;lia
  refine⟨_,_,rfl,rfl,1,((far p:Nat):Int)+1,rfl,⟨by lia,by lia,by lia,by lia⟩,?_⟩;have en:(((far p:Nat):Int)+1-1).toNat=far p:=by lia
  try dsimp only
  rw [en];refine bX (D:=⟨_,_,λ _ _=>False,λ _ _=>False⟩) (lo:=1) (n:=far p) (λ j σ H2=>∃v5 v6:Option V,σ=[some (.ref a),some (vN p),some (vN (most S p)),some (vN (lc S p (most S p) j).1),some (vN (lc S p (most S p) j).2),v5,v6]/\H2=H) ⟨none,none,rfl,rfl⟩ ?_ ?_
  ·rintro j σ H2 hj ⟨v5,v6,rfl,rfl⟩;have eb:(1:Int)+((j:Nat):Int)=((j+1:Nat):Int):=by lia
   try dsimp only
   rw [eb];refine seq_g λ R2 g2=>?_
   refine⟨_,rfl,_,rfl,rfl,_,rfl,aL (λ h1=>?_) (λ h1=>?_)⟩
   ·have h2:(lc S p (most S p) j).2=most S p:=vN_inj.mp (zA h1);have e:=og h2 (far p) (by lia);have J:=JR (some (vN (j+1))) v6;unfold lcAt at J;rw [e] at J;exact J
   ·have h2:(lc S p (most S p) j).2≠most S p:=λ z=>h1 (zw (vN_inj.mpr z))
    have hle:=oE S p (most S p) j;refine g2 _ _ ?_;clear g2;have e1:((p:Nat):Int)+(((lc S p (most S p) j).2:Nat):Int)=((p+(lc S p (most S p) j).2:Nat):Int):=by lia
    have e2:((p+(lc S p (most S p) j).2:Nat):Int)-((j+1:Nat):Int)=((p+(lc S p (most S p) j).2-(j+1):Nat):Int):=by lia
    have l1:p+(lc S p (most S p) j).2<S.length:=by lia
    have l2:p+(lc S p (most S p) j).2-(j+1)<S.length:=by lia
    refine⟨_,rfl,_,rfl,_,rfl,_,_,rfl,rfl,?_⟩
    try dsimp only
    rw [e1];refine⟨a,_,_,_,rfl,rfl,SqL.of hS,ay (bi l1),?_⟩;refine⟨_,rfl,_,rfl,_,rfl,_,_,rfl,rfl,_,rfl,_,_,rfl,rfl,?_⟩
    try dsimp only
    rw [e1,e2];refine⟨a,_,_,_,rfl,rfl,SqL.of hS,ay (bi l2),rfl,_,rfl,aL (λ h3=>?_) (λ h3=>?_)⟩
    ·refine⟨_,rfl,_,rfl,_,rfl,_,rfl,a,S,p,j+1,most S p,rfl,hS,by lia,by lia,?_⟩;refine⟨_,rfl,_,rfl,_,_,rfl,rfl,_,rfl,aL (λ h4=>?_) (λ h4=>?_)⟩
     ·have h5:(lc S p (most S p) j).2<al S p (j+1) (most S p):=by have:=zA h4;lia
      refine⟨_,rfl,_,rfl,some (vN (j+1)),some (vN (al S p (j+1) (most S p))),?_,rfl⟩;rw [lc,zP h5];rfl
     ·have h5:¬(lc S p (most S p) j).2<al S p (j+1) (most S p):=λ z=>h4 (zw (by lia))
      refine⟨some (vN (j+1)),some (vN (al S p (j+1) (most S p))),?_,rfl⟩;rw [lc,zK h5];rfl
    ·refine⟨some (vN (j+1)),v6,?_,rfl⟩;have h4:S[p+(lc S p (most S p) j).2]?≠S[p+(lc S p (most S p) j).2-(j+1)]?:=by
      rw [zu l1,zu l2];intro z;exact h3 (zw (vN_inj.mpr (zS z)))
     rw [vf h4];rfl
  ·rintro σ H2 ⟨v5,v6,rfl,rfl⟩;exact JR v5 v6
def ng:Sp:=λ vs H Q _=>∃(a:Addr) (x:V) (W T:List Nat),vs=[.ref a,x]/\H a=some (.lst (T.map vN))/\WinV H x W/\(∀b∈W,b<256)/\(∀b∈T,b<256)/\W.length≤255/\T.length≤500/\
 ∀l P H',Same H H'->H l=none->PL H' l P->Walk (W++T) W.length P (W++T).length->Q (.ref l) H'
abbrev pC:List Str:=["text","before","own_signs","signs","place","pieces","found"]
theorem scPiecesOf:FnScope pC ["text","before"] (defScope sPiecesOf):=scK (by decide+kernel)
structure Wins (K:PySem.W.Frag)(mg:Str->Option Value):Prop where
 R:Rows K mg
 needrow:∃f fd,Fn K mg "need_row" bO ["thing"] f fd
 needwin:∃f fd,Fn K mg "need_window" cT ["before","most"] f fd
 alike:∃f fd,Fn K mg "alike_from" gN ["signs","place","back","most"] f fd
 longest:∃f fd,Fn K mg "longest_copy" eQ ["signs","place"] f fd
theorem gh (F:FnD K mg "pieces_of" sPiecesOf ["text","before"] f fd)(Y:Wins K mg):FnOk P w K mg base CX0 32 f fd ["text","before"] ng:=by
 obtain⟨R,⟨_,_,N⟩,⟨_,_,NW⟩,⟨_,_,AF⟩,⟨_,_,L⟩⟩:=Y;have GN:=cZ (P:=P) (w:=w) (base:=base) N R;have GW:=il (P:=P) (w:=w) (base:=base) NW N R;have GL:=m9 (P:=P) (w:=w) (base:=base) L AF R.X;have T:=R.X;obtain⟨tl,hlc⟩:=T.least;obtain⟨tf,hfr⟩:=T.far;obtain⟨dV,FF⟩:=F.F;refine FF.ok scPiecesOf (λ vs H Q E h=>?_) (λ cdv A outer st H vs Q E hr h=>?_)
 ·obtain⟨a,x,W,T,rfl,_⟩:=h;rfl
 ·obtain⟨a,x,W,Tx,rfl,ha,hx,hbW,hbT,hW,hT,k⟩:=h;have hr4:Room 4 _:=hr.mono (by decide);have hr5:Room 5 _:=hr.mono (by decide);refine⟨_,ac (ak (i:=2) scPiecesOf.nd rfl (Or.inl rfl) (am GN hr4 (by rfl) N.m N.F.kp N.b .nil ao (aa (pv 0) ad)))
   (ac (ak (i:=3) scPiecesOf.nd rfl (Or.inl rfl) (aj nn (am GW hr5 (by rfl) NW.m NW.F.kp NW.b .nil ao (aa (pv 1) (aa (aG (v:=.int 255) (by rfl) hfr ⟨tf,rfl⟩) ad))) (pv 2)))
   (ac (ak (i:=4) scPiecesOf.nd rfl (Or.inl rfl) (aj aY (aq ap (by rfl) T.len zO (aa (pv 3) ad)) (aq ap (by rfl) T.len zO (aa (pv 2) ad))))
   (ac (ak (i:=5) scPiecesOf.nd rfl (Or.inl rfl) (aW ad))
   (ac (bE Aa (ar du (pv 4) (aq ap (by rfl) T.len zO (aa (pv 3) ad)) (ax _))
    (ac (ak (i:=6) scPiecesOf.nd rfl (Or.inl rfl) (am GL hr (by rfl) L.m L.F.kp L.b .nil ao (aa (pv 3) (aa (pv 4) ad))))
    (af (aK (ar tG (aM a7 (pv 6) ae (λ _ _=>rfl)) (aG (v:=.int 3) (by rfl) hlc ⟨tl,rfl⟩) (ax _))
     (ac (aA (cH Af AG AL a6 (pv 5) (aa (pv 6) ad)))
      (af (ak (i:=4) scPiecesOf.nd rfl (Or.inl rfl) (aj aE (pv 4) (aM a7 (pv 6) ae (λ _ _=>rfl))))))
     (ac (aA (cH Af AG AL a6 (pv 5) (aa (cC (aa io (aa (aM aP (pv 3) (pv 4) (λ _ _=>rfl)) ad))) ad)))
      (af (ak (i:=4) scPiecesOf.nd rfl (Or.inl rfl) (aj aE (pv 4) ae))))))))
   (af (az (pv 5))))))),?_⟩
  refine seq_g λ R1 g1=>?_
  refine⟨_,rfl,a,Tx,rfl,ha,hbT,λ l1 n1=>g1 _ _ ?_⟩;clear g1;have s1:Same H (upd H l1 (.lst (Tx.map vN))):=ai n1;refine seq_g λ R1 g1=>?_
  refine⟨_,rfl,x,255,W,rfl,hx.same s1,hbW,hW,λ l2 H2 s2 n2 h22=>?_⟩;have h1a:H2 l1=some (.lst (Tx.map vN)):=s2 _ _ upd_same;refine⟨_,rfl,l2,l1,_,_,rfl,rfl,h22,h1a,eB (by rw [zr,zr];lia),λ l3 n3=>g1 _ _ ?_⟩;clear g1;have s3:=ai (o:=.lst (W.map vN++Tx.map vN)) n3
  try dsimp only
  rw [<-zG] at s3 ⊢;have hS3:(upd H2 l3 (.lst ((W++Tx).map vN))) l3=some (.lst ((W++Tx).map vN)):=upd_same;have hS1:=s3 _ _ h1a;have s03:=(s1.trans s2).trans s3;generalize hH3:upd H2 l3 (.lst ((W++Tx).map vN))=H3 at*;clear hH3 s3 n3 h1a s2 n2 s1;refine seq_g λ R1 g1=>?_
  refine⟨_,rfl,l3,_,rfl,.inl (SqL.of hS3),_,rfl,l1,_,rfl,.inl (SqL.of hS1),_,_,rfl,rfl,g1 _ _ ?_⟩;clear g1;have ep:(((W++Tx).map vN).length:Int)-((Tx.map vN).length:Int)=((W.length:Nat):Int):=by
   rw [zr,zr,zv];lia
  try dsimp only
  rw [ep];generalize hS:W++Tx=S at*;have hSl:S.length=W.length+Tx.length:=by rw [<-hS,zv]
  refine seq_g λ R1 g1=>?_
  refine⟨by decide,λ l5 n5=>g1 _ _ ?_⟩;clear g1;have s5:=ai (o:=.lst []) n5;have n5':H l5=none:=none_of s03 n5;have hS5:=s5 _ _ hS3;have n35:l3≠l5:=ag hS3 n5;have s05:=s03.trans s5;refine seq_g λ R1 g1=>?_
  refine⟨λ n σ H2=>∃(q:Nat) (Pp:List Pc) (ts:List Addr) (v6:Option V),n=S.length-q/\σ=[some (.ref a),some x,some (.ref l1),some (.ref l3),some (vN q),some (.ref l5),v6]/\q≤S.length/\Walk S W.length Pp q/\H2 l3=some (.lst (S.map vN))/\H2 l5=some (.lst (ts.map V.ref))/\PT' H2 ts Pp/\Same H H2,
   ⟨S.length-W.length,W.length,[],[],none,rfl,rfl,by lia,rfl,hS5,upd_same,⟨rfl,λ i b y h=>by simp at h⟩,s05⟩,?_⟩
  rintro n σ H2 ⟨q,Pp,ts,v6,rfl,rfl,hq,hw,h3,h5,hts,sm⟩;refine⟨_,rfl,_,rfl,l3,_,rfl,.inl (SqL.of h3),_,_,rfl,rfl,_,rfl,aL (λ hc=>?_) (λ hc=>?_)⟩
  ·have hq2:q<S.length:=by have:=zA hc;rw [zr] at this;lia
   refine⟨λ σ' H'=>∃(q':Nat) (Pp:List Pc) (ts:List Addr) (v6:Option V),q<q'/\σ'=[some (.ref a),some x,some (.ref l1),some (.ref l3),some (vN q'),some (.ref l5),v6]/\q'≤S.length/\Walk S W.length Pp q'/\H' l3=some (.lst (S.map vN))/\H' l5=some (.lst (ts.map V.ref))/\PT' H' ts Pp/\Same H H',
    λ σ' H' ⟨q',Pp,ts,v6,hlt,z1,z2,z⟩=>⟨S.length-q',by lia,q',Pp,ts,v6,rfl,z1,z2,z⟩,?_⟩
   have hlen:Pp.length≤S.length:=by have:=b9 hw;lia
   have hpz:=fY hq2;refine seq_g λ R2 g2=>?_
   refine⟨_,rfl,_,rfl,l3,S,q,rfl,h3,hq2,by lia,λ t nt=>g2 _ _ ?_⟩;clear g2;have st:=ai (o:=.tup [.str (Str.ofString "copy"),vN (lcAt S q).1,vN (lcAt S q).2]) nt;have ht:(upd H2 t (.tup [.str (Str.ofString "copy"),vN (lcAt S q).1,vN (lcAt S q).2])) t=some (.tup [.str (Str.ofString "copy"),vN (lcAt S q).1,vN (lcAt S q).2]):=upd_same;have h3t:=st _ _ h3;have h5t:=st _ _ h5;have htst:=hts.keep (H':=upd H2 t (.tup [.str (Str.ofString "copy"),vN (lcAt S q).1,vN (lcAt S q).2])) λ _ _ z=>st _ _ z
   have smt:=sm.trans st;generalize hHt:upd H2 t (.tup [.str (Str.ofString "copy"),vN (lcAt S q).1,vN (lcAt S q).2])=Ht at*;clear hHt st;have hap:∀(H4:Hp) (u:Addr),H4 l5=some (.lst (ts.map V.ref))->H4 l3=some (.lst (S.map vN))->PT' H4 ts Pp->Same H H4->H4 u=some (.tup (itm (pcAt S q)))->
     (upd H4 l5 (.lst (ts.map V.ref++[.ref u]))) l3=some (.lst (S.map vN))/\(upd H4 l5 (.lst (ts.map V.ref++[.ref u]))) l5=some (.lst ((ts++[u]).map V.ref))/\PT' (upd H4 l5 (.lst (ts.map V.ref++[.ref u]))) (ts++[u]) (Pp++[pcAt S q])/\Same H (upd H4 l5 (.lst (ts.map V.ref++[.ref u]))):=by
    intro H4 u a5 a3 at' as au;have kt:∀b xs,H4 b=some (.tup xs)->(upd H4 l5 (.lst (ts.map V.ref++[.ref u]))) b=some (.tup xs):=λ b xs z=>by
     rw [upd_ne (ne_of z a5 (by intro y;cases y))];exact z
    refine⟨by rw [upd_ne n35];exact a3,by rw [upd_same,zG];rfl,(at'.keep kt).snoc (kt _ _ au),λ b o z=>?_⟩;rw [upd_ne (ag z n5')];exact as _ _ z
   refine⟨_,rfl,t,_,_,_,rfl,rfl,SqT.of ht,ay (j:=2) rfl,_,_,rfl,rfl,_,rfl,aL (λ h6=>?_) (λ h6=>?_)⟩
   ·have h7:3≤(lcAt S q).2:=by have:=zA h6;lia
    have epc:pcAt S q=.cp (lcAt S q).1 (lcAt S q).2:=by unfold pcAt;rw [zP h7]
    obtain⟨b3,b5,bt,bs⟩:=hap Ht t h5t h3t htst smt (by rw [epc];exact ht);refine⟨_,rfl,.inl ⟨rfl,_,SqL.of h5t⟩,_,rfl,l5,_,_,rfl,rfl,h5t,aX (by rw [zr,hts.1];lia),?_⟩;have ht2:(upd Ht l5 (.lst (ts.map V.ref++[.ref t]))) t=some (.tup [.str (Str.ofString "copy"),vN (lcAt S q).1,vN (lcAt S q).2]):=by
     rw [upd_ne (ne_of ht h5t (by intro y;cases y))];exact ht
    refine⟨_,rfl,_,rfl,t,_,_,_,rfl,rfl,SqT.of ht2,ay (j:=2) rfl,_,_,rfl,rfl,?_⟩;rw [epc] at bt hpz;have hw2:=cr hw hq2;rw [epc] at hw2;have hz:(Pc.cp (lcAt S q).1 (lcAt S q).2).size=(lcAt S q).2:=rfl;rw [hz] at hw2 hpz;refine⟨q+(lcAt S q).2,_,_,some (.ref t),by lia,?_,hpz.2,hw2,b3,b5,bt,bs⟩;have e2:((q:Nat):Int)+(((lcAt S q).2:Nat):Int)=((q+(lcAt S q).2:Nat):Int):=by lia
    try dsimp only
    rw [e2];rfl
   ·have h7:¬3≤(lcAt S q).2:=λ z=>h6 (zw (by lia))
    have epc:pcAt S q=.sg S[q]:=by unfold pcAt;rw [zK h7];simp [List.getD,hq2]
    refine⟨_,rfl,.inl ⟨rfl,_,SqL.of h5t⟩,_,rfl,_,rfl,l3,_,_,_,rfl,rfl,SqL.of h3t,ay (bi hq2),(by show 2≤sizeLine;decide),λ u nu=>?_⟩;have su:=ai (o:=.tup [.str (Str.ofString "sign"),vN S[q]]) nu;obtain⟨b3,b5,bt,bs⟩:=hap (upd Ht u (.tup [.str (Str.ofString "sign"),vN S[q]])) u (su _ _ h5t) (su _ _ h3t) (htst.keep λ _ _ z=>su _ _ z) (smt.trans su) (by rw [epc];exact upd_same);refine⟨l5,_,_,rfl,rfl,su _ _ h5t,aX (by rw [zr,hts.1];lia),?_⟩;refine⟨_,rfl,_,_,rfl,rfl,?_⟩;have hw2:=cr hw hq2;rw [epc] at bt hw2 hpz;exact⟨q+1,_,_,some (.ref t),by lia,rfl,hpz.2,hw2,b3,b5,bt,bs⟩
  ·have hq2:q=S.length:=by
    have h1:¬(decide (((q:Nat):Int)<((S.map vN).length:Int))=true):=hc;rw [zr] at h1;have:¬(((q:Nat):Int)<((S.length:Nat):Int)):=λ z=>h1 (zw z)
    lia
   subst hq2;refine g1 _ _ ⟨_,rfl,?_⟩;exact k l5 Pp H2 sm n5' ⟨ts,h5,hts⟩ hw
def qc:Sp:=λ vs H Q _=>∃(l:Addr) (B:List Nat) (b z:Nat),vs=[.ref l,vN b,vN z]/\H l=some (.lst (B.map vN))/\1≤b/\b≤B.length/\B.length+z≤1000/\Q .non (upd H l (.lst ((cpy B b z).map vN)))
theorem scAddCopy:FnScope ["signs","back","size","step"] ["signs","back","size"] (defScope dt):=scK (by decide+kernel)
theorem mn (F:Fn K mg "add_copy" dt ["signs","back","size"] f fd)(T:Txt K mg):FnOk P w K mg base CX0 1 f fd ["signs","back","size"] qc:=by
 refine F.F.ok scAddCopy (λ vs H Q E h=>?_) (λ cdv A outer s H vs Q E hr h=>?_)
 ·obtain⟨l,B,b,z,rfl,_⟩:=h;rfl
 ·obtain⟨l,B,b,z,rfl,hB,hb1,hb2,hz,k⟩:=h;refine⟨_,af (bd Aa rfl (bq (by rfl) T.range (aa (pv 2) ad)) (aH (i:=3) scAddCopy.nd rfl (Or.inl rfl))
    (af (aA (cH Af AG AL a6 (pv 0) (aa (aM aP (pv 0) (wn rN (pv 1)) (λ _ _=>rfl)) ad))))),?_⟩
  refine⟨_,rfl,((z:Nat):Int),rfl,by lia,by lia,?_⟩
  try dsimp only
  rw [zV];refine bX (D:=⟨_,_,λ _ _=>False,λ _ _=>False⟩) (lo:=0) (n:=z) (λ j σ H2=>∃v3:Option V,σ=[some (.ref l),some (vN b),some (vN z),v3]/\H2=upd H l (.lst ((cpy B b j).map vN))) ⟨none,rfl,?_⟩ ?_ ?_
  ·funext c;by_cases e:c=l
   ·subst e;rw [upd_same];exact hB
   ·rw [upd_ne e]
  ·rintro j σ H2 hj ⟨v3,rfl,rfl⟩;have hlen:=eE B b j;have hg:(cpy B b j).length-b<(cpy B b j).length:=by lia
   refine⟨_,rfl,.inl ⟨rfl,_,SqL.of upd_same⟩,_,rfl,_,rfl,_,rfl,l,_,_,vN ((cpy B b j).getD ((cpy B b j).length-b) 0),rfl,rfl,SqL.of upd_same,oQ hb1 (by rw [zr];lia) ?_,?_⟩
   ·rw [zr,bi hg,Ab,zu hg];rfl
   ·refine⟨l,_,_,rfl,rfl,upd_same,aX (by rw [zr];lia),?_⟩;refine⟨some (V.int ((0:Int)+((j:Nat):Int))),rfl,?_⟩;rw [uH,cpy,zG];rfl
  ·rintro σ H2 ⟨v3,rfl,rfl⟩;exact k
end
def app (B:List Nat):Pc->List Nat
 | .sg s=>B++[s]
 | .cp b z=>cpy B b z
def runP (B:List Nat)(P:List Pc):List Nat:=P.foldl app B
def pcP:Pc->List (Nat×Nat)
 | .sg s=>[(0,1),(s,8)]
 | .cp b z=>[(1,1),(b,8),(z-3,4)]
def pP (P:List Pc):List (Nat×Nat):=P.flatMap pcP
def dm (B:List Nat):Pc->Prop
 | .sg s=>s<256
 | .cp b z=>1≤b/\b≤255/\b≤B.length/\3≤z/\z≤18
def GR:List Nat->List Pc->Prop
 |_,[]=>True
 |B,x::P=>dm B x/\GR (app B x) P
theorem eu (B:List Nat)(x:Pc):(app B x).length=B.length+x.size:=by
 cases x with
 |sg s=>show(B++[s]).length=B.length+1;simp
 |cp b z=>exact eE B b z
theorem jd (B:List Nat)(P:List Pc)(x:Pc):runP B (P++[x])=app (runP B P) x:=by simp [runP]
theorem dI (P Q:List Pc):pP (P++Q)=pP P++pP Q:=by simp [pP]
theorem pP_cons (x:Pc)(P:List Pc):pP (x::P)=pcP x++pP P:=by simp [pP]
theorem mi (x:Pc):pP [x]=pcP x:=by simp [pP]
theorem GR.at:∀{P:List Pc} {B:List Nat} {i:Nat} {x:Pc},GR B P->P[i]?=some x->dm (runP B (P.take i)) x
 |y::P,B,0,x,h,e=>by simp at e;subst e;exact h.1
 |y::P,B,i+1,x,h,e=>by
  have:=GR.at (P:=P) (B:=app B y) (i:=i) (x:=x) h.2 (by simpa using e);exact this
theorem GR.snoc:∀{P:List Pc} {B:List Nat} {x:Pc},GR B P->dm (runP B P) x->GR B (P++[x])
 | [],B,x,_,g=>⟨g,trivial⟩
 |y::P,B,x,h,g=>⟨h.1,GR.snoc (P:=P) (B:=app B y) h.2 g⟩
theorem pQ {B:List Nat}(h:dm B x):1≤x.size/\x.size≤18:=by
 cases x with
 |sg s=>exact⟨zy _,by show 1≤18;decide⟩
 |cp b z=>
  obtain⟨_,_,_,h1,h2⟩:1≤b/\b≤255/\b≤B.length/\3≤z/\z≤18:=h;exact⟨by show 1≤z;lia,h2⟩
theorem GR.len:∀{P:List Pc} {B:List Nat},GR B P->B.length+P.length≤(runP B P).length
 | [],B,_=>zy _
 |x::P,B,h=>by
  have h1:=GR.len (P:=P) (B:=app B x) h.2;have h2:=pQ h.1;rw [eu] at h1;show B.length+(P.length+1)≤(runP (app B x) P).length;lia
theorem GR.take:∀{P:List Pc} {B:List Nat} (i:Nat),GR B P->GR B (P.take i)
 |_,_,0,_=>trivial
 | [],_,i+1,_=>trivial
 |x::P,B,i+1,h=>⟨h.1,GR.take (P:=P) i h.2⟩
theorem iD (B:List Nat)(P:List Pc)(i:Nat):runP B P=runP (runP B (P.take i)) (P.drop i):=by
 unfold runP;rw [<-CC,zM]
theorem GR.drop:∀{P:List Pc} {B:List Nat} (i:Nat),GR B P->GR (runP B (P.take i)) (P.drop i)
 |_,_,0,h=>h
 | [],_,i+1,_=>trivial
 |x::P,B,i+1,h=>GR.drop (P:=P) (B:=app B x) i h.2
theorem oz:∀{P:List Pc} {B:List Nat},GR B P->Good (pP P)
 | [],_,_=>λ q hq=>by cases hq
 |x::P,B,h=>by
  have ih:=oz (P:=P) (B:=app B x) h.2;intro q hq;rw [pP_cons] at hq;rcases zI.mp hq with hq|hq
  ·cases x with
   |sg s=>
    have hs:s<256:=h.1;simp [pcP] at hq;rcases hq with rfl|rfl
    ·decide
    ·exact hs
   |cp b z=>
    obtain⟨_,h2,_,h4,h5⟩:1≤b/\b≤255/\b≤B.length/\3≤z/\z≤18:=h.1;simp [pcP] at hq;rcases hq with rfl|rfl|rfl
    ·decide
    ·show b<2^8;lia
    ·show z-3<2^4;lia
  ·exact ih q hq
theorem tots_pc (x:Pc):tots (pcP x)=9\/tots (pcP x)=13:=by
 cases x with
 |sg s=>exact .inl rfl
 |cp b z=>exact .inr rfl
theorem jQ:∀P:List Pc,tots (pP P)≤13*P.length
 | []=>zy _
 |x::P=>by
  rw [pP_cons,aw,zD];have:=jQ P;rcases tots_pc x with h|h<;>lia
theorem xc {p:Nat}(hb:∀b∈S,b<256)(hp:p<S.length):dm (S.take p) (pcAt S p)/\app (S.take p) (pcAt S p)=S.take (p+(pcAt S p).size):=by
 cases e:pcAt S p with
 |sg s=>
  have h:=vH hp e;refine⟨hb s (AK h),?_⟩;show S.take p++[s]=S.take (p+1);rw [AO,h];rfl
 |cp b z=>
  obtain⟨h1,h2,h3,h4,h5,h6,h7,_⟩:=uq hp e;refine⟨⟨h1,h3,by rw [zW];lia,h4,h5⟩,?_⟩;exact lm h1 h2 h6 h7 z (zy _)
theorem lE (hb:∀b∈S,b<256):∀{P:List Pc} {p q:Nat},Walk S p P q->GR (S.take p) P/\runP (S.take p) P=S.take q
 | [],p,q,h=>by cases h;exact⟨trivial,rfl⟩
 |x::P,p,q,⟨h1,h2,h3⟩=>by
  subst h2;obtain⟨g,e⟩:=xc hb h1;obtain⟨i1,i2⟩:=lE hb h3;refine⟨⟨g,by rw [e];exact i1⟩,?_⟩;show runP (app (S.take p) (pcAt S p)) P=_;rw [e];exact i2
theorem cW:∀{P P':List Pc} {p q:Nat},Walk S p P q->Walk S p P' q->P=P'
 | [],[],_,_,_,_=>rfl
 | [],x::P',p,q,h,h'=>by
  cases h;have:=b9 h';rw [zD] at this;lia
 |x::P,[],p,q,h,h'=>by
  cases h';have:=b9 h;rw [zD] at this;lia
 |x::P,x'::P',p,q,⟨_,h2,h3⟩,⟨_,h2',h3'⟩=>by
  subst h2 h2';rw [cW h3 h3']
theorem cR {T:List Nat}(hW:∀b∈W,b<256)(hT:∀b∈T,b<256)(h:Walk (W++T) W.length P (W++T).length):GR W P/\runP W P=W++T/\P.length≤T.length:=by
 have hb:∀b∈W++T,b<256:=λ b z=>by
  rcases zI.mp z with z|z
  ·exact hW b z
  ·exact hT b z
 obtain⟨h1,h2⟩:=lE hb h;rw [List.take_left] at h1 h2;rw [An] at h2;have:=b9 h;rw [zv] at this;exact⟨h1,h2,by lia⟩
structure Wys (K:PySem.W.Frag)(mg:Str->Option Value):Prop where
 V:Wins K mg
 pieces:∃f fd,FnD K mg "pieces_of" sPiecesOf ["text","before"] f fd
 addcopy:∃f fd,Fn K mg "add_copy" dt ["signs","back","size"] f fd
 needahead:∃f fd,Fn K mg "need_ahead" cE ["before"] f fd
 needsigns:∃f fd,Fn K mg "need_signs" db ["text","before"] f fd
 aheadof:∃f fd,Fn K mg "signs_ahead" eS ["before"] f fd
 needroom:∃f fd,Fn K mg "need_room" cX ["signs","size","end"] f fd
 laycopy:∃f fd,Fn K mg "lay_copy" fq ["signs","back","size","end"] f fd
section
variable {P : Program} {w : World} {K : PySem.W.Frag} {mg : Str -> Option Value} {base : Heap} {B D : Addr}
def qm:Sp:=λ vs H Q _=>∃(x:V) (W:List Nat),vs=[x]/\WinV H x W/\∀l,H l=none->Q (.ref l) (upd H l (.lst (W.map vN)))
theorem p8:FnScope ["before"] ["before"] (defScope eS):=scK (by decide+kernel)
theorem hV (F:Fn K mg "signs_ahead" eS ["before"] f fd)(T:Txt K mg):FnOk P w K mg base CX0 1 f fd ["before"] qm:=by
 refine F.F.ok p8 (λ vs H Q E h=>?_) (λ cdv A outer s H vs Q E hr h=>?_)
 ·obtain⟨x,W,rfl,_⟩:=h;rfl
 ·obtain⟨x,W,rfl,hx,k⟩:=h;refine⟨_,af (az (sU (ar qY (pv 0) jH (ax _)) (aW ad) (aU aN (by rfl) T.list Aq (aa (pv 0) ad)))),?_⟩;rcases hx with⟨rfl,rfl⟩|⟨b,rfl,hB⟩
  ·exact⟨_,rfl,rfl,_,rfl,aL (λ _=>⟨by decide,λ l nl=>k l nl⟩) (λ h=>absurd (zw rfl) h)⟩
  ·exact⟨_,rfl,rfl,_,rfl,aL (λ h=>absurd (zA h) (by intro z;cases z)) (λ _=>⟨_,rfl,b,_,rfl,.inl (SqL.of hB),λ l nl=>k l nl⟩)⟩
def yk:Sp:=λ vs H Q _=>∃(l:Addr) (S:List Nat) (b z e:Nat),vs=[.ref l,vN b,vN z,vN e]/\H l=some (.lst (S.map vN))/\1≤b/\b≤S.length/\S.length+z≤e/\e≤1000/\Q .non (upd H l (.lst ((cpy S b z).map vN)))
theorem xT:FnScope ["signs","back","size","end"] ["signs","back","size","end"] (defScope fq):=scK (by decide+kernel)
theorem rm (F:Fn K mg "lay_copy" fq ["signs","back","size","end"] f fd)(Nr:Fn K mg "need_room" cX ["signs","size","end"] fN fdN)(Ac:Fn K mg "add_copy" dt ["signs","back","size"] fA fdA)(T:Txt K mg):FnOk P w K mg base CX0 2 f fd ["signs","back","size","end"] yk:=by
 have GN:=f9 (P:=P) (w:=w) (base:=base) Nr T;have GA:=mn (P:=P) (w:=w) (base:=base) Ac T;refine F.F.ok xT (λ vs H Q E h=>?_) (λ cdv A outer s H vs Q E hr h=>?_)
 ·obtain⟨l,S,b,z,e,rfl,_⟩:=h;rfl
 ·obtain⟨l,S,b,z,e,rfl,hl,hb1,hb2,hze,he,k⟩:=h;refine⟨_,ac (aA (am GN hr (by rfl) Nr.m Nr.F.kp Nr.b .nil ao (aa (pv 0) (aa (pv 2) (aa (pv 3) ad)))))
   (ac (aK (PW.pt (eT (ar bj (pv 1) ae (ax _)) (dn (ar bQ (pv 1) (aq ap (by rfl) T.len zO (aa (pv 0) ad)) (ax _))))) (af aS) aC)
   (af (aA (am GA hr (by rfl) Ac.m Ac.F.kp Ac.b .nil ao (aa (pv 0) (aa (pv 1) (aa (pv 2) ad))))))),?_⟩
  refine seq_g λ R1 g1=>?_
  refine⟨_,rfl,_,rfl,_,rfl,l,_,z,e,rfl,hl,by rw [zr];exact hze,g1 _ _ ?_⟩;clear g1;refine seq_g λ R1 g1=>?_
  refine⟨_,rfl,rfl,_,rfl,aL (λ h=>?_) (λ _=>?_)⟩
  ·have:=zA h;injection this with this
   lia
  refine⟨_,rfl,_,rfl,l,_,rfl,.inl (SqL.of hl),_,_,rfl,rfl,_,rfl,aL (λ h=>?_) (λ _=>g1 _ _ ?_)⟩
  ·have:=zA h;rw [zr] at this;lia
  exact⟨_,rfl,_,rfl,_,rfl,l,S,b,z,rfl,hl,hb1,hb2,by lia,k⟩
end
end K20
namespace SM
section
variable {α κ : Type} {blt : κ -> κ -> Bool} {kf : α -> κ}
structure Ord (blt:κ->κ->Bool):Prop where
 irr:∀a,blt a a=false
 tr:∀a b c,blt a b=true->blt b c=true->blt a c=true
 neg:∀a b c,blt a c=true->blt a b=true\/blt b c=true
 tot:∀a b,blt a b=false->blt b a=false->a=b
variable (O : Ord blt)
abbrev Le (blt:κ->κ->Bool)(kf:α->κ)(x y:α):Prop:=blt (kf y) (kf x)=false
abbrev Lt (blt:κ->κ->Bool)(kf:α->κ)(x y:α):Prop:=blt (kf x) (kf y)=true
include O
theorem le_of_lt {x y:α}(h:Lt blt kf x y):Le blt kf x y:=by
 cases e:blt (kf y) (kf x) with
 |false=>exact e
 |true=>have:=O.tr _ _ _ h e;rw [O.irr] at this;cases this
theorem le_trans {x y z:α}(h1:Le blt kf x y)(h2:Le blt kf y z):Le blt kf x z:=by
 cases e:blt (kf z) (kf x) with
 |false=>exact e
 |true=>
  rcases O.neg _ (kf y) _ e with h|h
  ·rw [show blt (kf z) (kf y)=false from h2] at h;cases h
  ·rw [show blt (kf y) (kf x)=false from h1] at h;cases h
theorem b8 {x y z:α}(h1:Lt blt kf x y)(h2:Le blt kf y z):Lt blt kf x z:=by
 rcases O.neg _ (kf z) _ h1 with h|h
 ·exact h
 ·rw [show blt (kf z) (kf y)=false from h2] at h;cases h
theorem dv {x y z:α}(h1:Le blt kf x y)(h2:Lt blt kf y z):Lt blt kf x z:=by
 rcases O.neg _ (kf x) _ h2 with h|h
 ·rw [show blt (kf y) (kf x)=false from h1] at h;cases h
 ·exact h
omit O in
def eqv (blt:κ->κ->Bool)(kf:α->κ)(k:κ)(x:α):Bool:= !blt (kf x) k&& !blt k (kf x)
omit O in
theorem eqv_iff {k:κ}{x:α}:eqv blt kf k x=true<->blt (kf x) k=false/\blt k (kf x)=false:=by unfold eqv;simp
omit O in
def Stb (blt:κ->κ->Bool)(kf:α->κ)(xs ys:List α):Prop:=∀k,xs.filter (eqv blt kf k)=ys.filter (eqv blt kf k)
omit O in
theorem Stb.refl (xs:List α):Stb blt kf xs xs:=λ _=>rfl
omit O in
theorem Stb.trans {xs ys zs:List α}(h:Stb blt kf xs ys)(g:Stb blt kf ys zs):Stb blt kf xs zs:=λ k=>(h k).trans (g k)
omit O in
theorem Stb.symm {xs ys:List α}(h:Stb blt kf xs ys):Stb blt kf ys xs:=λ k=>(h k).symm
omit O in
theorem Stb.app {xs ys us vs:List α}(h:Stb blt kf xs ys)(g:Stb blt kf us vs):Stb blt kf (xs++us) (ys++vs):=λ k=>by rw [z7,z7,h k,g k]
omit O in
theorem eqv_self (O:Ord blt)(x:α):eqv blt kf (kf x) x=true:=by unfold eqv;simp [O.irr]
theorem Stb.mem {xs ys:List α}(h:Stb blt kf xs ys){x:α}(hx:x∈xs):x∈ys:=by
 have:x∈xs.filter (eqv blt kf (kf x)):=By.mpr ⟨hx,eqv_self O x⟩;rw [h] at this;exact(By.mp this).1
theorem cS {X Y:List α}(h:∀y∈Y,∀x∈X,Lt blt kf y x):Stb blt kf (X++Y) (Y++X):=λ k=>by
 rw [z7,z7];by_cases hx:∃x∈X,eqv blt kf k x=true
 ·obtain⟨x,hx,ex⟩:=hx;have hy:Y.filter (eqv blt kf k)=[]:=A8.mpr λ y hy ey=>by
   have l:=h y hy x hx;have ex:=eqv_iff.mp ex;have ey:=eqv_iff.mp ey;have:blt (kf y) k=true\/blt k (kf x)=true:=O.neg _ k _ l;rcases this with z|z
   ·rw [ey.1] at z;cases z
   ·rw [ex.2] at z;cases z
  rw [hy,Ax,A3]
 ·have hx':X.filter (eqv blt kf k)=[]:=A8.mpr λ x hx' ex=>hx ⟨x,hx',ex⟩
  rw [hx',Ax,A3]
theorem stb_uniq:∀{xs ys:List α},xs.Pairwise (Le blt kf)->ys.Pairwise (Le blt kf)->Stb blt kf xs ys->xs=ys
 | [],[],_,_,_=>rfl
 | [],y::ys,_,_,h=>by have:=Stb.mem O h.symm (zH (a:=y) (l:=ys));cases this
 |x::xs,[],_,_,h=>by have:=Stb.mem O h (zH (a:=x) (l:=xs));cases this
 |x::xs,y::ys,hx,hy,h=>by
  have hxm:=Stb.mem O h (zH (a:=x) (l:=xs));have hym:=Stb.mem O h.symm (zH (a:=y) (l:=ys));have l1:Le blt kf x y:=by
   rcases zL.mp hym with rfl|z
   ·exact O.irr _
   ·exact(AY.mp hx).1 y z
  have l2:Le blt kf y x:=by
   rcases zL.mp hxm with rfl|z
   ·exact O.irr _
   ·exact(AY.mp hy).1 x z
  have ex:eqv blt kf (kf x) x=true:=eqv_self O x;have ey:eqv blt kf (kf x) y=true:=eqv_iff.mpr ⟨l1,l2⟩;have e:=h (kf x);rw [zQ ex,zQ ey] at e;obtain⟨rfl,_⟩:=Dc e;have ht:Stb blt kf xs ys:=λ k=>by
   have e:=h k;by_cases z:eqv blt kf k x=true
   ·rw [zQ z,zQ z] at e;exact(Dc e).2
   ·rw [zY z,zY z] at e;exact e
  rw [stb_uniq (AY.mp hx).2 (AY.mp hy).2 ht]
omit O in
structure Mg (blt:κ->κ->Bool)(kf:α->κ)(all out A B:List α):Prop where
 s1:(out++A).Pairwise (Le blt kf)
 s2:(out++B).Pairwise (Le blt kf)
 st:Stb blt kf (out++A++B) all
omit O in
theorem Mg.pushA {all out A B X:List α}(h:Mg blt kf all out (X++A) B)(hX:∀x∈X,∀y∈B,Le blt kf x y):Mg blt kf all (out++X) A B:=by
 refine⟨by rw [zt];exact h.s1,?_,by rw [zt out];exact h.st⟩;rw [zt,zF];have h1:=zF.mp h.s1;have h2:=zF.mp h.s2;refine⟨h1.1,?_,λ a ha b hb=>?_⟩
 ·rw [zF];exact⟨(zF.mp h1.2.1).1,h2.2.1,hX⟩
 ·rcases zI.mp hb with z|z
  ·exact h1.2.2 a ha b (Bh _ z)
  ·exact h2.2.2 a ha b z
theorem Mg.pushB {all out A B Y:List α}(h:Mg blt kf all out A (Y++B))(hY:∀y∈Y,∀x∈A,Lt blt kf y x):Mg blt kf all (out++Y) A B:=by
 have h1:=zF.mp h.s1;have h2:=zF.mp h.s2;refine⟨?_,by rw [zt];exact h.s2,?_⟩
 ·rw [zt,zF];refine⟨h1.1,?_,λ a ha b hb=>?_⟩
  ·rw [zF];exact⟨(zF.mp h2.2.1).1,h1.2.1,λ a ha b hb=>le_of_lt O (hY a ha b hb)⟩
  ·rcases zI.mp hb with z|z
   ·exact h2.2.2 a ha b (Bh _ z)
   ·exact h1.2.2 a ha b z
 ·refine Stb.trans ?_ h.st;have:Stb blt kf (out++(Y++A)++B) (out++(A++Y)++B):=(Stb.refl out|>.app (cS O hY).symm).app (Stb.refl B);rw [<-zt,<-zt] at this;rw [<-zt (out++A)];exact this
omit O in
theorem Mg.endA {all out A:List α}(h:Mg blt kf all out A []):(out++A).Pairwise (Le blt kf)/\Stb blt kf (out++A) all:=⟨h.s1,by have:=h.st;rwa [Ax] at this⟩
omit O in
theorem Mg.endB {all out B:List α}(h:Mg blt kf all out [] B):(out++B).Pairwise (Le blt kf)/\Stb blt kf (out++B) all:=⟨h.s2,by have:=h.st;rwa [Ax] at this⟩
omit O in
structure Mh (blt:κ->κ->Bool)(kf:α->κ)(all A B out:List α):Prop where
 s1:(A++out).Pairwise (Le blt kf)
 s2:(B++out).Pairwise (Le blt kf)
 st:Stb blt kf (A++B++out) all
omit O in
theorem Mh.pushB {all A B out Y:List α}(h:Mh blt kf all A (B++Y) out)(hY:∀x∈A,∀y∈Y,Le blt kf x y):Mh blt kf all A B (Y++out):=by
 refine⟨?_,by rw [<-zt];exact h.s2,by rw [<-zt,zt A];exact h.st⟩;have h1:=zF.mp h.s1;have h2:=zF.mp h.s2;rw [zF];refine⟨h1.1,?_,λ a ha b hb=>?_⟩
 ·rw [zF];exact⟨(zF.mp h2.1).2.1,h2.2.1,λ a ha b hb=>h2.2.2 a (zJ _ ha) b hb⟩
 ·rcases zI.mp hb with z|z
  ·exact hY a ha b z
  ·exact h1.2.2 a ha b z
theorem Mh.pushA {all A B out X:List α}(h:Mh blt kf all (A++X) B out)(hX:∀y∈B,∀x∈X,Lt blt kf y x):Mh blt kf all A B (X++out):=by
 have h1:=zF.mp h.s1;have h2:=zF.mp h.s2;refine⟨by rw [<-zt];exact h.s1,?_,?_⟩
 ·rw [zF];refine⟨h2.1,?_,λ a ha b hb=>?_⟩
  ·rw [zF];exact⟨(zF.mp h1.1).2.1,h1.2.1,λ a ha b hb=>h1.2.2 a (zJ _ ha) b hb⟩
  ·rcases zI.mp hb with z|z
   ·exact le_of_lt O (hX a ha b z)
   ·exact h2.2.2 a ha b z
 ·refine Stb.trans ?_ h.st;have:Stb blt kf (A++(B++X)++out) (A++(X++B)++out):=(Stb.refl A|>.app (cS O hX).symm).app (Stb.refl out);rw [<-zt,<-zt] at this;rw [<-zt (A++B)];exact this
omit O in
theorem Mh.endA {all A out:List α}(h:Mh blt kf all A [] out):(A++out).Pairwise (Le blt kf)/\Stb blt kf (A++out) all:=⟨h.s1,by have:=h.st;rwa [Ax] at this⟩
omit O in
theorem Mh.endB {all B out:List α}(h:Mh blt kf all [] B out):(B++out).Pairwise (Le blt kf)/\Stb blt kf (B++out) all:=⟨h.s2,h.st⟩
end
end SM
namespace SG
open PySem PyProof.Rows
variable {j n : Nat} {st : SortSt} {left : Bool} {key : Keyed} {arr : Array Keyed} {Q : Option Bool->SortSt->Prop}
def fo:Bool->Keyed->Array Keyed->Nat->Nat->Nat->StateT SortSt Sem (Option Nat):=sortPriv%PySem.Builtin.gallop
def qR:Array Keyed->Array Keyed->StateT SortSt Sem (Array Keyed):=sortPriv%PySem.Builtin.mergeLo
def tX:Array Keyed->Array Keyed->StateT SortSt Sem (Array Keyed):=sortPriv%PySem.Builtin.mergeHi
def kf (κ:KeyKind)(p:Keyed):κ.α:=(κ.keyOf p.1).getD κ.dflt
def Has (κ:KeyKind)(p:Keyed):Prop:=∃a,κ.keyOf p.1=some a
theorem ord (κ:KeyKind):SM.Ord κ.blt:=⟨κ.irrefl,κ.trans,κ.negTrans,κ.total⟩
section
variable {prog : Program} {w : World} {A : Around} {E : Value -> Shared -> Prop} {s : Shared} {κ : KeyKind}
theorem ik (hO:κ.OneLt){x y:Keyed}(hk:kindOf st=oneType')(hx:Has κ x)(hy:Has κ y)(h:Q (some (κ.blt (kf κ x) (kf κ y))) st):
  wpS (model prog w) A E s (lt' x y) Q st:=by
 obtain⟨a,ha⟩:=hx;obtain⟨b,hb⟩:=hy;rw [lt'_eq];refine wpS_bind (wpS_get ?_);rw [hk,keyLt'_oneType];refine wpS_bind (wpS_lift (Db (hO prog w A _ s x.1 y.1 a b ha hb ⟨rfl,?_⟩)));unfold kf at h;rw [ha,hb] at h;exact zU h
theorem wpS_elem {i:Nat}{Q:Keyed->SortSt->Prop}(hi:i<arr.size)(h:Q arr[i] st):wpS (model prog w) A E s (elem' arr i) Q st:=by
 rw [elem'_eq,getElem?_pos arr i hi];exact zU h
def byd (κ:KeyKind)(left:Bool)(key:Keyed)(arr:Array Keyed)(j:Nat):Bool:=if left=true then κ.blt (KK κ arr j) (kf κ key) else !κ.blt (kf κ key) (KK κ arr j)
theorem cN (h:j<arr.size):KK κ arr j=kf κ arr[j]:=by unfold KK;rw [getElem?_pos arr j h];rfl
def wu (left:Bool)(key:Keyed)(arr:Array Keyed)(j:Nat):StateT SortSt Sem (Option Bool):=elem' arr j>>= λ y=>if left=true then lt' y key else lt' key y>>= λ o=>pure (o.map λ c=> !c)
theorem uS (hO:κ.OneLt)(hk:kindOf st=oneType')(hj:j<arr.size)(hkey:Has κ key)(ha:Has κ arr[j])
  (h:Q (some (byd κ left key arr j)) st):wpS (model prog w) A E s (wu left key arr j) Q st:=by
 unfold wu;unfold byd at h;rw [cN hj] at h;refine wpS_bind (wpS_elem hj ?_);cases left with
 |true=>
  simp only [if_true] at h ⊢;exact ik hO hk ha hkey h
 |false=>
  simp only [BJ,if_false] at h ⊢;exact wpS_bind (ik hO hk hkey ha (zU h))
theorem oZ {lo hi:Nat}{c:Nat->Bool}{f:Nat->(Option (Option Nat)×Nat×Nat)->StateT SortSt Sem (ForInStep (Option (Option Nat)×Nat×Nat))}{Q:(Option (Option Nat)×Nat×Nat)->SortSt->Prop}
  (h1:lo≤hi) (h2:hi≤n) (mono:∀i j,i≤j->j<n->c j=true->c i=true) (hlo:∀i,i<lo->c i=true) (hhi:∀i,hi≤i->i<n->c i=false)
  (fd:∀x lo hi,lo≥hi->wpS (model prog w) A E s (f x (none,lo,hi)) (λ r st'=>st'=st/\r=.done (none,lo,hi)) st)
  (fy:∀x lo hi,lo<hi->hi≤n->wpS (model prog w) A E s (f x (none,lo,hi)) (λ r st'=>st'=st/\r=if c (lo+(hi-lo)/2)=true then .yield (none,lo+(hi-lo)/2+1,hi) else .yield (none,lo,lo+(hi-lo)/2)) st)
  (h:∀k,k≤n->(∀i,i<k->c i=true)->(∀i,k≤i->i<n->c i=false)->Q (none,k,k) st):wpS (model prog w) A E s (forIn [:n] (none,lo,hi) f) Q st:=by
 refine Bb (I:=λ x d st'=>st'=st/\∃lo hi,d=(none,lo,hi)/\lo≤hi/\hi≤n/\hi-lo≤n-x/\(∀i,i<lo->c i=true)/\(∀i,hi≤i->i<n->c i=false)) ?_ ?_ ⟨rfl,lo,hi,rfl,h1,h2,by lia,hlo,hhi⟩
 ·rintro x d st' _ hx ⟨rfl,lo,hi,rfl,h1,h2,h3,hlo,hhi⟩;by_cases hge:lo≥hi
  ·refine BD (fd x lo hi hge) ?_;rintro r st' ⟨rfl,rfl⟩;have:lo=hi:=by lia
   subst this;exact h lo h2 hlo hhi
  ·refine BD (fy x lo hi (by lia) h2) ?_;rintro r st' ⟨rfl,rfl⟩;by_cases hc:c (lo+(hi-lo)/2)=true
   ·rw [zP hc];exact⟨rfl,_,_,rfl,by lia,h2,by lia,λ i hi'=>mono i _ (by lia) (by lia) hc,hhi⟩
   ·rw [zK hc];refine⟨rfl,_,_,rfl,by lia,by lia,by lia,hlo,λ i h1 h2=>?_⟩;cases e:c i with
    |false=>rfl
    |true=>exact absurd (mono _ i h1 h2 e) hc
 ·rintro d st' ⟨rfl,lo,hi,rfl,h1,h2,h3,hlo,hhi⟩;have:lo=hi:=by lia
  subst this;exact h lo h2 hlo hhi
theorem c7 (hO:κ.OneLt){base hint:Nat}{Q:Option Nat->SortSt->Prop}(hk:kindOf st=oneType')(hn:base+n≤arr.size)(hh:hint<n)(hkey:Has κ key)
  (hall:∀p∈arr.toList,Has κ p) (mono:∀i j,i≤j->j<n->byd κ left key arr (base+j)=true->byd κ left key arr (base+i)=true)
  (h:∀k,k≤n->(∀i,i<k->byd κ left key arr (base+i)=true)->(∀i,k≤i->i<n->byd κ left key arr (base+i)=false)->Q (some k) st):
  wpS (model prog w) A E s (fo left key arr base n hint) Q st:=by
 have hB:∀(i:Nat) {Q':Option Bool->SortSt->Prop},i<n->Q' (some (byd κ left key arr (base+i))) st->wpS (model prog w) A E s (wu left key arr (base+i)) Q' st:=λ i Q' hi hq=>
  uS hO hk (by lia) hkey (hall _ (by simp)) hq
 have fin:∀lo hi,lo≤hi->hi≤n->(∀i,i<lo->byd κ left key arr (base+i)=true)->(∀i,hi≤i->i<n->byd κ left key arr (base+i)=false)->True:=λ _ _ _ _ _ _=>trivial
 refine wpS_bind (hB hint hh ?_);dsimp only;cases hr:byd κ left key arr (base+hint) with
 |true=>
  rw [zP rfl];refine wpS_bind (BD (Bb (I:=λ x d st'=>st'=st/\∃la of,d=(none,la,of)/\la<of/\x<of/\hint+la<n/\byd κ left key arr (base+(hint+la))=true)
   (Q:=λ d st'=>st'=st/\∃la of,d=(none,la,of)/\la<of/\hint+la<n/\byd κ left key arr (base+(hint+la))=true/\(n-hint≤of\/(hint+of<n/\byd κ left key arr (base+(hint+of))=false))) ?_ ?_ ⟨rfl,0,1,rfl,by lia,by lia,by lia,hr⟩) ?_)
  ·rintro x d st' _ hx ⟨rfl,la,of,rfl,h1,h2,h3,h4⟩;dsimp only;by_cases hge:of≥n-hint
   ·rw [zP hge];exact zU ⟨rfl,la,of,rfl,h1,h3,h4,.inl hge⟩
   ·rw [zK hge];refine wpS_bind (hB (hint+of) (by lia) ?_);dsimp only;cases e:byd κ left key arr (base+(hint+of)) with
    |false=>
     rw [zP (by rfl)];exact zU ⟨rfl,la,of,rfl,h1,h3,h4,.inr ⟨by lia,e⟩⟩
    |true=>
     rw [zK (by decide)];exact zU ⟨rfl,of,2*of+1,rfl,by lia,by lia,by lia,e⟩
  ·rintro d st' ⟨rfl,la,of,rfl,h1,h2,h3,h4⟩;exact⟨rfl,la,of,rfl,h1,h3,h4,.inl (by lia)⟩
  ·rintro d st' ⟨rfl,la,of,rfl,h1,h3,h4,h5⟩;dsimp only;refine wpS_bind (oZ (c:=λ i=>byd κ left key arr (base+i)) (by lia) (by lia) mono (λ i hi=>mono i _ (show i≤hint+la by lia) h3 h4) (λ i h6 h7=>?_) ?_ ?_ λ k h6 h7 h8=>?_)
   ·rcases h5 with z|⟨z,z2⟩
    ·lia
    ·cases e:byd κ left key arr (base+i) with
     |false=>rfl
     |true=>rw [mono _ i (show hint+of≤i by lia) h7 e] at z2;cases z2
   ·intro x lo hi hge;dsimp only;rw [zP hge];exact zU ⟨rfl,rfl⟩
   ·intro x lo hi hlt hhn;dsimp only;rw [zK (by lia)];refine wpS_bind (hB _ (by lia) ?_);dsimp only
    split
    ·exact zU ⟨rfl,rfl⟩
    ·exact zU ⟨rfl,rfl⟩
   ·exact zU (h k h6 h7 h8)
 |false=>
  rw [zK (by decide)];refine wpS_bind (BD (Bb (I:=λ x d st'=>st'=st/\∃la of,d=(none,la,of)/\la<of/\x<of/\la≤hint/\byd κ left key arr (base+(hint-la))=false)
   (Q:=λ d st'=>st'=st/\∃la of,d=(none,la,of)/\la<of/\la≤hint/\byd κ left key arr (base+(hint-la))=false/\(hint+1≤of\/(of≤hint/\byd κ left key arr (base+(hint-of))=true))) ?_ ?_ ⟨rfl,0,1,rfl,by lia,by lia,by lia,hr⟩) ?_)
  ·rintro x d st' _ hx ⟨rfl,la,of,rfl,h1,h2,h3,h4⟩;dsimp only;by_cases hge:of≥hint+1
   ·rw [zP hge];exact zU ⟨rfl,la,of,rfl,h1,h3,h4,.inl hge⟩
   ·rw [zK hge];refine wpS_bind (hB (hint-of) (by lia) ?_);dsimp only;cases e:byd κ left key arr (base+(hint-of)) with
    |true=>
     rw [zP (by rfl)];exact zU ⟨rfl,la,of,rfl,h1,h3,h4,.inr ⟨by lia,e⟩⟩
    |false=>
     rw [zK (by decide)];exact zU ⟨rfl,of,2*of+1,rfl,by lia,by lia,by lia,e⟩
  ·rintro d st' ⟨rfl,la,of,rfl,h1,h2,h3,h4⟩;exact⟨rfl,la,of,rfl,h1,h3,h4,.inl (by lia)⟩
  ·rintro d st' ⟨rfl,la,of,rfl,h1,h3,h4,h5⟩;dsimp only;refine wpS_bind (oZ (c:=λ i=>byd κ left key arr (base+i)) (by lia) (by lia) mono (λ i hi=>?_) (λ i h6 h7=>?_) ?_ ?_ λ k h6 h7 h8=>?_)
   ·rcases h5 with z|⟨z,z2⟩
    ·lia
    ·exact mono i _ (show i≤hint-of by lia) (by lia) z2
   ·cases e:byd κ left key arr (base+i) with
    |false=>rfl
    |true=>rw [mono _ i (show hint-la≤i by lia) h7 e] at h4;cases h4
   ·intro x lo hi hge;dsimp only;rw [zP hge];exact zU ⟨rfl,rfl⟩
   ·intro x lo hi hlt hhn;dsimp only;rw [zK (by lia)];refine wpS_bind (hB _ (by lia) ?_);dsimp only
    split
    ·exact zU ⟨rfl,rfl⟩
    ·exact zU ⟨rfl,rfl⟩
   ·exact zU (h k h6 h7 h8)
end
end SG
namespace SG
open PySem PyProof.Rows SM
variable {at' hint ia ib j n na nb : Nat} {c : Prop} {out xs : Array Keyed} {Q : Option Nat->SortSt->Prop} {st : SortSt} {key y : Keyed} {P S X : List Keyed}
section
variable {κ : KeyKind} {a b : Array Keyed}
abbrev LeK (κ:KeyKind):Keyed->Keyed->Prop:=Le κ.blt (kf κ)
abbrev LtK (κ:KeyKind):Keyed->Keyed->Prop:=Lt κ.blt (kf κ)
def bN (κ:KeyKind)(a b r:Array Keyed):Prop:=r.toList.Pairwise (LeK κ)/\Stb κ.blt (kf κ) r.toList (a.toList++b.toList)
def MA (κ:KeyKind)(a b out:Array Keyed)(ia ib:Nat):Prop:=Mg κ.blt (kf κ) (a.toList++b.toList) out.toList (a.toList.drop ia) (b.toList.drop ib)
theorem MA.sa (h:MA κ a b out ia ib):(a.toList.drop ia).Pairwise (LeK κ):=(zF.mp h.s1).2.1
theorem MA.sb (h:MA κ a b out ia ib):(b.toList.drop ib).Pairwise (LeK κ):=(zF.mp h.s2).2.1
theorem dU {i:Nat}(h:i<xs.size):xs.toList.drop i=xs[i]::xs.toList.drop (i+1):=by
 have:i<xs.toList.length:=by simpa using h
 rw [AH this];rfl
theorem gq {i:Nat}(h:i<xs.size)(s:(xs.toList.drop i).Pairwise (LeK κ))(hy:y∈xs.toList.drop i):LeK κ xs[i] y:=by
 rw [dU h] at s hy;rcases zL.mp hy with rfl|z
 ·exact(ord κ).irr _
 ·exact(AY.mp s).1 y z
theorem ix {i k:Nat}:(xs.extract i (i+k)).toList=(xs.toList.drop i).take k:=by
 rw [DE,CN];congr 1;lia
theorem dN {i:Nat}:(xs.extract i xs.size).toList=xs.toList.drop i:=by
 rw [DE,CN,Ad (by simp)]
theorem g8 {i k:Nat}:(xs.toList.drop i).take k++xs.toList.drop (i+k)=xs.toList.drop i:=by
 rw [<-CM,zM]
theorem MA.pushA {k:Nat}(h:MA κ a b out ia ib)(hX:∀x∈(a.toList.drop ia).take k,∀y∈b.toList.drop ib,LeK κ x y):MA κ a b (out++a.extract ia (ia+k)) (ia+k) ib:=by
 unfold MA at h ⊢;rw [Al,ix];rw [<-g8 (k:=k)] at h;exact Mg.pushA h hX
theorem MA.pushB {k:Nat}(h:MA κ a b out ia ib)(hY:∀y∈(b.toList.drop ib).take k,∀x∈a.toList.drop ia,LtK κ y x):MA κ a b (out++b.extract ib (ib+k)) ia (ib+k):=by
 unfold MA at h ⊢;rw [Al,ix];rw [<-g8 (xs:=b) (k:=k)] at h;exact Mg.pushB (ord κ) h hY
theorem lu {i:Nat}(h:i<xs.size):out.push xs[i]=out++xs.extract i (i+1):=by
 apply Array.toList_inj.mp;rw [DZ,Al,ix,dU h];rfl
theorem MA.pushA1 (h:MA κ a b out ia ib)(hia:ia<a.size)(hib:ib<b.size)(hl:LeK κ a[ia] b[ib]):MA κ a b (out.push a[ia]) (ia+1) ib:=by
 rw [lu hia];refine h.pushA λ x hx y hy=>?_
 rw [dU hia] at hx;have:x=a[ia]:=by simpa using hx
 subst this;exact le_trans (ord κ) hl (gq hib h.sb hy)
theorem MA.pushB1 (h:MA κ a b out ia ib)(hia:ia<a.size)(hib:ib<b.size)(hl:LtK κ b[ib] a[ia]):MA κ a b (out.push b[ib]) ia (ib+1):=by
 rw [lu hib];refine h.pushB λ y hy x hx=>?_
 rw [dU hib] at hy;have:y=b[ib]:=by simpa using hy
 subst this;exact b8 (ord κ) hl (gq hia h.sa hx)
theorem MA.doneB (h:MA κ a b out ia ib)(e:ib=b.size):bN κ a b (out++a.extract ia a.size++b.extract ib b.size):=by
 unfold MA at h;have e0:b.toList.drop ib=[]:=BV (by simp [e]);rw [e0] at h;unfold bN;rw [Al,Al,dN,dN,e0,Ax];exact h.endA
theorem MA.doneA (h:MA κ a b out ia ib)(e:ia=a.size):bN κ a b (out++a.extract ia a.size++b.extract ib b.size):=by
 unfold MA at h;have e0:a.toList.drop ia=[]:=BV (by simp [e]);rw [e0] at h;unfold bN;rw [Al,Al,dN,dN,e0,Ax];exact h.endB
theorem MA.last (h:MA κ a b out ia ib)(e:ia+1=a.size)(hl:∀y∈b.toList,∀x∈a.toList.drop (a.size-1),LtK κ y x):bN κ a b (out++b.extract ib b.size++a.extract ia a.size):=by
 have h2:=h.pushB (k:=b.size-ib) λ y hy x hx=>hl y (A1 (A7 hy)) x (by rw [show a.size-1=ia by lia];exact hx)
 unfold MA at h2;have e0:b.toList.drop (ib+(b.size-ib))=[]:=BV (by simp;lia);rw [e0] at h2;have h3:=h2.endA;unfold bN;rw [Al] at h3;rw [Al,Al,dN,dN];have e1:(b.extract ib (ib+(b.size-ib))).toList=b.toList.drop ib:=by rw [ix,Ad (by simp)]
 rw [e1] at h3;exact h3
structure Stay (st st':SortSt):Prop where
 k:kindOf st'=kindOf st
 a:arrOf st'=arrOf st
 p:pendingOf st'=pendingOf st
 f:failedOf st'=failedOf st
theorem Stay.refl (st:SortSt):Stay st st:=⟨rfl,rfl,rfl,rfl⟩
end
section
variable {prog : Program} {w : World} {A : Around} {E : Value -> Shared -> Prop} {s : Shared} {κ : KeyKind} {a b : Array Keyed}
def uN:Nat->StateT SortSt Sem Unit:=sortPriv%PySem.Builtin.setMinGallop
theorem wpS_setMin {st0:SortSt}{g:Nat}{Q:Unit->SortSt->Prop}(h0:Stay st0 st)(h:∀st',Stay st0 st'->Q () st'):wpS (model prog w) A E s (uN g) Q st:=by
 refine wpS_modify (h _ ⟨h0.k,h0.a,h0.p,h0.f⟩)
theorem wm (h:xs.toList.Pairwise (LeK κ)){i:Nat}(hij:i≤j)(hj:j<xs.size):κ.blt (KK κ xs j) (KK κ xs i)=false:=by
 rw [cN hj,cN (by lia)];rcases AB i j with z|z
 ·exact(AI.mp h) i j (by simp;lia) (by simpa using hj) z
 ·have:i=j:=by lia
  subst this;exact(ord κ).irr _
theorem nF (hO:κ.OneLt){i:Nat}(hk:kindOf st=oneType')(hs:xs.toList.Pairwise (LeK κ))(hall:∀p∈xs.toList,Has κ p)(hkey:Has κ key)(hn:i+n≤xs.size)(hh:hint<n)
  (h:∀k,k≤n->(∀j,j<k->κ.blt (kf κ key) (KK κ xs (i+j))=false)->(∀j,k≤j->j<n->κ.blt (kf κ key) (KK κ xs (i+j))=true)->Q (some k) st):wpS (model prog w) A E s (fo false key xs i n hint) Q st:=by
 have eb:∀j,byd κ false key xs j= !κ.blt (kf κ key) (KK κ xs j):=λ j=>rfl
 refine c7 hO hk hn hh hkey hall (λ p q hpq hq hb=>?_) λ k h1 h2 h3=>h k h1 (λ j hj=>?_) λ j hj hj2=>?_
 ·rw [eb] at hb ⊢;have hb':κ.blt (kf κ key) (KK κ xs (i+q))=false:=by simpa using hb
  have:=wm hs (show i+p≤i+q by lia) (by lia);cases e:κ.blt (kf κ key) (KK κ xs (i+p)) with
  |false=>rfl
  |true=>
   rcases κ.negTrans _ (KK κ xs (i+q)) _ e with z|z
   ·rw [hb'] at z;cases z
   ·rw [this] at z;cases z
 ·have:=h2 j hj;rw [eb] at this;simpa using this
 ·have:=h3 j hj hj2;rw [eb] at this;simpa using this
theorem o6 (hO:κ.OneLt){i:Nat}(hk:kindOf st=oneType')(hs:xs.toList.Pairwise (LeK κ))(hall:∀p∈xs.toList,Has κ p)(hkey:Has κ key)(hn:i+n≤xs.size)(hh:hint<n)
  (h:∀k,k≤n->(∀j,j<k->κ.blt (KK κ xs (i+j)) (kf κ key)=true)->(∀j,k≤j->j<n->κ.blt (KK κ xs (i+j)) (kf κ key)=false)->Q (some k) st):wpS (model prog w) A E s (fo true key xs i n hint) Q st:=by
 have eb:∀j,byd κ true key xs j=κ.blt (KK κ xs j) (kf κ key):=λ j=>rfl
 refine c7 hO hk hn hh hkey hall (λ p q hpq hq hb=>?_) λ k h1 h2 h3=>h k h1 (λ j hj=>?_) λ j hj hj2=>?_
 ·rw [eb] at hb ⊢;have:=wm hs (show i+p≤i+q by lia) (by lia);rcases κ.negTrans _ (KK κ xs (i+p)) _ hb with z|z
  ·rw [this] at z;cases z
  ·exact z
 ·exact h2 j hj
 ·exact h3 j hj hj2
end
section
variable {M : Model} {A : Around} {E : Value -> Shared -> Prop} {s : Shared} {α : Type}
theorem aF  [Decidable c] {m1 m2:StateT SortSt Sem α}{Q:α->SortSt->Prop}(hc:c)(h:wpS M A E s m1 Q st):wpS M A E s (if c then m1 else m2) Q st:=by rw [zP hc];exact h
theorem aB  [Decidable c] {m1 m2:StateT SortSt Sem α}{Q:α->SortSt->Prop}(hc:¬c)(h:wpS M A E s m2 Q st):wpS M A E s (if c then m1 else m2) Q st:=by rw [zK hc];exact h
theorem bZ  [Decidable c] {m1 m2:StateT SortSt Sem α}{Q:α->SortSt->Prop}(h1:wpS M A E s m1 Q st)(h2:wpS M A E s m2 Q st):wpS M A E s (if c then m1 else m2) Q st:=by
 by_cases hc:c
 ·exact aF hc h1
 ·exact aB hc h2
end
theorem jK {i k:Nat}{x:Keyed}(h:x∈(xs.toList.drop i).take k):∃j,j<k/\∃hj:i+j<xs.size,x=xs[i+j]:=by
 obtain⟨j,hj⟩:=List.mem_iff_getElem?.mp h;rw [DV] at hj
 split at hj
 ·rename_i hjk
  rw [BY] at hj;have hlt:=(zz.mp hj).1;refine⟨j,hjk,by simpa using hlt,?_⟩;have:=(zz.mp hj).2;rw [<-this];rfl
 ·cases hj
section
variable {prog : Program} {w : World} {A : Around} {E : Value -> Shared -> Prop} {s : Shared} {κ : KeyKind} {a b : Array Keyed}
def LoQ (κ:KeyKind)(a b:Array Keyed)(st0:SortSt){β:Type}(low:Nat)(pr:Array Keyed->Nat->Nat->β->Prop)(c:Option (Array Keyed)×β)(st:SortSt):Prop:=
 Stay st0 st/\((∃r,c.1=some r/\bN κ a b r)\/∃out ia ib,c.1=none/\pr out ia ib c.2/\MA κ a b out ia ib/\ia+1<a.size/\ib<b.size/\low≤ia+ib)
theorem kC (hO:κ.OneLt){Q:Array Keyed->SortSt->Prop}(hk:kindOf st=oneType')(ha:∀p∈a.toList,Has κ p)(hb:∀p∈b.toList,Has κ p)(sa:a.toList.Pairwise (LeK κ))(sb:b.toList.Pairwise (LeK κ))
  (na:0<a.size) (nb:0<b.size) (h0:LtK κ b[0] a[0]) (hl:∀y∈b.toList,∀x∈a.toList.drop (a.size-1),LtK κ y x) (h:∀r st',Stay st st'->bN κ a b r->Q r st'):
  wpS (model prog w) A E s (qR a b) Q st:=by
 refine wpS_bind (wpS_lift (Cq ⟨rfl,?_⟩))
 extract_lets total done lastOfA ia0 ib0
 refine wpS_bind (wpS_elem nb ?_)
 extract_lets out0
 have hM0:MA κ a b out0 0 1:=MA.pushB1 (out:=#[]) (ia:=0) (ib:=0) ⟨sa,sb,Stb.refl _⟩ na nb h0;by_cases e1:1=b.size
 ·refine aF (by simpa [ib0] using e1) (zU (h _ _ (Stay.refl _) (hM0.doneB e1)))
 refine aB (by simpa [ib0] using e1) ?_;by_cases e2:0+1=a.size
 ·refine aF (by simpa [ia0] using e2) (zU (h _ _ (Stay.refl _) (hM0.last e2 hl)))
 refine aB (by simpa [ia0] using e2) ?_;refine wpS_bind (wpS_get ?_)
 extract_lets mg0
 refine wpS_bind (BD (Bb (I:=λ y c st'=>LoQ κ a b st (y+1) (λ out ia ib d=>∃mg,d=(out,ia,ib,mg)) c st'/\c.1=none) (Q:=λ c st'=>Stay st st'/\∃r,c.1=some r/\bN κ a b r) ?_ ?_ ⟨⟨Stay.refl _,.inr ⟨out0,0,1,rfl,⟨_,rfl⟩,hM0,by lia,by lia,by lia⟩⟩,rfl⟩) ?_)
 rotate_left
 ·rintro c st' ⟨⟨_,⟨r,e,_⟩|⟨out,ia,ib,_,_,_,q1,q2,q3⟩⟩,en⟩
  ·rw [en] at e;cases e
  ·exfalso;have:max 0 total=a.size+b.size:=by simp [total]
   lia
 ·rintro⟨c1,c2⟩ st' ⟨hst,r,e,hW⟩;dsimp only at e;subst e;exact zU (h r st' hst hW)
 rintro y c st1 _ hy ⟨⟨hst1,⟨r,e,_⟩|⟨out1,ia1,ib1,_,⟨mg1,e2⟩,hM1,q1,q2,q3⟩⟩,en⟩
 ·rw [en] at e;cases e
 obtain⟨c1,c2⟩:=c;dsimp only at en e2;subst en e2;refine wpS_bind (BD (Bb (I:=λ x c st'=>LoQ κ a b st (y+1+x) (λ out ia ib d=>∃p q,d=(out,ia,ib,p,q)) c st'/\c.1=none) (Q:=λ c st'=>LoQ κ a b st (y+1+1) (λ out ia ib d=>∃p q,d=(out,ia,ib,p,q)) c st') ?_ ?_ ⟨⟨hst1,.inr ⟨out1,ia1,ib1,rfl,⟨_,_,rfl⟩,hM1,q1,q2,q3⟩⟩,rfl⟩) ?_)
 ·rintro x c st2 _ hx ⟨⟨hst2,⟨r,e,_⟩|⟨out2,ia2,ib2,_,⟨p2,r2,e2⟩,hM2,t1,t2,t3⟩⟩,en⟩
  ·rw [en] at e;cases e
  obtain⟨c1,c2⟩:=c;dsimp only at en e2;subst en e2;refine wpS_bind (wpS_elem t2 (wpS_bind (wpS_elem (show ia2<a.size by lia) (wpS_bind (ik hO (hst2.k.trans hk) (hb _ (by simp)) (ha _ (by simp)) ?_)))));cases e:κ.blt (kf κ b[ib2]) (kf κ a[ia2]) with
  |true=>
   have hM':=hM2.pushB1 (by lia) t2 e;refine aF rfl (wpS_bind (wpS_elem t2 ?_));by_cases hz:ib2+1=b.size
   ·refine aF (Au.mpr hz) (zU ⟨hst2,.inl ⟨_,rfl,hM'.doneB hz⟩⟩)
   ·refine aB (λ z=>hz (Au.mp z)) (bZ (zU ⟨hst2,.inr ⟨_,ia2,ib2+1,rfl,⟨_,_,rfl⟩,hM',by lia,by lia,by lia⟩⟩) (zU ⟨⟨hst2,.inr ⟨_,ia2,ib2+1,rfl,⟨_,_,rfl⟩,hM',by lia,by lia,by lia⟩⟩,rfl⟩))
  |false=>
   have hM':=hM2.pushA1 (by lia) t2 e;refine aB (by decide) (wpS_bind (wpS_elem (show ia2<a.size by lia) ?_));by_cases hz:ia2+1+1=a.size
   ·refine aF (Au.mpr hz) (zU ⟨hst2,.inl ⟨_,rfl,hM'.last hz hl⟩⟩)
   ·refine aB (λ z=>hz (Au.mp z)) (bZ (zU ⟨hst2,.inr ⟨_,ia2+1,ib2,rfl,⟨_,_,rfl⟩,hM',by lia,by lia,by lia⟩⟩) (zU ⟨⟨hst2,.inr ⟨_,ia2+1,ib2,rfl,⟨_,_,rfl⟩,hM',by lia,by lia,by lia⟩⟩,rfl⟩))
 ·rintro c st' ⟨⟨_,⟨r,e,_⟩|⟨out,ia,ib,_,_,_,t1,t2,t3⟩⟩,en⟩
  ·rw [en] at e;cases e
  ·exfalso;have:max 0 total=a.size+b.size:=by simp [total]
   lia
 rintro⟨c1,c2⟩ st2 ⟨hst2,⟨r,e,hW⟩|⟨out2,ia2,ib2,e,⟨p2,r2,e2⟩,hM2,t1,t2,t3⟩⟩
 ·dsimp only at e;subst e;exact zU ⟨hst2,r,rfl,hW⟩
 dsimp only at e e2;subst e e2;refine wpS_bind (wpS_lift (Cq ⟨rfl,?_⟩));refine wpS_bind (BD (Bb (I:=λ x c st'=>LoQ κ a b st (y+1+1) (λ out ia ib d=>∃g p q,d=(out,ia,ib,g,p,q)) c st'/\c.1=none) (Q:=λ c st'=>LoQ κ a b st (y+1+1) (λ out ia ib d=>∃g p q,d=(out,ia,ib,g,p,q)) c st') ?_ ?_ ⟨⟨hst2,.inr ⟨out2,ia2,ib2,rfl,⟨_,_,_,rfl⟩,hM2,t1,t2,t3⟩⟩,rfl⟩) ?_)
 ·clear hM2 t1 t2 t3 hM1 q1 q2 q3;rintro x c st3 _ hx ⟨⟨hst3,⟨r,e,_⟩|⟨out3,ia3,ib3,_,⟨g3,p3,r3,e2⟩,hM3,t1,t2,t3⟩⟩,en⟩
  ·rw [en] at e;cases e
  obtain⟨c1,c2⟩:=c;dsimp only at en e2;subst en e2
  extract_lets v1 v2 v3 v4 v5 v6 v7 v8 v9 v10 v11 v12 jp
  have hjp:∀g,wpS (model prog w) A E s (jp () g) (λ r st'=>match r with
    | .done c'=>LoQ κ a b st (y+1+1) (λ out ia ib d=>∃g p q,d=(out,ia,ib,g,p,q)) c' st'
    | .yield c'=>LoQ κ a b st (y+1+1) (λ out ia ib d=>∃g p q,d=(out,ia,ib,g,p,q)) c' st'/\c'.1=none) st3:=by
   intro g;refine wpS_bind (wpS_setMin hst3 λ st4 hst4=>wpS_bind (wpS_elem t2 (wpS_bind (nF hO (hst4.k.trans hk) sa ha (hb _ (by simp)) (show ia3+(a.size-ia3)≤a.size by lia) (show 0<a.size-ia3 by lia) λ k f1 f2 f3=>?_))));have f1':k≤a.size-ia3:=f1;have hM4:MA κ a b (out3++a.extract ia3 (ia3+k)) (ia3+k) ib3:=hM3.pushA λ x hx y hy=>by
    obtain⟨j,hj,hj2,rfl⟩:=jK hx;have:=f2 j hj;rw [cN hj2] at this;exact le_trans (ord κ) this (gq t2 hM3.sb hy)
   dsimp-zeta only
   extract_lets u1 jp2
   have hjp2:∀out ia,MA κ a b out ia ib3->∀hia:ia+1<a.size,LtK κ b[ib3] a[ia]->y+1+1≤ia+ib3->wpS (model prog w) A E s (jp2 () out ia) (λ r st'=>match r with
     | .done c'=>LoQ κ a b st (y+1+1) (λ out ia ib d=>∃g p q,d=(out,ia,ib,g,p,q)) c' st'
     | .yield c'=>LoQ κ a b st (y+1+1) (λ out ia ib d=>∃g p q,d=(out,ia,ib,g,p,q)) c' st'/\c'.1=none) st4:=by
    intro out ia hM hia hlt hlow;refine wpS_bind (wpS_elem t2 ?_);have hM5:=hM.pushB1 (by lia) t2 hlt;by_cases hz:ib3+1=b.size
    ·refine aF (Au.mpr hz) (zU ⟨hst4,.inl ⟨_,rfl,hM5.doneB hz⟩⟩)
    refine aB (λ z=>hz (Au.mp z)) ?_;refine wpS_bind (wpS_elem (show ia<a.size by lia) (wpS_bind (o6 hO (hst4.k.trans hk) sb hb (ha _ (by simp)) (show ib3+1+(b.size-(ib3+1))≤b.size by lia) (show 0<b.size-(ib3+1) by lia) λ k2 d1 d2 d3=>?_)));have d1':k2≤b.size-(ib3+1):=d1;dsimp-zeta only
    extract_lets w1 w2 jp3
    have hjp3:∀out ib,MA κ a b out ia ib->∀hib:ib<b.size,LeK κ a[ia] b[ib]->y+1+1≤ia+ib->wpS (model prog w) A E s (jp3 () out ib) (λ r st'=>match r with
      | .done c'=>LoQ κ a b st (y+1+1) (λ out ia ib d=>∃g p q,d=(out,ia,ib,g,p,q)) c' st'
      | .yield c'=>LoQ κ a b st (y+1+1) (λ out ia ib d=>∃g p q,d=(out,ia,ib,g,p,q)) c' st'/\c'.1=none) st4:=by
     intro out ib hM hib hle hlow;refine wpS_bind (wpS_elem (show ia<a.size by lia) ?_);have hM6:=hM.pushA1 (by lia) hib hle;by_cases hz:ia+1+1=a.size
     ·refine aF (Au.mpr hz) (zU ⟨hst4,.inl ⟨_,rfl,hM6.last hz hl⟩⟩)
     refine aB (λ z=>hz (Au.mp z)) (bZ (zU ⟨hst4,.inr ⟨_,ia+1,ib,rfl,⟨_,_,_,rfl⟩,hM6,by lia,by lia,by lia⟩⟩) (zU ⟨⟨hst4,.inr ⟨_,ia+1,ib,rfl,⟨_,_,_,rfl⟩,hM6,by lia,by lia,by lia⟩⟩,rfl⟩))
    clear_value jp3
    by_cases hk0:k2>0
    ·refine aF hk0 ?_;have hM7:=hM5.pushB (k:=k2) λ y hy x hx=>by
      obtain⟨j,hj,hj2,rfl⟩:=jK hy;have:=d2 j hj;rw [cN hj2] at this;exact b8 (ord κ) this (gq (show ia<a.size by lia) hM5.sa hx)
     by_cases hz2:ib3+1+k2=b.size
     ·refine aF (Au.mpr hz2) (zU ⟨hst4,.inl ⟨_,rfl,hM7.doneB hz2⟩⟩)
     ·refine aB (λ z=>hz2 (Au.mp z)) (hjp3 _ (ib3+1+k2) hM7 (by lia) ?_ (by lia));have:=d3 k2 (zy _) (show k2<b.size-(ib3+1) by lia);rw [cN (show ib3+1+k2<b.size by lia)] at this;exact this
    ·refine aB hk0 (hjp3 _ (ib3+1) hM5 (by lia) ?_ (by lia));have:=d3 0 (by lia) (show 0<b.size-(ib3+1) by lia);rw [cN (show ib3+1+0<b.size by lia)] at this;exact this
   clear_value jp2
   by_cases hk0:k>0
   ·refine aF hk0 ?_;by_cases hz:ia3+k+1=a.size
    ·refine aF (Au.mpr hz) (zU ⟨hst4,.inl ⟨_,rfl,hM4.last hz hl⟩⟩)
    refine aB (λ z=>hz (Au.mp z)) ?_;by_cases hz2:ia3+k=a.size
    ·refine aF (Au.mpr hz2) (zU ⟨hst4,.inl ⟨_,rfl,hM4.doneA hz2⟩⟩)
    ·refine aB (λ z=>hz2 (Au.mp z)) (hjp2 _ (ia3+k) hM4 (by lia) ?_ (by lia));have:=f3 k (zy _) (show k<a.size-ia3 by lia);rw [cN (show ia3+k<a.size by lia)] at this;exact this
   ·refine aB hk0 (hjp2 _ ia3 hM3 t1 ?_ t3);have:=f3 0 (by lia) (show 0<a.size-ia3 by lia);rw [cN (show ia3+0<a.size by lia)] at this;exact this
  clear_value jp
  exact bZ (BD (hjp _) λ r st' q=>by cases r<;>exact q) (BD (hjp _) λ r st' q=>by cases r<;>exact q)
 ·rintro c st' ⟨q,_⟩;exact q
 rintro⟨c1,c2⟩ st3 ⟨hst3,⟨r,e,hW⟩|⟨out3,ia3,ib3,e,⟨g3,p3,r3,e2⟩,hM3,u1,u2,u3⟩⟩
 ·dsimp only at e;subst e;exact zU ⟨hst3,r,rfl,hW⟩
 dsimp only at e e2;subst e e2;exact wpS_bind (wpS_setMin hst3 λ st4 hst4=>zU ⟨⟨hst4,.inr ⟨out3,ia3,ib3,rfl,⟨_,rfl⟩,hM3,u1,u2,by lia⟩⟩,rfl⟩)
end
section
variable {κ : KeyKind} {a b : Array Keyed}
def MH (κ:KeyKind)(a b out:Array Keyed)(na nb:Nat):Prop:=Mh κ.blt (kf κ) (a.toList++b.toList) (a.toList.take na) (b.toList.take nb) out.toList.reverse
theorem MH.sa (h:MH κ a b out na nb):(a.toList.take na).Pairwise (LeK κ):=(zF.mp h.s1).1
theorem MH.sb (h:MH κ a b out na nb):(b.toList.take nb).Pairwise (LeK κ):=(zF.mp h.s2).1
theorem gv {i:Nat}(h:i<xs.size):xs.toList.take (i+1)=xs.toList.take i++[xs[i]]:=by
 have h':i<xs.toList.length:=by simpa using h
 rw [AO,zu h'];rfl
theorem gH {i:Nat}(h:i<xs.size)(s:(xs.toList.take (i+1)).Pairwise (LeK κ))(hy:y∈xs.toList.take (i+1)):LeK κ y xs[i]:=by
 rw [gv h] at s hy;rcases zI.mp hy with z|z
 ·exact(zF.mp s).2.2 y z _ (by simp)
 ·have:y=xs[i]:=by simpa using z
  subst this;exact(ord κ).irr _
theorem ck {i:Nat}(h:i≤n):(xs.extract i n).toList=(xs.toList.drop i).take (n-i):=by
 rw [DE,CN]
theorem lJ {i:Nat}(h:i≤n):xs.toList.take i++(xs.extract i n).toList=xs.toList.take n:=by
 rw [ck h];have:n=i+(n-i):=by lia
 rw(config:={occs:=.pos [2]}) [this];rw [List.take_add]
theorem gl {i:Nat}{x:Keyed}(hin:i≤n)(hn:n≤xs.size)(h:x∈(xs.extract i n).toList):∃j,i≤j/\∃hj:j<n,x=xs[j]:=by
 rw [ck hin] at h;obtain⟨j,hj,hj2,rfl⟩:=jK h;exact⟨i+j,by lia,by lia,rfl⟩
theorem MH.pushA (h:MH κ a b out na nb)(hat:at'≤na)(hX:∀y∈b.toList.take nb,∀x∈(a.extract at' na).toList,LtK κ y x):MH κ a b (out++(a.extract at' na).reverse) at' nb:=by
 unfold MH at h ⊢;rw [<-lJ hat] at h;rw [Al,BU,BC,Bj];exact Mh.pushA (ord κ) h hX
theorem MH.pushB (h:MH κ a b out na nb)(hat:at'≤nb)(hY:∀x∈a.toList.take na,∀y∈(b.extract at' nb).toList,LeK κ x y):MH κ a b (out++(b.extract at' nb).reverse) na at':=by
 unfold MH at h ⊢;rw [<-lJ (xs:=b) hat] at h;rw [Al,BU,BC,Bj];exact Mh.pushB h hY
theorem lW {i:Nat}(h:i<xs.size):out.push xs[i]=out++(xs.extract i (i+1)).reverse:=by
 apply Array.toList_inj.mp;rw [DZ,Al,BC,ix,dU h];rfl
theorem MH.pushA1 {i:Nat}(h:MH κ a b out (i+1) (j+1))(hi:i<a.size)(hj:j<b.size)(hl:LtK κ b[j] a[i]):MH κ a b (out.push a[i]) i (j+1):=by
 rw [lW hi];refine h.pushA (by lia) λ y hy x hx=>?_
 obtain⟨q,q1,q2,rfl⟩:=gl (by lia) (by lia) hx;have:q=i:=by lia
 subst this;exact dv (ord κ) (gH hj h.sb hy) hl
theorem MH.pushB1 {i:Nat}(h:MH κ a b out (i+1) (j+1))(hi:i<a.size)(hj:j<b.size)(hl:LeK κ a[i] b[j]):MH κ a b (out.push b[j]) (i+1) j:=by
 rw [lW hj];refine h.pushB (by lia) λ x hx y hy=>?_
 obtain⟨q,q1,q2,rfl⟩:=gl (by lia) (by lia) hy;have:q=j:=by lia
 subst this;exact le_trans (ord κ) (gH hi h.sa hx) hl
theorem MH.doneA (h:MH κ a b out na nb)(e:na=0):bN κ a b (a.extract 0 na++b.extract 0 nb++out.reverse):=by
 subst e;unfold MH at h;rw [Cn] at h;unfold bN;rw [Al,Al,BC,ck (Ap _),ck (Ap _),BH,BH,Ca,Ca,Cn,A3];exact h.endB
theorem MH.doneB (h:MH κ a b out na nb)(e:nb=0):bN κ a b (a.extract 0 na++b.extract 0 nb++out.reverse):=by
 subst e;unfold MH at h;rw [Cn] at h;unfold bN;rw [Al,Al,BC,ck (Ap _),ck (Ap _),BH,BH,Ca,Ca,Cn,Ax];exact h.endA
theorem MH.first (h:MH κ a b out na nb)(e:nb=1)(hf:∀y∈b.toList.take 1,∀x∈a.toList,LtK κ y x):bN κ a b (b.extract 0 nb++a.extract 0 na++out.reverse):=by
 subst e;have h2:=h.pushA (at':=0) (Ap _) λ y hy x hx=>hf y hy x (by rw [ck (Ap _),BH] at hx;exact A7 hx)
 unfold MH at h2;rw [Cn,Al,BU,BC,Bj] at h2;have h3:=h2.endB;unfold bN;rw [Al,Al,BC,zt];rw [ck (xs:=b) (Ap _),BH,Ca];exact h3
end
section
variable {prog : Program} {w : World} {A : Around} {E : Value -> Shared -> Prop} {s : Shared} {κ : KeyKind} {a b : Array Keyed}
def HiQ (κ:KeyKind)(a b:Array Keyed)(st0:SortSt){β:Type}(low:Nat)(pr:Array Keyed->Nat->Nat->β->Prop)(c:Option (Array Keyed)×β)(st:SortSt):Prop:=
 Stay st0 st/\((∃r,c.1=some r/\bN κ a b r)\/∃out i j,c.1=none/\pr out (i+1) (j+1) c.2/\MH κ a b out (i+1) (j+1)/\i<a.size/\j<b.size/\0<j/\i+1+(j+1)+low≤a.size+b.size)
theorem kN (hO:κ.OneLt){Q:Array Keyed->SortSt->Prop}(hk:kindOf st=oneType')(ha:∀p∈a.toList,Has κ p)(hb:∀p∈b.toList,Has κ p)(sa:a.toList.Pairwise (LeK κ))(sb:b.toList.Pairwise (LeK κ))
  (na:0<a.size) (nb:0<b.size) (hf:∀y∈b.toList.take 1,∀x∈a.toList,LtK κ y x) (hl:LtK κ b[b.size-1] a[a.size-1]) (h:∀r st',Stay st st'->bN κ a b r->Q r st'):
  wpS (model prog w) A E s (tX a b) Q st:=by
 obtain⟨ma,hma⟩:∃ma,a.size=ma+1:=⟨a.size-1,by lia⟩;obtain⟨mb,hmb⟩:∃mb,b.size=mb+1:=⟨b.size-1,by lia⟩;have hlt:LtK κ (b[mb]'(by lia)) (a[ma]'(by lia)):=by
  have e1:b.size-1=mb:=by lia
  have e2:a.size-1=ma:=by lia
  simp only [e1,e2] at hl;exact hl
 have hM00:MH κ a b #[] (ma+1) (mb+1):=by
  unfold MH;have e1:a.toList.take (ma+1)=a.toList:=Ad (by simp;lia);have e2:b.toList.take (mb+1)=b.toList:=Ad (by simp;lia);rw [e1,e2];exact⟨by simpa using sa,by simpa using sb,by simpa using Stb.refl _⟩
 have hM0:MH κ a b #[a[ma]'(by lia)] ma (mb+1):=hM00.pushA1 (by lia) (by lia) hlt;refine wpS_bind (wpS_lift (Cq ⟨rfl,?_⟩))
 extract_lets total done firstOfB na0 nb0
 have ena:na0=ma:=by show a.size-1=ma;lia
 have enb:nb0=mb+1:=hmb
 clear_value na0 nb0
 subst ena enb;refine wpS_bind (wpS_elem (show na0<a.size by lia) ?_)
 extract_lets out0
 by_cases e1:na0=0
 ·refine aF (Au.mpr e1) (zU (h _ _ (Stay.refl _) (hM0.doneA e1)))
 refine aB (λ z=>e1 (Au.mp z)) ?_;by_cases e2:mb+1=1
 ·refine aF (Au.mpr e2) (zU (h _ _ (Stay.refl _) (hM0.first e2 hf)))
 refine aB (λ z=>e2 (Au.mp z)) ?_;obtain⟨i0,rfl⟩:∃i0,na0=i0+1:=⟨na0-1,by lia⟩;refine wpS_bind (wpS_get ?_)
 extract_lets mg0
 refine wpS_bind (BD (Bb (I:=λ y c st'=>HiQ κ a b st (y+1) (λ out ia ib d=>∃mg,d=(ia,ib,out,mg)) c st'/\c.1=none) (Q:=λ c st'=>Stay st st'/\∃r,c.1=some r/\bN κ a b r) ?_ ?_ ⟨⟨Stay.refl _,.inr ⟨out0,i0,mb,rfl,⟨_,rfl⟩,hM0,by lia,by lia,by lia,by lia⟩⟩,rfl⟩) ?_)
 rotate_left
 ·rintro c st' ⟨⟨_,⟨r,e,_⟩|⟨out,i,j,_,_,_,q1,q2,q3,q4⟩⟩,en⟩
  ·rw [en] at e;cases e
  ·exfalso;have:max 0 total=a.size+b.size:=by simp [total]
   lia
 ·rintro⟨c1,c2⟩ st' ⟨hst,r,e,hW⟩;dsimp only at e;subst e;exact zU (h r st' hst hW)
 clear hM0 hM00;rintro y c st1 _ hy ⟨⟨hst1,⟨r,e,_⟩|⟨out1,i1,j1,_,⟨mg1,e2⟩,hM1,q1,q2,q3,q4⟩⟩,en⟩
 ·rw [en] at e;cases e
 obtain⟨c1,c2⟩:=c;dsimp only at en e2;subst en e2;refine wpS_bind (BD (Bb (I:=λ x c st'=>HiQ κ a b st (y+1+x) (λ out ia ib d=>∃p q,d=(ia,ib,out,p,q)) c st'/\c.1=none) (Q:=λ c st'=>HiQ κ a b st (y+1+1) (λ out ia ib d=>∃p q,d=(ia,ib,out,p,q)) c st') ?_ ?_ ⟨⟨hst1,.inr ⟨out1,i1,j1,rfl,⟨_,_,rfl⟩,hM1,q1,q2,q3,q4⟩⟩,rfl⟩) ?_)
 ·rintro x c st2 _ hx ⟨⟨hst2,⟨r,e,_⟩|⟨out2,i2,j2,_,⟨p2,r2,e2⟩,hM2,t1,t2,t3,t4⟩⟩,en⟩
  ·rw [en] at e;cases e
  obtain⟨c1,c2⟩:=c;dsimp only at en e2;subst en e2;refine wpS_bind (wpS_elem (i:=j2) t2 (wpS_bind (wpS_elem (i:=i2) t1 (wpS_bind (ik hO (hst2.k.trans hk) (hb _ (by simp)) (ha _ (by simp)) ?_)))));cases e:κ.blt (kf κ b[j2]) (kf κ a[i2]) with
  |true=>
   have hM':=hM2.pushA1 t1 t2 e;refine aF rfl (wpS_bind (wpS_elem (i:=i2) t1 ?_));by_cases hz:i2=0
   ·refine aF (Au.mpr hz) (zU ⟨hst2,.inl ⟨_,rfl,hM'.doneA hz⟩⟩)
   ·obtain⟨i3,rfl⟩:∃i3,i2=i3+1:=⟨i2-1,by lia⟩;refine aB (λ z=>hz (Au.mp z)) (bZ (zU ⟨hst2,.inr ⟨_,i3,j2,rfl,⟨_,_,rfl⟩,hM',by lia,by lia,by lia,by lia⟩⟩) (zU ⟨⟨hst2,.inr ⟨_,i3,j2,rfl,⟨_,_,rfl⟩,hM',by lia,by lia,by lia,by lia⟩⟩,rfl⟩))
  |false=>
   have hM':=hM2.pushB1 t1 t2 e;refine aB (by decide) (wpS_bind (wpS_elem (i:=j2) t2 ?_));by_cases hz:j2=1
   ·refine aF (Au.mpr hz) (zU ⟨hst2,.inl ⟨_,rfl,hM'.first hz hf⟩⟩)
   ·obtain⟨j3,rfl⟩:∃j3,j2=j3+1:=⟨j2-1,by lia⟩;refine aB (λ z=>hz (Au.mp z)) (bZ (zU ⟨hst2,.inr ⟨_,i2,j3,rfl,⟨_,_,rfl⟩,hM',by lia,by lia,by lia,by lia⟩⟩) (zU ⟨⟨hst2,.inr ⟨_,i2,j3,rfl,⟨_,_,rfl⟩,hM',by lia,by lia,by lia,by lia⟩⟩,rfl⟩))
 ·rintro c st' ⟨⟨_,⟨r,e,_⟩|⟨out,i,j,_,_,_,t1,t2,t3,t4⟩⟩,en⟩
  ·rw [en] at e;cases e
  ·exfalso;have:max 0 total=a.size+b.size:=by simp [total]
   lia
 rintro⟨c1,c2⟩ st2 ⟨hst2,⟨r,e,hW⟩|⟨out2,i2,j2,e,⟨p2,r2,e2⟩,hM2,t1,t2,t3,t4⟩⟩
 ·dsimp only at e;subst e;exact zU ⟨hst2,r,rfl,hW⟩
 dsimp only at e e2;subst e e2;refine wpS_bind (wpS_lift (Cq ⟨rfl,?_⟩));refine wpS_bind (BD (Bb (I:=λ x c st'=>HiQ κ a b st (y+1+1) (λ out ia ib d=>∃g p q,d=(ia,ib,out,g,p,q)) c st'/\c.1=none) (Q:=λ c st'=>HiQ κ a b st (y+1+1) (λ out ia ib d=>∃g p q,d=(ia,ib,out,g,p,q)) c st') ?_ ?_ ⟨⟨hst2,.inr ⟨out2,i2,j2,rfl,⟨_,_,_,rfl⟩,hM2,t1,t2,t3,t4⟩⟩,rfl⟩) ?_)
 ·clear hM2 t1 t2 t3 t4 hM1 q1 q2 q3 q4;rintro x c st3 _ hx ⟨⟨hst3,⟨r,e,_⟩|⟨out3,i3,j3,_,⟨g3,p3,r3,e2⟩,hM3,t1,t2,t3,t4⟩⟩,en⟩
  ·rw [en] at e;cases e
  obtain⟨c1,c2⟩:=c;dsimp only at en e2;subst en e2
  extract_lets v1 v2 v3 v4 v5 v6 v7 v8 v9 v10 v11 v12 jp
  have hjp:∀g,wpS (model prog w) A E s (jp () g) (λ r st'=>match r with
    | .done c'=>HiQ κ a b st (y+1+1) (λ out ia ib d=>∃g p q,d=(ia,ib,out,g,p,q)) c' st'
    | .yield c'=>HiQ κ a b st (y+1+1) (λ out ia ib d=>∃g p q,d=(ia,ib,out,g,p,q)) c' st'/\c'.1=none) st3:=by
   intro g;refine wpS_bind (wpS_setMin hst3 λ st4 hst4=>wpS_bind (wpS_elem (i:=j3) t2 (wpS_bind (nF (i:=0) (n:=i3+1) (hint:=i3) hO (hst4.k.trans hk) sa ha (hb _ (by simp)) (by lia) (by lia) λ k f1 f2 f3=>?_))));have hM4:MH κ a b (out3++(a.extract k (i3+1)).reverse) k (j3+1):=hM3.pushA f1 λ y hy x hx=>by
    obtain⟨q,q1,q2,rfl⟩:=gl f1 (by lia) hx;have:=f3 q q1 (by lia);rw [A9,cN (show q<a.size by lia)] at this;exact dv (ord κ) (gH t2 hM3.sb hy) this
   dsimp-zeta only
   extract_lets u1 u2 jp2
   have hjp2:∀out i,MH κ a b out (i+1) (j3+1)->∀hi:i<a.size,LeK κ a[i] b[j3]->i+1+(j3+1)+(y+1+1)≤a.size+b.size->wpS (model prog w) A E s (jp2 () (i+1) out) (λ r st'=>match r with
     | .done c'=>HiQ κ a b st (y+1+1) (λ out ia ib d=>∃g p q,d=(ia,ib,out,g,p,q)) c' st'
     | .yield c'=>HiQ κ a b st (y+1+1) (λ out ia ib d=>∃g p q,d=(ia,ib,out,g,p,q)) c' st'/\c'.1=none) st4:=by
    intro out i hM hi hle hlow;refine wpS_bind (wpS_elem (i:=j3) t2 ?_);have hM5:=hM.pushB1 hi t2 hle;by_cases hz:j3=1
    ·refine aF (Au.mpr hz) (zU ⟨hst4,.inl ⟨_,rfl,hM5.first hz hf⟩⟩)
    refine aB (λ z=>hz (Au.mp z)) ?_;obtain⟨j4,rfl⟩:∃j4,j3=j4+1:=⟨j3-1,by lia⟩;refine wpS_bind (wpS_elem (i:=i) hi (wpS_bind (o6 (i:=0) (n:=j4+1) (hint:=j4) hO (hst4.k.trans hk) sb hb (ha _ (by simp)) (by lia) (by lia) λ k2 d1 d2 d3=>?_)));dsimp-zeta only
    extract_lets w1 w2 w3 jp3
    have hjp3:∀out j,MH κ a b out (i+1) (j+1)->∀hj:j<b.size,0<j->LtK κ b[j] a[i]->i+1+(j+1)+(y+1+1)≤a.size+b.size->wpS (model prog w) A E s (jp3 () (j+1) out) (λ r st'=>match r with
      | .done c'=>HiQ κ a b st (y+1+1) (λ out ia ib d=>∃g p q,d=(ia,ib,out,g,p,q)) c' st'
      | .yield c'=>HiQ κ a b st (y+1+1) (λ out ia ib d=>∃g p q,d=(ia,ib,out,g,p,q)) c' st'/\c'.1=none) st4:=by
     intro out j hM hj hj0 hlt hlow;refine wpS_bind (wpS_elem (i:=i) hi ?_);have hM6:=hM.pushA1 hi hj hlt;by_cases hz:i=0
     ·refine aF (Au.mpr hz) (zU ⟨hst4,.inl ⟨_,rfl,hM6.doneA hz⟩⟩)
     obtain⟨i5,rfl⟩:∃i5,i=i5+1:=⟨i-1,by lia⟩;refine aB (λ z=>hz (Au.mp z)) (bZ (zU ⟨hst4,.inr ⟨_,i5,j,rfl,⟨_,_,_,rfl⟩,hM6,by lia,by lia,by lia,by lia⟩⟩) (zU ⟨⟨hst4,.inr ⟨_,i5,j,rfl,⟨_,_,_,rfl⟩,hM6,by lia,by lia,by lia,by lia⟩⟩,rfl⟩))
    clear_value jp3
    have hlast:∀q,q+1=k2->∀hq:q<b.size,LtK κ b[q] a[i]:=λ q hq hq2=>by
     have:=d2 q (by lia);rw [A9,cN hq2] at this;exact this
    by_cases hk0:j4+1-k2>0
    ·refine aF hk0 ?_;have hM7:=hM5.pushB (at':=k2) d1 λ x hx y hy=>by
      obtain⟨q,q1,q2,rfl⟩:=gl d1 (by lia) hy;have:=d3 q q1 (by lia);rw [A9,cN (show q<b.size by lia)] at this;exact le_trans (ord κ) (gH hi hM5.sa hx) this
     by_cases hz2:k2=1
     ·refine aF (Au.mpr hz2) (zU ⟨hst4,.inl ⟨_,rfl,hM7.first hz2 hf⟩⟩)
     refine aB (λ z=>hz2 (Au.mp z)) ?_;by_cases hz3:k2=0
     ·refine aF (Au.mpr hz3) (zU ⟨hst4,.inl ⟨_,rfl,hM7.doneB hz3⟩⟩)
     refine aB (λ z=>hz3 (Au.mp z)) ?_;obtain⟨k3,rfl⟩:∃k3,k2=k3+1:=⟨k2-1,by lia⟩;exact hjp3 _ k3 hM7 (by lia) (by lia) (hlast k3 rfl _) (by lia)
    ·refine aB hk0 ?_;exact hjp3 _ j4 hM5 (by lia) (by lia) (hlast j4 (by lia) _) (by lia)
   clear_value jp2
   have hlast:∀q,q+1=k->∀hq:q<a.size,LeK κ a[q] b[j3]:=λ q hq hq2=>by
    have:=f2 q (by lia);rw [A9,cN hq2] at this;exact this
   by_cases hk0:i3+1-k>0
   ·refine aF hk0 ?_;by_cases hz:k=0
    ·refine aF (Au.mpr hz) (zU ⟨hst4,.inl ⟨_,rfl,hM4.doneA hz⟩⟩)
    refine aB (λ z=>hz (Au.mp z)) ?_;obtain⟨k3,rfl⟩:∃k3,k=k3+1:=⟨k-1,by lia⟩;exact hjp2 _ k3 hM4 (by lia) (hlast k3 rfl _) (by lia)
   ·refine aB hk0 ?_;exact hjp2 _ i3 hM3 t1 (hlast i3 (by lia) _) t4
  clear_value jp
  exact bZ (BD (hjp _) λ r st' q=>by cases r<;>exact q) (BD (hjp _) λ r st' q=>by cases r<;>exact q)
 ·rintro c st' ⟨q,_⟩;exact q
 rintro⟨c1,c2⟩ st3 ⟨hst3,⟨r,e,hW⟩|⟨out3,i3,j3,e,⟨g3,p3,r3,e2⟩,hM3,u1,u2,u3,u4⟩⟩
 ·dsimp only at e;subst e;exact zU ⟨hst3,r,rfl,hW⟩
 dsimp only at e e2;subst e e2;exact wpS_bind (wpS_setMin hst3 λ st4 hst4=>zU ⟨⟨hst4,.inr ⟨out3,i3,j3,rfl,⟨_,rfl⟩,hM3,u1,u2,u3,by lia⟩⟩,rfl⟩)
end
section
variable {prog : Program} {w : World} {A : Around} {E : Value -> Shared -> Prop} {s : Shared} {κ : KeyKind}
theorem rn (hO:κ.OneLt){i:Nat}(hk:kindOf st=oneType')(hs:∀p q,p≤q->q<n->κ.blt (KK κ xs (i+q)) (KK κ xs (i+p))=false)(hall:∀p∈xs.toList,Has κ p)(hkey:Has κ key)(hn:i+n≤xs.size)(hh:hint<n)
  (h:∀k,k≤n->(∀j,j<k->κ.blt (kf κ key) (KK κ xs (i+j))=false)->(∀j,k≤j->j<n->κ.blt (kf κ key) (KK κ xs (i+j))=true)->Q (some k) st):wpS (model prog w) A E s (fo false key xs i n hint) Q st:=by
 have eb:∀j,byd κ false key xs j= !κ.blt (kf κ key) (KK κ xs j):=λ j=>rfl
 refine c7 hO hk hn hh hkey hall (λ p q hpq hq hb=>?_) λ k h1 h2 h3=>h k h1 (λ j hj=>?_) λ j hj hj2=>?_
 ·rw [eb] at hb ⊢;have hb':κ.blt (kf κ key) (KK κ xs (i+q))=false:=by simpa using hb
  have:=hs p q hpq hq;cases e:κ.blt (kf κ key) (KK κ xs (i+p)) with
  |false=>rfl
  |true=>
   rcases κ.negTrans _ (KK κ xs (i+q)) _ e with z|z
   ·rw [hb'] at z;cases z
   ·rw [this] at z;cases z
 ·have:=h2 j hj;rw [eb] at this;simpa using this
 ·have:=h3 j hj hj2;rw [eb] at this;simpa using this
theorem rj (hO:κ.OneLt){i:Nat}(hk:kindOf st=oneType')(hs:∀p q,p≤q->q<n->κ.blt (KK κ xs (i+q)) (KK κ xs (i+p))=false)(hall:∀p∈xs.toList,Has κ p)(hkey:Has κ key)(hn:i+n≤xs.size)(hh:hint<n)
  (h:∀k,k≤n->(∀j,j<k->κ.blt (KK κ xs (i+j)) (kf κ key)=true)->(∀j,k≤j->j<n->κ.blt (KK κ xs (i+j)) (kf κ key)=false)->Q (some k) st):wpS (model prog w) A E s (fo true key xs i n hint) Q st:=by
 have eb:∀j,byd κ true key xs j=κ.blt (KK κ xs j) (kf κ key):=λ j=>rfl
 refine c7 hO hk hn hh hkey hall (λ p q hpq hq hb=>?_) λ k h1 h2 h3=>h k h1 (λ j hj=>?_) λ j hj hj2=>?_
 ·rw [eb] at hb ⊢;have:=hs p q hpq hq;rcases κ.negTrans _ (KK κ xs (i+p)) _ hb with z|z
  ·rw [this] at z;cases z
  ·exact z
 ·exact h2 j hj
 ·exact h3 j hj hj2
end
theorem lQ (o:Nat):∀(r:List Keyed) (n:Nat) (xs:Array Keyed),o+n+r.length≤xs.size->
  ((r.zipIdx n).foldl (λ a x=>a.setIfInBounds (o+x.2) x.1) xs).toList=xs.toList.take (o+n)++r++xs.toList.drop (o+n+r.length)
 | [],n,xs,h=>by simp
 |x::r,n,xs,h=>by
  rw [zD] at h;have hlt:o+n<xs.toList.length:=by simp;lia
  rw [List.zipIdx_cons,List.foldl_cons,lQ o r (n+1) _ (by rw [Array.size_setIfInBounds];lia),DT];have e1:(xs.toList.set (o+n) x).take (o+(n+1))=xs.toList.take (o+n)++[x]:=by
   rw [show o+(n+1)=o+n+1 by lia,AO,BE hlt,List.take_set_of_le (zy _)];rfl
  have e2:(xs.toList.set (o+n) x).drop (o+(n+1)+r.length)=xs.toList.drop (o+n+(r.length+1)):=by
   rw [List.drop_set_of_lt (by lia)];congr 1;lia
  rw [e1,e2,zD];simp [zt]
section
variable {κ : KeyKind}
theorem dH (e:xs.toList=P++X++S)(hj:j<X.length):KK κ xs (P.length+j)=kf κ X[j]:=by
 have hlt:P.length+j<xs.size:=by
  have:xs.toList.length=xs.size:=by simp
  rw [<-this,e];simp;lia
 rw [cN hlt];congr 1;have:xs[P.length+j]=xs.toList[P.length+j]'(by simpa using hlt):=by simp
 rw [this];simp only [e];rw [B8 (by simp;lia),BI (by lia)];congr 1;lia
theorem gF (e:xs.toList=P++X++S)(hj:j<X.length):∃hlt:P.length+j<xs.size,xs[P.length+j]=X[j]:=by
 have hlt:P.length+j<xs.size:=by
  have:xs.toList.length=xs.size:=by simp
  rw [<-this,e];simp;lia
 refine⟨hlt,?_⟩;have:xs[P.length+j]=xs.toList[P.length+j]'(by simpa using hlt):=by simp
 rw [this];simp only [e];rw [B8 (by simp;lia),BI (by lia)];congr 1;lia
theorem kE (e:xs.toList=P++X++S){i:Nat}(hi:i≤n)(hn:n≤X.length):(xs.extract (P.length+i) (P.length+n)).toList=(X.drop i).take (n-i):=by
 rw [ck (by lia),e,show P.length+n-(P.length+i)=n-i by lia];rw [zt,<-CM,CH,DB (by lia),Br (by simp;lia)]
theorem ji (e:xs.toList=P++X++S)(h:X.Pairwise (LeK κ))(p q:Nat)(hpq:p≤q)(hq:q<X.length):κ.blt (KK κ xs (P.length+q)) (KK κ xs (P.length+p))=false:=by
 rw [dH e hq,dH e (show p<X.length by lia)];rcases AB p q with z|z
 ·exact(AI.mp h) p q (by lia) hq z
 ·have:p=q:=by lia
  subst this;exact(ord κ).irr _
end
end SG
namespace SM
variable {α κ : Type} {blt : κ -> κ -> Bool} {kf : α -> κ}
theorem first_split {p:α->Bool}:∀{ys:List α},(∃y∈ys,p y=true)->∃l1 y l2,ys=l1++y::l2/\p y=true/\∀z∈l1,¬p z=true
 | [],h=>by obtain⟨y,hy,_⟩:=h;cases hy
 |z::ys,h=>by
  by_cases hz:p z=true
  ·exact⟨[],z,ys,rfl,hz,λ _ h=>nomatch h⟩
  ·obtain⟨y,hy,hp⟩:=h;rcases zL.mp hy with rfl|hy
   ·exact absurd hp hz
   ·obtain⟨l1,y,l2,e,h1,h2⟩:=first_split ⟨y,hy,hp⟩;refine⟨z::l1,y,l2,by rw [e];rfl,h1,λ u hu=>?_⟩;rcases zL.mp hu with rfl|hu
    ·exact hz
    ·exact h2 u hu
theorem stb_perm (O:Ord blt):∀{xs ys:List α},Stb blt kf xs ys->xs.Perm ys
 | [],ys,h=>by
  cases ys with
  |nil=>exact .nil
  |cons y ys=>have:=Stb.mem O h.symm (zH (a:=y) (l:=ys));cases this
 |x::xs,ys,h=>by
  have hx:=Stb.mem O h (zH (a:=x) (l:=xs));obtain⟨l1,y,l2,rfl,hy,h1⟩:=first_split ⟨x,hx,eqv_self (blt:=blt) (kf:=kf) O x⟩;have e:=h (kf x);have n1:l1.filter (eqv blt kf (kf x))=[]:=A8.mpr h1;rw [zQ (eqv_self O x),z7,n1,A3,zQ hy] at e;obtain⟨rfl,e2⟩:=Dc e;have ht:Stb blt kf xs (l1++l2):=λ k=>by
   by_cases hk:eqv blt kf k x=true
   ·have z:=eqv_iff.mp hk;have:kf x=k:=O.tot _ _ z.1 z.2;subst this;rw [z7,n1,A3];exact e2
   ·have e3:=h k;rw [zY hk,z7,zY hk] at e3;rw [z7];exact e3
  exact(List.Perm.cons x (stb_perm O ht)).trans BK.symm
end SM
namespace SG
open PySem PyProof.Rows SM
variable {A' B D0 Eb M P S X Y l : List Keyed} {j lo n neq nrem : Nat} {Q : Bool->SortSt->Prop} {xs : Array Keyed} {pe : Array (Nat×Nat×Nat)} {As Bs Rs : List (List Keyed)} {st : SortSt}
theorem qj (h:0<xs.size):xs[0]∈xs.toList.take 1:=by
 have:=gv (xs:=xs) (i:=0) h;rw [A9] at this;rw [this];simp
theorem sW (h:0<xs.size):xs[xs.size-1]∈xs.toList.drop (xs.size-1):=by
 rw [dU (show xs.size-1<xs.size by lia)];simp
section
variable {prog : Program} {w : World} {A : Around} {E : Value -> Shared -> Prop} {s : Shared} {κ : KeyKind}
theorem uD {M:Model}{σ:Type}{x:σ}{Q:PUnit->σ->Prop}{st:σ}(h:Q ⟨⟩ x):wpS M A E s (set x:StateT σ Sem PUnit) Q st:=by
 unfold wpS;rw [StateT.run_set];exact Ai ⟨rfl,h⟩
theorem k9 (hO:κ.OneLt){i:Nat}{pw pw2:Nat}(hk:kindOf st=oneType')(hf:failedOf st=none)(hall:∀p∈(arrOf st).toList,Has κ p)
  (e:(arrOf st).toList=P++X++Y++S) (hX:X.Pairwise (LeK κ)) (hY:Y.Pairwise (LeK κ)) (nX:0<X.length) (nY:0<Y.length)
  (p1:(pendingOf st)[i]?=some (P.length,X.length,pw)) (p2:(pendingOf st)[i+1]?=some ((P++X).length,Y.length,pw2))
  (h:∀st' Z,kindOf st'=oneType'->failedOf st'=none->pendingOf st'=((pendingOf st).setIfInBounds i (P.length,X.length+Y.length,pw)).eraseIdxIfInBounds (i+1)->(arrOf st').toList=P++Z++S->Z.Pairwise (LeK κ)->Stb κ.blt (kf κ) Z (X++Y)->Q true st'):
  wpS (model prog w) A E s (mergeAt' i) Q st:=by
 have eX:(arrOf st).toList=P++X++(Y++S):=by rw [e];simp
 have eY:(arrOf st).toList=(P++X)++Y++S:=e;have lPX:(P++X).length=P.length+X.length:=zv;have lA:(arrOf st).size=P.length+X.length+Y.length+S.length:=by
  have:(arrOf st).toList.length=(arrOf st).size:=by simp
  rw [<-this,e];simp [Bc]
 have hmX:∀x∈X,Has κ x:=λ x hx=>hall x (by rw [e];simp [hx])
 have hmY:∀y∈Y,Has κ y:=λ y hy=>hall y (by rw [e];simp [hy])
 refine wpS_bind (wpS_get ?_);dsimp-zeta only;rw [p1,p2];dsimp-zeta only;refine wpS_bind (uD ?_);obtain⟨hy0,ey0⟩:=gF eY (j:=0) nY;refine wpS_bind (wpS_elem (i:=(P++X).length) (by lia) ?_);have ey:(arrOf st)[(P++X).length]'(by lia)=Y[0]:=ey0;rw [ey];refine wpS_bind (rn hO hk (ji eX hX) hall (hmY _ (Ay _)) (show P.length+X.length≤(arrOf st).size by lia) nX λ k f1 f2 f3=>?_);have g2:∀j (hj:j<k),LeK κ (X[j]'(by lia)) Y[0]:=λ j hj=>by
  have:=f2 j hj;rw [dH eX (show j<X.length by lia)] at this;exact this
 have g3:∀j,k≤j->∀hj:j<X.length,LtK κ Y[0] X[j]:=λ j hj hj2=>by
  have:=f3 j hj hj2;rw [dH eX hj2] at this;exact this
 have y0le:∀y∈Y,LeK κ Y[0] y:=λ y hy=>by
  obtain⟨j,hj,rfl⟩:=Aw.mp hy;rcases Di j with rfl|z
  ·exact(ord κ).irr _
  ·exact(AI.mp hY) 0 j nY hj z
 dsimp-zeta only;by_cases hz:X.length-k=0
 ·refine aF (Au.mpr hz) (zU (h _ (X++Y) hk hf rfl (by show(arrOf st).toList=_;rw [e];simp) ?_ (Stb.refl _)));rw [zF];refine⟨hX,hY,λ x hx y hy=>?_⟩;obtain⟨j,hj,rfl⟩:=Aw.mp hx;exact le_trans (ord κ) (g2 j (by lia)) (y0le y hy)
 refine aB (λ z=>hz (Au.mp z)) ?_;obtain⟨hx0,ex0⟩:=gF eX (j:=X.length-1) (by lia);have eix:P.length+k+(X.length-k)-1=P.length+(X.length-1):=by lia
 rw [eix];refine wpS_bind (wpS_elem (i:=P.length+(X.length-1)) hx0 ?_);rw [ex0];refine wpS_bind (rj hO hk (ji eY hY) hall (hmX _ (Ay _)) (show(P++X).length+Y.length≤(arrOf st).size by lia) (show Y.length-1<Y.length by lia) λ k2 d1 d2 d3=>?_);have c2:∀j (hj:j<k2),LtK κ (Y[j]'(by omega)) (X[X.length-1]'(by omega)):=λ j hj=>by
  have:=d2 j hj;rw [dH eY (show j<Y.length by lia)] at this;exact this
 have c3:∀j,k2≤j->∀hj:j<Y.length,LeK κ (X[X.length-1]'(by omega)) Y[j]:=λ j hj hj2=>by
  have:=d3 j hj hj2;rw [dH eY hj2] at this;exact this
 have hk2:0<k2:=by
  rcases Di k2 with rfl|z
  ·have a1:=c3 0 (zy _) nY;have a2:=g3 (X.length-1) (by lia) (by lia);have a3:κ.blt (kf κ Y[0]) (kf κ (X[X.length-1]'(by omega)))=false:=a1;have a4:κ.blt (kf κ Y[0]) (kf κ (X[X.length-1]'(by omega)))=true:=a2;rw [a3] at a4;cases a4
  ·exact z
 have xlast:∀x∈X,LeK κ x (X[X.length-1]'(by omega)):=λ x hx=>by
  obtain⟨j,hj,rfl⟩:=Aw.mp hx;rcases AB j (X.length-1) with z|z
  ·exact(AI.mp hX) j _ hj (by lia) z
  ·have:j=X.length-1:=by lia
   subst this;exact(ord κ).irr _
 dsimp-zeta only;refine aB (λ z=>absurd (Au.mp z) (by lia)) ?_
 extract_lets x y jp
 have ex:x.toList=X.drop k:=by
  show((arrOf st).extract (P.length+k) ((P++X).length)).toList=_;rw [lPX,kE eX (by lia) (zy _),Ad (by simp)]
 have ey':y.toList=Y.take k2:=by
  show((arrOf st).extract ((P++X).length) ((P++X).length+k2)).toList=_;have:=kE eY (i:=0) (n:=k2) (by lia) d1;rw [Bw] at this;rw [this,BH,Ca]
 have lx:x.size=X.length-k:=by rw [<-AS,ex,zR]
 have ly:y.size=k2:=by rw [<-AS,ey',zW];lia
 have hxa:∀p∈x.toList,Has κ p:=λ p hp=>hmX p (by rw [ex] at hp;exact A1 hp)
 have hya:∀p∈y.toList,Has κ p:=λ p hp=>hmY p (by rw [ey'] at hp;exact A7 hp)
 have sx:x.toList.Pairwise (LeK κ):=by rw [ex];exact hX.sublist (D1 _ _)
 have sy:y.toList.Pairwise (LeK κ):=by rw [ey'];exact hY.sublist (B4 _ _)
 have xge:∀u∈x.toList,LtK κ Y[0] u:=λ u hu=>by
  rw [ex] at hu;obtain⟨j,hj,rfl⟩:=Aw.mp hu;rw [BQ];exact g3 _ (by lia) _
 have hfirst:∀v∈y.toList.take 1,∀u∈x.toList,LtK κ v u:=λ v hv u hu=>by
  rw [ey',Ed,show min 1 k2=1 by lia] at hv;have:v=Y[0]:=by
   obtain⟨j,hj,rfl⟩:=Aw.mp hv;rw [zW] at hj;have:j=0:=by lia
   subst this;rw [Bg]
  subst this;exact xge u hu
 have hlast:∀v∈y.toList,∀u∈x.toList.drop (x.size-1),LtK κ v u:=λ v hv u hu=>by
  rw [ey'] at hv;obtain⟨j,hj,rfl⟩:=Aw.mp hv;rw [zW] at hj;rw [Bg];rw [ex,lx,CM] at hu;have:u=X[X.length-1]'(by omega):=by
   obtain⟨q,hq,rfl⟩:=Aw.mp hu;rw [zR] at hq;rw [BQ];congr 1;lia
  subst this;exact c2 j (by lia)
 have hj:∀(r:Array Keyed) (st2:SortSt),kindOf st2=oneType'->arrOf st2=arrOf st->failedOf st2=none->pendingOf st2=((pendingOf st).setIfInBounds i (P.length,X.length+Y.length,pw)).eraseIdxIfInBounds (i+1)->bN κ x y r->wpS (model prog w) A E s (jp r) Q st2:=by
  intro r st2 b1 b2 b3 b4 hW;have lr:r.toList.length=(X.length-k)+k2:=by
   rw [(stb_perm (ord κ) hW.2).length_eq,zv,AS,AS,lx,ly]
  refine wpS_bind (wpS_modify ?_);refine wpS_bind (wpS_get ?_);have hfn:(failedOf st2).isNone=true:=by rw [b3];rfl
  refine zU ?_;show Q ((failedOf st2).isNone) _;rw [hfn];refine h _ (X.take k++r.toList++Y.drop k2) b1 b3 b4 ?_ ?_ ?_
  ·show((r.toList.zipIdx 0).foldl (λ a x=>a.setIfInBounds (P.length+k+x.2) x.1) (arrOf st2)).toList=_;rw [b2,lQ (P.length+k) r.toList 0 (arrOf st) (by rw [lr,lA];lia),Bw,lr,e];have t1:(P++X++Y++S).take (P.length+k)=P++X.take k:=by
    rw [zt,zt,List.take_append,Ad (by lia),show P.length+k-P.length=k by lia,Br (by lia)]
   have t2:(P++X++Y++S).drop (P.length+k+(X.length-k+k2))=Y.drop k2++S:=by
    rw [zt (P++X),show P.length+k+(X.length-k+k2)=(P++X).length+k2 by rw [lPX];lia,<-CM,CH,DB (by lia)]
   rw [t1,t2];simp [zt]
  ·have memr:∀u∈r.toList,u∈x.toList\/u∈y.toList:=λ u hu=>zI.mp (Stb.mem (ord κ) hW.2 hu)
   rw [zt,zF,zF];refine⟨hX.sublist (B4 _ _),⟨hW.1,hY.sublist (D1 _ _),λ u hu v hv=>?_⟩,λ u hu v hv=>?_⟩
   ·obtain⟨q,hq,rfl⟩:=Aw.mp hv;rw [zR] at hq;rw [BQ];rcases memr u hu with z|z
    ·rw [ex] at z;exact le_trans (ord κ) (xlast u (A1 z)) (c3 _ (by lia) _)
    ·rw [ey'] at z;obtain⟨j,hj,rfl⟩:=Aw.mp z;rw [zW] at hj;rw [Bg];exact(AI.mp hY) j _ (by lia) (by lia) (by lia)
   ·obtain⟨q,hq,rfl⟩:=Aw.mp hu;rw [zW] at hq;rw [Bg];have a1:=g2 q (by lia);rcases zI.mp hv with z|z
    ·rcases memr v z with z|z
     ·exact le_trans (ord κ) a1 (le_of_lt (ord κ) (xge v z))
     ·rw [ey'] at z;exact le_trans (ord κ) a1 (y0le v (A7 z))
    ·exact le_trans (ord κ) a1 (y0le v (A1 z))
  ·have q1:=((Stb.refl (blt:=κ.blt) (kf:=kf κ) (X.take k)).app hW.2).app (Stb.refl (Y.drop k2));rw [ex,ey'] at q1;have:X.take k++(X.drop k++Y.take k2)++Y.drop k2=X++Y:=by
    rw [<-zt,zM,zt,zM]
   rw [this] at q1;exact q1
 clear_value jp
 have nx:0<x.size:=by lia
 have ny:0<y.size:=by lia
 refine bZ (wpS_bind (kC hO hk hxa hya sx sy nx ny (hfirst _ (qj ny) _ (by simp)) hlast λ r st' hst hW=>hj r st' (hst.k.trans hk) hst.a (hst.f.trans hf) hst.p hW))
  (wpS_bind (kN hO hk hxa hya sx sy nx ny hfirst (hlast _ (by simp) _ (sW nx)) λ r st' hst hW=>hj r st' (hst.k.trans hk) hst.a (hst.f.trans hf) hst.p hW))
end
theorem toL (k:Nat):xs[k]?=xs.toList[k]?:=by simp
theorem kK (e:xs.toList=A'++M++B):(mirror xs A'.length (A'.length+M.length) ((A'.length+M.length-A'.length)/2)).toList=A'++M.reverse++B:=by
 have hs:A'.length+M.length≤xs.size:=by
  rw [<-AS,e];simp
 apply Be;intro k;rw [<-toL,getElem?_mirror_all hs k,toL,toL,e];by_cases h:A'.length≤k/\k<A'.length+M.length
 ·rw [zP h,zt,zt,Aj (by lia),Aj h.1,AV (by lia),AV (by simp;lia),List.getElem?_reverse (by lia)];congr 1;lia
 ·rw [zK h,zt,zt];rcases AB k A'.length with z|z
  ·rw [AV z,AV z]
  ·rw [Aj z,Aj z,Aj (by lia),Aj (by simp;lia),Ch]
theorem kL {x:Keyed}(e:xs.toList=A'++M++[x]++B):(bubble xs (A'.length+M.length) (A'.length+M.length-A'.length)).toList=A'++[x]++M++B:=by
 have hs:A'.length+M.length<xs.size:=by
  rw [<-AS,e];simp
 apply Be;intro k;rw [<-toL,getElem?_bubble hs _ (by lia) k,toL,toL,toL,e,show A'.length+M.length-(A'.length+M.length-A'.length)=A'.length by lia];have e1:(A'++M++[x]++B)[A'.length+M.length]?=some x:=by
  rw [zt (A'++M),Aj (by simp)];simp
 rw [e1];by_cases h1:k=A'.length
 ·subst h1;rw [zP rfl,zt,zt,Aj (zy _)];simp
 ·rw [zK h1];by_cases h2:A'.length<k/\k≤A'.length+M.length
  ·rw [zP h2,zt (A'++M),zt,Aj (by lia),AV (by lia),zt (A'++[x]),Aj (by simp;lia),AV (by simp;lia)];congr 1;simp;lia
  ·rw [zK h2];rcases AB k A'.length with z|z
   ·rw [zt (A'++M),zt,AV z,zt (A'++[x]),zt,AV z]
   ·rw [Aj (by simp;lia),Aj (by simp;lia)];congr 1;simp
section
variable {prog : Program} {w : World} {A : Around} {E : Value -> Shared -> Prop} {s : Shared} {κ : KeyKind}
structure At (κ:KeyKind)(st:SortSt)(pe:Array (Nat×Nat×Nat))(l:List Keyed):Prop where
 k:kindOf st=oneType'
 f:failedOf st=none
 p:pendingOf st=pe
 a:(arrOf st).toList=l
 has:∀p∈l,Has κ p
theorem At.setA {l':List Keyed}(h:At κ st pe l)(e:xs.toList=l')(hm:∀p∈l',p∈l):At κ (setArr st xs) pe l':=⟨h.k,h.f,h.p,e,λ p hp=>h.has p (hm p hp)⟩
theorem wpS_ltL (hO:κ.OneLt){i:Nat}{Q:Option Bool->SortSt->Prop}(h:At κ st pe (P++X++S))(hi:i<X.length)(hj:j<X.length)
  (hq:Q (some (κ.blt (kf κ X[i]) (kf κ X[j]))) st):wpS (model prog w) A E s (ltAt' (P.length+i) (P.length+j)) Q st:=by
 rw [ltAt'_eq];refine wpS_bind (wpS_get ?_);obtain⟨h1,e1⟩:=gF h.a hi;obtain⟨h2,e2⟩:=gF h.a hj;refine wpS_bind (wpS_elem h1 (wpS_bind (wpS_elem h2 ?_)));rw [e1,e2];exact ik hO h.k (h.has _ (by simp)) (h.has _ (by simp)) hq
theorem wpS_rev {i:Nat}{Q:Unit->SortSt->Prop}(h:At κ st pe (A'++M++B))(ei:i=A'.length)(ej:j=A'.length+M.length)(hq:∀st',At κ st' pe (A'++M.reverse++B)->Q () st'):
  wpS (model prog w) A E s (reverseSlice' i j) Q st:=by
 subst ei ej;exact wpS_reverse (hq _ (h.setA (kK h.a) λ p hp=>by simpa using hp))
theorem tU {x:Keyed}{i:Nat}{Q:Unit->SortSt->Prop}(h:At κ st pe (A'++M++[x]++B))(ei:i=A'.length+M.length)(ej:j=A'.length)(hq:∀st',At κ st' pe (A'++[x]++M++B)->Q () st'):
  wpS (model prog w) A E s (moveDown' i j) Q st:=by
 subst ei ej;rw [moveDown'_eq];exact wpS_modify (hq _ (h.setA (kL h.a) λ p hp=>by
  simp only [zI,zX] at hp ⊢;rcases hp with((z|z)|z)|z
  ·exact .inl (.inl (.inl z))
  ·exact .inl (.inr z)
  ·exact .inl (.inl (.inr z))
  ·exact .inr z))
end
def pA:Nat->Nat->StateT SortSt Sem (Option Nat):=sortPriv%PySem.Builtin.countRun
section
variable {κ : KeyKind}
theorem vk {x:Keyed}(h:l.Pairwise (LeK κ))(hx:∀y∈l,LeK κ y x):(l++[x]).Pairwise (LeK κ):=by
 rw [zF];exact⟨h,by simp,λ a ha b hb=>by
  have:b=x:=by simpa using hb
  subst this;exact hx a ha⟩
theorem oX (h:l.Pairwise (LeK κ))(hn:n+1=l.length){y:Keyed}(hy:y∈l):LeK κ y (l[n]'(by lia)):=by
 obtain⟨j,hj,rfl⟩:=Aw.mp hy;rcases AB j n with z|z
 ·exact(AI.mp h) j n hj (by lia) z
 ·have:j=n:=by lia
  subst this;exact(ord κ).irr _
structure Ds (κ:KeyKind)(X D0 Eb:List Keyed)(n neq:Nat):Prop where
 le:Eb.length=neq+1
 ln:D0.length+Eb.length=n
 eq:∀u∈Eb,∀v∈Eb,LeK κ u v
 sd:D0.reverse.Pairwise (LeK κ)
 lt:∀u∈Eb,∀d∈D0,LtK κ u d
 st:Stb κ.blt (kf κ) (Eb++D0.reverse) (X.take n)
theorem Ds.sorted (h:Ds κ X D0 Eb n neq):(Eb++D0.reverse).Pairwise (LeK κ):=by
 rw [zF];exact⟨List.pairwise_of_forall_mem_list λ u hu v hv=>h.eq u hu v hv,h.sd,λ u hu d hd=>le_of_lt (ord κ) (h.lt u hu d (Cm.mp hd))⟩
theorem cD (hn:n<X.length):X.take (n+1)=X.take n++[X[n]]:=by
 rw [AO,zu hn];rfl
theorem Ds.next (h:Ds κ X D0 Eb n neq)(hn:n<X.length)(hlt:∀u∈Eb,LtK κ X[n] u):Ds κ X (D0++Eb.reverse) [X[n]] (n+1) 0:=by
 have hall:∀u∈Eb++D0.reverse,LtK κ X[n] u:=λ u hu=>by
  rcases zI.mp hu with z|z
  ·exact hlt u z
  ·have hne:0<Eb.length:=by have:=h.le;lia
   have e0:Eb[0]∈Eb:=Ay hne;exact(ord κ).tr _ _ _ (hlt _ e0) (h.lt _ e0 u (Cm.mp z))
 refine⟨rfl,by rw [zv,Ch,h.ln];rfl,λ u hu v hv=>?_,?_,λ u hu d hd=>?_,?_⟩
 ·have e1:u=X[n]:=by simpa using hu
  have e2:v=X[n]:=by simpa using hv
  subst e1;subst e2;exact(ord κ).irr _
 ·rw [BU,Bj];exact h.sorted
 ·have e1:u=X[n]:=by simpa using hu
  subst e1;refine hall d ?_;rcases zI.mp hd with z|z
  ·exact zJ _ (Cm.mpr z)
  ·exact Bh _ (Cm.mp z)
 ·rw [BU,Bj,cD hn];refine Stb.trans ?_ (h.st.app (Stb.refl [X[n]]));refine(cS (ord κ) λ y hy x hx=>?_).symm;have e1:y=X[n]:=by simpa using hy
  subst e1;exact hall x hx
theorem Ds.more (h:Ds κ X D0 Eb n neq)(hn:n<X.length)(h1:∀u∈Eb,LeK κ X[n] u)(h2:∀u∈Eb,LeK κ u X[n]):Ds κ X D0 (Eb++[X[n]]) (n+1) (neq+1):=by
 have hne:0<Eb.length:=by have:=h.le;lia
 have e0:Eb[0]∈Eb:=Ay hne;have hD:∀d∈D0,LtK κ X[n] d:=λ d hd=>dv (ord κ) (h1 _ e0) (h.lt _ e0 d hd)
 refine⟨by rw [zv,h.le];rfl,by rw [zv,<-Bc,h.ln];rfl,λ u hu v hv=>?_,h.sd,λ u hu d hd=>?_,?_⟩
 ·rcases zI.mp hu with z|z<;>rcases zI.mp hv with z2|z2
  ·exact h.eq u z v z2
  ·have:v=X[n]:=by simpa using z2
   subst this;exact h2 u z
  ·have:u=X[n]:=by simpa using z
   subst this;exact h1 v z2
  ·have e1:u=X[n]:=by simpa using z
   have e2:v=X[n]:=by simpa using z2
   subst e1;subst e2;exact(ord κ).irr _
 ·rcases zI.mp hu with z|z
  ·exact h.lt u z d hd
  ·have:u=X[n]:=by simpa using z
   subst this;exact hD d hd
 ·rw [cD hn];refine Stb.trans ?_ (h.st.app (Stb.refl [X[n]]));rw [zt,zt];refine(Stb.refl Eb).app (cS (ord κ) λ y hy x hx=>?_).symm;have:y=X[n]:=by simpa using hy
  subst this;exact hD x (Cm.mp hx)
end
section
variable {prog : Program} {w : World} {A : Around} {E : Value -> Shared -> Prop} {s : Shared} {κ : KeyKind}
theorem qN (hO:κ.OneLt){a:Nat}{f:Nat->(Option (Option Nat)×Nat)->StateT SortSt Sem (ForInStep (Option (Option Nat)×Nat))}{Q:(Option (Option Nat)×Nat)->SortSt->Prop}
  (h:At κ st pe (P++X++S)) (hn:nrem=X.length) (ha:1≤a) (han:a≤nrem) (hs:(X.take a).Pairwise (LeK κ))
  (hf:∀(x n:Nat) (hn1:1≤n) (hn2:n<nrem),wpS (model prog w) A E s (f x (none,n)) (λ r st'=>st'=st/\r=if κ.blt (kf κ (X[n]'(by lia))) (kf κ (X[n-1]'(by lia)))=true then .done (none,n) else .yield (none,n+1)) st)
  (hq:∀n,a≤n->n≤nrem->(X.take n).Pairwise (LeK κ)->(n=nrem\/∃hlt:n<X.length,LtK κ X[n] (X[n-1]'(by lia)))->Q (none,n) st):wpS (model prog w) A E s (forIn [a:nrem] (none,a) f) Q st:=by
 refine Bb (I:=λ x c st'=>st'=st/\c=(none,x)/\(X.take x).Pairwise (LeK κ)) ?_ ?_ ⟨rfl,rfl,hs⟩
 ·rintro x c st' hax hxn ⟨rfl,rfl,hs'⟩;refine BD (hf x x (by lia) hxn) ?_;rintro r st'' ⟨rfl,rfl⟩;by_cases hc:κ.blt (kf κ (X[x]'(by lia))) (kf κ (X[x-1]'(by lia)))=true
  ·rw [zP hc];exact hq x hax (by lia) hs' (.inr ⟨by lia,hc⟩)
  ·rw [zK hc];refine⟨rfl,rfl,?_⟩;rw [cD (show x<X.length by lia)];refine vk hs' λ y hy=>?_
   have l1:=oX hs' (n:=x-1) (by rw [zW];lia) hy;rw [Bg] at l1;exact le_trans (ord κ) l1 (by simpa using hc)
 ·rintro c st' ⟨rfl,rfl,hs'⟩;rw [show max a nrem=nrem by lia] at hs' ⊢;exact hq nrem han (zy _) hs' (.inl rfl)
theorem jt (hO:κ.OneLt){Q:Option Nat->SortSt->Prop}(h:At κ st pe (P++X++S))(hlo:lo=P.length)(hn:nrem=X.length)(h1:1≤nrem)
  (hq:∀m Y st',1≤m->m≤nrem->Y.length=m->Y.Pairwise (LeK κ)->Stb κ.blt (kf κ) Y (X.take m)->At κ st' pe (P++(Y++X.drop m)++S)->Q (some m) st'):wpS (model prog w) A E s (pA lo nrem) Q st:=by
 subst hlo;have up:∀{st:SortSt} {X:List Keyed},At κ st pe (P++X++S)->∀(hXn:nrem=X.length) (n:Nat) (hn1:1≤n) (hn2:n<nrem) {Q:Option Bool->SortSt->Prop},Q (some (κ.blt (kf κ (X[n]'(by lia))) (kf κ (X[n-1]'(by lia))))) st->wpS (model prog w) A E s (ltAt' (P.length+n) (P.length+n-1)) Q st:=by
  intro st X h hn n hn1 hn2 Q hq;rw [show P.length+n-1=P.length+(n-1) by lia];exact wpS_ltL hO h (by lia) (by lia) hq
 refine wpS_bind (qN hO h hn (zy 1) h1 ?_ ?_ λ n hn1 hn2 hs hor=>?_)
 ·cases X with
  |nil=>simp
  |cons x X=>simp
 ·intro x n hn1 hn2;refine wpS_bind (up h hn n hn1 hn2 ?_);dsimp only
  split
  ·exact zU ⟨rfl,rfl⟩
  ·exact zU ⟨rfl,rfl⟩
 dsimp-zeta only;have same:P++X++S=P++(X.take n++X.drop n)++S:=by rw [zM]
 have lt:(X.take n).length=n:=by rw [zW];lia
 by_cases e1:n=nrem
 ·refine aF (Au.mpr e1) (zU (hq n (X.take n) st hn1 hn2 lt hs (Stb.refl _) (same▸h)))
 refine aB (λ z=>e1 (Au.mp z)) ?_;obtain⟨hlt,hless⟩:=hor.resolve_left e1
 extract_lets v1 v2 jp
 have hjp:∀st1,At κ st1 pe (P++((X.take n).reverse++X.drop n)++S)->(∀u∈X.take n,∀v∈X.take n,LeK κ u v)->wpS (model prog w) A E s (jp ()) Q st1:=by
  intro st1 hA1 heq;refine wpS_bind (wpS_lift (Cq ⟨rfl,?_⟩));have hprev:(X[n-1]'(by lia))∈X.take n:=by
   rw [List.mem_take_iff_getElem];exact⟨n-1,by lia,rfl⟩
  have hX0:∀u∈X.take n,LtK κ X[n] u:=λ u hu=>b8 (ord κ) hless (heq _ hprev u hu)
  have hD0:Ds κ X (X.take n).reverse [X[n]] (n+1) 0:=by
   refine⟨rfl,by rw [Ch,lt];rfl,λ u hu v hv=>?_,by rw [Bj];exact hs,λ u hu d hd=>?_,?_⟩
   ·have e1:u=X[n]:=by simpa using hu
    have e2:v=X[n]:=by simpa using hv
    subst e1;subst e2;exact(ord κ).irr _
   ·have e1:u=X[n]:=by simpa using hu
    subst e1;exact hX0 d (Cm.mp hd)
   ·rw [Bj,cD hlt];refine(cS (ord κ) λ y hy x hx=>?_).symm;have e1:y=X[n]:=by simpa using hy
    subst e1;exact hX0 x hx
  have hA0:At κ st1 pe (P++((X.take n).reverse++[X[n]]++X.drop (n+1))++S):=by
   rw [zt (X.take n).reverse,CA,<-AH hlt];exact hA1
  refine wpS_bind (BD (Bb (I:=λ x c st'=>∃D0 Eb neq,c=(none,x,neq)/\Ds κ X D0 Eb x neq/\At κ st' pe (P++(D0++Eb++X.drop x)++S))
   (Q:=λ c st'=>∃m D0 Eb neq,c=(none,m,neq)/\m≤nrem/\n+1≤m/\Ds κ X D0 Eb m neq/\At κ st' pe (P++(D0++Eb++X.drop m)++S)) ?_ ?_ ⟨_,_,0,rfl,hD0,hA0⟩) ?_)
  ·rintro x c st2 hax hxn ⟨D0,Eb,neq,rfl,hD,hA⟩;have hax':n+1≤x:=hax;have hl1:=hD.le;have hl2:=hD.ln;have hxX:x<X.length:=by lia
   have lC:nrem=(D0++Eb++X.drop x).length:=by rw [zv,zv,zR];lia
   have hc1:(D0++Eb++X.drop x)[x]'(by lia)=X[x]:=by
    rw [BI (by rw [zv];lia),BQ];congr 1;rw [zv];lia
   have hc2:(D0++Eb++X.drop x)[x-1]'(by lia)=Eb[neq]'(by lia):=by
    rw [B8 (by rw [zv];lia),BI (by lia)];congr 1;lia
   have hEl:(Eb[neq]'(by lia))∈Eb:=Ay _;refine wpS_bind (up hA lC x (by lia) hxn ?_);rw [hc1,hc2];dsimp only;cases e:κ.blt (kf κ X[x]) (kf κ (Eb[neq]'(by lia))) with
   |true=>
    refine aF rfl ?_;have hN:=hD.next hxX λ u hu=>b8 (ord κ) e (hD.eq _ hEl u hu)
    have fin:∀st3,At κ st3 pe (P++D0++Eb.reverse++(X.drop x++S))->At κ st3 pe (P++(D0++Eb.reverse++[X[x]]++X.drop (x+1))++S):=λ st3 h3=>by
     rw [zt (D0++Eb.reverse),CA,<-AH hxX];simpa [zt] using h3
    by_cases hneq:neq>0
    ·refine aF hneq (wpS_bind (wpS_rev (A':=P++D0) (M:=Eb) (B:=X.drop x++S) (by simpa [zt] using hA) (by rw [zv];lia) (by rw [zv];lia) λ st3 hA3=>zU ⟨_,_,0,rfl,hN,fin st3 hA3⟩))
    ·have hrev:Eb.reverse=Eb:=by
      match Eb,hl1 with
      | [y],_=>rfl
      |y::z::r,q=>exact absurd q (by simp;lia)
     refine aB hneq (zU ⟨_,_,0,rfl,hN,fin st2 ?_⟩);rw [hrev];simpa [zt] using hA
   |false=>
    refine aB (by decide) ?_;rw [show P.length+x-1=P.length+(x-1) by lia];refine wpS_bind (wpS_ltL hO hA (by lia) (by lia) ?_);rw [hc1,hc2];dsimp only;cases e2:κ.blt (kf κ (Eb[neq]'(by lia))) (kf κ X[x]) with
    |true=>exact aF rfl (zU ⟨x,D0,Eb,neq,rfl,by lia,hax',hD,hA⟩)
    |false=>
     refine aB (by decide) (zU ⟨D0,_,neq+1,rfl,hD.more hxX (λ u hu=>le_trans (ord κ) e2 (hD.eq _ hEl u hu)) (λ u hu=>le_trans (ord κ) (hD.eq u hu _ hEl) e),?_⟩);rw [<-zt D0,zt (D0++Eb),CA,<-AH hxX];exact hA
  ·rintro c st2 ⟨D0,Eb,neq,rfl,hD,hA⟩;have:max (n+1) nrem=nrem:=by lia
   have this':max v1 nrem=nrem:=this;rw [this'] at hD hA ⊢;exact⟨nrem,D0,Eb,neq,rfl,zy _,by lia,hD,hA⟩
  ·rintro c st2 ⟨m,D0,Eb,neq,ec,hm1,hm2,hD,hA⟩;subst ec;have hl1:=hD.le;have hl2:=hD.ln;dsimp-zeta only
   extract_lets r1 r2 r3 r4 jp3
   have er3:m=r3:=rfl;have er4:neq=r4:=rfl
   clear_value r3 r4
   subst er3 er4;have hjp3:∀st3,At κ st3 pe (P++D0++Eb.reverse++(X.drop m++S))->wpS (model prog w) A E s (jp3 ()) Q st3:=by
    intro st3 hA3;refine wpS_bind (wpS_rev (A':=P) (M:=D0++Eb.reverse) (B:=X.drop m++S) (by simpa [zt] using hA3) rfl (by rw [zv,Ch,hl2]) λ st4 hA4=>?_);rw [BU,Bj] at hA4;have lY:(Eb++D0.reverse).length=m:=by rw [zv,Ch];lia
    have lYX:nrem=(Eb++D0.reverse++X.drop m).length:=by rw [zv,lY,zR];lia
    have hA5:At κ st4 pe (P++(Eb++D0.reverse++X.drop m)++S):=by simpa [zt] using hA4
    refine wpS_bind (qN (X:=Eb++D0.reverse++X.drop m) hO hA5 lYX (by lia) hm1 ?_ ?_ λ n2 hn3 hn4 hs2 _=>?_)
    ·rw [Br (by lia),Ad (by lia)];exact hD.sorted
    ·intro x n2 hn3 hn4;refine wpS_bind (up hA5 lYX n2 hn3 hn4 ?_);dsimp only
     split
     ·exact zU ⟨rfl,rfl⟩
     ·exact zU ⟨rfl,rfl⟩
    refine zU (hq n2 _ st4 (by lia) hn4 (by rw [zW];lia) hs2 ?_ ?_)
    ·have e1:(Eb++D0.reverse++X.drop m).take n2=Eb++D0.reverse++(X.drop m).take (n2-m):=by
      rw [List.take_append,Ad (by lia),lY]
     have e2:X.take n2=X.take m++(X.drop m).take (n2-m):=by
      rw [<-List.take_add,show m+(n2-m)=n2 by lia]
     rw [e1,e2];exact hD.st.app (Stb.refl _)
    ·have e1:(Eb++D0.reverse++X.drop m).drop n2=X.drop n2:=by
      rw [List.drop_append,BV (show(Eb++D0.reverse).length≤n2 by lia),A3,lY,CM,show m+(n2-m)=n2 by lia]
     rw [<-e1,zM];exact hA5
   clear_value jp3
   by_cases hneq:neq>0
   ·refine aF hneq (wpS_bind (wpS_rev (A':=P++D0) (M:=Eb) (B:=X.drop m++S) (by simpa [zt] using hA) (by rw [zv];lia) (by rw [zv];lia) λ st3 hA3=>hjp3 st3 hA3))
   ·have hrev:Eb.reverse=Eb:=by
     match Eb,hl1 with
     | [y],_=>rfl
     |y::z::r,q=>exact absurd q (by simp;lia)
    refine aB hneq (hjp3 st2 ?_);rw [hrev];simpa [zt] using hA
 clear_value jp
 by_cases hgt:n>1
 ·refine aF hgt ?_;rw [show P.length+n-1=P.length+(n-1) by lia];refine wpS_bind (wpS_ltL (i:=0) hO h (by lia) (by lia) ?_);dsimp only;cases er:κ.blt (kf κ (X[0]'(by lia))) (kf κ (X[n-1]'(by lia))) with
  |true=>exact aF rfl (zU (hq n (X.take n) st hn1 hn2 lt hs (Stb.refl _) (same▸h)))
  |false=>
   refine aB (by decide) (wpS_bind (wpS_rev (A':=P) (M:=X.take n) (B:=X.drop n++S) ?_ rfl (by rw [lt]) λ st3 hA3=>hjp st3 (by simpa [zt] using hA3) λ u hu v hv=>?_))
   ·have e0:P++X.take n++(X.drop n++S)=P++X++S:=by rw [zt P,<-zt (X.take n),zM,<-zt]
    rw [e0];exact h
   ·have l1:=oX hs (n:=n-1) (by lia) hu;rw [Bg] at l1;obtain⟨j,hj,rfl⟩:=Aw.mp hv;rw [Bg];have l2:LeK κ (X[0]'(by lia)) (X[j]'(by lia)):=by
     rcases Di j with rfl|z
     ·exact(ord κ).irr _
     ·have:=(AI.mp hs) 0 j (by lia) hj z;rw [Bg,Bg] at this;exact this
    exact le_trans (ord κ) l1 (le_trans (ord κ) er l2)
 ·refine aB hgt (hjp st ?_ λ u hu v hv=>?_)
  ·have:n=1:=by lia
   subst this;rw [same] at h;have e1:(X.take 1).reverse=X.take 1:=by
    cases X with
    |nil=>rfl
    |cons x X=>rfl
   rw [e1];exact h
  ·have:n=1:=by lia
   subst this;obtain⟨j,hj,rfl⟩:=Aw.mp hu;obtain⟨q,hq',rfl⟩:=Aw.mp hv;have e1:j=0:=by lia
   have e2:q=0:=by lia
   subst e1;subst e2;exact(ord κ).irr _
theorem gU (hO:κ.OneLt){R:List Keyed}{ok:Nat}(h:At κ st pe (P++(Y++R)++S))(hlo:lo=P.length)(hY:Y.Pairwise (LeK κ))(lY:Y.length=ok)(h1:1≤ok)(hok:ok≤n)(hn:n≤ok+R.length)
  (hq:∀Y' st',Y'.length=n->Y'.Pairwise (LeK κ)->Stb κ.blt (kf κ) Y' (Y++R.take (n-ok))->At κ st' pe (P++(Y'++R.drop (n-ok))++S)->Q true st'):wpS (model prog w) A E s (binarySort' lo n ok) Q st:=by
 subst hlo;refine wpS_bind (BD (Bb (I:=λ k c st'=>c=(none,())/\∃Y',Y'.length=k/\Y'.Pairwise (LeK κ)/\Stb κ.blt (kf κ) Y' (Y++R.take (k-ok))/\At κ st' pe (P++(Y'++R.drop (k-ok))++S))
  (Q:=λ c st'=>c=(none,())/\∃Y',Y'.length=n/\Y'.Pairwise (LeK κ)/\Stb κ.blt (kf κ) Y' (Y++R.take (n-ok))/\At κ st' pe (P++(Y'++R.drop (n-ok))++S)) ?step ?fin ?init) ?post)
 case post=>
  rintro c st' ⟨rfl,Y',e1,e2,e3,e4⟩;exact zU (hq Y' st' e1 e2 e3 e4)
 case init=>
  have e:max ok 1=ok:=by lia
  rw [e];refine⟨rfl,Y,lY,hY,?_,?_⟩
  ·rw [Dq,Cn,Ax];exact Stb.refl _
  ·rw [Dq,BH];exact h
 case fin=>
  rintro c st' ⟨rfl,Y',e1,e2,e3,e4⟩;rw [show max (max ok 1) n=n by lia] at e1 e3 e4;exact⟨rfl,Y',e1,e2,e3,e4⟩
 case step=>
  rintro k c st' hak hkn ⟨rfl,Y',e1,e2,e3,e4⟩;have hak':ok≤k:=by lia
  have hkr:k-ok<R.length:=by lia
  have lC:(Y'++R.drop (k-ok)).length=k+(R.length-(k-ok)):=by rw [zv,zR,e1]
  have hx:(Y'++R.drop (k-ok))[k]'(by lia)=R[k-ok]:=by
   rw [BI (by lia),BQ];congr 1;lia
  have hy:∀m (hm:m<k),(Y'++R.drop (k-ok))[m]'(by lia)=Y'[m]'(by lia):=λ m hm=>B8 (by lia)
  extract_lets v1 v2
  refine wpS_bind (BD (Bb (I:=λ x c st''=>st''=st'/\∃l r,c=(none,l,r)/\l≤r/\r≤k/\r-l≤k-x/\
    (∀i (hi:i<l) (hik:i<k),LeK κ (Y'[i]'(by lia)) R[k-ok])/\(∀i,r≤i->∀hi:i<k,LtK κ R[k-ok] (Y'[i]'(by lia))))
   (Q:=λ c st''=>st''=st'/\∃l r,c=(none,l,r)/\l≤k/\(∀i (hi:i<l) (hik:i<k),LeK κ (Y'[i]'(by lia)) R[k-ok])/\(∀i,l≤i->∀hi:i<k,LtK κ R[k-ok] (Y'[i]'(by lia)))) ?istep ?ifin ?iinit) ?ipost)
  case iinit=>exact⟨rfl,0,k,rfl,by lia,by lia,by lia,λ i hi=>absurd hi (by lia),λ i h1 h2=>absurd h1 (by lia)⟩
  case ifin=>
   rintro c st'' ⟨rfl,l,r,rfl,hlr,hrk,hm,hlo,hhi⟩;have:l=r:=by lia
   subst this;exact⟨rfl,l,l,rfl,hrk,hlo,hhi⟩
  case istep=>
   rintro x c st'' _ hxk ⟨rfl,l,r,rfl,hlr,hrk,hm,hlo,hhi⟩;dsimp only;by_cases hge:l≥r
   ·have:l=r:=by lia
    subst this;exact aF (zy _) (zU ⟨rfl,l,l,rfl,hrk,hlo,hhi⟩)
   ·refine aB hge (wpS_bind (wpS_ltL (i:=k) (j:=(l+r)/2) hO e4 (by lia) (by lia) ?_));rw [hx,hy _ (show(l+r)/2<k by lia)];dsimp only;cases hless:κ.blt (kf κ R[k-ok]) (kf κ (Y'[(l+r)/2]'(by lia)))
    case true=>
     refine aF rfl (zU ⟨rfl,l,(l+r)/2,rfl,by lia,by lia,by lia,hlo,λ i h1 h2=>?_⟩);rcases AB ((l+r)/2) i with z|z
     ·exact b8 (ord κ) hless ((AI.mp e2) _ i (by lia) (by lia) z)
     ·have:i=(l+r)/2:=by lia
      subst this;exact hless
    case false=>
     refine aB (by decide) (zU ⟨rfl,(l+r)/2+1,r,rfl,by lia,by lia,by lia,λ i h1 h2=>?_,hhi⟩);rcases AB i ((l+r)/2) with z|z
     ·exact le_trans (ord κ) ((AI.mp e2) i _ (by lia) (by lia) z) hless
     ·have:i=(l+r)/2:=by lia
      subst this;exact hless
  case ipost=>
   rintro c st'' ⟨rfl,l,r,rfl,hlk,hlo,hhi⟩;have hd:R.drop (k-ok)=R[k-ok]::R.drop (k+1-ok):=by
    rw [AH hkr];congr 2;lia
   have hA:At κ st'' pe ((P++Y'.take l)++Y'.drop l++[R[k-ok]]++(R.drop (k+1-ok)++S)):=by
    rw [hd] at e4;have e0:(P++Y'.take l)++Y'.drop l++[R[k-ok]]++(R.drop (k+1-ok)++S)=P++(Y'++R[k-ok]::R.drop (k+1-ok))++S:=by
     rw [zt P,zM];simp [zt]
    rw [e0];exact e4
   have lt:(Y'.take l).length=l:=by rw [zW];lia
   have ld:(Y'.drop l).length=k-l:=by rw [zR];lia
   refine wpS_bind (tU hA (by rw [zv,lt,ld];show P.length+k=_;lia) (by rw [zv,lt]) λ st3 hA3=>zU ⟨rfl,Y'.take l++[R[k-ok]]++Y'.drop l,?_,?_,?_,?_⟩)
   ·rw [zv,zv,lt,ld];show l+1+(k-l)=k+1;lia
   ·have m1:∀y∈Y'.take l,LeK κ y R[k-ok]:=λ y hy=>by
     obtain⟨j,hj,rfl⟩:=Aw.mp hy;rw [Bg];exact hlo j (by lia) (by lia)
    have m2:∀y∈Y'.drop l,LeK κ R[k-ok] y:=λ y hy=>by
     obtain⟨j,hj,rfl⟩:=Aw.mp hy;rw [BQ];exact le_of_lt (ord κ) (hhi _ (by lia) (by lia))
    rw [zt,zF];refine⟨e2.sublist (B4 _ _),?_,λ a ha b hb=>?_⟩
    ·rw [CA,AY];exact⟨m2,e2.sublist (D1 _ _)⟩
    ·rcases zI.mp hb with z|z
     ·have:b=R[k-ok]:=by simpa using z
      subst this;exact m1 a ha
     ·exact le_trans (ord κ) (m1 a ha) (m2 b z)
   ·have e5:R.take (k+1-ok)=R.take (k-ok)++[R[k-ok]]:=by
     rw [show k+1-ok=(k-ok)+1 by lia,cD hkr]
    rw [e5,<-zt];refine Stb.trans ?_ (e3.app (Stb.refl [R[k-ok]]));have sw:Stb κ.blt (kf κ) (Y'.take l++([R[k-ok]]++Y'.drop l)) (Y'.take l++(Y'.drop l++[R[k-ok]])):=(Stb.refl _).app (cS (ord κ) λ y hy x hx=>by
     have:y=R[k-ok]:=by simpa using hy
     subst this;obtain⟨j,hj,rfl⟩:=Aw.mp hx;rw [BQ];exact hhi _ (by lia) (by lia)).symm
    rw [<-zt,<-zt,zM] at sw;exact sw
   ·simpa [zt] using hA3
end
def bH (o:Nat):List (List Keyed)->List (Nat×Nat)
 | []=>[]
 |r::Rs=>(o,r.length)::bH (o+r.length) Rs
theorem bC (o:Nat):∀Rs,(bH o Rs).length=Rs.length
 | []=>rfl
 |r::Rs=>by show(bH _ Rs).length+1=_;rw [bC _ Rs];rfl
theorem bD (o:Nat):∀(As Bs:List (List Keyed)),bH o (As++Bs)=bH o As++bH (o+As.flatten.length) Bs
 | [],Bs=>by simp [bH]
 |r::As,Bs=>by
  show(o,r.length)::bH (o+r.length) (As++Bs)=(o,r.length)::(bH (o+r.length) As++_);rw [bD _ As Bs,A4,zv,Bc]
theorem jn {α β:Type}(f:α->β):∀(l:List α) (i:Nat),(l.eraseIdx i).map f=(l.map f).eraseIdx i
 | [],_=>rfl
 |a::l,0=>rfl
 |a::l,i+1=>by show f a::(l.eraseIdx i).map f=f a::(l.map f).eraseIdx i;rw [jn f l i]
abbrev two (e:Nat×Nat×Nat):Nat×Nat:=(e.1,e.2.1)
def Pend (Rs:List (List Keyed))(pe:Array (Nat×Nat×Nat)):Prop:=pe.toList.map two=bH 0 Rs
theorem Pend.size (h:Pend Rs pe):pe.size=Rs.length:=by
 have:=Bk List.length h;rw [zr,bC,AS] at this;exact this
theorem Pend.push (h:Pend Rs pe){r:List Keyed}{pw:Nat}(e1:lo=Rs.flatten.length)(e2:n=r.length):Pend (Rs++[r]) (pe.push (lo,n,pw)):=by
 unfold Pend at h ⊢;subst e1 e2;rw [DZ,zG,h,bD,A9];rfl
theorem Pend.modify (h:Pend Rs pe)(i:Nat){f:Nat×Nat×Nat->Nat×Nat×Nat}(hf:∀e,two (f e)=two e):Pend Rs (pe.modify i f):=by
 unfold Pend at h ⊢;rw [<-h];apply Be;intro j;rw [AA,AA];have:(pe.modify i f).toList[j]?=if i=j then(pe.toList[j]?).map f else pe.toList[j]?:=by
  rw [Dw,Dw,Array.getElem?_modify]
 rw [this]
 split
 ·cases e:pe.toList[j]? with
  |none=>rfl
  |some v=>show some (two (f v))=some (two v);rw [hf]
 ·rfl
theorem Pend.at (h:Pend (As++X::Bs) pe){i:Nat}(hi:i=As.length):∃pw,pe[i]?=some (As.flatten.length,X.length,pw):=by
 subst hi;unfold Pend at h;have e:(pe.toList.map two)[As.length]?=some (As.flatten.length,X.length):=by
  rw [h,bD,Aj (by rw [bC];exact zy _),bC,Dq,A9];rfl
 rw [AA,Dw] at e;cases e2:pe[As.length]? with
 |none=>rw [e2] at e;cases e
 |some v=>
  rw [e2] at e;have e3:two v=(As.flatten.length,X.length):=zS e;obtain⟨v1,v2,v3⟩:=v;have e4:=Bk Prod.fst e3;have e5:=Bk Prod.snd e3;dsimp only at e4 e5;subst e4 e5;exact⟨v3,rfl⟩
theorem Pend.merge {Z:List Keyed}{i pw:Nat}(h:Pend (As++X::Y::Bs) pe)(hi:i=As.length)(hZ:Z.length=X.length+Y.length):
  Pend (As++Z::Bs) ((pe.setIfInBounds i (As.flatten.length,X.length+Y.length,pw)).eraseIdxIfInBounds (i+1)):=by
 subst hi;have hs:=h.size;unfold Pend at h ⊢;rw [zv,zD,zD] at hs;have e1:((pe.setIfInBounds As.length (As.flatten.length,X.length+Y.length,pw)).eraseIdxIfInBounds (As.length+1)).toList=(pe.toList.set As.length (As.flatten.length,X.length+Y.length,pw)).eraseIdx (As.length+1):=by
  unfold Array.eraseIdxIfInBounds;rw [dif_pos (by rw [Array.size_setIfInBounds];lia),Array.toList_eraseIdx,DT]
 rw [e1,jn,List.map_set,h,bD,bD];show((bH 0 As++(0+As.flatten.length,X.length)::(0+As.flatten.length+X.length,Y.length)::bH (0+As.flatten.length+X.length+Y.length) Bs).set As.length (As.flatten.length,X.length+Y.length)).eraseIdx (As.length+1)=bH 0 As++(0+As.flatten.length,Z.length)::bH (0+As.flatten.length+Z.length) Bs;have lA:=bC 0 As;rw [List.set_append,zK (by lia),lA,Dq,List.set_cons_zero,List.eraseIdx_append_of_length_le (by lia),lA,show As.length+1-As.length=1 by lia,hZ,A9];show _++(_::bH _ Bs)=_;rw [Bc]
section
variable {prog : Program} {w : World} {A : Around} {E : Value -> Shared -> Prop} {s : Shared} {κ : KeyKind}
structure Rn (κ:KeyKind)(a0:List Keyed)(st:SortSt)(L:Nat)(Rs:List (List Keyed))(tail:List Keyed):Prop where
 at':∃pe,At κ st pe (Rs.flatten++tail)/\Pend Rs pe
 so:∀r∈Rs,r.Pairwise (LeK κ)/\0<r.length
 len:Rs.flatten.length=L
 st':Stb κ.blt (kf κ) (Rs.flatten++tail) a0
theorem ic (hO:κ.OneLt){a0:List Keyed}{L i:Nat}{tail:List Keyed}(h:Rn κ a0 st L (As++X::Y::Bs) tail)(hi:i=As.length)
  (hq:∀st' Z,Rn κ a0 st' L (As++Z::Bs) tail->Q true st'):wpS (model prog w) A E s (mergeAt' i) Q st:=by
 obtain⟨⟨pe,hA,hP⟩,so,hlen,hst⟩:=h;obtain⟨sX,nX⟩:=so X (by simp);obtain⟨sY,nY⟩:=so Y (by simp);have ef:(As++X::Y::Bs).flatten++tail=As.flatten++X++Y++(Bs.flatten++tail):=by simp [zt]
 obtain⟨pw,p1⟩:=hP.at hi;obtain⟨pw2,p2⟩:=Pend.at (As:=As++[X]) (X:=Y) (Bs:=Bs) (pe:=pe) (i:=i+1) (by simpa using hP) (by simp [hi]);refine k9 hO (P:=As.flatten) (X:=X) (Y:=Y) (S:=Bs.flatten++tail) (pw:=pw) (pw2:=pw2) hA.k hA.f (λ p hp=>hA.has p (by rw [hA.a] at hp;exact hp)) (by rw [hA.a,ef]) sX sY nX nY (by rw [hA.p];exact p1) (by rw [hA.p,p2];simp) λ st' Z b1 b2 b3 b4 b5 b6=>?_
 have lZ:Z.length=X.length+Y.length:=by rw [(stb_perm (ord κ) b6).length_eq,zv]
 have ez:(As++Z::Bs).flatten++tail=As.flatten++Z++(Bs.flatten++tail):=by simp [zt]
 have st1:Stb κ.blt (kf κ) ((As++Z::Bs).flatten++tail) ((As++X::Y::Bs).flatten++tail):=by
  rw [ez,ef,zt As.flatten X];exact((Stb.refl _).app b6).app (Stb.refl _)
 refine hq st' Z ⟨⟨_,⟨b1,b2,b3,by rw [b4,ez],λ p hp=>hA.has p (Stb.mem (ord κ) st1 hp)⟩,?_⟩,λ r hr=>?_,?_,st1.trans hst⟩
 ·rw [hA.p];exact hP.merge hi lZ
 ·rcases zI.mp hr with z|z
  ·exact so r (by simp [z])
  ·rcases zL.mp z with rfl|z
   ·exact⟨b5,by lia⟩
   ·exact so r (by simp [z])
 ·rw [<-hlen];simp [lZ,Bc]
end
theorem nC {α:Type}:∀{Rs:List α} {j:Nat},j+1<Rs.length->∃As X Y Bs,Rs=As++X::Y::Bs/\j=As.length
 | [],j,h=>by simp at h
 | [x],j,h=>by simp at h
 |x::y::Rs,0,_=>⟨[],x,y,Rs,rfl,rfl⟩
 |x::Rs,j+1,h=>by
  obtain⟨As,X,Y,Bs,e,hj⟩:=nC (Rs:=Rs) (j:=j) (by simp at h;lia);exact⟨x::As,X,Y,Bs,by rw [e];rfl,by simp [hj]⟩
theorem nK:∀{Rs:List (List Keyed)},(∀r∈Rs,0<r.length)->Rs.length≤Rs.flatten.length
 | [],_=>zy _
 |r::Rs,h=>by
  have h1:=h r (by simp);have h2:=nK (Rs:=Rs) λ q hq=>h q (by simp [hq])
  rw [A4,zv,zD];lia
section
variable {prog : Program} {w : World} {A : Around} {E : Value -> Shared -> Prop} {s : Shared} {κ : KeyKind}
theorem wpS_sortAll (hO:κ.OneLt){Q:Unit->SortSt->Prop}(hk:kindOf st=oneType')(hf:failedOf st=none)(hp:pendingOf st=#[])(hall:∀p∈(arrOf st).toList,Has κ p)
  (h:∀st',failedOf st'=none->(arrOf st').toList.Pairwise (LeK κ)->Stb κ.blt (kf κ) (arrOf st').toList (arrOf st).toList->Q () st'):wpS (model prog w) A E s sortRuns' Q st:=by
 obtain⟨a0,ha0⟩:∃a0,(arrOf st).toList=a0:=⟨_,rfl⟩;have hsz:(arrOf st).size=a0.length:=by rw [<-ha0,AS]
 refine wpS_bind (wpS_get ?_)
 extract_lets size minrun lo0
 have hsize:size=a0.length:=hsz
 clear_value size
 have tot:∀{st' L Rs tail},Rn κ a0 st' L Rs tail->L+tail.length=size:=λ {st' L Rs tail} hR=>by
  have:=(stb_perm (ord κ) hR.st').length_eq;rw [zv,hR.len] at this;lia
 refine wpS_bind (BD (Bb (I:=λ x c st'=>∃Rs tail L,c=(none,L)/\Rn κ a0 st' L Rs tail/\x≤L) (Q:=λ c st'=>∃Rs L,c=(none,L)/\Rn κ a0 st' L Rs []) ?_ ?_ ?_) ?_)
 rotate_left
 ·rintro c st' ⟨Rs,tail,L,rfl,hR,hx⟩;have t:=tot hR;have:tail=[]:=AU.mp (by lia);subst this;exact⟨Rs,L,rfl,hR⟩
 ·exact⟨[],a0,0,rfl,⟨⟨#[],⟨hk,hf,hp,ha0,λ p hp'=>hall p (by rw [ha0];exact hp')⟩,rfl⟩,(λ _ h=>nomatch h),rfl,Stb.refl _⟩,zy _⟩
 ·rintro c st2 ⟨Rs,L,rfl,hR⟩;have hlen:=tot hR;have hge:=nK (Rs:=Rs) λ r hr=>(hR.so r hr).2
  rw [hR.len] at hge;refine wpS_bind (BD (Bb (I:=λ x c st'=>c=(none,())/\∃Rs',Rn κ a0 st' L Rs' []/\Rs'.length≤max 1 (size-x)) (Q:=λ c st'=>c=(none,())/\∃Rs',Rn κ a0 st' L Rs' []/\Rs'.length≤1) ?_ ?_ ⟨rfl,Rs,hR,by simp at hlen;lia⟩) ?_)
  ·rintro x c st3 _ hx ⟨rfl,Rs',hR3,hl3⟩;refine wpS_bind (wpS_get ?_);obtain⟨pe,hA,hP⟩:=hR3.at';have hs4:(pendingOf st3).size=Rs'.length:=by rw [hA.p];exact hP.size
   extract_lets p i before i2
   by_cases h1:p.size≤1
   ·refine aF h1 (zU ⟨rfl,Rs',hR3,?_⟩);have h1':(pendingOf st3).size≤1:=h1;lia
   ·refine aB h1 ?_;have h1':¬(pendingOf st3).size≤1:=h1;have hi2:i2+1<Rs'.length:=by
     have e1:i=(pendingOf st3).size-2:=rfl;have e2:i2=i-1\/i2=i:=by
      show(if _ then _ else _)=i-1\/(if _ then _ else _)=i
      split
      ·exact .inl rfl
      ·exact .inr rfl
     clear_value i2 i
     lia
    clear_value i2
    obtain⟨As,X,Y,Bs,rfl,hj⟩:=nC hi2;refine wpS_bind (ic hO hR3 hj λ st4 Z hR4=>?_);refine aB (by decide) (zU ⟨rfl,_,hR4,?_⟩);simp only [zv,zD] at hl3 hs4 ⊢;lia
  ·rintro c st3 ⟨rfl,Rs',hR3,hl3⟩;exact⟨rfl,Rs',hR3,by lia⟩
  ·rintro c st3 ⟨rfl,Rs',hR3,hl3⟩;obtain⟨pe,hA,hP⟩:=hR3.at';refine zU (h st3 hA.f ?_ ?_)
   ·rw [hA.a,Ax]
    match Rs',hl3,hR3 with
    | [],_,_=>simp
    | [r],_,hR3=>simpa using(hR3.so r (by simp)).1
   ·rw [ha0,hA.a];exact hR3.st'
 rintro x c st1 _ hx ⟨Rs,tail,L,ec,hR,hxL⟩;subst ec;have t:=tot hR
 extract_lets lo jp force nf
 have elo:lo=L:=rfl
 clear_value lo
 subst elo;by_cases hge:lo≥size
 ·have:tail=[]:=AU.mp (by lia);subst this;exact aF hge (zU ⟨Rs,lo,rfl,hR⟩)
 refine aB hge ?_;obtain⟨pe,hA,hP⟩:=hR.at';refine wpS_bind (jt hO (P:=Rs.flatten) (X:=tail) (S:=[]) (by simpa using hA) hR.len.symm (show size-lo=tail.length by lia) (by lia) λ m Y st2 m1 m2 lY sY tY hA2=>?_);have m2':m≤tail.length:=by lia
 dsimp-zeta only
 extract_lets n0
 have hjp:∀(n:Nat) (Y tail':List Keyed) (st3:SortSt),Y.length=n->0<n->Y.Pairwise (LeK κ)->Stb κ.blt (kf κ) (Y++tail') tail->At κ st3 pe (Rs.flatten++(Y++tail'))->
   wpS (model prog w) A E s (jp () n) (λ r st'=>match r with| .done c'=>∃Rs L,c'=(none,L)/\Rn κ a0 st' L Rs []| .yield c'=>∃Rs tail L,c'=(none,L)/\Rn κ a0 st' L Rs tail/\x+1≤L) st3:=by
  intro n Y tail' st3 lY nY sY tY hA3;have hR3:Rn κ a0 st3 lo Rs (Y++tail'):=⟨⟨pe,hA3,hP⟩,hR.so,hR.len,((Stb.refl _).app tY).trans hR.st'⟩;refine wpS_bind (wpS_get ?_)
  extract_lets v1 jp2
  have hjp2:∀(st4:SortSt) (Rs':List (List Keyed)),Rn κ a0 st4 lo Rs' (Y++tail')->wpS (model prog w) A E s (jp2 ()) (λ r st'=>match r with| .done c'=>∃Rs L,c'=(none,L)/\Rn κ a0 st' L Rs []| .yield c'=>∃Rs tail L,c'=(none,L)/\Rn κ a0 st' L Rs tail/\x+1≤L) st4:=by
   intro st4 Rs' hR4;obtain⟨pe4,hA4,hP4⟩:=hR4.at';have ef:(Rs'++[Y]).flatten++tail'=Rs'.flatten++(Y++tail'):=by simp [zt]
   refine wpS_bind (wpS_modify (zU ⟨Rs'++[Y],tail',lo+n,rfl,⟨⟨(pendingOf st4).push (lo,n,0),⟨hA4.k,hA4.f,rfl,by rw [ef];exact hA4.a,λ p hp=>hA4.has p (by rw [ef] at hp;exact hp)⟩,?_⟩,λ r hr=>?_,?_,by rw [ef];exact hR4.st'⟩,by lia⟩))
   ·rw [hA4.p];exact hP4.push hR4.len.symm lY.symm
   ·rcases zI.mp hr with z|z
    ·exact hR4.so r z
    ·have:r=Y:=by simpa using z
     subst this;exact⟨sY,by lia⟩
   ·have:=hR4.len;simp only [List.flatten_append,zv,A4,List.flatten_nil,Ax];lia
  clear_value jp2
  cases hb:(pendingOf st3).back? with
  |none=>
   have:wpS (model prog w) A E s (jp2 ()) (λ r st'=>match r with| .done c'=>∃Rs L,c'=(none,L)/\Rn κ a0 st' L Rs []| .yield c'=>∃Rs tail L,c'=(none,L)/\Rn κ a0 st' L Rs tail/\x+1≤L) st3:=hjp2 st3 Rs hR3;simpa only [hb] using this
  |some e=>
   obtain⟨s1,n1,p1⟩:=e;simp only [hb];refine wpS_bind (BD (Bb (I:=λ _ c st'=>c=(none,())/\∃Rs',Rn κ a0 st' lo Rs' (Y++tail')) (Q:=λ c st'=>c=(none,())/\∃Rs',Rn κ a0 st' lo Rs' (Y++tail')) ?_ (λ _ _ q=>q) ⟨rfl,Rs,hR3⟩) ?_)
   ·rintro x2 c st4 _ _ ⟨rfl,Rs',hR4⟩;refine wpS_bind (wpS_get ?_);obtain⟨pe4,hA4,hP4⟩:=hR4.at';have hs4:(pendingOf st4).size=Rs'.length:=by rw [hA4.p];exact hP4.size
    by_cases h2:(pendingOf st4).size>1
    ·obtain⟨As,X,Y1,Bs,rfl,hj⟩:=nC (Rs:=Rs') (j:=(pendingOf st4).size-2) (by lia);obtain⟨pw,p1⟩:=hP4.at (i:=(pendingOf st4).size-2) hj;have e1:(if(pendingOf st4).size>1 then(pendingOf st4)[(pendingOf st4).size-2]? else none)=some (As.flatten.length,X.length,pw):=by
      rw [zP h2,<-p1,hA4.p]
     rw [e1];dsimp only;refine bZ (zU ⟨rfl,_,hR4⟩) (wpS_bind (ic hO hR4 hj λ st5 Z hR5=>?_));exact aB (by decide) (zU ⟨rfl,_,hR5⟩)
    ·have e1:(if(pendingOf st4).size>1 then(pendingOf st4)[(pendingOf st4).size-2]? else none)=none:=zK h2;rw [e1];exact zU ⟨rfl,Rs',hR4⟩
   ·rintro c st4 ⟨rfl,Rs',hR4⟩;refine wpS_bind (wpS_modify (hjp2 _ Rs' ?_));obtain⟨pe4,hA4,hP4⟩:=hR4.at';refine⟨⟨_,⟨hA4.k,hA4.f,rfl,hA4.a,hA4.has⟩,?_⟩,hR4.so,hR4.len,hR4.st'⟩;show Pend Rs' ((pendingOf st4).modify ((pendingOf st4).size-1) _);rw [hA4.p];exact hP4.modify _ λ e=>rfl
 clear_value jp
 by_cases hlt:m<minrun
 ·refine aF hlt (wpS_bind (wpS_lift (Cq ⟨rfl,?_⟩)));refine wpS_bind (gU hO (P:=Rs.flatten) (Y:=Y) (R:=tail.drop m) (S:=[]) hA2 hR.len.symm sY lY m1 (show m≤min (size-lo) minrun by lia) (show min (size-lo) minrun≤m+(tail.drop m).length by rw [zR];lia) λ Y' st3 lY' sY' tY' hA3=>?_);refine aB (by decide) (BD (hjp _ Y' ((tail.drop m).drop (min (size-lo) minrun-m)) st3 lY' (by lia) sY' ?_ (by simpa using hA3)) λ r st' q=>by cases r<;>exact q);have e1:Stb κ.blt (kf κ) (Y'++(tail.drop m).drop (min (size-lo) minrun-m)) ((tail.take m++(tail.drop m).take (min (size-lo) minrun-m))++(tail.drop m).drop (min (size-lo) minrun-m)):=(tY'.trans (tY.app (Stb.refl _))).app (Stb.refl _);rw [zt,zM,zM] at e1;exact e1
 ·refine aB hlt (BD (hjp m Y (tail.drop m) st2 lY (by lia) sY ?_ (by simpa using hA2)) λ r st' q=>by cases r<;>exact q);have e1:=tY.app (Stb.refl (blt:=κ.blt) (kf:=kf κ) (tail.drop m));rw [zM] at e1;exact e1
end
end SG
set_option maxHeartbeats 2000000
namespace SG
open PySem PyProof.Rows
abbrev ltI:Int->Int->Bool:=λ a b=>decide (a<b)
abbrev ky {β:Type}(p:Int×β):Int:=p.1
theorem ordI:SM.Ord ltI:=⟨λ a=>AC (Int.lt_irrefl a),λ a b c h1 h2=>zw (Int.lt_trans (zA h1) (zA h2)),λ a b c h=>by
  have:=zA h;by_cases c1:a<b
  ·exact .inl (zw c1)
  ·exact .inr (zw (by lia)),λ a b h1 h2=>by
  have:=Dk h1;have:=Dk h2;lia⟩
def kInt:KeyKind where
 α:=Int
 blt:=λ a b=>decide (a<b)
 irrefl:=λ a=>AC (Int.lt_irrefl a)
 trans:=λ a b c h1 h2=>zw (Int.lt_trans (zA h1) (zA h2))
 negTrans:=λ a b c h=>by
  have:=zA h;by_cases c1:a<b
  ·exact .inl (zw c1)
  ·exact .inr (zw (by lia))
 total:=λ a b h1 h2=>by
  have:=Dk h1;have:=Dk h2;lia
 keyOf:=λ v=>match v with
  | .int n _=>some n
  |_=>none
 dflt:=0
theorem kInt_one:kInt.OneLt:=by
 intro prog w A E s x y a b Q hx hy hq;cases x with
 |int n t=>
  cases y with
  |int m u=>
   cases hx;cases hy;exact oneLt_int hq
  |_=>cases hy
 |_=>cases hx
theorem pw_small {α:Type}{R:α->α->Prop}:∀{l:List α},l.length<2->l.Pairwise R
 | [],_=>.nil
 | [x],_=>by simp
 |x::y::l,h=>by simp at h;lia
end SG
namespace L2
open PySem PyProof.Rows QQ
variable {s : Shared} {H : Hp} {E : Value->Shared->Prop} {f : Addr} {ks : List Int} {σ : St} {X : Cx} {pins : List (Addr×Obj)} {its : List Value}
theorem lV:∀{l1:List (Value×Value)} {x:Value×Value} {l2:List (Value×Value)} {m:List (Int×V)},PR (l1++x::l2) m->∃m1 y m2,m=m1++y::m2/\PR l1 m1/\(∃t,x.1=.int y.1 t)/\RelV y.2 x.2/\PR l2 m2
 | [],x,l2,m,h=>by
  cases h with
  |cons a b c=>exact⟨[],_,_,rfl,.nil,a,b,c⟩
 |z::l1,x,l2,m,h=>by
  cases h with
  |cons a b c=>
   obtain⟨m1,y,m2,rfl,h1,h2,h3,h4⟩:=lV c;exact⟨_::m1,y,m2,rfl,.cons a b h1,h2,h3,h4⟩
theorem sS:∀{l1 l2:List (Value×Value)} {m1 m2:List (Int×V)},PR l1 m1->PR l2 m2->PR (l1++l2) (m1++m2)
 |_,_,_,_,.nil,h=>h
 |_,_,_,_,.cons a b c,h=>.cons a b (sS c h)
theorem uB {l:List (Value×Value)}{m:List (Int×V)}(h:PR l m){k:Int}(hn:∀z∈l,¬SM.eqv SG.kInt.blt (SG.kf SG.kInt) k z=true):∀z∈m,¬SM.eqv SG.ltI SG.ky k z=true:=by
 induction h with
 |nil=>intro z hz;cases hz
 |cons a b c ih=>
  intro z hz;rcases zL.mp hz with rfl|hz
  ·obtain⟨t,rfl⟩:=a;exact hn _ (zH ..)
  ·exact ih (λ u hu=>hn u (zC _ hu)) z hz
theorem rE:∀{l' l:List (Value×Value)} {m:List (Int×V)},SM.Stb SG.kInt.blt (SG.kf SG.kInt) l' l->PR l m->∃m',SM.Stb SG.ltI SG.ky m' m/\PR l' m'
 | [],l,m,hs,h=>by
  have e:=(SM.stb_perm (SG.ord SG.kInt) hs).length_eq;cases h with
  |nil=>exact⟨[],SM.Stb.refl _,.nil⟩
  |cons a b c=>cases e
 |x::l',l,m,hs,h=>by
  have O:=SG.ord SG.kInt;have hx:=SM.Stb.mem O hs (zH (a:=x) (l:=l'));obtain⟨l1,y,l2,rfl,hy,h1⟩:=SM.first_split ⟨x,hx,SM.eqv_self (blt:=SG.kInt.blt) (kf:=SG.kf SG.kInt) O x⟩;have e:=hs (SG.kf SG.kInt x);have n1:l1.filter (SM.eqv SG.kInt.blt (SG.kf SG.kInt) (SG.kf SG.kInt x))=[]:=A8.mpr h1;rw [zQ (SM.eqv_self O x),z7,n1,A3,zQ hy] at e;obtain⟨rfl,e2⟩:=Dc e;have ht:SM.Stb SG.kInt.blt (SG.kf SG.kInt) l' (l1++l2):=λ k=>by
   by_cases hk:SM.eqv SG.kInt.blt (SG.kf SG.kInt) k x=true
   ·have z:=SM.eqv_iff.mp hk;have:SG.kf SG.kInt x=k:=O.tot _ _ z.1 z.2;subst this;rw [z7,n1,A3];exact e2
   ·have e3:=hs k;rw [zY hk,z7,zY hk] at e3;rw [z7];exact e3
  obtain⟨m1,y,m2,rfl,p1,⟨t,hy1⟩,p2,p3⟩:=lV h;obtain⟨m',q1,q2⟩:=rE ht (sS p1 p3);have hkx:SG.kf SG.kInt x=y.1:=by
   obtain⟨x1,x2⟩:=x;have e9:x1=.int y.1 t:=hy1;subst e9;rfl
  have km:∀z∈m1,¬SM.eqv SG.ltI SG.ky y.1 z=true:=by
   rw [hkx] at h1;exact uB p1 h1
  refine⟨y::m',λ k=>?_,?_⟩
  ·by_cases hk:SM.eqv SG.ltI SG.ky k y=true
   ·have z:=SM.eqv_iff.mp hk;have:y.1=k:=SG.ordI.tot _ _ z.1 z.2;subst this;have n2:m1.filter (SM.eqv SG.ltI SG.ky y.1)=[]:=A8.mpr km;have q:=q1 y.1;rw [z7,n2,A3] at q;rw [zQ hk,z7,n2,A3,zQ hk,q]
   ·have q:=q1 k;rw [z7] at q;rw [zY hk,z7,zY hk,q]
  ·obtain⟨x1,x2⟩:=x;obtain⟨y1,y2⟩:=y;exact .cons ⟨t,hy1⟩ p2 q2
theorem pW {A:Around}{a:Addr}{n:Nat}{P:Fin->Shared->Prop}
  (I:Inv X pins σ H s) (ho:s.heap.get? a=some (seqObj "list" its.toArray n)) (fa:FpOk X pins H a) (hl:its.length=ks.length) (h64:its.length≤1000)
  (hcall:∀(pins':List (Addr×Obj)) (s':Shared) (E':Value->Shared->Prop) (i:Nat) (x:Value) (k:Int),its[i]?=some x->ks[i]?=some k->Inv X pins' σ H s'->wpAny (model X.prog X.w) A (call (.ref f) [x]) (λ r s''=>(∃t,r=.int k t)/\Inv X pins' σ H s'') E' s')
  (h:∀(s':Shared) (out:Array Keyed) (kv:List Value),Inv X pins σ H s'->(∃e,s'.heap.get? a=some (seqObj "list" (out.map (·.2)) e))->IntsAre kv ks->out.toList.Pairwise (SG.LeK SG.kInt)->SM.Stb SG.kInt.blt (SG.kf SG.kInt) out.toList (kv.zip its)->P (.done (.ret .none)) s'):
  wpAny (model X.prog X.w) A (Builtin.«list.sort» ⟨[.ref a],[(Str.ofString "key",.ref f)]⟩) P E s:=by
 rw [iL];have ha:a<s.heap.objs.size:=zZ ho;refine zx (listItems_at ho rfl ?_);refine zx (Dd ho rfl ?_);obtain⟨e1,ho1⟩:∃e1,(s.heap.update a (Obj.mapSeq λ _=>#[])).get? a=some (seqObj "list" #[] e1):=⟨_,De ho (λ _=>#[])⟩;have I1:Inv X pins σ H {s with heap:=s.heap.update a (Obj.mapSeq λ _=>#[])}:=I.turn fa;have hs1:(s.heap.update a (Obj.mapSeq λ _=>#[])).objs.size=s.heap.objs.size:=Heap.size_update ..;generalize s.heap.update a (Obj.mapSeq λ _=>#[])=h1 at*;refine zx (seqEpoch_at ho1 rfl ?_);refine zx (wpAny_newTuple ?_);refine zx (wpAny_newList ?_);refine Bf ?_;have ho3:((h1.push (seqObj "tuple" its.toArray 0)).push (seqObj "list" #[] 0)).get? a=some (seqObj "list" #[] e1):=zB _ (zB _ ho1);have I3:Inv X pins σ H {s with heap:=(h1.push (seqObj "tuple" its.toArray 0)).push (seqObj "list" #[] 0)}:=I1.kept (t':=s.toks) λ b o e=>zB _ (zB _ e)
 have hc3:((h1.push (seqObj "tuple" its.toArray 0)).push (seqObj "list" #[] 0)).get? (h1.push (seqObj "tuple" its.toArray 0)).objs.size=some (seqObj "list" ([]:List Value).toArray 0):=Ak _ rfl;have hcs:s.heap.objs.size≤(h1.push (seqObj "tuple" its.toArray 0)).objs.size:=by rw [size_push',hs1];lia
 have fc:FpOk X pins H (h1.push (seqObj "tuple" its.toArray 0)).objs.size:=I.fpOk hcs (I.hok.fresh hcs);have nac:a≠(h1.push (seqObj "tuple" its.toArray 0)).objs.size:=AE (Am ha hcs);show wpAny (model X.prog X.w) A _ P E {s with heap:=(h1.push (seqObj "tuple" its.toArray 0)).push (seqObj "list" #[] 0)};generalize (h1.push (seqObj "tuple" its.toArray 0)).objs.size=c at*;generalize (h1.push (seqObj "tuple" its.toArray 0)).push (seqObj "list" #[] 0)=h3 at*;dsimp only;refine zx (Cq ?_);refine zx (wpAny_forIn_array' _ (λ rest _ s'=>∃(i:Nat) (kv:List Value),rest=its.drop i/\i≤its.length/\IntsAre kv (ks.take i)/\Inv X pins σ H s'/\s'.heap.get? a=some (seqObj "list" #[] e1)/\∃e2,s'.heap.get? c=some (seqObj "list" kv.toArray e2)) _ ?_ ?_ _ _ ⟨0,[],rfl,Ap _,.nil,I3,ho3,0,hc3⟩)
 ·rintro x rest _ s' ⟨i,kv,hr,hi,hkv,I',hoa,e2,hoc⟩;have hx:its[i]?=some x:=by
   have:(its.drop i)[0]?=some x:=by rw [<-hr];rfl
   rw [BY] at this;simpa using this
  have hil:i<its.length:=(zz.mp hx).1;have hk:ks[i]?=some ks[i]:=zu (by lia);have hrest:rest=its.drop (i+1):=by
   rw [AH hil] at hr;exact(Dc hr).2
  have Ip:=I'.pinned (fp:=[a,c]) (λ b hb=>by
   rcases zL.mp hb with rfl|hb
   ·exact fa
   ·rw [zX.mp hb];exact fc) (λ b hb=>by
   rcases zL.mp hb with rfl|hb
   ·exact⟨_,hoa,dh⟩
   ·rw [zX.mp hb];exact⟨_,hoc,dh⟩)
  refine zx (Db (AX (hcall _ s' _ i x ks[i] hx hk Ip) (λ r s'' z9=>?_) λ _ _ e=>e));obtain⟨⟨t,hrv⟩,I''⟩:=z9;subst hrv;have hoa':s''.heap.get? a=some (seqObj "list" #[] e1):=(I''.pin _ (zJ _ (zJ _ (a8 (by simp) hoa)))).1;have hoc':s''.heap.get? c=some (seqObj "list" kv.toArray e2):=(I''.pin _ (zJ _ (zJ _ (a8 (by simp) hoc)))).1;have I2:=I''.unpinned;have hlk:kv.length=i:=by rw [hkv.length,zW];lia
  dsimp only;refine zx (Dd hoc' rfl (Ai ?_) (hsz:=by rw [zE,hlk,B0];lia) (hsz2:=by rw [Array.size_push,zE,hlk,B0];lia));refine⟨i+1,kv++[.int ks[i] t],hrest,hil,?_,I2.turn fc,?_,?_⟩
  ·rw [AO,hk];exact iQ hkv
  ·show(s''.heap.update c _).get? a=_;rw [Bu _ _ _ _ nac];exact hoa'
  ·have e:=De hoc' (λ x=>x.push (Value.int ks[i] t));rw [List.push_toArray] at e;exact⟨_,e⟩
 ·rintro _ s' ⟨i,kv,hr,hi,hkv,I',hoa,e2,hoc⟩;have hie:i=its.length:=by
   have:=Bk List.length hr;rw [zR] at this;simp at this;lia
  rw [hie,hl,An] at hkv;have hlk:kv.length=its.length:=by rw [hkv.length,hl]
  have hz:(kv.toArray.zip its.toArray).size=its.length:=by rw [Array.size_zip];simp;lia
  have I4:Inv X pins σ H {s' with heap:=s'.heap.update c (Obj.mapSeq λ _=>#[])}:=I'.turn fc;have hoa4:(s'.heap.update c (Obj.mapSeq λ _=>#[])).get? a=some (seqObj "list" #[] e1):=by rw [Bu _ _ _ _ nac];exact hoa
  have fin:∀out:Array Keyed,out.toList.Pairwise (SG.LeK SG.kInt)->SM.Stb SG.kInt.blt (SG.kf SG.kInt) out.toList (kv.zip its)->P (.done (.ret .none)) {s' with heap:=(s'.heap.update c (Obj.mapSeq λ _=>#[])).update a (Obj.mapSeq λ _=>out.map (·.2))}:=by
   intro out hp hs;have e5:=De hoa4 (λ _=>out.map (·.2));generalize s'.heap.update c (Obj.mapSeq λ _=>#[])=h4 at*;have I5:Inv X pins σ H {s' with heap:=h4.update a (Obj.mapSeq λ _=>out.map (·.2))}:=Inv.turn (s:={s' with heap:=h4}) I4 fa;generalize h4.update a (Obj.mapSeq λ _=>out.map (·.2))=h5 at*;exact h _ out kv I5 ⟨_,e5⟩ hkv hp hs
  refine zx (listItems_at hoc rfl ?_);by_cases h2:its.toArray.size<2
  ·rw [zP h2,zP h2];refine zx (Ai ?_);rw [StateT.run_pure];refine zx (Ai ?_);dsimp only;refine zx (Dd hoc rfl ?_ (hsz:=by rw [zE,hlk,B0];lia));refine zx (DL ?_);refine zx (seqEpoch_at hoa4 rfl ?_);refine zx (Dd hoa4 rfl ?_ (hsz2:=by rw [Array.size_map];show(kv.toArray.zip its.toArray).size≤_;rw [hz,B0];lia));simp only [bne_self_eq_false,BJ,if_false];refine Ai (fin _ (SG.pw_small ?_) ?_)
   ·rw [AS];show(kv.toArray.zip its.toArray).size<2;rw [zE] at h2;lia
   ·have:(kv.toArray.zip its.toArray).toList=kv.zip its:=by simp
    show SM.Stb _ _ (kv.toArray.zip its.toArray).toList _;rw [this];exact SM.Stb.refl _
  ·rw [zK h2,zK h2];rw [zE] at h2;have hkk:keyKind' kv.toArray=pure oneType':=by
    match kv,hkv,hlk with
    | [],_,hlk=>simp at hlk;lia
    | [_],_,hlk=>simp at hlk;lia
    |v₁::v₂::vs,hkv,_=>exact keyKind_ints hkv
   rw [hkk];refine zx (Ai ?_);have hzl:(kv.toArray.zip its.toArray).toList=kv.zip its:=by simp
   have hik:∀p∈(arrOf (SortSt.mk' oneType' (kv.toArray.zip its.toArray) #[] 7 none)).toList,SG.Has SG.kInt p:=by
    intro p hp;have hp':p∈kv.zip its:=by rw [<-hzl];exact hp
    obtain⟨n,t,e⟩:=hkv.all _ (Da hp').1;exact⟨n,by rw [e];rfl⟩
   refine zx (AX (SG.wpS_sortAll SG.kInt_one (st:=SortSt.mk' oneType' (kv.toArray.zip its.toArray) #[] 7 none)
    (Q:=λ _ st'=>(arrOf st').toList.Pairwise (SG.LeK SG.kInt)/\failedOf st'=none/\SM.Stb SG.kInt.blt (SG.kf SG.kInt) (arrOf st').toList (kv.zip its))
    rfl rfl rfl hik λ st' a1 a2 a3=>⟨a2,a1,by rw [<-hzl];exact a3⟩) ?_ λ _ _ e=>e)
   rintro⟨⟨⟩,st'⟩ s'' ⟨rfl,hp,hf,hs⟩;have hsz9:(arrOf st').size=its.length:=by rw [<-AS,(SM.stb_perm (SG.ord SG.kInt) hs).length_eq,List.length_zip,hlk,Nat.min_self]
   dsimp only;refine zx (Dd hoc rfl ?_ (hsz:=by rw [zE,hlk,B0];lia));refine zx (DL ?_);refine zx (seqEpoch_at hoa4 rfl ?_);refine zx (Dd hoa4 rfl ?_ (hsz2:=by rw [Array.size_map,hsz9,B0];lia));rw [hf];simp only [bne_self_eq_false,BJ,if_false];exact Ai (fin _ hp hs)
theorem lD {p:Addr}{Q:Value->Shared->Prop}
  (I:Inv X pins σ H s) (hp:s.heap.IsList p its.toArray) (hl:its.length=ks.length) (h64:its.length≤1000)
  (hcall:∀(pins':List (Addr×Obj)) (s':Shared) (E':Value->Shared->Prop) (i:Nat) (x:Value) (k:Int),its[i]?=some x->ks[i]?=some k->Inv X pins' σ H s'->wpAny (model X.prog X.w) X.A.in1.in1 (call (.ref f) [x]) (λ r s''=>(∃t,r=.int k t)/\Inv X pins' σ H s'') E' s')
  (h:∀(s':Shared) (l:Addr) (out:Array Keyed) (kv:List Value),Inv X pins σ H s'->FpOk X pins H l->(∃e,s'.heap.get? l=some (seqObj "list" (out.map (·.2)) e))->IntsAre kv ks->out.toList.Pairwise (SG.LeK SG.kInt)->SM.Stb SG.kInt.blt (SG.kf SG.kInt) out.toList (kv.zip its)->Q (.ref l) s'):
  wpAny (model X.prog X.w) X.A (call (.builtin "sorted") [.ref p] [(Str.ofString "key",.ref f)]) Q E s:=by
 refine call_function_entry_kw kind_sorted plain_sorted entry_sorted (args_sorted_key _ _) ?_;unfold Builtin.«sorted»;refine zx (m:=checkCount "sorted" 1 1 _) (Ai ?_);refine zx (collect_list hp ?_);refine zx (wpAny_newList ?_);have hsz:((s.heap.push (seqObj "list" #[] 0)).update s.heap.objs.size (Obj.mapSeq (·++its.toArray))).objs.size=s.heap.objs.size+1:=by
  rw [Heap.size_update,size_push']
 have hoL:(((s.heap.push (seqObj "list" #[] 0)).update s.heap.objs.size (Obj.mapSeq (·++its.toArray))).push (seqObj "list" its.toArray 0)).get? (s.heap.objs.size+1)=some (seqObj "list" its.toArray 0):=by
  rw [<-hsz];exact Ak _ rfl
 have I2:Inv X pins σ H {s with heap:=((s.heap.push (seqObj "list" #[] 0)).update s.heap.objs.size (Obj.mapSeq (·++its.toArray))).push (seqObj "list" its.toArray 0)}:=I.kept (t':=s.toks) λ b o e=>
  zB _ (by rw [Bu _ _ _ _ (AE (zZ e))];exact zB _ e)
 show wpAny _ _ _ _ _ {s with heap:=((s.heap.push (seqObj "list" #[] 0)).update s.heap.objs.size (Obj.mapSeq (·++its.toArray))).push (seqObj "list" its.toArray 0)};rw [hsz];have fl:FpOk X pins H (s.heap.objs.size+1):=I.fpOk (CT _) (I.hok.fresh (CT _));refine zx (Bf (wpAny_call_entry_kw slot_list_sort ⟨_,hoL,rfl⟩ entry_list_sort (pW I2 hoL fl hl h64 hcall λ s' out kv a1 a2 a3 a4 a5=>⟨_,rfl,?_⟩) (eA _ _)));exact Ai ⟨_,rfl,h s' _ out kv a1 fl a2 a3 a4 a5⟩
def ud (K:PySem.W.Frag)(sp:Sp)(t:TA):TE:=λ σ H Q=>t σ H λ zs H1=>∃(p:Addr) (xs:List V) (ks:List Int),zs=[.ref p]/\SqL K H1 p xs/\xs.length=ks.length/\xs.length≤1000/\
 (∀(i:Nat) (v:V) (k:Int),xs[i]?=some v->ks[i]?=some k->sp [v] H1 (λ r H2=>r=.int k/\H2=H1) E0)/\
 ∀(l:Addr) (m:List (Int×V)),H1 l=none->(m.map (·.1)).Pairwise (·≤·)->SM.Stb SG.ltI SG.ky m (ks.zip xs)->Q (.ref l) (upd H1 l (.lst (m.map (·.2))))
section
variable {X : Cx} {k : Nat} {f : Addr} {fd : FuncData} {x : Str} {sp : Sp} {e : Expr} {te : TE} {fe : Expr} {p kp pos : Pos} {y : Str}
theorem jm {t:TA}(F:FnOk X.prog X.w X.K X.mg X.base CX0 k f fd [y] sp)(hr:Room (k+2) X.A)(hb:Binds X.K fd [y] [])(hg:Gl X "sorted")(hm:X.mg "sorted"=none)(hf:PE X fe (tC (.ref f)))(ha:PA X [e] t)
  (he:backTo pos (starEach (e:: []) X.env)=(false,eval e X.env)::backTo pos (starEach [] X.env):=by rfl) (hplain:(backTo pos (starEach (e:: []) X.env)).any (·.1)=false:=by rfl)
  (hall:(backToKw pos (keywordEach [⟨some "key",fe,kp⟩] X.env)).all (·.1.isSome)=true:=by rfl)
  (hkw:(backToKw pos (keywordEach [⟨some "key",fe,kp⟩] X.env)).any (·.1.isNone)=false:=by rfl)
  (hfm:(backToKw pos (keywordEach [⟨some "key",fe,kp⟩] X.env)).filterMap (·.1)=[("key":Str)]:=by rfl):
  PE X (.Call (.Name "sorted" p) [e] [⟨some "key",fe,kp⟩] pos) (ud X.K sp t):=by
 intro pins s σ H Q I h;refine Bm (ld_blt I hg hm (show bootBuiltins "sorted"=some (.builtin "sorted") by decide+kernel) ?_);refine PyProof.Rows.callWith_kw (e:=e) (rest:=[]) (thn (ha pos pins s σ H _ I h) λ us s1 z9=>?_) he hplain hall hkw;obtain⟨vs,H1,I1,r1,q1⟩:=z9;refine kws_cons (thn (hf pins s1 σ H1 (λ v H2=>v=.ref f/\H2=H1) I1 ⟨rfl,rfl⟩) λ fv s2 ⟨v,H2,I2,r2,e1,e2⟩=>kws_nil ?_);subst e1 e2;obtain rfl:fv=Value.ref f:=r2;rw [hfm];obtain⟨p,xs,ks,rfl,hq,hlen,h64,hsp,q⟩:=q1;obtain⟨u,rfl,ru⟩:=gb r1;obtain rfl:u=Value.ref p:=ru;obtain⟨its,rv,pl,hz⟩:=I2.list hq;have hil:=rv.length;show wpAny _ _ (call (.builtin "sorted") [.ref p] [(Str.ofString "key",.ref f)]) _ _ s2;refine lD (ks:=ks) I2 pl.isList (by lia) (by lia) (λ pins' s' E' i x k' hx hk I'=>?_) λ s' l out kv I' fl ⟨en,ho⟩ hkv hp hs=>?_
 ·obtain⟨v,hv,rvv⟩:∃v,xs[i]?=some v/\RelV v x:=by
   have hix:i<xs.length:=by have:=(zz.mp hx).1;lia
   obtain⟨u,e3,r3⟩:=rv.get (i:=i) (x:=xs[i]) (zu hix);rw [hx] at e3;cases e3;exact⟨_,zu hix,r3⟩
  refine wpAny_call (Dp (F.run X.A.in1.in1 X.stack s' H2 ⟨[x],[]⟩ [x] [v] _ E0 hr.in1.in1 I'.env0.in1.in1 (hb s' [x] I'.kIn rfl) (.cons rvv .nil) (hsp i v k' hv hk)) λ r s'' hq=>?_);cases r with
  |error e=>exact False.elim hq
  |ok fl=>
   cases fl with
   |ret u=>
    obtain⟨v',H',I'',rr,e1,e2⟩:=I'.after hq;subst e1 e2;exact⟨rr,I''⟩
   |next=>exact False.elim hq
   |brk=>exact False.elim hq
   |cont=>exact False.elim hq
 ·obtain⟨m,hst,hpr⟩:=rE hs (rT hkv rv);have hvals:=nZ hpr;have hml:=rG hpr;have hol:out.toList.length=its.length:=by rw [(SM.stb_perm (SG.ord SG.kInt) hs).length_eq,List.length_zip,hkv.length];lia
  refine⟨.ref l,_,I'.adopt fl (its:=out.toList.map (·.2)) hvals (by rw [zr];rw [B0];lia) (n:=en) (by rw [ho,<-Array.toList_map]),rfl,q l m fl.1 ?_ hst⟩;rw [AI];intro i j hi hj hij;rw [zr] at hi hj;have key:∀(i:Nat) (h:i<m.length) (h2:i<out.toList.length),SG.kf SG.kInt (out.toList[i]'h2)=m[i].1:=by
   intro i hi hi2;obtain⟨t,v,e⟩:=we hpr (zu hi);have e':out.toList[i]=(.int m[i].1 t,v):=zS ((zu hi2).symm.trans e);rw [e'];rfl
  have l1:=(AI.mp hp) i j (by lia) (by lia) hij;rw [D7,D7];have l2:SG.kInt.blt (SG.kf SG.kInt (out.toList[j]'(by lia))) (SG.kf SG.kInt (out.toList[i]'(by lia)))=false:=l1;rw [key i hi,key j hj] at l2;have l3:¬m[j].1<m[i].1:=λ z=>by
   have:SG.kInt.blt m[j].1 m[i].1=true:=zw z;rw [this] at l2;cases l2
  exact Int.not_lt.mp l3
end
end L2
namespace PM
variable {f ln wt : Nat->Nat} {m p : Nat} {B R : List Bd} {L S : List Nat}
abbrev Bd:=Nat×List Nat
def pairs:List Bd->List Bd
 |a::b::r=>(a.1+b.1,a.2++b.2)::pairs r
 |_=>[]
def occ (R:List Bd)(p:Nat):Nat:=(R.map λ b=>b.2.count p).sum
def Sorted (B:List Bd):Prop:=B.Pairwise λ a b=>a.1≤b.1
theorem cb {a b:List Nat}(h:a.Perm b):a.sum=b.sum:=by
 induction h with
 |nil=>rfl
 |cons x _ ih=>simp [ih]
 |swap x y l=>simp;lia
 |trans _ _ h1 h2=>exact h1.trans h2
theorem j9 {S:List Bd}(h:R.Perm S)(p:Nat):occ R p=occ S p:=cb (h.map _)
theorem gZ (R S:List Bd)(p:Nat):occ (R++S) p=occ R p+occ S p:=by simp [occ]
theorem cz (b:Bd)(S:List Bd)(p:Nat):occ (b::S) p=b.2.count p+occ S p:=by simp [occ]
theorem yQ {U X Y:List Bd}(h:(R++U).Perm (X++Y)):∃RX RY UX UY,R.Perm (RX++RY)/\U.Perm (UX++UY)/\X.Perm (RX++UX)/\Y.Perm (RY++UY):=by
 induction R generalizing X Y with
 |nil=>exact⟨[],[],X,Y,.nil,h,.refl _,.refl _⟩
 |cons r R ih=>
  have hr:r∈X++Y:=h.subset zH;rcases zI.mp hr with hX|hY
  ·have e:=BL hX;have h2:(R++U).Perm (X.erase r++Y):=(h.trans (e.append_right Y)).cons_inv;obtain⟨RX,RY,UX,UY,h3,h4,h5,h6⟩:=ih h2;exact⟨r::RX,RY,UX,UY,h3.cons r,h4,e.trans (h5.cons r),h6⟩
  ·have e:=BL hY;have h2:(R++U).Perm (X++Y.erase r):=(h.trans ((e.append_left X).trans BK)).cons_inv;obtain⟨RX,RY,UX,UY,h3,h4,h5,h6⟩:=ih h2;exact⟨RX,r::RY,UX,UY,(h3.cons r).trans BK.symm,h4,h5,e.trans (h6.cons r)⟩
theorem qx:∀(n:Nat) {B RP UP:List Bd},B.length≤n->Sorted B->(RP++UP).Perm (pairs B)->(∀r∈RP,∀u∈UP,r.1≤u.1)->
  ∃R U,(R++U).Perm B/\(∀r∈R,∀u∈U,r.1≤u.1)/\R.length=2*RP.length/\(∀p,occ R p=occ RP p)/\∀r∈R,∃q∈RP,∃x∈B,q.1=r.1+x.1:=by
 intro n
 induction n with
 |zero=>
  intro B RP UP hB _ h _;have e:B=[]:=AU.mp (by lia);subst e;have:RP=[]/\UP=[]:=by
   have:=D3.mp h;simpa using this
  obtain⟨rfl,rfl⟩:=this;exact⟨[],[],.nil,λ _ h=>(by simp at h),rfl,λ _=>rfl,λ _ h=>(by simp at h)⟩
 |succ n ih=>
  intro B RP UP hB hs h hle
  match B,hB,hs,h with
  | [],_,_,h=>
   have:RP=[]/\UP=[]:=by
    have:=D3.mp h;simpa using this
   obtain⟨rfl,rfl⟩:=this;exact⟨[],[],.nil,λ _ h=>(by simp at h),rfl,λ _=>rfl,λ _ h=>(by simp at h)⟩
  | [x],_,_,h=>
   have:RP=[]/\UP=[]:=by
    have:=D3.mp h;simpa using this
   obtain⟨rfl,rfl⟩:=this;exact⟨[],[x],.refl _,λ _ h=>(by simp at h),rfl,λ _=>rfl,λ _ h=>(by simp at h)⟩
  |a::b::r,hB,hs,h=>
   have hs':Sorted r:=(AY.mp (AY.mp hs).2).2;have ha:=(AY.mp hs).1;have hb:=(AY.mp (AY.mp hs).2).1;have hab:a.1≤b.1:=ha b zH;have hm:(a.1+b.1,a.2++b.2)∈RP++UP:=h.symm.subset zH;rcases zI.mp hm with hR|hU
   ·have e:=BL hR;have h2:(RP.erase (a.1+b.1,a.2++b.2)++UP).Perm (pairs r):=((e.append_right UP).symm.trans h).cons_inv;obtain⟨R,U,h3,h4,h5,h6,h7⟩:=ih (by simp at hB;lia) hs' h2 λ x hx u hu=>hle x (Dv hx) u hu
    have hl:=e.length_eq;rw [zD] at hl;refine⟨a::b::R,U,(h3.cons b).cons a,?_,?_,λ p=>?_,?_⟩
    ·intro x hx u hu;have hur:u∈r:=h3.subset (zJ _ hu);rcases zL.mp hx with rfl|hx
     ·exact ha u (zC _ hur)
     ·rcases zL.mp hx with rfl|hx
      ·exact hb u hur
      ·exact h4 x hx u hu
    ·rw [zD,zD,h5];lia
    ·rw [j9 e p,cz,cz,cz,h6 p];show _=(a.2++b.2).count p+_;rw [BN];lia
    ·intro x hx;rcases zL.mp hx with rfl|hx
     ·exact⟨_,hR,b,by simp,rfl⟩
     ·rcases zL.mp hx with rfl|hx
      ·exact⟨_,hR,a,by simp,DU _ _⟩
      ·obtain⟨q,hq,y,hy,e⟩:=h7 x hx;exact⟨q,Dv hq,y,zC _ (zC _ hy),e⟩
   ·have e:=BL hU;have h2:(RP++UP.erase (a.1+b.1,a.2++b.2)).Perm (pairs r):=(BK.symm.trans ((e.append_left RP).symm.trans h)).cons_inv;obtain⟨R,U,h3,h4,h5,h6,h7⟩:=ih (by simp at hB;lia) hs' h2 λ x hx u hu=>hle x hx u (Dv hu)
    have key:∀x∈R,x.1≤a.1/\x.1≤b.1:=by
     intro x hx;obtain⟨q,hq,y,hy,e⟩:=h7 x hx;have h8:q.1≤a.1+b.1:=hle q hq _ hU;have h9:=hb y hy;lia
    refine⟨R,a::b::U,?_,?_,h5,h6,λ x hx=>?_⟩
    ·exact BK.trans ((BK.trans (h3.cons b)).cons a)
    ·intro x hx u hu;rcases zL.mp hu with rfl|hu
     ·exact(key x hx).1
     ·rcases zL.mp hu with rfl|hu
      ·exact(key x hx).2
      ·exact h4 x hx u hu
    ·obtain⟨q,hq,y,hy,e⟩:=h7 x hx;exact⟨q,hq,y,zC _ (zC _ hy),e⟩
inductive Lev (sg:List Bd):Nat->List Bd->Prop
 |zero:Lev sg 0 []
 |step {k:Nat} {B B':List Bd}:Lev sg k B->B'.Perm (sg++pairs B)->Sorted B'->Lev sg (k+1) B'
def sgl (wt:Nat->Nat)(p:Nat):Bd:=(wt p,[p])
theorem kx {RX UX:List Bd}(h:(L.map (sgl wt)).Perm (RX++UX)):∃RL UL,L.Perm (RL++UL)/\RX=RL.map (sgl wt)/\UX=UL.map (sgl wt):=by
 have g:∀b∈RX++UX,sgl wt (b.2.headD 0)=b:=by
  intro b hb;obtain⟨p,_,rfl⟩:=Bl.mp (h.symm.subset hb);rfl
 refine⟨RX.map (·.2.headD 0),UX.map (·.2.headD 0),?_,?_,?_⟩
 ·have:=h.map (·.2.headD 0);rw [A5,zG] at this;have e:((λ b:Bd=>b.2.headD 0)∘sgl wt)=id:=by funext p;rfl
  rw [e,List.map_id] at this;exact this
 ·rw [A5]
  conv=>lhs;rw [<-List.map_id RX]
  exact CU λ b hb=>(g b (Bh _ hb)).symm
 ·rw [A5]
  conv=>lhs;rw [<-List.map_id UX]
  exact CU λ b hb=>(g b (zJ _ hb)).symm
theorem pi:∀{M:List Nat} {p:Nat},occ (M.map (sgl wt)) p=M.count p
 | [],p=>rfl
 |q::M,p=>by
  rw [z8,cz,pi];show [q].count p+_=_;rw [Ct,Ct];simp;lia
theorem ja:∀{M:List Nat},M.Nodup->p∈M->M.count p=1
 | [],_,h=>by simp at h
 |a::M,hn,h=>by
  have hn':=Cy.mp hn;rw [Ct];by_cases e:a=p
  ·subst e;rw [A6 hn'.1];simp
  ·have hm:p∈M:=by
    rcases zL.mp h with h|h
    ·exact absurd h.symm e
    ·exact h
   rw [ja hn'.2 hm];simp [e]
def kr (R:List Bd)(k:Nat)(S:List Nat):Nat:=(S.map λ p=>2^(k-occ R p)).sum
theorem bW {c:Nat}(h:∀p∈S,f p=c):(S.map f).sum=c*S.length:=by
 induction S with
 |nil=>rfl
 |cons a S ih=>
  rw [z8,Az,h a zH,ih λ p hp=>h p (zC _ hp),zD,Nat.mul_succ];lia
theorem bU {g:Nat->Nat}(h:∀p∈S,f p=g p):(S.map f).sum=(S.map g).sum:=by rw [CU h]
theorem qM (hL:L.Nodup)(hw:∀p∈L,0<wt p){k:Nat}(lv:Lev (L.map (sgl wt)) k B):Sorted B/\(∀b∈B,0<b.1)/\
  ∀R U,(R++U).Perm B->(∀r∈R,∀u∈U,r.1≤u.1)->∃S T,L.Perm (S++T)/\(∀p∈S,1≤occ R p/\occ R p≤k/\sgl wt p∈R)/\(∀p,p∉S->occ R p=0)/\2*kr R k S+2^k*R.length=2^(k+1)*S.length:=by
 induction lv with
 |zero=>
  refine⟨.nil,λ _ h=>(by simp at h),λ R U h _=>?_⟩;have:R=[]/\U=[]:=by
   have:=D3.mp h;simpa using this
  obtain⟨rfl,rfl⟩:=this;exact⟨[],L,.refl _,λ _ h=>(by simp at h),λ _ _=>rfl,rfl⟩
 | @step k B B' _ hp hs ih=>
  obtain⟨hsB,hpos,ih⟩:=ih;have pos_pairs:∀(n:Nat) (B:List Bd),B.length≤n->(∀b∈B,0<b.1)->∀b∈pairs B,0<b.1:=by
   intro n
   induction n with
   |zero=>intro B hB _ b hb;have:B=[]:=AU.mp (by lia);subst this;simp [pairs] at hb
   |succ n ih2=>
    intro B hB h b hb
    match B,hB,h,hb with
    | [],_,_,hb=>simp [pairs] at hb
    | [x],_,_,hb=>simp [pairs] at hb
    |x::y::r,hB,h,hb=>
     rcases zL.mp hb with rfl|hb
     ·have:=h x zH;show 0<x.1+y.1;lia
     ·exact ih2 r (by simp at hB;lia) (λ b hb=>h b (zC _ (zC _ hb))) b hb
  refine⟨hs,λ b hb=>?_,λ R U h hle=>?_⟩
  ·rcases zI.mp (hp.subset hb) with hb|hb
   ·obtain⟨p,hpL,rfl⟩:=Bl.mp hb;exact hw p hpL
   ·exact pos_pairs _ B (zy _) hpos b hb
  ·obtain⟨RX,RP,UX,UP,h1,h2,h3,h4⟩:=yQ (h.trans hp);obtain⟨RL,UL,h5,rfl,rfl⟩:=kx h3;have mR:∀b,b∈RL.map (sgl wt)\/b∈RP->b∈R:=λ b hb=>h1.symm.subset (zI.mpr hb)
   have mU:∀b,b∈UL.map (sgl wt)\/b∈UP->b∈U:=λ b hb=>h2.symm.subset (zI.mpr hb)
   obtain⟨R',U',h6,h7,h8,h9,h10⟩:=qx _ (zy _) hsB h4.symm λ r hr u hu=>hle r (mR r (.inr hr)) u (mU u (.inr hu))
   obtain⟨S,T,h11,h12,h13,h14⟩:=ih R' U' h6 h7;have hocc:∀p,occ R p=RL.count p+occ R' p:=λ p=>by rw [j9 h1 p,gZ,pi,h9 p]
   have hndR:RL.Nodup:=(List.nodup_append.mp (h5.nodup_iff.mp hL)).1;have hndS:S.Nodup:=(List.nodup_append.mp (h11.nodup_iff.mp hL)).1;have hsub:∀p∈S,p∈RL:=by
    intro p hpS;have hpL:p∈RL++UL:=h5.subset (h11.symm.subset (Bh _ hpS));rcases zI.mp hpL with hh|hh
    ·exact hh
    ·obtain⟨q,hq,x,hx,e⟩:=h10 _ (h12 p hpS).2.2;have:=hle q (mR q (.inr hq)) _ (mU _ (.inl (DK hh)));have hx0:=hpos x hx;have e':q.1=wt p+x.1:=e;have:q.1≤wt p:=this;lia
   have hcnt:∀p∈RL,RL.count p=1:=λ p hp=>ja hndR hp
   refine⟨RL,UL,h5,λ p hpR=>⟨?_,?_,mR _ (.inl (DK hpR))⟩,λ p hpR=>?_,?_⟩
   ·rw [hocc,hcnt p hpR];lia
   ·rw [hocc,hcnt p hpR];by_cases hpS:p∈S
    ·have:=(h12 p hpS).2.1;lia
    ·rw [h13 p hpS];lia
   ·rw [hocc,A6 hpR,h13 p λ z=>hpR (hsub p z)]
   ·
    have hspl:RL.Perm (S++RL.filter (λ p=> !decide (p∈S))):=by
     have e1:RL.Perm (RL.filter (λ p=>decide (p∈S))++RL.filter (λ p=> !decide (p∈S))):=(List.filter_append_perm _ _).symm;refine e1.trans (List.Perm.append_right _ ?_);rw [List.perm_ext_iff_of_nodup (hndR.filter _) hndS];intro p;simp only [By,decide_eq_true_eq];exact⟨λ h=>h.2,λ h=>⟨hsub p h,h⟩⟩
    have hkr:kr R (k+1) RL=kr R' k S+2^k*(RL.filter (λ p=> !decide (p∈S))).length:=by
     unfold kr;have e2:(RL.map λ p=>2^(k+1-occ R p)).sum=(RL.map λ p=>2^(k-occ R' p)).sum:=by
      refine bU λ p hp=>?_
      rw [hocc,hcnt p hp,show k+1-(1+occ R' p)=k-occ R' p by lia]
     rw [e2,cb (hspl.map _),zG,Bp];congr 1;refine bW λ p hp=>?_
     simp only [By,Bool.not_eq_true',decide_eq_false_iff_not] at hp;rw [h13 p hp.2,Ca]
    have hlR:=h1.length_eq;have hlS:=hspl.length_eq;rw [zv,zr] at hlR;rw [zv] at hlS;rw [hkr,hlR,AZ 2 (k+1),AZ 2 k];rw [h8,AZ 2 k] at h14;generalize (RL.filter (λ p=> !decide (p∈S))).length=xl at*;generalize 2^k=q at*;rw [hlS];have e0:∀z,q*2*z=2*(q*z):=λ z=>by rw [AQ q 2,AT]
    have e00:∀z,q*2*2*z=4*(q*z):=λ z=>by rw [AT (q*2) 2 z,e0 (2*z),CF q 2 z];lia
    have e3:q*(2*RP.length)=2*(q*RP.length):=by rw [CF]
    have e4:q*2*S.length=2*(q*S.length):=e0 _;have e5:q*2*(S.length+xl+RP.length)=2*(q*S.length)+2*(q*xl)+2*(q*RP.length):=by
     rw [e0,Bt q,Bt q];lia
    have e6:q*2*2*(S.length+xl)=4*(q*S.length)+4*(q*xl):=by
     rw [e00,Bt q];lia
    rw [e5,e6];rw [e3,e4] at h14;lia
theorem mO:∀{B Z Z':List Nat},B.Pairwise (·≤·)->B.Perm (Z++Z')->(B.take Z.length).sum≤Z.sum:=by
 intro B
 induction B with
 |nil=>intro Z Z' _ h;simp
 |cons b B ih=>
  intro Z Z' hs h;have hb:=(AY.mp hs).1;have hs':=(AY.mp hs).2;by_cases hbZ:b∈Z
  ·have e:=BL hbZ;have h2:B.Perm (Z.erase b++Z'):=(h.trans (e.append_right Z')).cons_inv;have:=ih hs' h2;rw [cb e,e.length_eq,zD,Cg,Az,Az];lia
  ·have hbZ':b∈Z':=by
    rcases zI.mp (h.subset zH) with h|h
    ·exact absurd h hbZ
    ·exact h
   have e:=BL hbZ'
   match Z,h,hbZ with
   | [],_,_=>simp
   |z::Z1,h,hbZ=>
    have h2:B.Perm (Z1++(z::Z'.erase b)):=by
     have h3:(b::B).Perm (z::(Z1++(b::Z'.erase b))):=h.trans ((e.append_left Z1).cons z);have h4:(z::(Z1++(b::Z'.erase b))).Perm (b::(z::(Z1++Z'.erase b))):=((BK (a:=b)).cons z).trans (.swap _ _ _);exact(h3.trans h4).cons_inv.trans BK.symm
    have:=ih hs' h2;have hz:b≤z:=by
     rcases zL.mp (h.symm.subset (Bh _ zH)) with h|h
     ·lia
     ·exact hb z h
    rw [zD,Cg,Az,Az];lia
def ws (B:List Bd):List Nat:=B.map (·.1)
theorem cB:∀(n:Nat) {B:List Bd},B.length≤n->(pairs B).length=B.length/2/\∀j,((ws (pairs B)).take j).sum≤((ws B).take (2*j)).sum:=by
 intro n
 induction n with
 |zero=>
  intro B hB;have:B=[]:=AU.mp (by lia);subst this;exact⟨rfl,λ j=>by simp [pairs,ws]⟩
 |succ n ih=>
  intro B hB
  match B,hB with
  | [],_=>exact⟨rfl,λ j=>by simp [pairs,ws]⟩
  | [x],_=>exact⟨by simp [pairs],λ j=>by simp [pairs,ws]⟩
  |a::b::r,hB=>
   obtain⟨h1,h2⟩:=ih (B:=r) (by simp at hB;lia);refine⟨by rw [pairs,zD,h1,zD,zD];lia,λ j=>?_⟩;cases j with
   |zero=>simp
   |succ j=>
    have:=h2 j;rw [show 2*(j+1)=2*j+1+1 by lia];show(((a.1+b.1)::ws (pairs r)).take (j+1)).sum≤((a.1::b.1::ws r).take (2*j+1+1)).sum;rw [Cg,Cg,Cg,Az,Az,Az];lia
theorem dY (B:List Nat){i j:Nat}(h:i≤j):(B.take i).sum≤(B.take j).sum:=by
 have e:B.take i=(B.take j).take i:=by rw [Ed,BS h]
 rw [e]
 conv=>rhs;rw [<-zM i (B.take j)]
 rw [Bp];lia
theorem dA (q:Nat->Bool)(f:Nat->Nat):∀L:List Nat,((L.filter q).map f).sum=(L.map λ p=>if q p=true then f p else 0).sum
 | []=>rfl
 |a::L=>by
  rw [BW,z8,Az,<-dA q f L];by_cases h:q a=true
  ·rw [zP h,zP h,z8,Az]
  ·rw [zK h,zK h,A9]
theorem k8 (q:Nat->Bool):∀L:List Nat,(L.filter q).length=(L.map λ p=>if q p=true then 1 else 0).sum
 | []=>rfl
 |a::L=>by
  rw [BW,z8,Az,<-k8 q L];by_cases h:q a=true
  ·rw [zP h,zP h,zD];lia
  ·rw [zK h,zK h,A9]
theorem dP (f g:Nat->Nat):∀L:List Nat,(L.map λ p=>f p+g p).sum=(L.map f).sum+(L.map g).sum
 | []=>rfl
 |a::L=>by rw [z8,z8,z8,Az,Az,Az,dP f g L];lia
theorem jw (c:Nat)(f:Nat->Nat):∀L:List Nat,(L.map λ p=>c*f p).sum=c*(L.map f).sum
 | []=>by simp
 |a::L=>by rw [z8,z8,Az,Az,jw c f L,Bt]
section
variable (L : List Nat) (wt ln : Nat -> Nat) (m : Nat)
def cK (k:Nat):Nat:=(L.map λ p=>if decide (m<ln p+k)=true then 1 else 0).sum
def eK (k:Nat):Nat:=(L.map λ p=>if decide (m<ln p+k)=true then 2^(m-ln p) else 0).sum
def wK (k:Nat):Nat:=(L.map λ p=>if decide (m<ln p+k)=true then wt p else 0).sum
def sK (k:Nat):Nat:=(L.map λ p=>wt p*(ln p-(m-k))).sum
end
theorem ue (hm:∀p∈L,ln p≤m){k:Nat}(lv:Lev (L.map (sgl wt)) k B):k≤m->
  ∃T,T≤B.length/\((ws B).take T).sum≤sK L wt ln m k/\∃er,er+1≤2^k/\2*eK L ln m k+2^k*T+er=2^(k+1)*cK L ln m k:=by
 induction lv with
 |zero=>
  intro _;refine⟨0,zy _,Ap _,0,zy _,?_⟩;have h1:eK L ln m 0=0:=by
   unfold eK;rw [bW (c:=0) λ p hp=>zK (by have:=hm p hp;simp;lia)];lia
  have h2:cK L ln m 0=0:=by
   unfold cK;rw [bW (c:=0) λ p hp=>zK (by have:=hm p hp;simp;lia)];lia
  rw [h1,h2]
 | @step k B B' _ hp hs ih=>
  intro hk;obtain⟨T,hT,hsum,er,her,heq⟩:=ih (by lia);obtain⟨hpl,hpt⟩:=cB _ (B:=B) (zy _);have hq:(L.filter λ p=>decide (m<ln p+(k+1))).length=cK L ln m (k+1):=k8 _ L;have hqw:((L.filter λ p=>decide (m<ln p+(k+1))).map wt).sum=wK L wt ln m (k+1):=dA _ wt L;have hcL:cK L ln m (k+1)≤L.length:=by rw [<-hq];exact Cw _ _
  have hBl:=hp.length_eq;rw [zv,zr,hpl] at hBl;refine⟨cK L ln m (k+1)+T/2,by lia,?_,er+2^k*(T%2),?_,?_⟩
  ·have hperm:(ws B').Perm (((L.filter λ p=>decide (m<ln p+(k+1))).map wt++(ws (pairs B)).take (T/2))++((L.filter λ p=> !decide (m<ln p+(k+1))).map wt++(ws (pairs B)).drop (T/2))):=by
    have h1:(ws B').Perm (L.map wt++ws (pairs B)):=by
     have:=hp.map (·.1);rw [zG,A5] at this;exact this
    have h2:(L.map wt).Perm ((L.filter λ p=>decide (m<ln p+(k+1))).map wt++(L.filter λ p=> !decide (m<ln p+(k+1))).map wt):=by
     rw [<-zG];exact(List.filter_append_perm _ _).symm.map wt
    have h3:ws (pairs B)=(ws (pairs B)).take (T/2)++(ws (pairs B)).drop (T/2):=(zM _ _).symm;refine h1.trans ((h2.append_right _).trans ?_)
    conv=>lhs;rw [h3]
    generalize (L.filter λ p=>decide (m<ln p+(k+1))).map wt=a;generalize (L.filter λ p=> !decide (m<ln p+(k+1))).map wt=b;generalize (ws (pairs B)).take (T/2)=c;generalize (ws (pairs B)).drop (T/2)=d;rw [zt,zt];refine List.Perm.append_left a ?_;rw [<-zt,<-zt];exact List.perm_append_comm.append_right d
   have hsB:(ws B').Pairwise (·≤·):=CD.mpr hs;have h4:=mO hsB hperm;have hlen:((L.filter λ p=>decide (m<ln p+(k+1))).map wt++(ws (pairs B)).take (T/2)).length=cK L ln m (k+1)+T/2:=by
    rw [zv,zr,hq,zW];have:(ws (pairs B)).length=B.length/2:=by rw [ws,zr,hpl]
    lia
   rw [hlen,Bp,hqw] at h4;have h5:=hpt (T/2);have h6:=dY (ws B) (show 2*(T/2)≤T by lia);have h7:sK L wt ln m (k+1)=sK L wt ln m k+wK L wt ln m (k+1):=by
    unfold sK wK;rw [<-dP];refine bU λ p hp=>?_
    have:=hm p hp;by_cases h:m<ln p+(k+1)
    ·rw [zP (zw h),show ln p-(m-(k+1))=ln p-(m-k)+1 by lia,Nat.mul_succ]
    ·rw [zK (by simpa using h),show ln p-(m-(k+1))=ln p-(m-k) by lia,Bw]
   lia
  ·have h1:T%2<2:=DG _ (by decide);have h2:2^k*(T%2)≤2^k*1:=BF _ (by lia);rw [AZ];lia
  ·have h1:eK L ln m (k+1)+2^k*cK L ln m k=eK L ln m k+2^k*cK L ln m (k+1):=by
    unfold eK cK;rw [<-jw,<-jw,<-dP,<-dP];refine bU λ p hp=>?_
    have:=hm p hp;by_cases h:m<ln p+k
    ·rw [zP (zw (show m<ln p+(k+1) by lia)),zP (zw h),zP (zw h),zP (zw (show m<ln p+(k+1) by lia))]
    ·by_cases h':m<ln p+(k+1)
     ·rw [zP (zw h'),zK (by simpa using h),zK (by simpa using h),zP (zw h'),show m-ln p=k by lia];lia
     ·rw [zK (by simpa using h'),zK (by simpa using h),zK (by simpa using h),zK (by simpa using h')]
   have h2:T=2*(T/2)+T%2:=by lia
   rw [AZ 2 (k+1),AZ 2 k];rw [AZ 2 k] at heq;generalize 2^k=q at*;generalize T/2=t2 at*;generalize T%2=tr at*;subst h2;have e0:∀z,q*2*z=2*(q*z):=λ z=>by rw [AQ q 2,AT]
   have e00:∀z,q*2*2*z=4*(q*z):=λ z=>by rw [AT (q*2) 2 z,e0 (2*z),CF q 2 z];lia
   rw [e0,e00,Bt q];rw [e0,Bt q,CF q 2] at heq;lia
def Wt (L:List Nat)(wt:Nat->Nat)(b:Bd):Prop:=b.1=(b.2.map wt).sum/\∀p∈b.2,p∈L
theorem qK:∀(n:Nat) {B:List Bd},B.length≤n->(∀b∈B,Wt L wt b)->∀b∈pairs B,Wt L wt b:=by
 intro n
 induction n with
 |zero=>intro B hB _ b hb;have:B=[]:=AU.mp (by lia);subst this;simp [pairs] at hb
 |succ n ih=>
  intro B hB h b hb
  match B,hB,h,hb with
  | [],_,_,hb=>simp [pairs] at hb
  | [x],_,_,hb=>simp [pairs] at hb
  |x::y::r,hB,h,hb=>
   rcases zL.mp hb with rfl|hb
   ·obtain⟨h1,h2⟩:=h x zH;obtain⟨h3,h4⟩:=h y (zC _ zH);refine⟨?_,λ p hp=>?_⟩
    ·show x.1+y.1=((x.2++y.2).map wt).sum;rw [zG,Bp,h1,h3]
    ·rcases zI.mp hp with hp|hp
     ·exact h2 p hp
     ·exact h4 p hp
   ·exact ih (by simp at hB;lia) (λ b hb=>h b (zC _ (zC _ hb))) b hb
theorem rS {k:Nat}(lv:Lev (L.map (sgl wt)) k B):∀b∈B,Wt L wt b:=by
 induction lv with
 |zero=>intro b hb;simp at hb
 | @step k B B' _ hp hs ih=>
  intro b hb;rcases zI.mp (hp.subset hb) with hb|hb
  ·obtain⟨p,hpL,rfl⟩:=Bl.mp hb;exact⟨by simp [sgl],λ q hq=>by simp [sgl] at hq;subst hq;exact hpL⟩
  ·exact qK _ (zy _) ih b hb
theorem oI {q:Nat}:∀{L:List Nat},L.Nodup->q∈L->(L.map λ p=>wt p* [q].count p).sum=wt q
 | [],_,h=>by simp at h
 |a::L,hn,h=>by
  have hn':=Cy.mp hn;rw [z8,Az];by_cases e:q=a
  ·subst e;have:(L.map λ p=>wt p* [q].count p).sum=0*L.length:=bW λ p hp=>by
    have: [q].count p=0:=A6 (by simp;rintro rfl;exact hn'.1 hp);rw [this,Nat.mul_zero]
   rw [this];simp
  ·have hm:q∈L:=by
    rcases zL.mp h with h|h
    ·exact absurd h e
    ·exact h
   rw [oI hn'.2 hm];have: [q].count a=0:=A6 (by simp;exact λ z=>e z.symm);rw [this];simp
theorem t5 (hL:L.Nodup):∀{M:List Nat},(∀p∈M,p∈L)->(M.map wt).sum=(L.map λ p=>wt p*M.count p).sum
 | [],_=>by
  have:=bW (S:=L) (f:=λ p=>wt p*([]:List Nat).count p) (c:=0) (λ p _=>by simp);rw [this];simp
 |q::M,h=>by
  rw [z8,Az,t5 hL λ p hp=>h p (zC _ hp),<-oI (wt:=wt) hL (h q zH),<-dP];refine bU λ p _=>?_
  rw [<-Bt,<-BN];rfl
theorem tT (hL:L.Nodup):∀{R:List Bd},(∀b∈R,Wt L wt b)->(ws R).sum=(L.map λ p=>wt p*occ R p).sum
 | [],_=>by rw [bW (c:=0) λ p _=>by simp [occ]];simp [ws]
 |b::R,h=>by
  have hb:=h b zH;show b.1+(ws R).sum=_;rw [tT hL λ b hb=>h b (zC _ hb),hb.1,t5 hL hb.2,<-dP];refine bU λ p _=>?_
  rw [cz,Bt]
theorem vT {k:Nat}(lv:Lev (L.map (sgl wt)) k B):2*L.length*2^k+1≤2^k*B.length+2*L.length+2^k:=by
 induction lv with
 |zero=>simp
 | @step k B B' _ hp hs ih=>
  have hl:=hp.length_eq;rw [zv,zr,(cB _ (B:=B) (zy _)).1] at hl;rw [hl,AZ];have h2:B.length≤2*(B.length/2)+1:=by lia
  generalize B.length/2=h at*;generalize B.length=b at*;generalize L.length=n at*;generalize 2^k=q at*;have h3:q*b≤q*(2*h+1):=BF _ h2;have e1:q*(2*h+1)=2*(q*h)+q:=by rw [Bt,CF];lia
  have e2:2*n*q=2*(q*n):=by rw [AT,AQ n]
  have e3:2*n*(q*2)=4*(q*n):=by rw [<-AT,e2];lia
  have e4:q*2*(n+h)=2*(q*n)+2*(q*h):=by rw [AQ q 2,AT,Bt q];lia
  rw [e3,e4];rw [e2] at ih;lia
theorem best (hL:L.Nodup)(hw:∀p∈L,0<wt p)(lv:Lev (L.map (sgl wt)) m B)(hn:2≤L.length)(hm:L.length≤2^m):
  (∀p∈L,1≤occ (B.take (2*L.length-2)) p/\occ (B.take (2*L.length-2)) p≤m)/\(∀p,p∉L->occ (B.take (2*L.length-2)) p=0)/\
  (L.map λ p=>2^(m-occ (B.take (2*L.length-2)) p)).sum≤2^m/\
  ∀ln:Nat->Nat,(∀p∈L,1≤ln p/\ln p≤m)->(L.map λ p=>2^(m-ln p)).sum≤2^m->(L.map λ p=>wt p*occ (B.take (2*L.length-2)) p).sum≤(L.map λ p=>wt p*ln p).sum:=by
 obtain⟨hs,hpos,hpart⟩:=qM hL hw lv;have hlen:2*L.length-2≤B.length:=by
  have h1:=vT lv;have h0:0<2^m:=Cs (by decide);rcases AB B.length (2*L.length-2) with h|h
  ·exfalso;have h2:2^m*(B.length+3)≤2^m*(2*L.length):=BF _ (by lia);rw [Bt] at h2;rw [AQ (2*L.length)] at h1;lia
  ·exact h
 have hRl:(B.take (2*L.length-2)).length=2*L.length-2:=by rw [zW];lia
 have hsplit:(B.take (2*L.length-2)++B.drop (2*L.length-2)).Perm B:=by rw [zM]
 have hle:∀r∈B.take (2*L.length-2),∀u∈B.drop (2*L.length-2),r.1≤u.1:=by
  have:Sorted (B.take (2*L.length-2)++B.drop (2*L.length-2)):=by rw [zM];exact hs
  exact(zF.mp this).2.2
 have hcost:=tT hL (R:=B.take (2*L.length-2)) λ b hb=>rS lv b (A7 hb)
 have hws:ws (B.take (2*L.length-2))=(ws B).take (2*L.length-2):=by rw [ws,ws,D2]
 obtain⟨S,T,h1,h2,h3,h4⟩:=hpart _ _ hsplit hle;rw [hRl] at h4;generalize B.take (2*L.length-2)=R at*;have hlL:=h1.length_eq;rw [zv] at hlL;have hT:T=[]:=by
  rcases Di T.length with h|h
  ·exact AU.mp h
  ·exfalso;have h0:0<2^m:=Cs (by decide);have h5:2^(m+1)*S.length≤2^m*(2*L.length-2):=by
    have:2*S.length≤2*L.length-2:=by lia
    rw [AZ,AT];exact BF _ this
   have hk0:kr R m S=0:=by lia
   have hS0:S=[]:=by
    match S,hk0 with
    | [],_=>rfl
    |p::S',hk0=>
     exfalso;unfold kr at hk0;rw [z8,Az] at hk0;have:0<2^(m-occ R p):=Cs (by decide);lia
   subst hS0;rw [hk0] at h4;have h6:2^m*(2*L.length-2)=0:=by simpa using h4
   rcases Nat.mul_eq_zero.mp h6 with h|h<;>lia
 subst hT;rw [Ax] at h1;rw [List.length_nil,Bw] at hlL;have hkL:kr R m S=(L.map λ p=>2^(m-occ R p)).sum:=(cb (h1.map _)).symm;refine⟨λ p hp=>?_,λ p hp=>h3 p λ z=>hp (h1.symm.subset z),?_,λ ln hln hK=>?_⟩
 ·obtain⟨a,b,_⟩:=h2 p (h1.subset hp);exact⟨a,b⟩
 ·rw [<-hkL];rw [<-hlL,AZ] at h4;have e:2^m*(2*L.length-2)+2*2^m=2^m*2*L.length:=by
   rw [AQ 2 (2^m),<-Bt,AT];congr 1;lia
  lia
 ·obtain⟨T,hT,hsum,er,her,heq⟩:=ue (wt:=wt) (ln:=ln) (λ p hp=>(hln p hp).2) lv (zy _);have hc:cK L ln m m=L.length:=by
   unfold cK;rw [bW (c:=1) λ p hp=>zP (zw (by have:=(hln p hp).1;lia)),Ef]
  have he:eK L ln m m=(L.map λ p=>2^(m-ln p)).sum:=by
   unfold eK;exact bU λ p hp=>zP (zw (by have:=(hln p hp).1;lia))
  have hsk:sK L wt ln m m=(L.map λ p=>wt p*ln p).sum:=by
   unfold sK;exact bU λ p hp=>by rw [Dq,Ca]
  have hTT:2*L.length-2≤T:=by
   rw [hc,he,AZ] at heq;rcases AB T (2*L.length-2) with h|h
   ·exfalso;have h5:2^m*(T+3)≤2^m*(2*L.length):=BF _ (by lia);rw [Bt,<-AT] at h5;lia
   ·exact h
  rw [<-hcost,hws,<-hsk];exact AM (dY _ hTT) hsum
theorem lev_one {k:Nat}(lv:Lev ([p].map (sgl wt)) k B):k=0\/B=[sgl wt p]:=by
 induction lv with
 |zero=>exact .inl rfl
 | @step k B B' _ hp hs ih=>
  right
  have:pairs B=[]:=by
   rcases ih with rfl|rfl
   ·rename_i h;cases h;rfl
   ·rfl
  rw [this] at hp;exact List.perm_singleton.mp hp
def Best (P:List Nat)(wt:Nat->Nat)(m:Nat)(ln:Nat->Nat):Prop:=
 (∀p∈P,1≤ln p/\ln p≤m)/\(∀p,p∉P->ln p=0)/\(P.map λ p=>2^(m-ln p)).sum≤2^m/\
 ∀l':Nat->Nat,(∀p∈P,1≤l' p/\l' p≤m)->(P.map λ p=>2^(m-l' p)).sum≤2^m->(P.map λ p=>wt p*ln p).sum≤(P.map λ p=>wt p*l' p).sum
theorem Best.perm {P:List Nat}(h:Best L wt m ln)(hp:L.Perm P):Best P wt m ln:=by
 obtain⟨h1,h2,h3,h4⟩:=h;refine⟨λ p hpP=>h1 p (hp.symm.subset hpP),λ p hpP=>h2 p λ z=>hpP (hp.subset z),by rw [<-cb (hp.map _)];exact h3,λ l' a b=>?_⟩;rw [<-cb (hp.map _),<-cb (hp.map _)];exact h4 l' (λ p hpL=>a p (hp.subset hpL)) (by rw [cb (hp.map _)];exact b)
theorem rc (hL:L.Nodup)(hw:∀p∈L,0<wt p)(lv:Lev (L.map (sgl wt)) m B)(h1:1≤L.length)(hm1:1≤m)(hm:L.length≤2^m):
  Best L wt m (occ (B.take (max 1 (2*L.length-2)))):=by
 by_cases hn:2≤L.length
 ·have e:max 1 (2*L.length-2)=2*L.length-2:=by lia
  rw [e];exact best hL hw lv hn hm
 ·match L,h1,hn,hL,hw,lv with
  | [p],_,_,_,hw,lv=>
   rcases lev_one lv with h|rfl
   ·lia
   ·have e:∀q,occ ([sgl wt p].take (max 1 (2* [p].length-2))) q=[p].count q:=λ q=>by
     show occ [sgl wt p] q=_;rw [cz];show [p].count q+occ [] q=_;rfl
    have ep: [p].count p=1:=by simp
    refine⟨λ q hq=>?_,λ q hq=>?_,?_,λ l' a b=>?_⟩
    ·rw [zX.mp hq,e,ep];exact⟨zy _,hm1⟩
    ·rw [e];exact A6 hq
    ·rw [z8,CZ,Az,List.sum_nil,e,ep];have:2^(m-1)≤2^m:=BB (by decide) (by lia);lia
    ·rw [z8,CZ,z8,CZ,Az,Az,e,ep];have:=BF (wt p) (a p zH).1;simp only [List.sum_nil];lia
  |a::b::r,_,hn,_,_,_=>exact absurd (by simp) hn
end PM
namespace D6
def zc:Option Nat->Option Nat->Option Nat
 |none,y=>y
 |some x,none=>some x
 |some x,some y=>if y<x then some y else some x
def x3:Option Nat->Option Nat->Option Nat
 |some x,some y=>some (x+y)
 |_,_=>none
def V (n:Nat):Nat->List Nat->Nat->Option Nat
 |0,cs,f=>if cs.length≤f then some 0 else none
 |_+1,[],_=>some 0
 |_+1,_::_,0=>none
 |d+1,c::cs,f+1=>zc (V n (d+1) cs f) (x3 (some ((c::cs).sum)) (V n d (c::cs) (min (2*(f+1)) (n+1))))
termination_by d cs=>(d,cs.length)
def pw (d:Nat)(es:List Nat):Nat:=(es.map λ e=>2^(d-e)).sum
end D6
namespace D6
open PM
def lk:List Nat->List Nat->Nat->Nat
 |q::P,e::es,p=>if p=q then e else lk P es p
 |_,_,_=>0
theorem fH {P:List Nat}{ln:Nat->Nat}{b:Nat}(h:∀p∈P,ln p=b\/ln p=b+1):(P.map ln).sum=b*P.length+(P.map ln).count (b+1):=by
 induction P with
 |nil=>rfl
 |cons p P ih=>
  have i:=ih λ q hq=>h q (zC _ hq)
  rw [z8,Az,i,zD,Ct];rcases h p zH with e|e
  ·rw [e,zK (by simp),Bt,Eg];lia
  ·rw [e,zP (by simp),Bt,Eg];lia
end D6
namespace SM
variable {α β κ : Type} {blt : κ -> κ -> Bool} {kf : β -> κ}
theorem stb_lift (O:Ord blt)(φ:α->β):∀{mm:List β} {Z:List α},Stb blt kf mm (Z.map φ)->∃Z',mm=Z'.map φ/\Stb blt (λ z=>kf (φ z)) Z' Z
 | [],Z,h=>by
  have e:=(stb_perm O h).length_eq;rw [zr] at e;have:Z=[]:=AU.mp e.symm;subst this;exact⟨[],rfl,Stb.refl _⟩
 |x::mm,Z,h=>by
  have hx:=Stb.mem O h (zH (a:=x) (l:=mm));obtain⟨z0,hz0,ez0⟩:=Bl.mp hx;obtain⟨l1,y,l2,rfl,hy,h1⟩:=first_split (p:=λ z=>eqv blt kf (kf x) (φ z)) (ys:=Z) ⟨z0,hz0,by rw [ez0];exact eqv_self O x⟩;have e:=h (kf x);have n1:(l1.map φ).filter (eqv blt kf (kf x))=[]:=A8.mpr λ u hu=>by
   obtain⟨z,hz,rfl⟩:=Bl.mp hu;exact h1 z hz
  rw [zG,z8,zQ (eqv_self O x),z7,n1,A3,zQ hy] at e;obtain⟨ex,e2⟩:=Dc e;subst ex;have ht:Stb blt kf mm ((l1++l2).map φ):=λ k=>by
   rw [zG,z7];by_cases hk:eqv blt kf k (φ y)=true
   ·have z:=eqv_iff.mp hk;have:kf (φ y)=k:=O.tot _ _ z.1 z.2;subst this;rw [n1,A3];exact e2
   ·have e3:=h k;rw [zG,z8,zY hk,z7,zY hk] at e3;exact e3
  obtain⟨Z',rfl,hs⟩:=stb_lift O φ ht;refine⟨y::Z',rfl,λ k=>?_⟩;have hs':=hs k;rw [z7] at hs';rw [z7];by_cases hk:eqv blt (λ z=>kf (φ z)) k y=true
  ·have z:=eqv_iff.mp hk;have ek:kf (φ y)=k:=O.tot _ _ z.1 z.2;subst ek;have n2:l1.filter (eqv blt (λ z=>kf (φ z)) (kf (φ y)))=[]:=A8.mpr λ u hu=>h1 u hu
   rw [n2,A3] at hs' ⊢;rw [zQ hk,zQ hk,hs']
  ·rw [zY hk,zY hk,hs']
theorem stb_push {γ:Type}{kg:γ->κ}(ψ:α->γ){kf':α->κ}(hk:∀z,kf' z=kg (ψ z)){Z' Z:List α}(h:Stb blt kf' Z' Z):Stb blt kg (Z'.map ψ) (Z.map ψ):=λ k=>by
 rw [DI,DI];have e:(eqv blt kg k∘ψ)=eqv blt kf' k:=by
  funext z;show eqv blt kg k (ψ z)=eqv blt kf' k z;unfold eqv;rw [hk]
 rw [e,h k]
end SM
namespace D6
open PM SM
variable {B sg : List Bd}
abbrev wI (b:Bd):Int:=((b.1:Nat):Int)
inductive LevS (sg:List Bd):Nat->List Bd->Prop
 |zero:LevS sg 0 []
 |step {k:Nat} {B B':List Bd}:LevS sg k B->Stb SG.ltI wI B' (sg++pairs B)->Sorted B'->LevS sg (k+1) B'
theorem LevS.lev {k:Nat}(h:LevS sg k B):Lev sg k B:=by
 induction h with
 |zero=>exact .zero
 |step _ hs hso ih=>exact .step ih (stb_perm SG.ordI hs) hso
theorem ou (h:Sorted B):B.Pairwise (Le SG.ltI wI):=h.imp λ {a b} hab=>by
 show decide (((b.1:Nat):Int)<((a.1:Nat):Int))=false;exact AC (by lia)
theorem LevS.uniq {k:Nat}{B':List Bd}(h:LevS sg k B)(h':LevS sg k B'):B=B':=by
 induction h generalizing B' with
 |zero=>cases h';rfl
 |step _ hs hso ih=>
  cases h' with
  |step h2 hs2 hso2=>
   have:=ih h2;subst this;exact stb_uniq SG.ordI (ou hso) (ou hso2) (hs.trans hs2.symm)
end D6
set_option maxHeartbeats 4000000
namespace QQ
open PySem PyProof.Rows
section
variable {prog : Program} {w : World} {A : Around} {E : Value -> Shared -> Prop} {s : Shared}
theorem mI {e it l:Addr}{i:Nat}{items:Array Value}{old:Value}{Q:Option Value->Shared->Prop}(hq:Hq A s.heap)
  (he:IsEnum s.heap e it i old) (hit:s.heap.IsListIter it l i) (hl:s.heap.IsList l items) (hx:items[i]?=none)
  (hQ:∀h',Heap.ExtBut it s.heap h'->Q none {s with heap:=h'}):wpAny (model prog w) A (pyNext (.ref e)) Q E s:=by
 have hT:s.TypeIs (.ref e) "enumerate":=⟨_,he,rfl⟩;unfold pyNext;refine zx (Db (BM (name:=Str.ofString "__next__") hT DR
  (CQ DR hT PySem.F.entry_enumerate_next ?_ (PySem.F.args_enumerate_next_1 _))))
 show wpAny _ _ (field (.ref e) 2>>= _) _ _ _;refine zx (B1 he rfl (x:=.ref it) rfl ?_);refine zx (jL (A:=A.in1) hq hit hl hx λ h' x he' hx'=>?_);obtain⟨o,ho,hc⟩:=hx';refine zx (DA (T:="StopIteration") (b:=true) ⟨o,ho,hc⟩ isSubtype_stop ?_);exact Ai (hQ _ he')
end
end QQ
namespace L2
open PySem PySem.Spec PyProof.Rows QQ
variable {es : List Expr} {K : PySem.W.Frag}
def Ite (K:PySem.W.Frag)(a:Addr):It:=
 ⟨λ i H=>∃xs x,SqL K H a xs/\xs[i]?=some x,λ i H v H'=>∃p x,H p=none/\v=.ref p/\H'=upd H p (.tup [.int (i:Int),x])/\∀xs,SqL K H a xs->xs[i]?=some x,λ i H=>∃xs,SqL K H a xs/\xs.length≤i⟩
theorem p9 {P:Program}{w:World}{k:Nat}{pos:Pos}(a e it:Addr)(hne:e≠it):
  Turn P w K (.Tuple es k pos) (Ite K a) [e,it] e (λ i h=>(∃old,IsEnum h e it ((i:Nat):Int) old)/\h.IsListIter it a i) where
 mem:=by simp
 obj:=λ i h st b hb=>by
  obtain⟨⟨old,he⟩,hit⟩:=st;rcases zL.mp hb with hb|hb
  ·subst hb;exact⟨_,he,λ v z=>by
    have z':Data.fields _=Data.cell v:=z;cases z'⟩
  ·obtain rfl:=zX.mp hb;obtain⟨o,e',c,d⟩:=hit;exact⟨o,e',λ v z=>by rw [d] at z;cases z⟩
 keep:=λ i h h' st k=>by
  obtain⟨⟨old,he⟩,hit⟩:=st;exact⟨⟨old,k e (by simp) _ he⟩,hit.at λ o x=>k it (by simp) o x⟩
 item:=by
  intro X hP hw hK hc i pins s σ H E I hf st hg;subst hP hw hK;obtain⟨⟨old,he⟩,hit⟩:=st;obtain⟨xs,x,hq,hx⟩:=hg;obtain⟨its,rv,p,hz⟩:=I.list hq;obtain⟨u,hu,ru⟩:=rv.get hx;obtain⟨e0,e1,e2,e3,e4,e5⟩:=hf e (by simp);obtain⟨f0,f1,f2,f3,f4,f5⟩:=hf it (by simp);have elt:e<s.heap.objs.size:=zZ he;have ilt:it<s.heap.objs.size:=by obtain⟨o,e',_⟩:=id hit;exact zZ e'
  have hT:H s.heap.objs.size=none:=I.hok.fresh (zy _);refine wpAny_pyNext_enum_item he hit p.isList (x:=u) (by simpa using hu) hne λ h1 ho hit1 ht hsz kk=>?_
  refine⟨_,rfl,wpAny_letOwnedTupleGo_enum (s:={s with heap:=h1,toks:=s.toks+1}) ho λ h2 he2 hs2=>?_⟩;have kept:∀b o,b≠e->b≠it->s.heap.get? b=some o->h2.get? b=some o:=λ b o n1 n2 x=>(hs2.2 b n1).trans (kk b o n1 n2 x)
  have htup:h2.get? s.heap.objs.size=some {cls:=.type "tuple",data:=.seq #[.int i s.toks,u]}:=(hs2.2 _ (Nat.ne_of_gt elt)).trans ht;have hT2:∀b o,s.heap.get? b=some o->b≠s.heap.objs.size:=λ b o x=>AE (zZ x)
  have nT:∀b o,H b=some o->b≠s.heap.objs.size:=λ b o x z=>by rw [z,hT] at x;cases x
  have nE:∀b o,H b=some o->b≠e/\b≠it:=λ b o x=>⟨λ z=>(by rw [z,e0] at x;cases x),λ z=>(by rw [z,f0] at x;cases x)⟩
  have he3:IsEnum h2 e it (((i+1:Nat):Int)) u:=by
   have:(((i+1:Nat):Int))=(i:Int)+1:=by lia
   rw [this];exact he2
  have hit2:h2.IsListIter it a (i+1):=hit1.at λ o x=>(hs2.2 it hne.symm).trans x
  have I2:Inv X pins σ (upd H s.heap.objs.size (.tup [.int (i:Int),x])) {s with heap:=h2,toks:=s.toks+1}:=by
   refine I.step (g':=s.gens) (d':=s.drawn) (ch:=[e,it]) (λ b hb=>?_) (λ b o _ _ hb x _=>kept b o (λ z=>hb (by simp [z])) (λ z=>hb (by simp [z])) x)
    (λ b o _ _ hb x _=>⟨o.slots,kept b o (λ z=>hb (by simp [z])) (λ z=>hb (by simp [z])) x⟩) (λ b o _ x n=>by rw [upd_ne (hT2 b o x)];exact n)
    (λ b o hb x=>⟨o,kept b o (λ z=>hb (by simp [z])) (λ z=>hb (by simp [z])) x⟩) (λ b xs x=>by rw [upd_ne (nT b _ x)];exact x) (λ b o u x=>by rw [upd_ne (nT b _ x)];exact x)
    (λ b ps x=>⟨#[],by rw [upd_ne (nT b _ x),x];simp⟩) (λ m hm=>?_) (λ b o x=>?_) I.bare
   ·rcases zL.mp hb with hb|hb
    ·subst hb;exact⟨e3,e1,e4,e5⟩
    ·obtain rfl:=zX.mp hb;exact⟨f3,f1,f4,f5⟩
   ·obtain⟨o,es',ep,ho',r⟩:=hm;exact⟨o,es',ep,kept _ o (DN e1) (DN f1) ho',r⟩
   ·by_cases hb:b=s.heap.objs.size
    ·subst hb;rw [upd_same] at x;cases x;exact⟨by show 2≤sizeLine;decide,[.int i s.toks,u],.cons ⟨_,rfl⟩ (.cons ru .nil),⟨_,htup,rfl,_,rfl⟩⟩
    ·rw [upd_ne hb] at x;refine(I.hok b o x).stay (λ c v hc' q=>?_) (λ c q=>by rw [upd_ne (nT c _ q)];exact q) λ c xs q=>by rw [upd_ne (nT c _ q)];exact q
     rcases hc' with z|z
     ·subst z;exact kept c v (nE c _ x).1 (nE c _ x).2 q
     ·exact kept c v (nE c _ z).1 (nE c _ z).2 q
  refine⟨.ref s.heap.objs.size,_,I2,rfl,⟨_,x,hT,rfl,rfl,λ ys hy=>by rw [I.list_inj hy hq];exact hx⟩,⟨⟨u,he3⟩,hit2⟩,λ b hb=>?_⟩;rcases zL.mp hb with hb|hb
  ·subst hb;rw [upd_ne (AE elt)];exact e0
  ·obtain rfl:=zX.mp hb;rw [upd_ne (AE ilt)];exact f0
 done:=by
  intro X hP hw hK hc i pins s σ H E I hf st hg;subst hP hw hK;obtain⟨⟨old,he⟩,hit⟩:=st;obtain⟨xs,hq,hx⟩:=hg;obtain⟨its,rv,p,hz⟩:=I.list hq;obtain⟨f0,f1,f2,f3,f4,f5⟩:=hf it (by simp);have hl:=rv.length;exact mI I.hq he hit p.isList (by simp;lia) λ h' eb=>⟨rfl,I.turned (t':=s.toks) (λ b o hb e=>eb b o hb e) f0 f1 f3 f4 f5⟩
 self:=λ _ _ _ _ _ st h=>by
  obtain⟨⟨old,he⟩,hit⟩:=st;exact wpAny_pyIter_enum he h
def xY (K:PySem.W.Frag)(ta:TA):TI:=λ σ H R=>ta σ H λ vs H1=>∃l xs,vs=[.ref l]/\SqL K H1 l xs/\R (Ite K l) H1
theorem jF {X:Cx}{a:Expr}{ta:TA}{p pos q:Pos}{k:Nat}(hg:Gl X "enumerate")(hm:X.mg "enumerate"=none)(ha:PA X [a] ta)(hs:starEach [a] X.env=[(false,eval a X.env)]:=by rfl):
  PI X (.Tuple es k q) (.Call (.Name "enumerate" p) [a] [] pos) (xY X.K ta):=by
 intro pins s σ H R I h;refine Call_ (ld_blt I hg hm boot_enumerate (Bz (thn (ha pos pins s σ H _ I h) λ us s1 z9=>?_) hs rfl));obtain⟨vs,H1,I1,r1,q1⟩:=z9;obtain⟨l,xs,e,hq,q⟩:=q1;subst e;cases r1 with
 |cons r rr=>
  cases rr;cases r;obtain⟨its,rv,p,hz⟩:=I1.list hq;refine call_enumerate_list p.isList λ h' he hit hsz hk=>?_
  have I2:Inv X pins σ H1 {s1 with heap:=h'}:=I1.kept (t':=s1.toks) hk;refine wpAny_pyIter_enum he ⟨s1.heap.objs.size+1,[s1.heap.objs.size+1,s1.heap.objs.size],_,_,H1,rfl,I2,p9 l _ _ (Nat.succ_ne_self _),⟨⟨_,he⟩,hit⟩,λ b hb=>?_,q⟩;have hb':s1.heap.objs.size≤b:=by
   rcases zL.mp hb with hb|hb
   ·rw [hb];exact CT _
   ·rw [zX.mp hb];exact zy _
  exact I1.fpOk hb' (I1.hok.fresh hb')
theorem rk {a l:Addr}{xs:List V}{n:Nat}{g:TG}{tt:TT}{te:TE}{R:Hp->Prop}{H1:Hp}(Pv:Nat->List V->Hp->Prop)(h0:Pv 0 [] (upd H1 l (.lst [])))(hl:∀i ys H,i≤xs.length->Pv i ys H->SqL K H a xs)
  (hs:∀i x ys σ H p,xs[i]?=some x->Pv i ys H->σ.length=n->H p=none->g (.ref p) σ (upd H p (.tup [.int ((i:Nat):Int),x])) λ σ3 H3=>tt σ3 H3 λ c H5=>if c=true then te σ3 H5 λ y H4=>H4 l=some (.lst ys)/\ys.length<sizeLine/\σ3.length=n/\Pv (i+1) (ys++[y]) (upd H4 l (.lst (ys++[y]))) else σ3.length=n/\Pv (i+1) ys H5)
  (hd:∀ys H,Pv xs.length ys H->R H) (mg:∀x σ H (A B:St->Hp->Prop),(∀σ' H',A σ' H'->B σ' H')->g x σ H A->g x σ H B) (mtt:∀σ H (A B:Bool->Hp->Prop),(∀v H',A v H'->B v H')->tt σ H A->tt σ H B) (mt:∀σ H (A B:VK),(∀v H',A v H'->B v H')->te σ H A->te σ H B):
  ∃W:Nat->Nat->List V->St->Hp->Prop,(∃m,W 0 m [] (List.replicate n none) (upd H1 l (.lst [])))/\∀i m ys σ' H',W i m ys σ' H'->
   ((Ite K a).stop i H'/\R H')\/((Ite K a).go i H'/\∀x H2,(Ite K a).yld i H' x H2->g x σ' H2 λ σ3 H3=>tt σ3 H3 λ c H5=>if c=true then te σ3 H5 λ y H4=>
    H4 l=some (.lst ys)/\ys.length<sizeLine/\∃m',m'<m/\W (i+1) m' (ys++[y]) σ3 (upd H4 l (.lst (ys++[y]))) else∃m',m'<m/\W (i+1) m' ys σ3 H5):=by
 refine⟨λ i m ys σ H=>m=xs.length-i/\i≤xs.length/\σ.length=n/\Pv i ys H,⟨xs.length,by simp,Ap _,AR,h0⟩,?_⟩;rintro i m ys σ H ⟨rfl,hi,hn,p⟩;have q:=hl i ys H hi p;by_cases hlt:i<xs.length
 ·refine .inr ⟨⟨xs,xs[i],q,by simp [hlt]⟩,λ x H' y=>?_⟩;obtain⟨p1,x1,hp1,e1,e2,y⟩:=y;subst e1 e2;refine mg _ _ _ _ _ (λ σ3 H3 z=>mtt _ _ _ _ (λ c H5 z=>?_) z) (hs i x1 ys σ _ p1 (y xs q) p hn hp1);cases c with
  |true=>
   rw [zP rfl] at z ⊢;exact mt _ _ _ _ (λ y H4 ⟨z1,z2,z3,z4⟩=>⟨z1,z2,xs.length-(i+1),by lia,rfl,hlt,z3,z4⟩) z
  |false=>
   rw [zK zN] at z ⊢;exact⟨xs.length-(i+1),by lia,rfl,hlt,z.1,z.2⟩
 ·have e:i=xs.length:=by lia
  subst e;exact .inl ⟨⟨xs,q,zy _⟩,hd ys H p⟩
end L2
set_option maxHeartbeats 4000000
namespace K20.S
open PySem L2 QQ PM D6
seal PE PA PS PSs PT PW PG PI
variable {fd fdA fdP fdT fdW : FuncData} {f fA fP fT : Addr} {H H' : Hp} {A ts : List Addr} {n : Nat}
section
variable {P : Program} {w : World} {K : PySem.W.Frag} {mg : Str -> Option Value} {base : Heap}
def rA:Sp:=λ vs H Q _=>∃(a:Addr) (B:List Nat) (hi:Nat),vs=[.ref a,vN hi]/\H a=some (.lst (B.map vN))/\(∀b∈B,b≤hi)/\1≤B.length/\B.length≤300/\(∃b∈B,0<b)/\Q (.bl true) H
theorem sr:FnScope ["thing","most"] ["thing","most"] (defScope c4):=scK (by decide+kernel)
theorem xF (R:List Nat):R.map vN=(R.map λ b=>((b:Nat):Int)).map V.int:=by rw [A5];rfl
theorem ok_things {fW:Addr}(F:Fn K mg "are_of_things" c4 ["thing","most"] f fd)(AW:Fn K mg "are_whole" bv ["thing","least","most"] fA fdA)(W:Fn K mg "is_whole" bJ ["thing","least","most"] fW fdW)(T:Txt K mg):FnOk P w K mg base CX0 31 f fd ["thing","most"] rA:=by
 have GA:=dw (P:=P) (w:=w) (base:=base) AW W T;obtain⟨tt,ht⟩:=T.things;refine F.F.ok sr (λ vs H Q E h=>?_) (λ cdv A outer s H vs Q E hr h=>?_)
 ·obtain⟨a,B,hi,rfl,_⟩:=h;rfl
 ·obtain⟨a,B,hi,rfl,hB,hb,h1,h3,⟨b0,hb0,hp0⟩,k⟩:=h;have hr2:Room 2 _:=hr.mono (by decide);have hn:=hr.hd (by decide);refine⟨_,ac (aK (bF (bG (am GA hr2 (by rfl) AW.m AW.F.kp AW.b .nil ao (aa (pv 0) (aa ae (aa (pv 1) ad)))))) (af (az dl)) aC)
   (af (az (eC (li kD kD ae (aq ap (by rfl) T.len zO (aa (pv 0) ad)) (aG (v:=.int 300) (by rfl) ht ⟨tt,rfl⟩))
    (fF (cQ bQ (aq (qv hn) (by rfl) T.max Dt (aa (pv 0) ad)) ae (ax _)))))),?_⟩
  refine⟨_,rfl,_,rfl,a,B,0,_,rfl,hB,λ b z=>by have:=hb b z;lia,_,rfl,bz ?_⟩;refine⟨_,rfl,a,_,rfl,.inl (SqL.of hB),_,_,rfl,rfl,_,rfl,aL (λ _=>?_) (λ h=>absurd (zw (by rw [zr];lia)) h)⟩;refine⟨_,_,rfl,rfl,_,rfl,aL (λ _=>?_) (λ h=>absurd (zw (by rw [zr];lia)) h)⟩;refine⟨_,rfl,a,B.map (λ b=>((b:Nat):Int)),rfl,by rw [<-xF];exact SqL.of hB,by rw [zr];lia,λ n hn hmax=>?_⟩;have:((b0:Nat):Int)≤n:=hmax _ (DK hb0);refine⟨_,_,rfl,rfl,?_⟩;dsimp only;rw [show decide (0<n)=true from zw (by lia)];exact k
def wG:Sp:=λ vs H Q _=>∃(a:Addr) (B:List Nat) (m:Nat),vs=[.ref a,vN m]/\H a=some (.lst (B.map vN))/\(∀b∈B,b≤1000000)/\1≤B.length/\B.length≤300/\(∃b∈B,0<b)/\1≤m/\m≤12/\(B.filter (λ b=>decide (0<b))).length≤2^m/\∀H',Same H H'->Q .non H'
theorem wL:FnScope ["counts","most"] ["counts","most"] (defScope lj):=scK (by decide+kernel)
theorem ndC:(["count"]:List Str).Nodup:=by decide+kernel
theorem ux {fW:Addr}(F:Fn K mg "need_shares" lj ["counts","most"] f fd)(Th:Fn K mg "are_of_things" c4 ["thing","most"] fT fdT)(AW:Fn K mg "are_whole" bv ["thing","least","most"] fA fdA)(W:Fn K mg "is_whole" bJ ["thing","least","most"] fW fdW)(T:Txt K mg):FnOk P w K mg base CX0 32 f fd ["counts","most"] wG:=by
 have GT:=ok_things (P:=P) (w:=w) (base:=base) Th AW W T;have GW:=dq (P:=P) (w:=w) (base:=base) W T;obtain⟨tc,hc⟩:=T.count;obtain⟨tm,hm⟩:=T.mlen;refine F.F.ok wL (λ vs H Q E h=>?_) (λ cdv A outer s H vs Q E hr h=>?_)
 ·obtain⟨a,B,m,rfl,_⟩:=h;rfl
 ·obtain⟨a,B,m,rfl,hB,hb,h1,h3,hpos,m1,m2,hfit,k⟩:=h;have hr1:Room 1 _:=hr.mono (by decide);refine⟨_,ac (aK (bF (bG (am GT hr (by rfl) Th.m Th.F.kp Th.b .nil ao (aa (pv 0) (aa (aG (v:=.int 1000000) (by rfl) hc ⟨tc,rfl⟩) ad))))) (af aS) aC)
   (ac (aK (bF (bG (am GW hr1 (by rfl) W.m W.F.kp W.b .nil ao (aa (pv 1) (aa ae (aa (aG (v:=.int 12) (by rfl) hm ⟨tm,rfl⟩) ad)))))) (af aS) aC)
   (af (aK (ar bQ (aq ap (by rfl) T.len zO (aa (hI (N:=["count"]) (g:=bf 0) (tt:=kF (tOp (rI0 λ i j=>.bl (decide (j<i))) (eF 0) (tC (.int 0)))) (te:=eF 0) rfl rfl (by decide+kernel) (by decide+kernel) (by decide+kernel) (bu (pv 0))
    (λ fp s H=>aH (i:=0) ndC rfl (Or.inl rfl)) (λ fp s H=>ar bQ (pv 0) ae (ax _)) (λ fp s H=>pv 0)) ad)) (aj c5 ae (pv 1)) (ax _)) (af aS) aC))),?_⟩
  refine seq_g λ R1 g1=>?_
  refine⟨_,rfl,a,B,1000000,rfl,hB,hb,h1,h3,hpos,_,rfl,bz (g1 _ _ ?_)⟩;clear g1;refine seq_g λ R1 g1=>?_
  have e1:(decide ((1:Int)≤((m:Nat):Int))&&decide (((m:Nat):Int)≤12))=true:=by
   rw [zw (show(1:Int)≤((m:Nat):Int) by lia),zw (show((m:Nat):Int)≤12 by lia)];rfl
  refine⟨_,rfl,((m:Nat):Int),1,12,rfl,?_⟩;rw [e1];refine⟨_,rfl,bz (g1 _ _ ?_)⟩;clear g1;refine⟨_,rfl,a,rfl,⟨_,SqL.of hB⟩,λ l nl=>?_⟩;refine lN (K:=K) (a:=a) (l:=l) (xs:=B.map vN) (n:=1) (g:=bf 0) (tt:=kF (tOp (rI0 λ i j=>.bl (decide (j<i))) (eF 0) (tC (.int 0)))) (te:=eF 0)
   (λ i ys H'=>ys=((B.take i).filter (λ b=>decide (0<b))).map vN/\H' l=some (.lst ys)/\Same H H') ⟨rfl,upd_same,ai nl⟩ (λ i ys H' _ ⟨_,_,sm⟩=>SqL.of (sm _ _ hB)) ?_ ?_ ?_ ?_ ?_
  ·rintro i x ys σ H' hx ⟨rfl,hl,sm⟩ hσ;obtain⟨b,hb1,rfl⟩:=cm hx;have hil:i<B.length:=(zz.mp hb1).1;obtain⟨u0,rfl⟩:∃u0,σ=[u0]:=match σ,hσ with| [u0],_=>⟨u0,rfl⟩
   have hlen:((B.take i).filter (λ b=>decide (0<b))).length≤300:=AM (Cw _ _) (by rw [zW];lia);refine⟨_,rfl,_,_,rfl,rfl,_,rfl,?_⟩;rw [bS hb1,z7];dsimp only;by_cases h0:0<b
   ·rw [zP (zw (show(0:Int)<((b:Nat):Int) by lia))];refine⟨_,rfl,hl,aX (by rw [zr];lia),rfl,?_,upd_same,λ c o e=>?_⟩
    ·rw [zQ (by simpa using h0),zG];rfl
    ·rw [upd_ne (ag e nl)];exact sm _ _ e
   ·rw [zK (λ z=>absurd (zA z) (by lia))];refine⟨rfl,?_,?_,sm⟩
    ·rw [zY (by simpa using h0)];simp
    ·exact hl
  ·rintro ys H' ⟨rfl,hl,sm⟩;rw [zr,An] at hl;refine⟨l,_,rfl,.inl (SqL.of hl),_,rfl,_,_,rfl,rfl,⟨by lia,by lia,by decide⟩,_,_,rfl,rfl,_,rfl,aL (λ h=>?_) (λ _=>k _ sm)⟩;exfalso;have:=zA h;rw [zr,zV] at this;have e2:(1:Int)*2^m=((2^m:Nat):Int):=by rw [Int.one_mul];simp
   rw [e2] at this;lia
  ·exact λ x σ H A B h z=>h _ _ z
  ·exact λ σ H A B h ⟨v,e1,i,j,e2,e3,c,e4,z⟩=>⟨v,e1,i,j,e2,e3,c,e4,h _ _ z⟩
  ·exact λ σ H A B h ⟨v,e1,z⟩=>⟨v,e1,h _ _ z⟩
def Bun (H:Hp)(A:List Addr)(t:Addr)(b:Bd):Prop:=∃l,t∉A/\l∉A/\H t=some (.tup [vN b.1,.ref l])/\H l=some (.lst (b.2.map vN))
def iu:Sp:=λ vs H Q _=>∃(t l:Addr) (n:Nat),vs=[.ref t]/\H t=some (.tup [vN n,.ref l])/\Q (vN n) H
theorem rF:FnScope ["bundle"] ["bundle"] (defScope dW):=scK (by decide+kernel)
theorem iY (F:Fn K mg "weight_of" dW ["bundle"] f fd):FnOk P w K mg base CX0 1 f fd ["bundle"] iu:=by
 refine F.F.ok rF (λ vs H Q E h=>?_) (λ cdv A outer s H vs Q E hr h=>?_)
 ·obtain⟨t,l,n,rfl,_⟩:=h;rfl
 ·obtain⟨t,l,n,rfl,ht,k⟩:=h;refine⟨_,af (az (aM a7 (pv 0) ae (λ _ _=>rfl))),?_⟩;exact⟨_,rfl,t,_,_,_,rfl,rfl,SqT.of ht,ay (j:=0) rfl,k⟩
end
inductive Buns (H:Hp) (A:List Addr):List Addr->List Bd->Prop
 |nil:Buns H A [] []
 |cons {t:Addr} {b:Bd} {ts:List Addr} {bs:List Bd}:Bun H A t b->Buns H A ts bs->Buns H A (t::ts) (b::bs)
theorem Buns.keepA {bs:List Bd}(h:Buns H A ts bs)(s:∀c o,c∉A->H c=some o->H' c=some o):Buns H' A ts bs:=by
 induction h with
 |nil=>exact .nil
 |cons a _ ih=>
  obtain⟨l,n1,n2,h1,h2⟩:=a;exact .cons ⟨l,n1,n2,s _ _ n1 h1,s _ _ n2 h2⟩ ih
theorem Buns.keep {bs:List Bd}(h:Buns H A ts bs)(s:Same H H'):Buns H' A ts bs:=h.keepA λ c o _ e=>s c o e
theorem Buns.sub {A':List Addr}{bs:List Bd}(h:Buns H A ts bs)(s:∀a∈A',a∈A):Buns H A' ts bs:=by
 induction h with
 |nil=>exact .nil
 |cons a _ ih=>
  obtain⟨l,n1,n2,h1,h2⟩:=a;exact .cons ⟨l,λ z=>n1 (s _ z),λ z=>n2 (s _ z),h1,h2⟩ ih
theorem Buns.app {us:List Addr}{bs cs:List Bd}(h:Buns H A ts bs)(g:Buns H A us cs):Buns H A (ts++us) (bs++cs):=by
 induction h with
 |nil=>exact g
 |cons a _ ih=>exact .cons a ih
theorem Buns.len {bs:List Bd}(h:Buns H A ts bs):ts.length=bs.length:=by
 induction h with
 |nil=>rfl
 |cons a _ ih=>rw [zD,zD,ih]
theorem Buns.at {bs:List Bd}(h:Buns H A ts bs):∀{i:Nat} {b:Bd},bs[i]?=some b->∃t,ts[i]?=some t/\Bun H A t b:=by
 induction h with
 |nil=>intro i b h;simp at h
 |cons a _ ih=>
  intro i b h;cases i with
  |zero=>simp at h;subst h;exact⟨_,rfl,a⟩
  |succ i=>simp at h;simpa using ih h
theorem rC:∀(n:Nat) {B:List Bd} {i:Nat} {a b:Bd},B.length≤n->B[2*i]?=some a->B[2*i+1]?=some b->(pairs B)[i]?=some (a.1+b.1,a.2++b.2):=by
 intro n
 induction n with
 |zero=>intro B i a b hB h1 _;have:B=[]:=AU.mp (by lia);subst this;simp at h1
 |succ n ih=>
  intro B i a b hB h1 h2
  match B,hB,h1,h2 with
  | [],_,h1,_=>simp at h1
  | [x],_,h1,h2=>simp at h2
  |x::y::r,hB,h1,h2=>
   cases i with
   |zero=>simp at h1 h2;subst h1 h2;rfl
   |succ i=>
    rw [show 2*(i+1)=2*i+1+1 by lia] at h1 h2;simp at h1 h2;show(pairs r)[i]?=_;exact ih (by simp at hB;lia) h1 h2
theorem eO {i:Nat}{t:Addr}(h:ts[i]?=some t):(ts.map V.ref)[i]?=some (.ref t):=by rw [AA,h];rfl
section
variable {P : Program} {w : World} {K : PySem.W.Frag} {mg : Str -> Option Value} {base : Heap}
theorem wS (m:Nat)(h:m≤2000):Builtin.Range.small 1 ((m:Nat):Int) 2=true/\Builtin.Range.rangeSize 1 ((m:Nat):Int) 2=((m/2:Nat):Int):=by
 have e:Builtin.Range.rangeSize 1 ((m:Nat):Int) 2=((m/2:Nat):Int):=by
  unfold Builtin.Range.rangeSize;rw [zP (by decide)]
  split<;>lia
 refine⟨?_,e⟩;have f:∀i:Int,0≤i->i<100000->Builtin.Range.rangeFitsLong i=true:=λ i h0 h1=>by
  unfold Builtin.Range.rangeFitsLong;rw [zw (by lia),zw (by lia)];rfl
 unfold Builtin.Range.small;rw [e]
 try dsimp only
 rw [f 1 (by decide) (by decide),f ((m:Nat):Int) (by lia) (by lia),f 2 (by decide) (by decide),f ((m/2:Nat):Int) (by lia) (by lia),zP (by decide),f (((m:Nat):Int)+(2-1)) (by lia) (by lia)];simp
def uA:Sp:=λ vs H Q _=>∃(p av:Addr) (ts:List Addr) (B:List Bd),vs=[.ref p]/\H p=some (.lst (ts.map V.ref))/\(∃o,H av=some o)/\Buns H [av] ts B/\B.length≤1000/\(∀b∈B,b.2.length≤8000000)/\
 ∀(l:Addr) (us:List Addr) (H':Hp),Same H H'->H l=none->H' l=some (.lst (us.map V.ref))->Buns H' [av] us (pairs B)->Q (.ref l) H'
abbrev xw:List Str:=["bundles","pairs","place","first","second"]
theorem scPairs:FnScope xw ["bundles"] (defScope fX):=scK (by decide+kernel)
theorem sj (F:Fn K mg "in_pairs" fX ["bundles"] f fd)(T:Txt K mg):FnOk P w K mg base CX0 1 f fd ["bundles"] uA:=by
 refine F.F.ok scPairs (λ vs H Q E h=>?_) (λ cdv A outer s H vs Q E hr h=>?_)
 ·obtain⟨p,av,ts,B,rfl,_⟩:=h;rfl
 ·obtain⟨p,av,ts,B,rfl,hp,⟨oav,hav⟩,hB,hBl,hsm,k⟩:=h;refine⟨_,ac (ak (i:=1) scPairs.nd rfl (Or.inl rfl) (aW ad))
   (ac (bd Aa rfl (pz (by rfl) T.range (aa ae (aa (aq ap (by rfl) T.len zO (aa (pv 0) ad)) (aa ae ad)))) (aH (i:=2) scPairs.nd rfl (Or.inl rfl))
    (ac (ak (i:=3) scPairs.nd rfl (Or.inl rfl) (aM aP (pv 0) (aj aY (pv 2) ae) (λ _ _=>rfl)))
    (ac (ak (i:=4) scPairs.nd rfl (Or.inl rfl) (aM aP (pv 0) (pv 2) (λ _ _=>rfl)))
    (af (aA (cH Af AG AL a6 (pv 1) (aa (cC (aa (aj aE (aM a7 (pv 3) ae (λ _ _=>rfl)) (aM a7 (pv 4) ae (λ _ _=>rfl)))
     (aa (aj nn (aM a7 (pv 3) ae (λ _ _=>rfl)) (aM a7 (pv 4) ae (λ _ _=>rfl))) ad))) ad)))))))
   (af (az (pv 1)))),?_⟩
  have htl:=hB.len;refine seq_g λ R1 g1=>?_
  refine⟨by decide,λ l nl=>g1 _ _ ?_⟩;clear g1;have s0:=ai (o:=.lst []) nl;have hs2:=wS ts.length (by lia);refine seq_g λ R1 g1=>?_
  refine⟨_,rfl,p,_,rfl,.inl (SqL.of (s0 _ _ hp)),1,_,2,ts.length/2,rfl,by decide,by rw [zr];exact hs2.1,by rw [zr];exact hs2.2,PyProof.noPylong_small (by decide),m6 (D:=⟨_,_,λ _ _=>False,λ _ _=>False⟩) (lo:=1) (c:=2) (n:=ts.length/2)
   (λ i σ H2=>∃(v2 v3 v4:Option V) (us:List Addr),σ=[some (.ref p),some (.ref l),v2,v3,v4]/\H2 l=some (.lst (us.map V.ref))/\Buns H2 [l,av] us ((pairs B).take i)/\Same H H2) ⟨none,none,none,[],rfl,upd_same,.nil,s0⟩ ?_ ?_⟩
  ·clear g1;rintro i σ H2 hi ⟨v2,v3,v4,us,rfl,h2l,hus,sm⟩;have l0:2*i<B.length:=by lia
   have l1:2*i+1<B.length:=by lia
   have g0:B[2*i]?=some B[2*i]:=zu l0;have g1:B[2*i+1]?=some B[2*i+1]:=zu l1;have z0:=hsm _ (Ay l0);have z1:=hsm _ (Ay l1);have hpa:=rC _ (zy _) g0 g1;obtain⟨t0,ht0,la,_,_,ha1,ha2⟩:=(hB.keep sm).at g0;obtain⟨t1,ht1,lb,_,_,hb1,hb2⟩:=(hB.keep sm).at g1;generalize B[2*i]=ba at*;generalize B[2*i+1]=bb at*;have e1:(1:Int)+((i:Nat):Int)*2=((2*i+1:Nat):Int):=by lia
   have e2:((2*i+1:Nat):Int)-1=((2*i:Nat):Int):=by lia
   have hp2:=sm _ _ hp;rw [e1];refine seq_g λ R2 g2=>?_
   refine⟨_,rfl,_,rfl,_,_,rfl,rfl,?_⟩
   try dsimp only
   rw [e2];refine⟨p,_,_,_,rfl,rfl,SqL.of hp2,ay (eO ht0),g2 _ _ ?_⟩;clear g2;refine seq_g λ R2 g2=>?_
   refine⟨_,rfl,_,rfl,p,_,_,_,rfl,rfl,SqL.of hp2,ay (eO ht1),g2 _ _ ?_⟩;clear g2;have hul:=hus.len;rw [zW] at hul;refine⟨_,rfl,.inl ⟨rfl,_,SqL.of h2l⟩,_,rfl,t0,_,_,_,rfl,rfl,SqT.of ha1,ay (j:=0) rfl,_,rfl,t1,_,_,_,rfl,rfl,SqT.of hb1,ay (j:=0) rfl,_,_,rfl,rfl,
    _,rfl,t0,_,_,_,rfl,rfl,SqT.of ha1,ay (j:=1) rfl,_,rfl,t1,_,_,_,rfl,rfl,SqT.of hb1,ay (j:=1) rfl,la,lb,_,_,rfl,rfl,ha2,hb2,(by rw [zr,zr,B0];lia),λ q nq=>?_⟩
   have e3:V.int (((ba.1:Nat):Int)+((bb.1:Nat):Int))=vN (ba.1+bb.1):=Bk V.int (by lia);have s3:=ai (o:=.lst (ba.2.map vN++bb.2.map vN)) nq;have h3q:(upd H2 q (.lst (ba.2.map vN++bb.2.map vN))) q=some (.lst ((ba.2++bb.2).map vN)):=by rw [upd_same,zG]
   have h3l:=s3 _ _ h2l;generalize upd H2 q (.lst (ba.2.map vN++bb.2.map vN))=H3 at*;refine⟨(by show 2≤sizeLine;decide),λ t nt=>?_⟩
   try dsimp only
   rw [e3];have s4:=ai (o:=.tup [vN (ba.1+bb.1),V.ref q]) nt;have h4t:(upd H3 t (.tup [vN (ba.1+bb.1),V.ref q])) t=some (.tup [vN (ba.1+bb.1),V.ref q]):=upd_same;have h4l:=s4 _ _ h3l;have h4q:=s4 _ _ h3q;have nql:q≠l:=λ z=>by rw [z,h2l] at nq;cases nq
   generalize upd H3 t (.tup [vN (ba.1+bb.1),V.ref q])=H4 at*;have sm4:Same H2 H4:=s3.trans s4;refine⟨l,_,_,rfl,rfl,h4l,aX (by rw [zr];lia),some (vN (2*i+1)),some (.ref t0),some (.ref t1),us++[t],rfl,?_,?_,λ c o e=>?_⟩
   ·rw [upd_same,zG];rfl
   ·rw [AO,hpa];have kk:∀c o,c∉ [l,av]->H4 c=some o->(upd H4 l (.lst (us.map V.ref++[V.ref t]))) c=some o:=λ c o n e=>by rw [upd_ne (λ z=>n (by simp [z]))];exact e
    have h2av:=sm _ _ hav;have ntl:t∉ [l,av]:=λ z=>by
     simp only [zL,List.not_mem_nil,or_false] at z;rcases z with rfl|rfl
     ·rw [h3l] at nt;cases nt
     ·rw [s3 _ _ h2av] at nt;cases nt
    have nqa:q∉ [l,av]:=λ z=>by
     simp only [zL,List.not_mem_nil,or_false] at z;rcases z with rfl|rfl
     ·exact nql rfl
     ·rw [h2av] at nq;cases nq
    exact(hus.keepA λ c o n e=>kk _ _ n (sm4 _ _ e)).app (.cons ⟨q,ntl,nqa,kk _ _ ntl h4t,kk _ _ nqa h4q⟩ .nil)
   ·rw [upd_ne (ag e nl)];exact sm4 _ _ (sm _ _ e)
  ·rintro σ H2 ⟨v2,v3,v4,us,rfl,h2l,hus,sm⟩;rw [Ad (by rw [(cB _ (B:=B) (zy _)).1];lia)] at hus;exact g1 _ _ ⟨_,rfl,k l us H2 sm nl h2l (hus.sub λ a h=>by simp at h;simp [h])⟩
end
theorem Buns.zip {bs:List Bd}(h:Buns H A ts bs):∀z∈ts.zip bs,Bun H A z.1 z.2:=by
 induction h with
 |nil=>intro z hz;simp at hz
 |cons a _ ih=>
  intro z hz;rw [List.zip_cons_cons] at hz;rcases zL.mp hz with rfl|hz
  ·exact a
  ·exact ih z hz
theorem jD:∀(as:List Addr) (bs:List Bd),(bs.map (λ b=>((b.1:Nat):Int))).zip (as.map V.ref)=(as.zip bs).map (λ z:Addr×Bd=>(((z.2.1:Nat):Int),V.ref z.1))
 | [],bs=>by simp
 |a::as,[]=>by simp
 |a::as,b::bs=>by
  have:=jD as bs;simp only [z8,List.zip_cons_cons,this]
theorem Buns.take {bs:List Bd}(h:Buns H A ts bs):∀n,Buns H A (ts.take n) (bs.take n):=by
 induction h with
 |nil=>intro n;rw [List.take_nil,List.take_nil];exact .nil
 |cons a _ ih=>
  intro n;cases n with
  |zero=>exact .nil
  |succ n=>exact .cons a (ih n)
theorem jA:∀{Z:List (Addr×Bd)},(∀z∈Z,Bun H A z.1 z.2)->Buns H A (Z.map (·.1)) (Z.map (·.2))
 | [],_=>.nil
 |z::Z,h=>.cons (h z zH) (jA λ y hy=>h y (zC _ hy))
theorem qO {L:List Nat}{wt:Nat->Nat}{k:Nat}{B:List Bd}(lv:Lev (L.map (sgl wt)) k B):(∀b∈B,b.2.length≤2^k)/\B.length≤2*L.length:=by
 have ps:∀(n:Nat) (q:Nat) (B:List Bd),B.length≤n->(∀b∈B,b.2.length≤q)->∀b∈pairs B,b.2.length≤2*q:=by
  intro n
  induction n with
  |zero=>intro q B hB _ b hb;have:B=[]:=AU.mp (by lia);subst this;simp [pairs] at hb
  |succ n ih=>
   intro q B hB h b hb
   match B,hB,h,hb with
   | [],_,_,hb=>simp [pairs] at hb
   | [x],_,_,hb=>simp [pairs] at hb
   |x::y::r,hB,h,hb=>
    rcases zL.mp hb with rfl|hb
    ·have h1:=h x zH;have h2:=h y (zC _ zH);show(x.2++y.2).length≤_;rw [zv];lia
    ·exact ih q r (by simp at hB;lia) (λ b hb=>h b (zC _ (zC _ hb))) b hb
 induction lv with
 |zero=>exact⟨λ b hb=>by simp at hb,Ap _⟩
 | @step k B B' _ hp hs ih=>
  have hpl:=(cB _ (B:=B) (zy _)).1;have hl:=hp.length_eq;rw [zv,zr,hpl] at hl;refine⟨λ b hb=>?_,by have:=ih.2;lia⟩;have h1:1≤2^(k+1):=Nat.one_le_two_pow;rcases zI.mp (hp.subset hb) with hb|hb
  ·obtain⟨p,_,rfl⟩:=Bl.mp hb;exact h1
  ·have:=ps _ _ B (zy _) ih.1 b hb;rw [AZ];lia
section
variable {P : Program} {w : World} {K : PySem.W.Frag} {mg : Str -> Option Value} {base : Heap}
def vy:Sp:=λ vs H Q _=>∃(p av:Addr) (ts:List Addr) (L:List Nat) (wt:Nat->Nat) (m:Nat),vs=[.ref p,vN m]/\H p=some (.lst (ts.map V.ref))/\(∃o,H av=some o)/\Buns H [av] ts (L.map (sgl wt))/\Sorted (L.map (sgl wt))/\1≤L.length/\L.length≤300/\1≤m/\m≤12/\
 ∀(l:Addr) (us:List Addr) (B:List Bd) (H':Hp),Same H H'->H l=none->H' l=some (.lst (us.map V.ref))->Buns H' [av] us (B.take (max 1 (2*L.length-2)))->LevS (L.map (sgl wt)) m B->Q (.ref l) H'
abbrev xy:List Str:=["singles","most","bundles","step"]
theorem scLight:FnScope xy ["singles","most"] (defScope gW):=scK (by decide+kernel)
theorem rV {fW:Addr}(F:Fn K mg "lightest_bundles" gW ["singles","most"] f fd)(Pa:Fn K mg "in_pairs" fX ["bundles"] fP fdP)(We:Fn K mg "weight_of" dW ["bundle"] fW fdW)(T:Txt K mg):FnOk P w K mg base CX0 31 f fd ["singles","most"] vy:=by
 have GP:=sj (P:=P) (w:=w) (base:=base) Pa T;have GW:=iY (P:=P) (w:=w) (base:=base) We;refine F.F.ok scLight (λ vs H Q E h=>?_) (λ cdv A outer s H vs Q E hr h=>?_)
 ·obtain⟨p,av,ts,L,wt,m,rfl,_⟩:=h;rfl
 ·obtain⟨p,av,ts,L,wt,m,rfl,hp,⟨oav,hav⟩,hB,hso,n1,n2,m1,m2,k⟩:=h;have hr1:Room 1 _:=hr.mono (by decide);have hr3:Room 3 _:=hr.mono (by decide);have hn:=hr.hd (by decide);refine⟨_,ac (ak (i:=2) scLight.nd rfl (Or.inl rfl) (aU aN (by rfl) T.list Aq (aa (pv 0) ad)))
   (ac (bd Aa rfl (bq (by rfl) T.range (aa (aj aY (pv 1) ae) ad)) (aH (i:=3) scLight.nd rfl (Or.inl rfl))
    (af (ak (i:=2) scLight.nd rfl (Or.inl rfl) (jm (sp:=iu) GW hr3 We.b (by rfl) T.sort (aG (v:=.ref fW) (by rfl) We.m rfl) (aa (aj nn (pv 0) (am GP hr1 (by rfl) Pa.m Pa.F.kp Pa.b .nil ao (aa (pv 2) ad))) ad)))))
   (af (az (cV dE (pv 2) gk (cL (aq (iN hn) (by rfl) T.max Dt (aa ae (aa (aj aY (aj cf ae (aq ap (by rfl) T.len zO (aa (pv 0) ad))) ae) ad)))))))),?_⟩
  have htl:=hB.len;rw [zr] at htl;refine seq_g λ R1 g1=>?_
  refine⟨_,rfl,p,_,rfl,.inl (SqL.of hp),λ l0 nl0=>g1 _ _ ?_⟩;clear g1;have s0:=ai (o:=.lst (ts.map V.ref)) nl0;have lv1:LevS (L.map (sgl wt)) 1 (L.map (sgl wt)):=.step .zero (by rw [show pairs ([]:List Bd)=[] from rfl,Ax];exact SM.Stb.refl _) hso;have e1:((m:Nat):Int)-1=((m-1:Nat):Int):=by lia
  refine seq_g λ R1 g1=>?_
  refine⟨_,rfl,_,_,rfl,rfl,?_⟩
  try dsimp only
  rw [e1];refine⟨((m-1:Nat):Int),rfl,by lia,by lia,?_⟩;rw [zV];refine bX (D:=⟨_,_,λ _ _=>False,λ _ _=>False⟩) (lo:=0) (n:=m-1) (λ i σ H2=>∃(lb:Addr) (us:List Addr) (B:List Bd) (v3:Option V),σ=[some (.ref p),some (vN m),some (.ref lb),v3]/\H2 lb=some (.lst (us.map V.ref))/\Buns H2 [av] us B/\LevS (L.map (sgl wt)) (i+1) B/\Same H H2)
   ⟨l0,ts,_,none,rfl,upd_same,hB.keep s0,lv1,s0⟩ ?_ ?_
  ·clear g1;rintro i σ H2 hi ⟨lb,us,B,v3,rfl,hlb,hus,lv,sm⟩;obtain⟨hsz,hBl⟩:=qO lv.lev;have hsz2:∀b∈B,b.2.length≤8000000:=λ b hb=>by
    have h1:=hsz b hb;have h2:2^(i+1)≤2^12:=BB (by decide) (by lia);have h3:(2:Nat)^12=4096:=by decide
    lia
   have hpl:=(cB _ (B:=B) (zy _)).1;refine⟨_,rfl,_,rfl,lb,av,us,B,rfl,hlb,⟨_,sm _ _ hav⟩,hus,by lia,hsz2,λ l ps H3 s3 nl hl hps=>?_⟩;have hpsl:=hps.len;refine⟨p,l,_,_,rfl,rfl,s3 _ _ (sm _ _ hp),hl,(by rw [zr,zr,B0];lia),λ q nq=>?_⟩;have s4:=ai (o:=.lst (ts.map V.ref++ps.map V.ref)) nq;have hall:Buns (upd H3 q (.lst (ts.map V.ref++ps.map V.ref))) [av] (ts++ps) (L.map (sgl wt)++pairs B):=((hB.keep (sm.trans s3)).app hps).keep s4;have h4q:(upd H3 q (.lst (ts.map V.ref++ps.map V.ref))) q=some (.lst ((ts++ps).map V.ref)):=by rw [upd_same,zG]
   have sm4:=(sm.trans s3).trans s4;generalize upd H3 q (.lst (ts.map V.ref++ps.map V.ref))=H4 at*;have hal:=hall.len;refine⟨q,(ts++ps).map V.ref,(L.map (sgl wt)++pairs B).map (λ b=>((b.1:Nat):Int)),rfl,SqL.of h4q,by rw [zr,zr];exact hal,by rw [zr,zv];lia,λ j v kk hv hk=>?_,λ lo mm nlo hpw hstb=>?_⟩
   ·rw [AA] at hk;cases e:(L.map (sgl wt)++pairs B)[j]? with
    |none=>rw [e] at hk;cases hk
    |some b=>
     rw [e] at hk;obtain⟨t,ht,lt,_,_,h1,h2⟩:=hall.at e;rw [eO ht] at hv;cases hv;cases hk;exact⟨t,lt,b.1,rfl,h1,rfl,rfl⟩
   ·have hz:((L.map (sgl wt)++pairs B).map (λ b=>((b.1:Nat):Int))).zip ((ts++ps).map V.ref)=((ts++ps).zip (L.map (sgl wt)++pairs B)).map (λ z:Addr×Bd=>(((z.2.1:Nat):Int),V.ref z.1)):=jD _ _;rw [hz] at hstb;obtain⟨Z',rfl,hst'⟩:=SM.stb_lift SG.ordI _ hstb;have hZ:=(SM.stb_perm SG.ordI hst').symm;have hSB:SM.Stb SG.ltI wI (Z'.map (·.2)) (L.map (sgl wt)++pairs B):=by
     have:=SM.stb_push (kg:=wI) (λ z:Addr×Bd=>z.2) (λ _=>rfl) hst';rw [Dz (by lia)] at this;exact this
    have hZB:(Z'.map (·.2)).Perm (L.map (sgl wt)++pairs B):=by
     have:=(hZ.symm.map (·.2));rw [Dz (by lia)] at this;exact this
    have hso':Sorted (Z'.map (·.2)):=by
     rw [A5,CD] at hpw;unfold Sorted;rw [CD];exact hpw.imp (λ {a b} h=>by have h':((a.2.1:Nat):Int)≤((b.2.1:Nat):Int):=h;lia)
    have s5:=ai (o:=.lst ((Z'.map (λ z:Addr×Bd=>(((z.2.1:Nat):Int),V.ref z.1))).map (·.2))) nlo;refine⟨lo,Z'.map (·.1),Z'.map (·.2),some (.int (0+((i:Nat):Int))),rfl,?_,?_,.step lv hSB hso',sm4.trans s5⟩
    ·rw [upd_same,A5,A5];rfl
    ·exact(jA λ z hz=>hall.zip z (hZ.symm.subset hz)).keep s5
  ·rintro σ H2 ⟨lb,us,B,v3,rfl,hlb,hus,lv,sm⟩;rw [show m-1+1=m by lia] at lv;refine g1 _ _ ?_;clear g1;obtain⟨_,hBl⟩:=qO lv.lev;have hul:=hus.len;refine⟨_,rfl,_,rfl,p,_,rfl,.inl (SqL.of (sm _ _ hp)),_,_,rfl,rfl,.inl ⟨by decide,by decide⟩,_,_,rfl,rfl,_,_,rfl,?_⟩;have e2:(if(2:Int)*(((ts.map V.ref).length:Nat):Int)-2>1 then(2:Int)*(((ts.map V.ref).length:Nat):Int)-2 else 1)=((max 1 (2*L.length-2):Nat):Int):=by
    rw [zr,htl];split<;>lia
   try dsimp only
   rw [e2];refine⟨_,rfl,lb,_,rfl,SqL.of hlb,λ l5 n5=>?_⟩
   try dsimp only
   rw [tE,<-D2];have s5:=ai (o:=.lst ((us.take (max 1 (2*L.length-2))).map V.ref)) n5;exact k l5 _ B _ (sm.trans s5) (none_of sm n5) upd_same ((hus.take _).keep s5) lv
end
structure FnL (K:PySem.W.Frag)(mg:Str->Option Value)(x:Str)(st:Stmt)(ps:List Str)(f:Addr)(fd:FuncData):Prop where
 F:∃dV,FunD K x x st dV f fd
 m:mg x=some (.ref f)
 b:Binds K fd ps []
 d:∃t,Binds K fd ps [.int 6 t]
theorem FnL.kp {K:PySem.W.Frag}{mg:Str->Option Value}{x:Str}{st:Stmt}{ps:List Str}(F:FnL K mg x st ps f fd):PySem.W.keepIn K (.ref f)=true:=F.F.elim λ _ z=>z.kp
def cw (C:List Nat)(p:Nat):Nat:=C.getD p 0
def pos (C:List Nat):List Nat:=(List.range C.length).filter (λ p=>decide (0<cw C p))
def LnOf (C:List Nat)(m:Nat)(ln:Nat->Nat):Prop:=∃(L:List Nat) (B:List Bd),Sorted (L.map (sgl (cw C)))/\SM.Stb SG.ltI wI (L.map (sgl (cw C))) ((pos C).map (sgl (cw C)))/\LevS (L.map (sgl (cw C))) m B/\ln=occ (B.take (max 1 (2*L.length-2)))
theorem LnOf.uniq {C:List Nat}{m:Nat}{ln ln':Nat->Nat}(h:LnOf C m ln)(h':LnOf C m ln'):ln=ln':=by
 obtain⟨L,B,a1,a2,a3,a4⟩:=h;obtain⟨L',B',b1,b2,b3,b4⟩:=h';have e:=SM.stb_uniq SG.ordI (ou a1) (ou b1) (a2.trans b2.symm);have el:=Bk List.length e;rw [zr,zr] at el;rw [<-e] at b3;have:=a3.uniq b3;subst this;rw [a4,b4,el]
theorem Buns.fresh {av:Addr}{bs:List Bd}(h:Buns H A ts bs)(n:H av=none):Buns H [av] ts bs:=by
 induction h with
 |nil=>exact .nil
 |cons a _ ih=>
  obtain⟨l,_,_,h1,h2⟩:=a;exact .cons ⟨l,λ z=>ag h1 n (zX.mp z),λ z=>ag h2 n (zX.mp z),h1,h2⟩ ih
theorem ixN_nat {j:Nat}(h:j<n):ixN n ((j:Nat):Int)=some j:=by
 unfold ixN;rw [zP (by lia),zP (by lia)];simp
theorem set_range {q:Nat}{f f':Nat->Nat}(h:∀p,f' p=f p+ [q].count p):((List.range n).map λ p=>vN (f p)).set q (vN (f q+1))=(List.range n).map λ p=>vN (f' p):=by
 refine Be λ i=>?_
 rw [List.getElem?_set,zr,BG,AA,AA];by_cases hi:i<n
 ·rw [CS hi];by_cases e:q=i
  ·subst e;rw [zP rfl,zP hi,B5,h q];simp
  ·rw [zK e,B5,B5,h i];have: [q].count i=0:=A6 (by simp;exact λ z=>e z.symm);rw [this,Bw]
 ·have e2:(List.range n)[i]?=none:=AD (by rw [BG];lia);rw [e2];by_cases e:q=i
  ·subst e;rw [zP rfl,zK hi];rfl
  ·rw [zK e];rfl
section
variable {P : Program} {w : World} {K : PySem.W.Frag} {mg : Str -> Option Value} {base : Heap}
def pS:Sp:=λ vs H Q _=>∃(a:Addr) (C:List Nat) (m:Nat),vs=[.ref a,vN m]/\H a=some (.lst (C.map vN))/\(∀b∈C,b≤1000000)/\1≤C.length/\C.length≤300/\(∃b∈C,0<b)/\1≤m/\m≤12/\(C.filter (λ b=>decide (0<b))).length≤2^m/\(pos C).length≤300/\1≤(pos C).length/\(pos C).length≤2^m/\
 ∀(l:Addr) (ln:Nat->Nat) (H':Hp),H l=none->Same H H'->H' l=some (.lst ((List.range C.length).map λ p=>vN (ln p)))->Best (pos C) (cw C) m ln->LnOf C m ln->Q (.ref l) H'
abbrev rX:List Str:=["counts","most","singles","lengths","bundle","place"]
theorem scLengths:FnScope rX ["counts","most"] (defScope sLengths):=scK (by decide+kernel)
theorem yM:(["place","count"]:List Str).Nodup:=by decide+kernel
def yf:TE:=yh (gg (eF 1) (gg (ye (gg (eF 0) jx)) jx))
def x8:TT:=kF (tOp (rI0 λ i j=>.bl (decide (j<i))) (eF 1) (tC (.int 0)))
theorem ok_lengths {fN fW' fL fW:Addr}{fdN fdW' fdL:FuncData}(F:FnL K mg "lengths_of" sLengths ["counts","most"] f fd)(Ne:Fn K mg "need_shares" lj ["counts","most"] fN fdN)(Th:Fn K mg "are_of_things" c4 ["thing","most"] fT fdT)(AW:Fn K mg "are_whole" bv ["thing","least","most"] fA fdA)(W:Fn K mg "is_whole" bJ ["thing","least","most"] fW' fdW')
  (Li:Fn K mg "lightest_bundles" gW ["singles","most"] fL fdL) (Pa:Fn K mg "in_pairs" fX ["bundles"] fP fdP) (We:Fn K mg "weight_of" dW ["bundle"] fW fdW) (T:Txt K mg):FnOk P w K mg base CX0 33 f fd ["counts","most"] pS:=by
 have GN:=ux (P:=P) (w:=w) (base:=base) Ne Th AW W T;have GL:=rV (P:=P) (w:=w) (base:=base) Li Pa We T;have GW:=iY (P:=P) (w:=w) (base:=base) We;obtain⟨dV,F0⟩:=F.F;refine F0.ok scLengths (λ vs H Q E h=>?_) (λ cdv A outer s H vs Q E hr h=>?_)
 ·obtain⟨a,C,m,rfl,_⟩:=h;rfl
 ·obtain⟨a,C,m,rfl,ha,hC,c1,c3,hpos,m1,m2,hfit,p30,p1,pm,k⟩:=h;have hr31:Room 31 _:=hr.mono (by decide);have hr3:Room 3 _:=hr.mono (by decide);refine⟨_,ac (aA (am GN hr (by rfl) Ne.m Ne.F.kp Ne.b .nil ao (aa (pv 0) (aa (pv 1) ad))))
   (ac (ak (i:=2) scLengths.nd rfl (Or.inl rfl) (jm (sp:=iu) GW hr3 We.b (by rfl) T.sort (aG (v:=.ref fW) (by rfl) We.m rfl) (aa (hI (N:=["place","count"]) (g:=xr K 2 (j8 (bf 0) (j8 (bf 1) wX))) (tt:=x8) (te:=yf) rfl rfl (by decide+kernel) (by decide+kernel) (by decide+kernel)
    (jF (by rfl) T.enum (aa (pv 0) ad)) (λ fp s H=>iE rfl (bA (aH (i:=0) yM rfl (Or.inl rfl)) (bA (aH (i:=1) yM rfl (Or.inl rfl)) eN)))
    (λ fp s H=>ar bQ (pv 1) ae (ax _)) (λ fp s H=>cC (aa (pv 1) (aa (aW (aa (pv 0) ad)) ad)))) ad)))
   (ac (ak (i:=3) scLengths.nd rfl (Or.inl rfl) (aj gM (aW (aa ae ad)) (aq ap (by rfl) T.len zO (aa (pv 0) ad))))
   (ac (bd Aa rfl (bu (am GL hr31 (by rfl) Li.m Li.F.kp Li.b .nil ao (aa (pv 2) (aa (pv 1) ad)))) (aH (i:=4) scLengths.nd rfl (Or.inl rfl))
    (af (bd Aa rfl (bu (aM a7 (pv 4) ae (λ _ _=>rfl))) (aH (i:=5) scLengths.nd rfl (Or.inl rfl))
     (af (jU (aj aE (aM aP (pv 3) (pv 5) (λ _ _=>rfl)) ae) (mP (pv 3) (pv 5) g9))))))
   (af (az (pv 3)))))),?_⟩
  refine seq_g λ R1 g1=>?_
  refine⟨_,rfl,_,rfl,a,C,m,rfl,ha,hC,c1,c3,hpos,m1,m2,hfit,λ H1 s1=>g1 _ _ ?_⟩;clear g1;have ha1:=s1 _ _ ha;refine seq_g λ R1 g1=>?_
  refine⟨_,rfl,a,_,rfl,SqL.of ha1,λ l nl=>?_⟩;refine rk (K:=K) (a:=a) (l:=l) (xs:=C.map vN) (n:=2) (g:=xr K 2 (j8 (bf 0) (j8 (bf 1) wX))) (tt:=x8) (te:=yf)
   (λ i ys H2=>∃ts:List Addr,ys=ts.map V.ref/\H2 l=some (.lst ys)/\Same H1 H2/\Buns H2 [l] ts (((List.range i).filter (λ p=>decide (0<cw C p))).map (sgl (cw C))))
   ⟨[],rfl,upd_same,ai nl,.nil⟩ (λ i ys H2 _ z9=>by obtain⟨_,_,_,sm,_⟩:=z9;exact SqL.of (sm _ _ ha1)) ?_ ?_ ?_ ?_ ?_
  ·clear g1;rintro i x ys σ H2 p hx ⟨ts,rfl,hl,sm,hb⟩ hσ hp;obtain⟨c,hc,rfl⟩:=cm hx;have hil:i<C.length:=(zz.mp hc).1;have hcw:cw C i=c:=by rw [cw,Ab,hc];rfl
   obtain⟨u0,u1,rfl⟩:∃u0 u1,σ=[u0,u1]:=match σ,hσ with| [u0,u1],_=>⟨u0,u1,rfl⟩
   have sp:=ai (o:=.tup [.int ((i:Nat):Int),vN c]) hp;have hlp:=sp _ _ hl;have hpp:(upd H2 p (.tup [.int ((i:Nat):Int),vN c])) p=some (.tup [vN i,vN c]):=upd_same;generalize upd H2 p (.tup [.int ((i:Nat):Int),vN c])=H3 at*;refine⟨p,_,rfl,SqT.of hpp,rfl,_,_,rfl,_,_,rfl,rfl,?_⟩;refine⟨_,rfl,_,_,rfl,rfl,_,rfl,?_⟩;have htl:=hb.len;rw [zr] at htl;have hfl:((List.range i).filter (λ p=>decide (0<cw C p))).length≤300:=AM (Cw _ _) (by rw [BG];lia);dsimp only;rw [C6,z7];by_cases h0:0<c
   ·rw [zP (zw (show(0:Int)<((c:Nat):Int) by lia)),zQ (by rw [hcw];exact zw h0)];refine⟨_,rfl,_,rfl,(by show 1≤sizeLine;decide),λ q nq=>⟨(by show 2≤sizeLine;decide),λ t nt=>?_⟩⟩;have sq:=ai (o:=.lst [vN i]) nq;have hlq:=sq _ _ hlp;have hqq:(upd H3 q (.lst [vN i])) q=some (.lst [vN i]):=upd_same;have nql:q∉ [l]:=λ z=>by rw [zX.mp z,hlp] at nq;cases nq
    generalize upd H3 q (.lst [vN i])=H4 at*;have st:=ai (o:=.tup [vN c,V.ref q]) nt;have hlt:=st _ _ hlq;have hqt:=st _ _ hqq;have htt:(upd H4 t (.tup [vN c,V.ref q])) t=some (.tup [vN c,V.ref q]):=upd_same;have ntl:t∉ [l]:=λ z=>by rw [zX.mp z,hlq] at nt;cases nt
    generalize upd H4 t (.tup [vN c,V.ref q])=H5 at*;have s25:Same H2 H5:=(sp.trans sq).trans st;have kk:∀c' o,c'∉ [l]->H5 c'=some o->(upd H5 l (.lst (ts.map V.ref++[V.ref t]))) c'=some o:=λ c' o n e=>by rw [upd_ne (λ z=>n (by simp [z]))];exact e
    refine⟨hlt,aX (by rw [zr];lia),rfl,ts++[t],by rw [zG];rfl,upd_same,λ c' o e=>?_,?_⟩
    ·rw [upd_ne (ag e nl)];exact s25 _ _ (sm _ _ e)
    ·rw [zG];refine(hb.keepA λ c' o n e=>kk _ _ n (s25 _ _ e)).app (.cons ⟨q,ntl,nql,?_,kk _ _ nql hqt⟩ .nil);show _=some (HO.tup [vN (cw C i),V.ref q]);rw [hcw];exact kk _ _ ntl htt
   ·rw [zK (λ z=>absurd (zA z) (by lia)),zY (by rw [hcw];simpa using h0)];refine⟨rfl,ts,rfl,hlp,sm.trans sp,?_⟩;rw [List.filter_nil,Ax];exact hb.keep sp
  rotate_left
  ·rintro x σ H3 A' B' hAB ⟨a',xs,e,hq,hl',v,r,e2,v2,r2,e3,e4,h⟩;exact⟨a',xs,e,hq,hl',v,r,e2,v2,r2,e3,e4,hAB _ _ h⟩
  ·exact λ σ H A B h ⟨v,e1,i,j,e2,e3,c,e4,z⟩=>⟨v,e1,i,j,e2,e3,c,e4,h _ _ z⟩
  ·exact λ σ H A B h ⟨v,e1,v2,e2,n1,z⟩=>⟨v,e1,v2,e2,n1,λ q nq=>⟨(z q nq).1,λ t nt=>h _ _ ((z q nq).2 t nt)⟩⟩
  rintro ys H2 ⟨ts,rfl,hl,sm,hb⟩;rw [zr] at hb;have hb':Buns H2 [l] ts ((pos C).map (sgl (cw C))):=hb;clear hb;have hal:=hb'.len;rw [zr] at hal;refine⟨l,ts.map V.ref,((pos C).map (sgl (cw C))).map (λ b=>((b.1:Nat):Int)),rfl,SqL.of hl,by rw [zr,zr,zr];exact hal,by rw [zr];lia,λ j v kk hv hk=>?_,λ lo mm nlo hpw hstb=>g1 _ _ ?_⟩
  ·rw [AA] at hk;cases e:((pos C).map (sgl (cw C)))[j]? with
   |none=>rw [e] at hk;cases hk
   |some b=>
    rw [e] at hk;obtain⟨t,ht,lt,_,_,h1,h2⟩:=hb'.at e;rw [eO ht] at hv;cases hv;cases hk;exact⟨t,lt,b.1,rfl,h1,rfl,rfl⟩
  clear g1;rw [jD] at hstb;obtain⟨Z',rfl,hst'⟩:=SM.stb_lift SG.ordI _ hstb;have hZ:=(SM.stb_perm SG.ordI hst').symm;have hSB:SM.Stb SG.ltI wI (Z'.map (·.2)) ((pos C).map (sgl (cw C))):=by
   have:=SM.stb_push (kg:=wI) (λ z:Addr×Bd=>z.2) (λ _=>rfl) hst';rw [Dz (by rw [zr];lia)] at this;exact this
  have hZB:(Z'.map (·.2)).Perm ((pos C).map (sgl (cw C))):=by
   have:=(hZ.symm.map (·.2));rw [Dz (by rw [zr];lia)] at this;exact this
  have hso':Sorted (Z'.map (·.2)):=by
   rw [A5,CD] at hpw;unfold Sorted;rw [CD];exact hpw.imp (λ {a b} h=>by have h':((a.2.1:Nat):Int)≤((b.2.1:Nat):Int):=h;lia)
  obtain⟨L,UL,hLp,eL,eU⟩:=kx (RX:=Z'.map (·.2)) (UX:=[]) (by rw [Ax];exact hZB.symm);have eU':UL=[]:=by simpa using eU.symm
  subst eU';rw [Ax] at hLp;have s5:=ai (o:=.lst ((Z'.map (λ z:Addr×Bd=>(((z.2.1:Nat):Int),V.ref z.1))).map (·.2))) nlo;have hbs:=(jA λ z hz=>hb'.zip z (hZ.symm.subset hz)).keep s5;have hlo:(upd H2 lo (.lst ((Z'.map (λ z:Addr×Bd=>(((z.2.1:Nat):Int),V.ref z.1))).map (·.2)))) lo=some (.lst ((Z'.map (·.1)).map V.ref)):=by
   rw [upd_same,A5,A5];rfl
  have sm3:=sm.trans s5;generalize upd H2 lo (.lst ((Z'.map (λ z:Addr×Bd=>(((z.2.1:Nat):Int),V.ref z.1))).map (·.2)))=H3 at*;rw [eL] at hbs hso' hSB;generalize Z'.map (·.1)=ss at*;clear hZ hZB hstb hst' hpw eL eU hl hb' sm s5 hal;have hLl:=hLp.length_eq;have s03:=s1.trans sm3;have ha3:=s03 _ _ ha;refine seq_g λ R1 g1=>?_
  refine⟨(by show 1≤sizeLine;decide),λ l4 n4=>?_⟩;have s4:=ai (o:=.lst [V.int 0]) n4;have h44:(upd H3 l4 (.lst [V.int 0])) l4=some (.lst [vN 0]):=upd_same;generalize upd H3 l4 (.lst [V.int 0])=H4 at*;refine⟨_,rfl,a,_,rfl,.inl (SqL.of (s4 _ _ ha3)),l4,_,_,rfl,rfl,h44,by lia,by rw [zr];lia,(by rw [zr,zV];exact eB (by show 1*C.length≤2000;lia)),λ l5 n5=>g1 _ _ ?_⟩;clear g1;have ez:(List.replicate (((C.map vN).length:Nat):Int).toNat [vN 0]).flatten=(List.range C.length).map λ p=>vN (occ [] p):=by
   rw [zV,zr];show(List.replicate C.length [vN 0]).flatten=(List.range C.length).map λ _=>vN 0
   rw [Ea,BG];generalize C.length=n
   induction n with
   |zero=>rfl
   |succ n ih=>rw [AJ,A4,ih,AJ];rfl
  try dsimp only
  rw [ez];have s5:=ai (o:=.lst ((List.range C.length).map λ p=>vN (occ [] p))) n5;have h55:(upd H4 l5 (.lst ((List.range C.length).map λ p=>vN (occ [] p)))) l5=some (.lst ((List.range C.length).map λ p=>vN (occ [] p))):=upd_same;have hb5:=((hbs.keep s4).fresh n5).keep s5;have hlo5:=s5 _ _ (s4 _ _ hlo);have s05:=(s03.trans s4).trans s5;have n05:H l5=none:=none_of (s03.trans s4) n5;generalize upd H4 l5 (.lst ((List.range C.length).map λ p=>vN (occ [] p)))=H5 at*;clear s4 s5 h44 n4 n5 ez;refine seq_g λ R1 g1=>?_
  refine⟨_,rfl,_,rfl,lo,l5,ss,L,cw C,m,rfl,hlo5,⟨_,h55⟩,hb5,hso',by lia,by lia,m1,m2,λ lb ub B H6 s6 nlb hlb hub lv=>?_⟩;have h65:=s6 _ _ h55;have s06:=s05.trans s6;have hwt:∀b∈B,Wt L (cw C) b:=rS lv.lev;have hbest:Best L (cw C) m (occ (B.take (max 1 (2*L.length-2)))):=by
   refine rc (hLp.nodup_iff.mp ?_) (λ p hp=>?_) lv.lev (by lia) m1 (by lia)
   ·exact List.Pairwise.filter _ List.nodup_range
   ·have:=(By.mp (hLp.symm.subset hp)).2;exact zA this
  have hwR:∀b∈B.take (max 1 (2*L.length-2)),∀q∈b.2,q<C.length:=λ b hb q hq=>by
   have:=(hwt b (A7 hb)).2 q hq;exact BZ.mp (By.mp (hLp.symm.subset this)).1
  have hln:LnOf C m (occ (B.take (max 1 (2*L.length-2)))):=⟨L,B,hso',hSB,lv,rfl⟩;generalize B.take (max 1 (2*L.length-2))=R at*;have hulR:=hub.len;have hlb5:lb≠l5:=(ag h55 nlb).symm;clear hb5 hlo5 h55 hso' hbs hlo;refine⟨lb,rfl,⟨_,SqL.of hlb⟩,bP (D:=⟨_,_,λ _ _=>False,λ _ _=>False⟩) (K:=K) (a:=lb) (xs:=ub.map V.ref) (λ i σ H7=>∃v4 v5:Option V,σ=[some (.ref a),some (vN m),some (.ref lo),some (.ref l5),v4,v5]/\H7 l5=some (.lst ((List.range C.length).map λ p=>vN (occ (R.take i) p)))/\∀c o,c≠l5->H6 c=some o->H7 c=some o)
   ⟨none,none,rfl,h65,λ _ _ _ e=>e⟩ (λ i σ H7 _ z9=>by obtain⟨_,_,_,_,kp⟩:=z9;exact SqL.of (kp _ _ hlb5 hlb)) ?_ ?_⟩
  ·clear g1;rintro i y σ H7 hi ⟨v4,v5,rfl,h7,kp⟩;have hil:i<R.length:=by have:=(zz.mp hi).1;rw [zr] at this;lia
   have hRi:R[i]?=some R[i]:=zu hil;obtain⟨t,ht,lq,nt,nq,h1,h2⟩:=hub.at hRi;have hy:y=.ref t:=by rw [eO ht] at hi;exact(zS hi).symm
   subst hy;have hlt:=hwR _ (Ay hil);have e1:∀p,occ (R.take (i+1)) p=occ (R.take i) p+R[i].2.count p:=λ p=>by
    rw [AO,hRi];show occ (R.take i++[R[i]]) p=_;rw [gZ,cz];rfl
   generalize R[i]=bb at*;have nq':lq≠l5:=λ z=>nq (by simp [z])
   have nt':t≠l5:=λ z=>nt (by simp [z])
   refine⟨_,rfl,t,_,_,_,rfl,rfl,SqT.of (kp _ _ nt' h1),ay (j:=1) rfl,lq,rfl,⟨_,SqL.of (kp _ _ nq' h2)⟩,bP (D:=⟨_,_,λ _ _=>False,λ _ _=>False⟩) (K:=K) (a:=lq) (xs:=bb.2.map vN) (λ j σ H8=>∃v5:Option V,σ=[some (.ref a),some (vN m),some (.ref lo),some (.ref l5),some (.ref t),v5]/\H8 l5=some (.lst ((List.range C.length).map λ p=>vN (occ (R.take i) p+(bb.2.take j).count p)))/\∀c o,c≠l5->H6 c=some o->H8 c=some o)
    ⟨v5,rfl,by simpa using h7,kp⟩ (λ j σ H8 _ ⟨_,_,_,kp⟩=>SqL.of (kp _ _ nq' h2)) ?_ ?_⟩
   ·rintro j y σ H8 hj ⟨v5,rfl,h8,kp8⟩;obtain⟨q,hq,rfl⟩:=cm hj;have hqn:q<C.length:=hlt q (AK hq);have hg:((List.range C.length).map λ p=>vN (occ (R.take i) p+(bb.2.take j).count p))[q]?=some (vN (occ (R.take i) q+(bb.2.take j).count q)):=by
     rw [AA,CS hqn];rfl
    have e2:((occ (R.take i) q+(bb.2.take j).count q:Nat):Int)+1=((occ (R.take i) q+(bb.2.take j).count q+1:Nat):Int):=by lia
    refine⟨_,rfl,_,rfl,l5,_,_,_,rfl,rfl,SqL.of h8,ay hg,_,_,rfl,rfl,?_⟩
    try dsimp only
    rw [e2];refine⟨_,rfl,_,rfl,l5,_,_,q,rfl,rfl,h8,ixN_nat (by rw [zr,BG];exact hqn),some (vN q),rfl,?_,λ c o n e=>?_⟩
    ·rw [upd_same,set_range (f:=λ p=>occ (R.take i) p+(bb.2.take j).count p) (f':=λ p=>occ (R.take i) p+(bb.2.take (j+1)).count p) λ p=>?_];rw [bS hq,BN,Bc]
    ·rw [upd_ne n];exact kp8 _ _ n e
   ·rintro σ H8 ⟨v5,rfl,h8,kp8⟩;rw [zr,An] at h8;refine⟨_,_,rfl,?_,kp8⟩;rw [h8];congr 2;refine CU λ p _=>?_
    rw [e1 p]
  ·rintro σ H7 ⟨v4,v5,rfl,h7,kp⟩;rw [zr,hulR,An] at h7;refine g1 _ _ ⟨_,rfl,k l5 _ H7 n05 (λ c o e=>kp _ _ (ag e n05) (s06 _ _ e)) h7 (hbest.perm hLp.symm) hln⟩
end
end K20.S
set_option maxHeartbeats 4000000
namespace K20.Tb
open PySem L2 QQ W13 BP
seal PE PA PS PSs PT PW PG PI
variable {post pre : List (Nat×Nat)} {f : Addr} {R : List Nat} {fd : FuncData} {Pp : List Itm}
section
variable {P : Program} {w : World} {K : PySem.W.Frag} {mg : Str -> Option Value} {base : Heap} {C : Addr}
def kJ:Sp:=λ vs H Q _=>∃(a:Addr) (L:List Nat),vs=[.ref a]/\H a=some (.lst (L.map vN))/\L.length=272/\(∀b∈L,b≤6)/\Q .non H
theorem kM:FnScope ["lengths"] ["lengths"] (defScope cu):=scK (by decide+kernel)
theorem jB (F:Fn K mg "need_table" cu ["lengths"] f fd)(Y:Rows K mg):FnOk P w K mg base CX0 3 f fd ["lengths"] kJ:=by
 obtain⟨T,⟨_,_,W⟩,⟨_,_,AW⟩,_⟩:=Y;have GA:=dw (P:=P) (w:=w) (base:=base) AW W T;obtain⟨tb,hb⟩:=T.bits;obtain⟨tm,hm⟩:=T.many;refine F.F.ok kM (λ vs H Q E h=>?_) (λ cdv A outer s H vs Q E hr h=>?_)
 ·obtain⟨a,L,rfl,_⟩:=h;rfl
 ·obtain⟨a,L,rfl,hL,hl,h6,k⟩:=h;refine⟨_,af (aK (PW.pt (eT (bF (bG (am GA hr (by rfl) AW.m AW.F.kp AW.b .nil ao (aa (pv 0) (aa ae (aa (aG (v:=.int 6) (by rfl) hb ⟨tb,rfl⟩) ad))))))
   (dn (ar oN (aq ap (by rfl) T.len zO (aa (pv 0) ad)) (aG (v:=.int 272) (by rfl) hm ⟨tm,rfl⟩) (ax _))))) (af aS) aC),?_⟩
  refine⟨_,rfl,a,L,0,6,rfl,hL,λ b z=>by have:=h6 b z;lia,_,rfl,bz ?_⟩;refine⟨_,rfl,a,_,rfl,.inl (SqL.of hL),rfl,_,rfl,ym ?_ k⟩;rw [zr,hl];rfl
def uJ:Sp:=λ vs H Q _=>∃(a:Addr) (L:List Nat) (p ah:Nat),vs=[.ref a,vN p,vN ah]/\H a=some (.lst (L.map vN))/\L.length=272/\p≤272/\Q (vN (min 66 (run ah (L.drop p)))) H
theorem scAgain:FnScope ["lengths","place","ahead","most","again"] ["lengths","place","ahead"] (defScope gJ):=scK (by decide+kernel)
theorem qI (F:Fn K mg "again_from" gJ ["lengths","place","ahead"] f fd)(T:Txt K mg):FnOk P w K mg base CX0 31 f fd ["lengths","place","ahead"] uJ:=by
 obtain⟨tm,hm⟩:=T.many;obtain⟨ta,hma⟩:=T.mostA;refine F.F.ok scAgain (λ vs H Q E h=>?_) (λ cdv A outer st H vs Q E hr h=>?_)
 ·obtain⟨a,L,p,ah,rfl,_⟩:=h;rfl
 ·obtain⟨a,L,p,ah,rfl,hL,hl,hp,k⟩:=h;have hn:=hr.hd (by decide);refine⟨_,ac (ak (i:=3) scAgain.nd rfl (Or.inl rfl) (aq (fU hn) (by rfl) T.min Cv (aa (aG (v:=.int 66) (by rfl) hma ⟨ta,rfl⟩) (aa (aj aY (aG (v:=.int 272) (by rfl) hm ⟨tm,rfl⟩) (pv 1)) ad))))
   (ac (ak (i:=4) scAgain.nd rfl (Or.inl rfl) ae)
   (ac (bE Aa (PW.pt (f7 (ar du (pv 4) (pv 3) (ax _)) (gn (ar bj (aM aP (pv 0) (aj aE (pv 1) (pv 4)) (λ _ _=>rfl)) (pv 2) (ax _)))))
    (af (ak (i:=4) scAgain.nd rfl (Or.inl rfl) (aj aE (pv 4) ae))))
   (af (az (pv 4))))),?_⟩
  refine seq_g λ R1 g1=>?_
  refine⟨_,rfl,_,_,rfl,rfl,_,_,rfl,g1 _ _ ?_⟩;clear g1;obtain⟨m,em,hm1⟩:∃m:Nat,(if(272:Int)-((p:Nat):Int)<66 then(272:Int)-((p:Nat):Int) else 66)=((m:Nat):Int)/\m=min 66 (272-p):=⟨min 66 (272-p),by split<;>lia,rfl⟩
  try dsimp only
  rw [em];refine seq_g λ R1 g1=>g1 _ _ ?_
  clear g1;refine seq_g λ R1 g1=>?_
  have hrl:=gK ah (L.drop p);rw [zR] at hrl;refine⟨λ n σ H2=>∃i:Nat,n=m-i/\σ=[some (.ref a),some (vN p),some (vN ah),some (vN m),some (vN i)]/\H2=H/\i≤m/\∀j<i,(L.drop p)[j]?=some ah,⟨m,0,rfl,rfl,rfl,Ap _,λ j hj=>absurd hj (Ec _)⟩,?_⟩;rintro n σ H2 ⟨i,rfl,rfl,rfl,hi,hall⟩;refine⟨_,rfl,_,rfl,_,_,rfl,rfl,_,rfl,aL (λ h1=>?_) (λ h1=>?_)⟩
  ·have h2:i<m:=by have:=zA h1;lia
   have e1:((p:Nat):Int)+((i:Nat):Int)=((p+i:Nat):Int):=by lia
   have l1:p+i<L.length:=by lia
   refine⟨_,rfl,_,rfl,_,rfl,_,_,rfl,rfl,?_⟩
   try dsimp only
   rw [e1];have hgd:(L.drop p)[i]?=some L[p+i]:=by rw [BY,zu l1]
   refine⟨a,_,_,_,rfl,rfl,SqL.of hL,ay (bi l1),_,rfl,rfl,_,rfl,aL (λ h3=>?_) (λ h3=>?_)⟩
   ·have h4:L[p+i]=ah:=vN_inj.mp (zA h3);refine⟨λ σ' H'=>σ'=[some (.ref a),some (vN p),some (vN ah),some (vN m),some (vN (i+1))]/\H'=H2,λ σ' H' z=>⟨m-(i+1),by lia,i+1,rfl,z.1,z.2,by lia,λ j hj=>?_⟩,?_⟩
    ·by_cases e:j=i
     ·subst e;rw [hgd,h4]
     ·exact hall j (by lia)
    ·exact⟨_,rfl,_,_,rfl,rfl,rfl,rfl⟩
   ·refine g1 _ _ ⟨_,rfl,?_⟩;have h4:(L.drop p)[i]?≠some ah:=by
     rw [hgd];intro z;exact h3 (zw (vN_inj.mpr (zS z)))
    rw [qT hall h4,Ck (by lia)] at k;exact k
  ·refine bz (g1 _ _ ⟨_,rfl,?_⟩);have h2:i=m:=by
    have h1':¬(decide ((i:Int)<(m:Int))=true):=h1;have:¬((i:Int)<(m:Int)):=λ z=>h1' (zw z)
    lia
   subst h2;have h5:=mj hall;have e:min 66 (run ah (L.drop p))=i:=by lia
   rw [e] at k;exact k
theorem ul:∀P:List Itm,tots (puts P)≤9*P.length:=by
 intro P;have e:tots (puts P)=(P.map Itm.cost).sum:=fV P;rw [e];clear e
 induction P with
 |nil=>simp
 |cons x P ih=>
  have:x.cost≤9:=by cases x<;>simp [Itm.cost]
  simp;lia
def m7 (C:Addr):Sp:=λ vs H Q _=>∃(p d a:Addr) (N0 T0:Nat) (L:List Nat),vs=[.ref p,.ref a]/\BitsAt C H p d N0 T0/\T0≤1000/\H a=some (.lst (L.map vN))/\L.length=272/\(∀b∈L,b≤6)/\a≠d/\
 ∀(Pp:List Itm) (b:Nat) (H':Hp),Walk L 0 0 Pp 272 b->BitsAt C H' p d (nums (puts Pp) N0) (T0+tots (puts Pp))->(∀c o,H c=some o->c≠p->c≠d->H' c=some o)->Q .non H'
theorem scPutTable:FnScope ["bits","lengths","place","ahead","again"] ["bits","lengths"] (defScope dL):=scK (by decide+kernel)
theorem ok_puttable {fN fA:Addr}{fdN fdA:FuncData}(F:Fn K mg "put_table" dL ["bits","lengths"] f fd)(NT:Fn K mg "need_table" cu ["lengths"] fN fdN)(AF:Fn K mg "again_from" gJ ["lengths","place","ahead"] fA fdA)(B:Bts K mg C):FnOk P w K mg base CX0 32 f fd ["bits","lengths"] (m7 C):=by
 have GN:=jB (P:=P) (w:=w) (base:=base) NT B.R;have X:=B.R.X;have GA:=qI (P:=P) (w:=w) (base:=base) AF X;obtain⟨_,_,W⟩:=B.R.whole;obtain⟨_,_,S⟩:=B.needsize;obtain⟨_,_,O⟩:=B.ones;obtain⟨_,_,Pu⟩:=B.put;obtain⟨_,_,M⟩:=B.move;have T:=B.T;have GP:=iB (P:=P) (w:=w) (base:=base) Pu.F S W O M T X;obtain⟨tm,hm⟩:=X.many;obtain⟨ta,hag⟩:=X.again;obtain⟨tl,hle⟩:=X.leastA;refine F.F.ok scPutTable (λ vs H Q E h=>?_) (λ cdv A outer st H vs Q E hr h=>?_)
 ·obtain⟨p,d,a,N0,T0,L,rfl,_⟩:=h;rfl
 ·obtain⟨p,d,a,N0,T0,L,rfl,hB,hT0,ha,hl,h6,nad,k⟩:=h;have hr3:Room 3 _:=hr.mono (by decide);have nap:a≠p:=by
   obtain⟨dx,_,_,_,hp,_⟩:=hB;exact ne_of ha hp (by intro z;cases z)
  refine⟨_,ac (aA (am GN hr3 (by rfl) NT.m NT.F.kp NT.b .nil ao (aa (pv 1) ad)))
   (ac (ak (i:=2) scPutTable.nd rfl (Or.inl rfl) ae)
   (ac (ak (i:=3) scPutTable.nd rfl (Or.inl rfl) ae)
   (af (bE Aa (ar du (pv 2) (aG (v:=.int 272) (by rfl) hm ⟨tm,rfl⟩) (ax _))
    (ac (ak (i:=4) scPutTable.nd rfl (Or.inl rfl) (am GA hr (by rfl) AF.m AF.F.kp AF.b .nil ao (aa (pv 1) (aa (pv 2) (aa (pv 3) ad)))))
    (af (aK (ar tG (pv 4) (aG (v:=.int 3) (by rfl) hle ⟨tl,rfl⟩) (ax _))
     (ac (aA (aI (pv 0) T.cl Pu.m GP hr3 Pu.b .nil ao (aa (aG (v:=.int 7) (by rfl) hag ⟨ta,rfl⟩) (aa ae ad))))
     (ac (aA (aI (pv 0) T.cl Pu.m GP hr3 Pu.b .nil ao (aa (aj aY (pv 4) (aG (v:=.int 3) (by rfl) hle ⟨tl,rfl⟩)) (aa ae ad))))
     (af (ak (i:=2) scPutTable.nd rfl (Or.inl rfl) (aj aE (pv 2) (pv 4))))))
     (ac (ak (i:=3) scPutTable.nd rfl (Or.inl rfl) (aM aP (pv 1) (pv 2) (λ _ _=>rfl)))
     (ac (aA (aI (pv 0) T.cl Pu.m GP hr3 Pu.b .nil ao (aa (pv 3) (aa ae ad))))
     (af (ak (i:=2) scPutTable.nd rfl (Or.inl rfl) (aj aE (pv 2) ae)))))))))))),?_⟩
  refine seq_g λ R1 g1=>?_
  refine⟨_,rfl,a,L,rfl,ha,hl,h6,g1 _ _ ?_⟩;clear g1;refine seq_g λ R1 g1=>g1 _ _ ?_
  clear g1;refine seq_g λ R1 g1=>g1 _ _ ?_
  clear g1;refine⟨λ n σ H2=>∃(q ah:Nat) (Pp:List Itm) (v4:Option V),n=272-q/\σ=[some (.ref p),some (.ref a),some (vN q),some (vN ah),v4]/\q≤272/\Walk L 0 0 Pp q ah/\BitsAt C H2 p d (nums (puts Pp) N0) (T0+tots (puts Pp))/\(∀c o,H c=some o->c≠p->c≠d->H2 c=some o),
   ⟨272,0,0,[],none,rfl,rfl,by decide,⟨rfl,rfl⟩,hB,λ c o e _ _=>e⟩,?_⟩
  rintro n σ H2 ⟨q,ah,Pp,v4,rfl,rfl,hq,hw,hB2,kp⟩;refine⟨_,rfl,_,_,rfl,rfl,_,rfl,aL (λ hc=>?_) (λ hc=>?_)⟩
  ·have hq2:q<272:=by have:=zA hc;lia
   have hqL:q<L.length:=by lia
   refine⟨λ σ' H'=>∃(q' ah:Nat) (Pp:List Itm) (v4:Option V),q<q'/\σ'=[some (.ref p),some (.ref a),some (vN q'),some (vN ah),v4]/\q'≤272/\Walk L 0 0 Pp q' ah/\BitsAt C H' p d (nums (puts Pp) N0) (T0+tots (puts Pp))/\(∀c o,H c=some o->c≠p->c≠d->H' c=some o),
    λ σ' H' ⟨q',ah,Pp,v4,hlt,z1,z2,z⟩=>⟨272-q',by lia,q',ah,Pp,v4,rfl,z1,z2,z⟩,?_⟩
   have hwl:=b9 hw;have hcl:=ul Pp;have ha2:=kp _ _ ha nap nad;have hws:=cr hw hqL;have hsz:=iT (a:=ah) hqL;refine seq_g λ R2 g2=>?_
   refine⟨_,rfl,_,rfl,_,rfl,a,L,q,ah,rfl,ha2,hl,by lia,g2 _ _ ?_⟩;clear g2;obtain⟨dx,B2,r2,k2,hp2,hd2,br2,hk2⟩:=id hB2;have no:∀r k,(fW d r k).lookup ("put":Str)=none:=λ r k=>cA _ _ _ (by decide+kernel) (by decide+kernel) (by decide+kernel)
   refine⟨_,rfl,_,_,rfl,rfl,_,rfl,aL (λ h3=>?_) (λ h3=>?_)⟩
   ·have h4:3≤min 66 (run ah (L.drop q)):=by have:=zA h3;lia
    have est:stAt L q ah=.rep (min 66 (run ah (L.drop q))):=by unfold stAt;rw [zP h4]
    rw [est] at hws hsz;have hr66:min 66 (run ah (L.drop q))≤66:=by lia
    generalize min 66 (run ah (L.drop q))=r at*;refine⟨_,rfl,p,dx,_,rfl,hp2,no _ _,p,d,_,_,7,3,rfl,hB2,by lia,by decide,by decide,λ H3 hB3 kp3=>?_⟩;obtain⟨dx3,B3,r3,k3,hp3,hd3,br3,hk3⟩:=id hB3;have er:((r:Nat):Int)-3=((r-3:Nat):Int):=by lia
    refine⟨_,rfl,p,dx3,_,rfl,hp3,no _ _,_,rfl,_,_,rfl,rfl,?_⟩
    try dsimp only
    rw [er];refine⟨p,d,_,_,r-3,6,rfl,hB3,by lia,by decide,(by show r-3<2^6;lia),λ H4 hB4 kp4=>?_⟩;refine⟨_,rfl,_,rfl,_,_,rfl,rfl,q+r,ah,Pp++[.rep r],some (vN r),by lia,?_,by have:=hsz.2;show q+r≤272;have e:(Itm.rep r).size=r:=rfl;lia,hws,?_,λ c o e n1 n2=>kp4 _ _ (kp3 _ _ (kp _ _ e n1 n2) n1 n2) n1 n2⟩
    ·have e2:((q:Nat):Int)+((r:Nat):Int)=((q+r:Nat):Int):=by lia
     try dsimp only
     rw [e2];rfl
    ·rw [cO,aT,aw];have e5:T0+(tots (puts Pp)+tots (puts [Itm.rep r]))=T0+tots (puts Pp)+3+6:=by
      have:tots (puts [Itm.rep r])=9:=rfl;lia
     rw [e5];exact hB4
   ·have h4:¬3≤min 66 (run ah (L.drop q)):=λ z=>h3 (zw (by lia))
    have est:stAt L q ah=.one L[q]:=by unfold stAt;rw [zK h4];simp [List.getD,hqL]
    rw [est] at hws;have hx6:L[q]≤6:=h6 _ (Ay hqL);refine⟨_,rfl,_,rfl,a,_,_,_,rfl,rfl,SqL.of ha2,ay (bi hqL),?_⟩;refine⟨_,rfl,p,dx,_,rfl,hp2,no _ _,_,rfl,p,d,_,_,L[q],3,rfl,hB2,by lia,by decide,(by show L[q]<2^3;lia),λ H3 hB3 kp3=>?_⟩;refine⟨_,rfl,_,_,rfl,rfl,q+1,L[q],Pp++[.one L[q]],_,by lia,rfl,by lia,hws,?_,λ c o e n1 n2=>kp3 _ _ (kp _ _ e n1 n2) n1 n2⟩;rw [cO,aT,aw];have e5:T0+(tots (puts Pp)+tots (puts [Itm.one L[q]]))=T0+tots (puts Pp)+3:=by
     have:tots (puts [Itm.one L[q]])=3:=rfl;lia
    rw [e5];exact hB3
  ·have hq2:q=272:=by
    have h1:¬(decide (((q:Nat):Int)<272)=true):=hc;have:¬(((q:Nat):Int)<272):=λ z=>h1 (zw z)
    lia
   subst hq2;exact k Pp ah H2 hw hB2 kp
end
theorem kj:∀(Q:List Itm) (b:Nat),(∀x∈Q,1≤x.size)->Q.length≤(decL b Q).length
 | [],b,_=>zy _
 |x::Q,b,h=>by
  have h1:=kj Q (x.next b) (λ y hy=>h y (zC _ hy));have h2:=bM [x] Q b;have h3:decL b (x::Q)=decL b [x]++decL (x.next b) Q:=h2;rw [h3,zv,lT,zD];have:=h x zH;lia
theorem ii (r a:Nat):(List.replicate r [vN a]).flatten=(List.replicate r a).map vN:=by
 induction r with
 |zero=>rfl
 |succ r ih=>rw [AJ,A4,ih];rfl
section
variable {P : Program} {w : World} {K : PySem.W.Frag} {mg : Str -> Option Value} {base : Heap} {C : Addr}
structure Told (pre post:List (Nat×Nat))(Pp:List Itm)(R:List Nat):Prop where
 row:RowOf (nums (pre++puts Pp++post) 0) (tots (pre++puts Pp++post)) R
 gpost:Good post
 ok:∀x∈Pp,StOk x
theorem Told.len (h:Told pre post Pp R):∃e,8*R.length=tots (pre++puts Pp++post)+e/\val R=nums (pre++puts Pp++post) 0*2^e:=by
 have h1:=h.row.len;have h2:=h.row.num;refine⟨8*R.length-tots (pre++puts Pp++post),by lia,h2⟩
theorem Told.at (h:Told pre post Pp R){A Z:List Itm}{x y:List (Nat×Nat)}{n s:Nat}(e:puts Pp=puts A++x++(n,s)::y++puts Z)(hy:Good y)(hZ:∀z∈Z,StOk z)(hn:n<2^s):
  tots pre+(tots (puts A)+tots x)+s≤8*R.length/\val R/2^(8*R.length-(tots pre+(tots (puts A)+tots x)+s))%2^s=n:=by
 obtain⟨q,hL,hv⟩:=h.len;have e1:pre++puts Pp++post=(pre++puts A++x)++(n,s)::(y++puts Z++post):=by rw [e];simp [zt]
 have g:Good (y++puts Z++post):=by
  intro z hz;rcases zI.mp hz with hz|hz
  ·rcases zI.mp hz with hz|hz
   ·exact hy z hz
   ·exact puts_good hZ z hz
  ·exact h.gpost z hz
 rw [e1] at hL hv;have t:=lO (a:=pre++puts A++x) (c:=y++puts Z++post) (n:=n) (s:=s) g hn (e:=q) (L:=8*R.length) hL;have et:tots (pre++puts A++x)=tots pre+(tots (puts A)+tots x):=by rw [aw,aw];lia
 rw [et] at t;refine⟨?_,by rw [hv];exact t⟩;rw [aw,bL,et] at hL;simp only [] at hL;lia
def o9 (C:Addr):Sp:=λ vs H Q _=>∃(p d:Addr) (R:List Nat) (pre post:List (Nat×Nat)) (Pp:List Itm),vs=[.ref p]/\ReadAt C H p d R (tots pre)/\Told pre post Pp R/\(decL 0 Pp).length=272/\
 ∀(l:Addr) (H':Hp),H l=none->H' l=some (.lst ((decL 0 Pp).map vN))->ReadAt C H' p d R (tots pre+tots (puts Pp))->(∀c o,H c=some o->c≠p->H' c=some o)->Q (.ref l) H'
theorem scItems:FnScope ["reader","lengths","ahead","told"] ["reader"] (defScope ie):=scK (by decide+kernel)
theorem t7 {x:Itm}(h:StOk x):1≤x.size:=by
 cases x with
 |one y=>exact zy _
 |rep r=>obtain⟨h1,h2⟩:3≤r/\r≤66:=h;show 1≤r;lia
theorem rL (F:Fn K mg "lengths_in_items" ie ["reader"] f fd)(D:Rdr K mg C):FnOk P w K mg base CX0 4 f fd ["reader"] (o9 C):=by
 have X:=D.R.X;obtain⟨_,_,W⟩:=D.R.whole;obtain⟨_,_,S⟩:=D.needsize;obtain⟨_,_,O⟩:=D.ones;obtain⟨_,_,BA⟩:=D.bitsat;obtain⟨_,_,Tk⟩:=D.take;obtain⟨_,_,Le⟩:=D.left;have T:=D.T;have GT:=dO (P:=P) (w:=w) (base:=base) Tk.F S W BA O Le T X;obtain⟨tm,hm⟩:=X.many;obtain⟨ta,hag⟩:=X.again;obtain⟨tl,hle⟩:=X.leastA;refine F.F.ok scItems (λ vs H Q E h=>?_) (λ cdv A outer st H vs Q E hr h=>?_)
 ·obtain⟨p,d,R,pre,post,Pp,rfl,_⟩:=h;rfl
 ·obtain⟨p,d,R,pre,post,Pp,rfl,hR,hT,h272,k⟩:=h;refine⟨_,ac (ak (i:=1) scItems.nd rfl (Or.inl rfl) (aW ad))
   (ac (ak (i:=2) scItems.nd rfl (Or.inl rfl) ae)
   (ac (bE Aa (ar du (aq ap (by rfl) X.len zO (aa (pv 1) ad)) (aG (v:=.int 272) (by rfl) hm ⟨tm,rfl⟩) (ax _))
    (ac (ak (i:=3) scItems.nd rfl (Or.inl rfl) (aI (pv 0) T.cl Tk.m GT hr Tk.b .nil ao (aa ae ad)))
    (af (aK (ar bj (pv 3) (aG (v:=.int 7) (by rfl) hag ⟨ta,rfl⟩) (ax _))
     (af (aA (cH Af Dm PySem.F.type_list_extend jc (pv 1) (aa (aj gM (aW (aa (pv 2) ad)) (aj aE (aI (pv 0) T.cl Tk.m GT hr Tk.b .nil ao (aa ae ad)) (aG (v:=.int 3) (by rfl) hle ⟨tl,rfl⟩))) ad))))
     (ac (ak (i:=2) scItems.nd rfl (Or.inl rfl) (pv 3))
     (af (aA (cH Af AG AL a6 (pv 1) (aa (pv 2) ad)))))))))
   (af (az (pv 1))))),?_⟩
  refine seq_g λ R1 g1=>?_
  refine⟨by decide,λ l nl=>g1 _ _ ?_⟩;clear g1;have s0:=ai (o:=.lst []) nl;refine seq_g λ R1 g1=>g1 _ _ ?_
  clear g1;refine seq_g λ R1 g1=>?_
  have npl:p≠l:=by obtain⟨⟨dx,hp⟩,_⟩:=hR;exact ag hp nl
  have ndl:d≠l:=ag hR.ls nl;refine⟨λ n σ H2=>∃(i:Nat) (v3:Option V),n=Pp.length-i/\i≤Pp.length/\σ=[some (.ref p),some (.ref l),some (vN (nxtS 0 (Pp.take i))),v3]/\H2 l=some (.lst ((decL 0 (Pp.take i)).map vN))/\ReadAt C H2 p d R (tots pre+tots (puts (Pp.take i)))/\(∀c o,H c=some o->c≠p->H2 c=some o),
   ⟨Pp.length,0,none,rfl,Ap _,rfl,upd_same,⟨hR.ob.elim λ dx hp=>⟨dx,s0 _ _ hp⟩,s0 _ _ hR.ls,hR.by',hR.le⟩,λ c o e _=>s0 _ _ e⟩,?_⟩
  rintro n σ H2 ⟨i,v3,rfl,hi,rfl,h2l,hR2,kp⟩;refine⟨_,rfl,l,_,rfl,.inl (SqL.of h2l),_,_,rfl,rfl,_,rfl,aL (λ hc=>?_) (λ hc=>?_)⟩
  ·clear g1;have hlt:(decL 0 (Pp.take i)).length<272:=by have:=zA hc;rw [zr] at this;lia
   have hiP:i<Pp.length:=by
    rcases AB i Pp.length with h|h
    ·exact h
    ·rw [Ad h] at hlt;lia
   have hPi:Pp[i]?=some Pp[i]:=zu hiP;have esp:Pp=Pp.take i++Pp[i]::Pp.drop (i+1):=by
    conv=>lhs;rw [<-zM i Pp,AH hiP]
   have etk:Pp.take (i+1)=Pp.take i++[Pp[i]]:=by rw [AO,hPi];rfl
   have hok:=hT.ok Pp[i] (Ay hiP);have hokZ:∀z∈Pp.drop (i+1),StOk z:=λ z hz=>hT.ok z (A1 hz)
   have eputs:puts Pp=puts (Pp.take i)++Pp[i].puts++puts (Pp.drop (i+1)):=by
    conv=>lhs;rw [esp]
    rw [cO,zt];rfl
   have e272:decL 0 Pp=decL 0 (Pp.take i)++(decL (nxtS 0 (Pp.take i)) [Pp[i]]++decL (Pp[i].next (nxtS 0 (Pp.take i))) (Pp.drop (i+1))):=by
    conv=>lhs;rw [esp]
    rw [bM];have:=bM [Pp[i]] (Pp.drop (i+1)) (nxtS 0 (Pp.take i));exact Bk _ this
   have hle2:(decL 0 (Pp.take i)).length+Pp[i].size≤272:=by
    have:=Bk List.length e272;rw [h272,zv,zv,lT] at this;lia
   have en:nxtS 0 (Pp.take (i+1))=Pp[i].next (nxtS 0 (Pp.take i)):=by rw [etk,jj]
   have ed:decL 0 (Pp.take (i+1))=decL 0 (Pp.take i)++decL (nxtS 0 (Pp.take i)) [Pp[i]]:=by rw [etk,f6]
   have ep:tots (puts (Pp.take (i+1)))=tots (puts (Pp.take i))+tots Pp[i].puts:=by
    rw [etk,cO,aw];congr 1;simp [puts]
   refine⟨λ σ' H'=>∃v3:Option V,σ'=[some (.ref p),some (.ref l),some (vN (nxtS 0 (Pp.take (i+1)))),v3]/\H' l=some (.lst ((decL 0 (Pp.take (i+1))).map vN))/\ReadAt C H' p d R (tots pre+tots (puts (Pp.take (i+1))))/\(∀c o,H c=some o->c≠p->H' c=some o),
    λ σ' H' ⟨v3,z⟩=>⟨Pp.length-(i+1),by lia,i+1,v3,rfl,hiP,z⟩,?_⟩
   rw [en,ed,ep];generalize nxtS 0 (Pp.take i)=ah at*;generalize hX:Pp[i]=xx at*;have hrd:∀(t:Nat) (H3:Hp),ReadAt C H3 p d R t->∃dx,H3 p=some (.ins C dx (fR d t)):=λ t H3 h=>h.ob
   have no:∀t,(fR d t).lookup ("take":Str)=none:=λ t=>cJ _ _ (by decide+kernel) (by decide+kernel)
   obtain⟨dx,hp2⟩:=hR2.ob;cases xx with
   |one y=>
    have hy6:y≤6:=hok;obtain⟨b1,b2⟩:=hT.at (A:=Pp.take i) (x:=[]) (n:=y) (s:=3) (y:=[]) (Z:=Pp.drop (i+1)) (by rw [eputs];simp [Itm.puts]) (λ _ h=>by simp at h) hokZ (by show y<2^3;lia);have ez:tots ([]:List (Nat×Nat))=0:=rfl;simp only [ez,Bw] at b1 b2;refine seq_g λ R2 g2=>?_
    refine⟨_,rfl,p,dx,_,rfl,hp2,no _,p,d,R,_,3,rfl,hR2,by decide,b1,λ H3 hR3 kp3=>g2 _ _ ?_⟩;clear g2;rw [b2];have h3l:=kp3 _ _ h2l npl.symm;refine⟨_,rfl,rfl,_,rfl,aL (λ h=>?_) (λ _=>?_)⟩
    ·have:y=7:=vN_inj.mp (zA h);lia
    refine⟨_,rfl,_,rfl,.inl ⟨rfl,_,SqL.of h3l⟩,_,rfl,l,_,_,rfl,rfl,h3l,aX (by rw [zr];lia),some (vN y),rfl,?_,?_,λ c o e n1=>?_⟩
    ·rw [upd_same,zG];rfl
    ·obtain⟨⟨dx3,hp3⟩,hd3,hb3,ht3⟩:=hR3;exact⟨⟨dx3,by rw [upd_ne npl];exact hp3⟩,by rw [upd_ne ndl];exact hd3,hb3,ht3⟩
    ·rw [upd_ne (ag e nl)];exact kp3 _ _ (kp _ _ e n1) n1
   |rep r=>
    obtain⟨r1,r2⟩:3≤r/\r≤66:=hok;have hsz:(Itm.rep r).size=r:=rfl;rw [hsz] at hle2;obtain⟨b1,b2⟩:=hT.at (A:=Pp.take i) (x:=[]) (n:=7) (s:=3) (y:=[(r-3,6)]) (Z:=Pp.drop (i+1)) (by rw [eputs];simp [Itm.puts]) (λ z h=>by simp at h;rw [h];show r-3<2^6;lia) hokZ (by decide);obtain⟨b3,b4⟩:=hT.at (A:=Pp.take i) (x:=[(7,3)]) (n:=r-3) (s:=6) (y:=[]) (Z:=Pp.drop (i+1)) (by rw [eputs];simp [Itm.puts]) (λ _ h=>by simp at h) hokZ (by show r-3<2^6;lia);have ez:tots ([]:List (Nat×Nat))=0:=rfl;have ez3:tots ([(7,3)]:List (Nat×Nat))=3:=rfl;simp only [ez,Bw] at b1 b2;simp only [ez3,<-Bc] at b3 b4;refine seq_g λ R2 g2=>?_
    refine⟨_,rfl,p,dx,_,rfl,hp2,no _,p,d,R,_,3,rfl,hR2,by decide,b1,λ H3 hR3 kp3=>g2 _ _ ?_⟩;clear g2;rw [b2];have h3l:=kp3 _ _ h2l npl.symm;refine⟨_,rfl,rfl,_,rfl,aL (λ _=>?_) (λ h=>absurd (zw rfl) h)⟩;refine⟨_,rfl,.inl ⟨rfl,_,SqL.of h3l⟩,_,rfl,(by show 1≤sizeLine;decide),λ l4 n4=>?_⟩;have s4:=ai (o:=.lst [vN ah]) n4;obtain⟨⟨dx3,hp3⟩,hd3,hb3,ht3⟩:=id hR3;have hR4:ReadAt C (upd H3 l4 (.lst [vN ah])) p d R (tots pre+tots (puts (Pp.take i))+3):=⟨⟨dx3,s4 _ _ hp3⟩,s4 _ _ hd3,hb3,ht3⟩;have h4l:=s4 _ _ h3l;have h44:(upd H3 l4 (.lst [vN ah])) l4=some (.lst [vN ah]):=upd_same;have np4:p≠l4:=ag hp3 n4;have nl4:l≠l4:=ag h3l n4;generalize upd H3 l4 (.lst [vN ah])=H4 at*;refine⟨_,rfl,p,dx3,_,rfl,s4 _ _ hp3,no _,p,d,R,_,6,rfl,hR4,by decide,b3,λ H5 hR5 kp5=>?_⟩;rw [b4];have h54:=kp5 _ _ h44 np4.symm;have h5l:=kp5 _ _ h4l npl.symm;have er:((r-3:Nat):Int)+3=((r:Nat):Int):=by lia
    refine⟨_,_,rfl,rfl,?_⟩
    try dsimp only
    rw [er];refine⟨l4,_,_,rfl,rfl,h54,by lia,by lia,eB (by rw [zV];show 1*r≤2000;lia),λ l6 n6=>?_⟩
    try dsimp only
    rw [zV,ii];have s6:=ai (o:=.lst ((List.replicate r ah).map vN)) n6;have h66:(upd H5 l6 (.lst ((List.replicate r ah).map vN))) l6=some (.lst ((List.replicate r ah).map vN)):=upd_same;have h6l:=s6 _ _ h5l;obtain⟨⟨dx5,hp5⟩,hd5,hb5,ht5⟩:=id hR5;have hp6:=s6 _ _ hp5;have hd6:=s6 _ _ hd5;generalize upd H5 l6 (.lst ((List.replicate r ah).map vN))=H6 at*;refine⟨l,l6,_,_,rfl,rfl,h6l,h66,eB (by rw [zr,zr,AR];lia),some (vN 7),rfl,?_,?_,λ c o e n1=>?_⟩
    ·rw [upd_same,zG];simp [decL]
    ·have et:tots pre+(tots (puts (Pp.take i))+tots (Itm.rep r).puts)=tots pre+tots (puts (Pp.take i))+3+6:=by
      have:tots (Itm.rep r).puts=9:=rfl;lia
     rw [et];exact⟨⟨dx5,by rw [upd_ne npl];exact hp6⟩,by rw [upd_ne ndl];exact hd6,hb5,ht5⟩
    ·rw [upd_ne (ag e nl)];exact s6 _ _ (kp5 _ _ (s4 _ _ (kp3 _ _ (kp _ _ e n1) n1)) n1)
  ·have hge:272≤(decL 0 (Pp.take i)).length:=by
    have h1:¬(decide ((((decL 0 (Pp.take i)).map vN).length:Int)<272)=true):=hc;rw [zr] at h1;have:¬(((decL 0 (Pp.take i)).length:Int)<272):=λ z=>h1 (zw z)
    lia
   have hi2:i=Pp.length:=by
    rcases AB i Pp.length with h|h
    ·have e:=bM (Pp.take i) (Pp.drop i) 0;rw [zM] at e;have e2:=Bk List.length e;rw [h272,zv] at e2;have h3:=kj (Pp.drop i) (nxtS 0 (Pp.take i)) (λ x hx=>t7 (hT.ok x (A1 hx)));rw [zR] at h3;lia
    ·lia
   subst hi2;rw [An] at h2l hR2;exact g1 _ _ ⟨_,rfl,k l H2 nl h2l hR2 kp⟩
theorem scTakeTable:FnScope ["reader","begin","lengths"] ["reader"] (defScope de):=scK (by decide+kernel)
theorem ok_taketable {fI:Addr}{fdI:FuncData}(F:Fn K mg "take_table" de ["reader"] f fd)(It:Fn K mg "lengths_in_items" ie ["reader"] fI fdI)(D:Rdr K mg C):FnOk P w K mg base CX0 5 f fd ["reader"] (o9 C):=by
 have GI:=rL (P:=P) (w:=w) (base:=base) It D;have X:=D.R.X;obtain⟨_,_,Pl⟩:=D.place;have T:=D.T;have GP:=gQ (P:=P) (w:=w) (base:=base) (mg:=mg) Pl.F T;obtain⟨tm,hm⟩:=X.many;refine F.F.ok scTakeTable (λ vs H Q E h=>?_) (λ cdv A outer st H vs Q E hr h=>?_)
 ·obtain⟨p,d,R,pre,post,Pp,rfl,_⟩:=h;rfl
 ·obtain⟨p,d,R,pre,post,Pp,rfl,hR,hT,h272,k⟩:=h;have hr1:Room 1 _:=hr.mono (by decide);refine⟨_,ac (ak (i:=1) scTakeTable.nd rfl (Or.inl rfl) (bh (pv 0) T.cl Pl.m GP hr1 Pl.b .nil ao))
   (ac (jM (af (ak (i:=2) scTakeTable.nd rfl (Or.inl rfl) (am GI hr (by rfl) It.m It.F.kp It.b .nil ao (aa (pv 0) ad)))))
   (ac (aK (ar bQ (aq ap (by rfl) X.len zO (aa (pv 2) ad)) (aG (v:=.int 272) (by rfl) hm ⟨tm,rfl⟩) (ax _)) pL aC)
   (af (az (pv 2))))),?_⟩
  obtain⟨dx,hp⟩:=hR.ob;refine⟨_,rfl,p,dx,_,rfl,hp,cJ _ _ (by decide+kernel) (by decide+kernel),p,d,R,_,rfl,hR,?_⟩;refine⟨_,rfl,p,d,R,pre,post,Pp,rfl,hR,hT,h272,λ l H2 nl h2l hR2 kp=>?_⟩;refine⟨_,rfl,l,_,rfl,.inl (SqL.of h2l),_,_,rfl,rfl,_,rfl,aL (λ h=>?_) (λ _=>?_)⟩
  ·have:=zA h;rw [zr,h272] at this;lia
  ·exact⟨_,rfl,k l H2 nl h2l hR2 kp⟩
end
end K20.Tb
namespace C9
variable {j p q : Nat} {L : List Nat}
def ed (L:List Nat):Nat->Nat
 |0=>0
 |j+1=>2*ed L j+L.count (j+1)
def cdAt (L:List Nat)(q s:Nat):Nat:=2*ed L (s-1)+(L.take q).count s
def itm (L:List Nat)(j p q:Nat):Option (Nat×Nat):=if 1≤L.getD q 0/\(L.getD q 0≤j\/(L.getD q 0=j+1/\q<p)) then some (cdAt L q (L.getD q 0),L.getD q 0) else none
def row (L:List Nat)(j p:Nat):List (Option (Nat×Nat)):=(List.range L.length).map (itm L j p)
def codes (L:List Nat):List (Option (Nat×Nat)):=row L 12 0
theorem aV (L:List Nat)(j p:Nat):(row L j p).length=L.length:=by simp [row]
theorem cg (h:q<L.length):(row L j p)[q]?=some (itm L j p q):=by simp [row,h]
theorem tL (L:List Nat):row L 0 0=List.replicate L.length none:=by
 apply Be;intro q;by_cases h:q<L.length
 ·rw [cg h,Cc,zP h];congr 1;unfold itm;rw [zK (by lia)]
 ·rw [AD (by rw [aV];lia),AD (by rw [AR];lia)]
theorem sG (L:List Nat)(j:Nat):row L j L.length=row L (j+1) 0:=by
 apply Be;intro q;by_cases h:q<L.length
 ·rw [cg h,cg h];congr 1;unfold itm;by_cases c:1≤L.getD q 0/\(L.getD q 0≤j\/(L.getD q 0=j+1/\q<L.length))
  ·rw [zP c,zP (by lia)]
  ·rw [zK c,zK (by lia)]
 ·rw [AD (by rw [aV];lia),AD (by rw [aV];lia)]
theorem u5 (h:L[p]?=some (j+1)):row L j (p+1)=(row L j p).set p (some (cdAt L p (j+1),j+1)):=by
 have hp:p<L.length:=(zz.mp h).1;have hg:L.getD p 0=j+1:=by rw [Ab,h];rfl
 apply Be;intro q;by_cases e:p=q
 ·subst e;rw [cg hp,BE (by rw [aV];exact hp)];congr 1;unfold itm;rw [hg,zP (by lia)]
 ·rw [CG e];by_cases hq:q<L.length
  ·rw [cg hq,cg hq];congr 1;unfold itm;by_cases c:1≤L.getD q 0/\(L.getD q 0≤j\/(L.getD q 0=j+1/\q<p))
   ·rw [zP c,zP (by lia)]
   ·rw [zK c,zK (by lia)]
  ·rw [AD (by rw [aV];lia),AD (by rw [aV];lia)]
theorem tz (h:L[p]?≠some (j+1)):row L j (p+1)=row L j p:=by
 apply Be;intro q;by_cases hq:q<L.length
 ·rw [cg hq,cg hq];congr 1;unfold itm;have hne:q=p->L.getD q 0≠j+1:=by
   rintro rfl e;apply h;rw [Ab,zu hq] at e;rw [zu hq];exact Bk some e
  by_cases c:1≤L.getD q 0/\(L.getD q 0≤j\/(L.getD q 0=j+1/\q<p))
  ·rw [zP c,zP (by lia)]
  ·rw [zK c,zK (by
    intro z;apply c;refine⟨z.1,?_⟩;rcases z.2 with z|⟨z1,z2⟩
    ·exact .inl z
    ·refine .inr ⟨z1,?_⟩;have:q≠p:=λ e=>hne e z1
     lia)]
 ·rw [AD (by rw [aV];lia),AD (by rw [aV];lia)]
theorem pk (L:List Nat)(j p:Nat):cdAt L p (j+1)=2*ed L j+(L.take p).count (j+1):=rfl
theorem lX (h:L[p]?=some (j+1)):cdAt L (p+1) (j+1)=cdAt L p (j+1)+1:=by
 unfold cdAt;rw [AO,h,BN];simp;lia
theorem qw (h:L[p]?≠some (j+1)):cdAt L (p+1) (j+1)=cdAt L p (j+1):=by
 unfold cdAt;rw [AO,BN];cases e:L[p]? with
 |none=>simp
 |some z=>
  rw [e] at h;have:z≠j+1:=λ q=>h (by rw [q])
  simp [List.count_singleton,this]
theorem lL (L:List Nat)(j:Nat):cdAt L L.length (j+1)=ed L (j+1):=by
 rw [pk,An];rfl
theorem oP (L:List Nat)(a:Nat):∀d,2^d*ed L a≤ed L (a+d)
 |0=>by simp
 |d+1=>by
  have:=oP L a d;show _≤2*ed L (a+d)+_;rw [AZ];have:2^d*2*ed L a=2*(2^d*ed L a):=by rw [AQ (2^d) 2,AT]
  lia
theorem wq (L:List Nat):∀j,ed L j+L.length≤L.length*2^j
 |0=>by simp [ed]
 |j+1=>by
  have:=wq L j;have:=List.count_le_length (a:=j+1) (l:=L);rw [ed,AZ,<-AT];lia
theorem px {s:Nat}(h:L[q]?=some s)(hs:1≤s):cdAt L q s<ed L s:=by
 obtain⟨j,rfl⟩:∃j,s=j+1:=⟨s-1,by lia⟩;have h1:=lX (j:=j) h;have h2:cdAt L (q+1) (j+1)≤ed L (j+1):=by
  rw [<-lL];unfold cdAt;have:List.count (j+1) (List.take (q+1) L)≤List.count (j+1) (List.take L.length L):=by
   rw [An];exact List.Sublist.count_le _ (B4 _ _)
  lia
 lia
theorem x4 {q1 q2 s1 s2:Nat}(h1:L[q1]?=some s1)(p1:1≤s1)(lt:s1<s2):cdAt L q2 s2/2^(s2-s1)≠cdAt L q1 s1:=by
 have a:=px h1 p1;have b:2^(s2-s1)*ed L s1≤cdAt L q2 s2:=by
  have:=oP L s1 (s2-1-s1);rw [show s1+(s2-1-s1)=s2-1 by lia] at this;rw [show s2-s1=(s2-1-s1)+1 by lia,AZ];unfold cdAt;have e:2^(s2-1-s1)*2*ed L s1=2*(2^(s2-1-s1)*ed L s1):=by rw [AQ (2^(s2-1-s1)) 2,AT]
  lia
 have c:ed L s1≤cdAt L q2 s2/2^(s2-s1):=(Nat.le_div_iff_mul_le (Cs (by decide))).mpr (by rw [AQ];exact b);lia
def krf (m:Nat)(L:List Nat):Nat:=((L.filter (λ l=>decide (0<l))).map (λ l=>2^(m-l))).sum
theorem oB (m:Nat)(L M:List Nat):krf m (L++M)=krf m L+krf m M:=by
 unfold krf;rw [z7,zG,Bp]
theorem krf_up {m:Nat}(hm:m≤12):∀L:List Nat,(∀l∈L,l≤m)->krf 12 L=2^(12-m)*krf m L
 | [],_=>rfl
 |a::L,h=>by
  have ih:=krf_up hm L λ l z=>h l (zC _ z)
  have ha:=h a zH;unfold krf at ih ⊢;by_cases c:0<a
  ·simp only [BW,c,decide_true,if_true,z8,Az];rw [ih,Bt,<-Bx];congr 2;lia
  ·simp only [BW,c,decide_false,BJ,if_false];exact ih
structure Good (L:List Nat):Prop where
 ne:1≤L.length
 le:L.length≤300
 most:∀l∈L,l≤12
 some:∃l∈L,0<l
 room:krf 12 L≤4096
end C9
namespace C10
open BP C9
variable {q r s : Nat} {u : List Bool} {L : List Nat}
def kle (L:List Nat)(j:Nat):Nat:=krf 12 (L.filter λ l=>decide (l≤j))
theorem dZ (p:Nat->Bool):∀L:List Nat,krf 12 (L.filter p)≤krf 12 L
 | []=>zy _
 |a::L=>by
  have ih:=dZ p L;have e:∀M:List Nat,krf 12 (a::M)=krf 12 [a]+krf 12 M:=λ M=>oB 12 [a] M
  by_cases h:p a=true
  ·rw [zQ h,e (L.filter p),e L];lia
  ·rw [zY h,e L];lia
theorem rB (L:List Nat)(j:Nat):kle L (j+1)=kle L j+L.count (j+1)*2^(12-(j+1)):=by
 induction L with
 |nil=>simp [kle]
 |cons a L ih=>
  have e:∀M:List Nat,krf 12 (a::M)=krf 12 [a]+krf 12 M:=λ M=>oB 12 [a] M
  unfold kle at ih ⊢;rw [Ct];by_cases h1:a≤j
  ·rw [zQ (by simp;lia),zQ (by simpa using h1),e (L.filter λ l=>decide (l≤j+1)),e (L.filter λ l=>decide (l≤j)),ih,zK (by simp;lia)];simp only [Bw];lia
  ·by_cases h2:a=j+1
   ·subst h2;rw [zQ (by simp),zY (by simp),e (L.filter λ l=>decide (l≤j+1)),ih,zP (by simp)];have:krf 12 [j+1]=2^(12-(j+1)):=by
     unfold krf;simp
    rw [this,Cb,Ef];lia
   ·rw [zY (by simp;lia),zY (by simpa using h1),ih,zK (by simpa using h2)];simp only [Bw]
theorem rf (L:List Nat):∀j,j≤12->ed L j*2^(12-j)=kle L j
 |0,_=>by
  unfold kle krf;have:((L.filter λ l=>decide (l≤0)).filter λ l=>decide (0<l))=[]:=by
   rw [List.filter_filter,A8];intro a _;simp;lia
  rw [this];simp [ed]
 |j+1,h=>by
  have ih:=rf L j (by lia);rw [rB,<-ih];show(2*ed L j+L.count (j+1))*2^(12-(j+1))=_;rw [Cb,show 12-j=(12-(j+1))+1 by lia,AZ];congr 1;rw [AQ 2,AT,AQ 2]
theorem wY (g:Good L){j:Nat}(hj:j≤12):ed L j≤2^j:=by
 have h:=rf L j hj;have h1:kle L j≤4096:=AM (dZ _ L) g.room;have h2:2^j*2^(12-j)=4096:=by rw [<-Bx,show j+(12-j)=12 by lia]
 rw [<-h,<-h2] at h1;exact Nat.le_of_mul_le_mul_right h1 (Cs (by decide))
theorem mx (g:Good L)(h:L[q]?=some s):s≤12:=g.most s (AK h)
theorem cd_lt (g:Good L)(h:L[q]?=some s)(hs:1≤s):cdAt L q s<2^s:=
 Am (px h hs) (wY g (mx g h))
theorem sL (h1:L[q]?=some s)(h2:L[r]?=some s)(e:cdAt L q s=cdAt L r s):q=r:=by
 have key:∀q r:Nat,L[q]?=some s->q<r->(L.take q).count s<(L.take r).count s:=λ q r h1 h=>by
  have e1:L.take (q+1)=L.take q++[s]:=by rw [AO,h1];rfl
  have e2:(L.take (q+1)).count s=(L.take q).count s+1:=by rw [e1,BN];simp
  have e3:(L.take (q+1)).count s≤(L.take r).count s:=by
   have:L.take (q+1)=(L.take r).take (q+1):=by rw [Ed,BS (by lia)]
   rw [this];exact List.Sublist.count_le _ (B4 _ _)
  lia
 unfold cdAt at e;rcases Nat.lt_trichotomy q r with h|h|h
 ·have:=key q r h1 h;lia
 ·exact h
 ·have:=key r q h2 h;lia
def c8 (L:List Nat)(u:List Bool)(q:Nat):Prop:=L[q]?=some u.length/\1≤u.length/\cdAt L q u.length=num u
def Beg (L:List Nat)(u:List Bool):Prop:=∃q s,L[q]?=some s/\u.length<s/\cdAt L q s/2^(s-u.length)=num u
theorem iC (h:c8 L u q)(b:Beg L u):False:=by
 obtain⟨h1,h2,h3⟩:=h;obtain⟨q2,s2,b1,b2,b3⟩:=b;exact x4 h1 h2 b2 (b3.trans h3.symm)
theorem mC (h:c8 L u q)(h':c8 L u r):q=r:=sL h.1 h'.1 (h.2.2.trans h'.2.2.symm)
inductive Res where
 |thing (q s:Nat)
 |bad
 |none
def Due (L:List Nat)(rest:List Bool):Res->Prop
 | .thing q s=>s≤rest.length/\c8 L (rest.take s) q/\∀j<s,Beg L (rest.take j)
 | .bad=>∃s,s≤rest.length/\(∀j<s,Beg L (rest.take j))/\¬Beg L (rest.take s)/\∀q,¬c8 L (rest.take s) q
 | .none=>∀j≤rest.length,Beg L (rest.take j)
theorem Due.uniq {rest:List Bool}{a b:Res}(ha:Due L rest a)(hb:Due L rest b):a=b:=by
 have tt:∀{q s q' s'},Due L rest (.thing q s)->Due L rest (.thing q' s')->s≤s':=λ {q s q' s'} h h'=>by
  rcases AB s' s with c|c
  ·exact(iC h'.2.1 (h.2.2 s' c)).elim
  ·exact c
 have tb:∀{q s},Due L rest (.thing q s)->Due L rest .bad->False:=λ {q s} h ⟨r,h1,h2,h3,h4⟩=>by
  rcases Nat.lt_trichotomy s r with c|c|c
  ·exact iC h.2.1 (h2 s c)
  ·subst c;exact h4 q h.2.1
  ·exact h3 (h.2.2 r c)
 have tn:∀{q s},Due L rest (.thing q s)->Due L rest .none->False:=λ {q s} h h'=>iC h.2.1 (h' s h.1)
 have bn:Due L rest .bad->Due L rest .none->False:=λ⟨r,h1,h2,h3,h4⟩ h'=>h3 (h' r h1)
 cases a with
 |thing q s=>
  cases b with
  |thing q' s'=>
   have e:s=s':=Nat.le_antisymm (tt ha hb) (tt hb ha);subst e;rw [mC ha.2.1 hb.2.1]
  |bad=>exact(tb ha hb).elim
  |none=>exact(tn ha hb).elim
 |bad=>
  cases b with
  |thing q' s'=>exact(tb hb ha).elim
  |bad=>rfl
  |none=>exact(bn ha hb).elim
 |none=>
  cases b with
  |thing q' s'=>exact(tn hb ha).elim
  |bad=>exact(bn hb ha).elim
  |none=>rfl
theorem num_inj:∀{a b:List Bool},a.length=b.length->num a=num b->a=b
 | [],[],_,_=>rfl
 |x::a,y::b,h,e=>by
  have hl:a.length=b.length:=by simpa using h
  rw [eG,eG,hl] at e;have h1:=num_lt a;have h2:=num_lt b;rw [hl] at h1;have exy:x=y:=by
   cases x<;>cases y<;>first|rfl|(exfalso;simp at e;lia)
  subst exy;rw [num_inj hl (by lia)]
theorem num_take (u:List Bool){k:Nat}(h:k≤u.length):num (u.take k)=num u/2^(u.length-k):=by
 have e:num u=num (u.take k)*2^(u.length-k)+num (u.drop k):=by
  have:=eD (u.take k) (u.drop k);rw [zM,zR] at this;exact this
 have hlt:=num_lt (u.drop k);rw [zR] at hlt;rw [e,AQ,C4 (Cs (by decide)),CO hlt];rfl
def wd (c:Nat×Nat):List Bool:=dig c.1 c.2
theorem wd_num (g:Good L)(h:L[q]?=some s)(hs:1≤s):num (wd (cdAt L q s,s))=cdAt L q s:=by
 unfold wd;rw [jI];exact Cj (cd_lt g h hs)
theorem i8 (g:Good L):(codes L)[q]?=if q<L.length then some (if 1≤L.getD q 0 then some (cdAt L q (L.getD q 0),L.getD q 0) else none) else none:=by
 unfold codes;by_cases h:q<L.length
 ·rw [cg h,zP h];congr 1;unfold itm;have:L.getD q 0≤12:=by
   rw [Ab,zu h];exact g.most _ (Ay h)
  by_cases c:1≤L.getD q 0
  ·rw [zP ⟨c,.inl this⟩,zP c]
  ·rw [zK (λ z=>c z.1),zK c]
 ·rw [zK h,AD (by rw [aV];lia)]
theorem nk (g:Good L){c:Nat×Nat}(h:(codes L)[q]?=some (some c)):L[q]?=some c.2/\1≤c.2/\c.1=cdAt L q c.2:=by
 rw [i8 g] at h
 split at h
 ·rename_i hq
  injection h with h
  split at h
  ·rename_i h1
   cases h;refine⟨?_,h1,rfl⟩;rw [Ab,zu hq];rfl
  ·cases h
 ·cases h
theorem codes_of_get (g:Good L)(h:L[q]?=some s)(hs:1≤s):(codes L)[q]?=some (some (cdAt L q s,s)):=by
 have hq:=(zz.mp h).1;have e:L.getD q 0=s:=by rw [Ab,h];rfl
 rw [i8 g,zP hq,e,zP hs]
end C10
set_option maxHeartbeats 4000000
namespace L2
open PySem PySem.Spec PyProof.Rows QQ
variable {h' : Heap} {s : Shared} {H H' : Hp} {a b : Addr} {kvs : List (List Key×V)} {Q : Value->Shared->Prop} {u : Value} {xs : List (List Key×Addr×Value)} {o : Option V} {σ : St} {w : World} {v y : V} {P : Program}
section
variable {κ : Type} [DecidableEq κ]
def bx (kvs:List (κ×V))(k:κ):Option V:=(kvs.find? λ kv=>decide (kv.1=k)).map (·.2)
def putK (kvs:List (κ×V))(k:κ)(v:V):List (κ×V):=
 if(kvs.any λ kv=>decide (kv.1=k))=true then kvs.map (λ kv=>if kv.1=k then(kv.1,v) else kv) else kvs++[(k,v)]
def wg (kvs:List (κ×V))(k:κ):List (κ×V):=kvs.filter λ kv=>decide (kv.1≠k)
theorem bp {p:κ×V}{r:List (κ×V)}{k:κ}(e:p.1=k):bx (p::r) k=some p.2:=by simp [bx,Cz,e]
theorem bo {p:κ×V}{r:List (κ×V)}{k:κ}(e:¬p.1=k):bx (p::r) k=bx r k:=by simp [bx,Cz,e]
theorem eZ (k:κ):∀kvs:List (κ×V),(kvs.any λ kv=>decide (kv.1=k))=(bx kvs k).isSome
 | []=>rfl
 |p::r=>by
  rw [List.any_cons];by_cases e:p.1=k
  ·simp only [bp e,zw e,Bool.true_or,Option.isSome_some]
  ·rw [bo e,AC e,Bool.false_or];exact eZ k r
theorem kh (k j:κ)(y:V):∀kvs:List (κ×V),bx (kvs.map λ kv=>if kv.1=k then(kv.1,y) else kv) j=(bx kvs j).map λ x=>if j=k then y else x
 | []=>rfl
 |p::r=>by
  have ih:=kh k j y r;rw [z8];by_cases h:p.1=k
  ·rw [zP h];by_cases e:p.1=j
   ·rw [bp (p:=(p.1,y)) e,bp e,B5,zP (e.symm.trans h)]
   ·rw [bo (p:=(p.1,y)) e,bo e,ih]
  ·rw [zK h];by_cases e:p.1=j
   ·rw [bp (p:=p) e,bp e,B5,zK (λ z=>h (e.trans z))]
   ·rw [bo (p:=p) e,bo e,ih]
theorem iV (k j:κ)(y:V):∀kvs:List (κ×V),bx kvs k=none->bx (kvs++[(k,y)]) j=if j=k then some y else bx kvs j
 | [],_=>by
  by_cases e:k=j
  ·rw [zP e.symm];exact bp (p:=(k,y)) e
  ·rw [zK (λ z=>e z.symm)];exact bo (p:=(k,y)) e
 |p::r,hn=>by
  rw [D9];have hk:¬p.1=k:=λ z=>by rw [bp z] at hn;cases hn
  rw [bo hk] at hn;have ih:=iV k j y r hn;by_cases e:p.1=j
  ·rw [bp e,bp e,zK (λ z=>hk (e.trans z))]
  ·rw [bo e,bo e,ih]
theorem iF (kvs:List (κ×V))(k j:κ)(y:V):bx (putK kvs k y) j=if j=k then some y else bx kvs j:=by
 unfold putK;by_cases a:(kvs.any λ kv=>decide (kv.1=k))=true
 ·rw [zP a,kh];rw [eZ] at a;by_cases e:j=k
  ·obtain⟨x,hx⟩:=Option.isSome_iff_exists.mp a;rw [zP e,e,hx,B5,zP rfl]
  ·rw [zK e];cases bx kvs j with
   |none=>rfl
   |some x=>rw [B5,zK e]
 ·rw [zK a];refine iV k j y kvs ?_;rw [eZ] at a;cases q:bx kvs k with
  |none=>rfl
  |some x=>rw [q] at a;exact(a rfl).elim
theorem cM (kvs:List (κ×V))(k:κ)(v:V):(putK kvs k v).length≤kvs.length+1:=by
 unfold putK
 split
 ·rw [zr];lia
 ·rw [zv,zD,List.length_nil];lia
theorem RelO.isSome_eq {u:Option Value}(r:RelO o u):o.isSome=u.isSome:=by
 cases o with
 |none=>cases u with
  |none=>rfl
  |some _=>exact(show False from r).elim
 |some _=>cases u with
  |none=>exact(show False from r).elim
  |some _=>rfl
theorem RelO.getD {u:Option Value}{d:V}{d':Value}(r:RelO o u)(rd:RelV d d'):RelV (o.getD d) (u.getD d'):=by
 cases o with
 |none=>cases u with
  |none=>exact rd
  |some _=>exact(show False from r).elim
 |some _=>cases u with
  |none=>exact(show False from r).elim
  |some _=>exact r
theorem KV.val {kvs:List (κ×V)}{vs:List (κ×Value)}(r:KV kvs vs)(k:κ):RelO (bx kvs k) (valueAt vs k):=by
 unfold KV at r
 induction r with
 |nil=>exact True.intro
 | @cons p q ps qs h t ih=>
  obtain⟨h1,h2⟩:=h;by_cases e:p.1=k
  ·have e':q.1=k:=h1.symm.trans e;have b:valueAt (q::qs) k=some q.2:=by simp [valueAt,Cz,e']
   rw [bp e,b];exact h2
  ·have e':¬q.1=k:=λ z=>e (h1.trans z)
   have b:valueAt (q::qs) k=valueAt qs k:=by simp [valueAt,Cz,e']
   rw [bo e,b];exact ih
theorem KV.any {kvs:List (κ×V)}{vs:List (κ×Value)}(r:KV kvs vs)(k:κ):(kvs.any λ kv=>decide (kv.1=k))=vs.any λ kv=>decide (kv.1=k):=by
 unfold KV at r
 induction r with
 |nil=>rfl
 |cons h t ih=>rw [List.any_cons,List.any_cons,ih,h.1]
theorem KV.repl {kvs:List (κ×V)}{vs:List (κ×Value)}(r:KV kvs vs)(k:κ)(ry:RelV y u):
  KV (kvs.map λ kv=>if kv.1=k then(kv.1,y) else kv) (vs.map λ kv=>if kv.1=k then(kv.1,u) else kv):=by
 unfold KV at r ⊢
 induction r with
 |nil=>exact .nil
 | @cons p q ps qs h t ih=>
  rw [z8,z8];refine .cons ?_ ih;obtain⟨h1,h2⟩:=h;by_cases e:p.1=k
  ·rw [zP e,zP (h1.symm.trans e)];exact⟨h1,ry⟩
  ·rw [zK e,zK (λ z=>e (h1.trans z))];exact⟨h1,h2⟩
theorem KV.put {kvs:List (κ×V)}{vs:List (κ×Value)}(r:KV kvs vs)(k:κ)(ry:RelV y u):KV (putK kvs k y) (stored vs k u):=by
 unfold putK stored;rw [r.any k];by_cases e:(vs.any λ kv=>decide (kv.1=k))=true
 ·rw [zP e,zP e];exact r.repl k ry
 ·rw [zK e,zK e];exact Paired.snoc r ⟨rfl,ry⟩
theorem KV.drop {kvs:List (κ×V)}{vs:List (κ×Value)}(r:KV kvs vs)(k:κ):KV (wg kvs k) (without vs k):=by
 unfold KV at r ⊢;unfold wg without
 induction r with
 |nil=>exact .nil
 | @cons p q ps qs h t ih=>
  obtain⟨h1,h2⟩:=h;rw [BW,BW];by_cases e:p.1=k
  ·have a:¬decide (p.1≠k)=true:=by simp [e]
   have b:¬decide (q.1≠k)=true:=by simp [h1.symm.trans e]
   rw [zK a,zK b];exact ih
  ·have e':¬q.1=k:=λ z=>e (h1.trans z)
   have a:decide (p.1≠k)=true:=by simp [e]
   have b:decide (q.1≠k)=true:=by simp [e']
   rw [zP a,zP b];exact .cons ⟨h1,h2⟩ ih
theorem KV.keys {kvs:List (κ×V)}{vs:List (κ×Value)}(r:KV kvs vs):kvs.map (·.1)=vs.map (·.1):=by
 unfold KV at r
 induction r with
 |nil=>rfl
 |cons h t ih=>rw [z8,z8,ih,h.1]
theorem KV.length {kvs:List (κ×V)}{vs:List (κ×Value)}(r:KV kvs vs):kvs.length=vs.length:=Paired.length r
end
theorem lw {k:Key}(r:RelV (kV k) u):(bw P w).is k u=true:=by
 cases k with
 |inl i=>obtain⟨t,e⟩:=(show∃t,u=Value.int i t from r);subst e;exact lg P w i t
 |inr x=>obtain⟨t,e⟩:=(show∃t,u=Value.str x t from r);subst e;exact lU P w x t
theorem i6:∀{ks:List Key} {us:List Value},Vals (ks.map kV) us->ItemsAre (bw P w) ks us
 | [],_,r=>by rw [CZ] at r;cases r;exact .nil
 |k::ks,_,r=>by
  rw [z8] at r;cases r with
  |cons h t=>exact .cons (lw h) (i6 t)
abbrev KT (H:Hp):List (List Key×V)->List (List Key×Addr×Value)->Prop:=Paired λ p q=>p.1=q.1/\H q.2.1=some (.tup (p.1.map kV))/\RelV p.2 q.2.2
theorem KT.val (r:KT H kvs xs)(k:List Key):RelO (bx kvs k) ((atKey xs k).map (·.2)):=by
 induction r with
 |nil=>exact True.intro
 | @cons p q ps qs h t ih=>
  obtain⟨h1,_,h2⟩:=h;by_cases e:p.1=k
  ·have e':q.1=k:=h1.symm.trans e;have b:atKey (q::qs) k=some q.2:=by simp [atKey,Cz,e']
   rw [bp e,b];exact h2
  ·have e':¬q.1=k:=λ z=>e (h1.trans z)
   have b:atKey (q::qs) k=atKey qs k:=by simp [atKey,Cz,e']
   rw [bo e,b];exact ih
theorem KT.repl (r:KT H kvs xs)(k:List Key)(ry:RelV y u):
  KT H (kvs.map λ kv=>if kv.1=k then(kv.1,y) else kv) (xs.map (putAt k u)):=by
 induction r with
 |nil=>exact .nil
 | @cons p q ps qs h t ih=>
  rw [z8,z8];refine .cons ?_ ih;obtain⟨h1,h2,h3⟩:=h;unfold putAt;by_cases e:p.1=k
  ·rw [zP e,zP (h1.symm.trans e)];exact⟨h1,h2,ry⟩
  ·rw [zK e,zK (λ z=>e (h1.trans z))];exact⟨h1,h2,h3⟩
theorem KT.put (r:KT H kvs xs)(k:List Key)(hb:H b=some (.tup (k.map kV)))(ry:RelV y u):
  KT H (putK kvs k y) (storedH xs k b u):=by
 have e:(kvs.any λ kv=>decide (kv.1=k))=(atKey xs k).isSome:=by
  rw [eZ,(r.val k).isSome_eq,DY]
 unfold putK storedH;rw [e];by_cases q:(atKey xs k).isSome=true
 ·rw [zP q,zP q];exact r.repl k ry
 ·rw [zK q,zK q];exact Paired.snoc r ⟨rfl,hb,ry⟩
theorem KT.keeps (r:KT H kvs xs)(ht:∀b ys,H b=some (.tup ys)->H' b=some (.tup ys)):KT H' kvs xs:=
 Paired.mapP r λ _ _ z=>⟨z.1,ht _ _ z.2.1,z.2.2⟩
section
variable {P : Program} {w : World} {H : Hp} {h : Heap} {a : Addr}
theorem wa {u:HO}(ok:HOk P w H h)(e:Rd H a u):ObjOk P w H h a u:=e.ok ok
theorem lH {kvs:List (Key×V)}(ok:HOk P w H h)(e:Rd H a (.dK kvs)):kvs.length≤sizeLine/\(a==sysModules)=false/\∃vs,KV kvs vs/\h.DictOf (bw P w) a vs:=
 show ObjOk P w H h a (.dK kvs) from wa ok e
theorem x6 {kvs:List (Key×V)}(ok:HOk P w H h)(e:H a=some (.dK kvs)):kvs.length≤sizeLine/\(a==sysModules)=false/\∃vs,KV kvs vs/\h.DictOf (bw P w) a vs:=lH ok (.inl e)
theorem gL {ks:List Key}(ok:HOk P w H h)(e:H a=some (.tup (ks.map kV))):(tupleKind (bw P w)).is h ks a:=by
 obtain⟨_,its,r,o,h1,h2,n,h3⟩:=(show ObjOk P w H h a (.tup (ks.map kV)) from ok a _ e);exact⟨o,its.toArray,n,h1,h2,h3,by simpa using i6 r⟩
theorem kU (ok:HOk P w H h)(e:Rd H a (.dT kvs)):kvs.length≤sizeLine/\(a==sysModules)=false/\
  ∃xs,KT H kvs xs/\h.DictOfH (tupleKind (bw P w)) a xs:=by
 obtain⟨z,y,xs,r,o,es,ep,h1,h2,h3,h4,h5⟩:=(show ObjOk P w H h a (.dT kvs) from wa ok e);refine⟨z,y,xs,r,o,es,ep,h1,h2,h3,h4,λ x hx=>?_,h5⟩;have all:∀{l:List (List Key×V)} {m:List (List Key×Addr×Value)},KT H l m->∀x∈m,(tupleKind (bw P w)).is h x.1 x.2.1:=by
  intro l m q
  induction q with
  |nil=>intro x hx;exact nomatch hx
  | @cons p q ps qs hq t ih=>
   intro x hx;rcases zL.mp hx with e|hx
   ·subst e;exact gL ok (by rw [<-hq.1];exact hq.2.1)
   ·exact ih x hx
 exact all r x hx
theorem yx (ok:HOk P w H h)(e:H a=some (.dT kvs)):kvs.length≤sizeLine/\(a==sysModules)=false/\
  ∃xs,KT H kvs xs/\h.DictOfH (tupleKind (bw P w)) a xs:=kU ok (.inl e)
end
def DGet (H:Hp)(a:Addr)(y:V)(r:Option V):Prop:=
 (∃kvs k,Rd H a (.dK kvs)/\y=kV k/\r=bx kvs k)\/∃kvs k b,Rd H a (.dT kvs)/\y=.ref b/\H b=some (.tup (k.map kV))/\r=bx kvs k
def DPut (H:Hp)(a:Addr)(y v:V)(H':Hp):Prop:=
 (∃kvs k,H a=some (.dK kvs)/\y=kV k/\kvs.length<sizeLine/\H'=upd H a (.dK (putK kvs k v)))\/
 ∃kvs k b,H a=some (.dT kvs)/\y=.ref b/\H b=some (.tup (k.map kV))/\kvs.length<sizeLine/\H'=upd H a (.dT (putK kvs k v))
theorem DGet.k {kvs:List (Key×V)}{k:Key}(e:H a=some (.dK kvs)):DGet H a (kV k) (bx kvs k):=.inl ⟨kvs,k,.inl e,rfl,rfl⟩
theorem DGet.t {k:List Key}(e:H a=some (.dT kvs))(eb:H b=some (.tup (k.map kV))):DGet H a (.ref b) (bx kvs k):=.inr ⟨kvs,k,b,.inl e,rfl,eb,rfl⟩
theorem DPut.k {kvs:List (Key×V)}{k:Key}(e:H a=some (.dK kvs))(hl:kvs.length<sizeLine):DPut H a (kV k) v (upd H a (.dK (putK kvs k v))):=.inl ⟨kvs,k,e,rfl,hl,rfl⟩
theorem DPut.t {k:List Key}(e:H a=some (.dT kvs))(eb:H b=some (.tup (k.map kV)))(hl:kvs.length<sizeLine):
  DPut H a (.ref b) v (upd H a (.dT (putK kvs k v))):=.inr ⟨kvs,k,b,e,rfl,eb,hl,rfl⟩
section
variable {X : Cx} {pins : List (Addr × Obj)} {σ : St} {H : Hp} {s : Shared} {a : Addr} {y v : V} {u r : Value} {o : Option V} {A : Around} {E : Value -> Shared -> Prop}
theorem Inv.big (I:Inv X pins σ H s):sysModules<s.heap.objs.size:=by
 have h:mainGlobals<s.heap.objs.size:=(I.mod.glob.keeps I.bk).lt;exact Nat.lt_trans (by decide) h
theorem pJ (hu:A.units+1<cLine)(I:Inv X pins σ H s)(g:DGet H a y (some v))(ry:RelV y u)(h:∀w' s',Inv X pins σ H s'->RelV v w'->Q w' s'):
  wpAny (model X.prog X.w) A (getItem (.ref a) u) Q E s:=by
 rcases g with⟨kvs,k,e,ey,l⟩|⟨kvs,k,b,e,ey,eb,l⟩
 ·subst ey;obtain⟨z,hd,vs,rel,dd⟩:=lH I.hok e;obtain⟨w',hw,rw'⟩:=RelO.some_of (v:=v) (o:=valueAt vs k) (by rw [l];exact rel.val k);exact wpAny_getItem_of (lw ry) dd.mapOf hw (h w' _ (I.tok _) rw')
 ·subst ey;cases(show u=Value.ref b from ry);obtain⟨z,hd,xs,rel,dd⟩:=kU I.hok e;obtain⟨w',hw,rw'⟩:=RelO.some_of (v:=v) (o:=(atKey xs k).map (·.2)) (by rw [l];exact rel.val k);obtain⟨p,hp,hp2⟩:=Option.map_eq_some_iff.mp hw;refine wpAny_getItem_heap (Dh hu) (gL I.hok eb) dd hp ?_;rw [hp2];exact h w' _ (I.tok _) rw'
theorem yP (hu:A.units+1<cLine)(I:Inv X pins σ H s)(g:DGet H a y o)(ry:RelV y u)(h:∀s',Inv X pins σ H s'->Q (.bool o.isSome) s'):
  wpAny (model X.prog X.w) A (compareOp .In u (.ref a)) Q E s:=by
 rcases g with⟨kvs,k,e,ey,l⟩|⟨kvs,k,b,e,ey,eb,l⟩
 ·subst ey;obtain⟨z,hd,vs,rel,dd⟩:=lH I.hok e;refine wpAny_in_of (lw ry) hd dd.mapOf ?_;rw [<-(rel.val k).isSome_eq,<-l];exact h _ (I.tok _)
 ·subst ey;cases(show u=Value.ref b from ry);obtain⟨z,hd,xs,rel,dd⟩:=kU I.hok e;refine wpAny_in_heap (Dh hu) (gL I.hok eb) hd dd ?_;have q:=(rel.val k).isSome_eq;rw [DY] at q;rw [<-q,<-l];exact h _ (I.tok _)
theorem ut (hu:A.units+1<cLine)(I:Inv X pins σ H s)(g:DGet H a y o)(ry:RelV y u)(h:∀s',Inv X pins σ H s'->Q (.bool (!o.isSome)) s'):
  wpAny (model X.prog X.w) A (compareOp .NotIn u (.ref a)) Q E s:=by
 rcases g with⟨kvs,k,e,ey,l⟩|⟨kvs,k,b,e,ey,eb,l⟩
 ·subst ey;obtain⟨z,hd,vs,rel,dd⟩:=lH I.hok e;refine wpAny_notIn_of (lw ry) hd dd.mapOf ?_;rw [<-(rel.val k).isSome_eq,<-l];exact h _ (I.tok _)
 ·subst ey;cases(show u=Value.ref b from ry);obtain⟨z,hd,xs,rel,dd⟩:=kU I.hok e;refine wpAny_notIn_heap (Dh hu) (gL I.hok eb) hd dd ?_;have q:=(rel.val k).isSome_eq;rw [DY] at q;rw [<-q,<-l];exact h _ (I.tok _)
theorem oA {t':Nat}{ob:HO}(I:Inv X pins σ H s)(mu:Mut (H a))(hs:Heap.SameBut a s.heap h')(he:∃q,h'.get? a=some q)(new:ObjOk X.prog X.w (upd H a ob) h' a ob):
  Inv X pins σ (upd H a ob) {s with heap:=h',toks:=t'}:=
 I.write (x:=a) (e:=a) mu (.inl rfl) (λ b q hb z=>(hs.2 b hb).trans z) he new
theorem dk_new {kvs:List (Key×V)}{vs:List (Key×Value)}(z:kvs.length≤sizeLine)(hd:(a==sysModules)=false)(rel:KV kvs vs)(dd:h'.DictOf (bw P w) a vs):
  ObjOk P w H' h' a (.dK kvs):=⟨z,hd,vs,rel,dd⟩
theorem qC {Q:Unit->Shared->Prop}(hu:A.units+1<cLine)(I:Inv X pins σ H s)(g:DPut H a y v H')(ry:RelV y u)(rv:RelV v r)(h:∀s',Inv X pins σ H' s'->Q () s'):
  wpAny (model X.prog X.w) A (setItem (.ref a) u r) Q E s:=by
 rcases g with⟨kvs,k,e,ey,l,eH⟩|⟨kvs,k,b,e,ey,eb,l,eH⟩
 ·subst ey eH;obtain⟨z,hd,vs,rel,dd⟩:=x6 I.hok e;have hz:vs.length≤sizeLine:=by rw [<-rel.length];exact z
  have hl:(putK kvs k v).length≤sizeLine:=by have:=cM kvs k v;lia
  refine wpAny_setItem_pairs (hsz:=hz) (lw ry) dd λ h' dd' hs=>h _ ?_
  have he:∃q,h'.get? a=some q:=let⟨q,_,_,hq,_⟩:=dd';⟨q,hq⟩;exact oA I (by rw [e];exact True.intro) hs he (dk_new hl hd (rel.put k rv) dd')
 ·subst ey eH;cases(show u=Value.ref b from ry);obtain⟨z,hd,xs,rel,dd⟩:=yx I.hok e;have hz:xs.length≤sizeLine:=by rw [<-Paired.length rel];exact z
  have hl:(putK kvs k v).length≤sizeLine:=by have:=cM kvs k v;lia
  refine wpAny_setItem_heap (hsz:=hz) (Dh hu) (gL I.hok eb) dd λ h' dd' hs=>h _ ?_
  obtain⟨q,es,ep,hq,h2,h3,h4,_,h5⟩:=dd';refine oA I (by rw [e];exact True.intro) hs ⟨q,hq⟩ ⟨hl,hd,_,(rel.put k eb rv).keeps λ c ys ec=>?_,q,es,ep,hq,h2,h3,h4,h5⟩;rw [upd_ne (ne_of ec e (λ z=>nomatch z))];exact ec
end
section
variable {X : Cx} {pins : List (Addr × Obj)} {σ : St} {H : Hp} {s : Shared} {a : Addr} {kvs : List (Key × V)} {k : Key} {u : Value} {A : Around} {E : Value -> Shared -> Prop}
end
def yo (i:Expr):Prop:=∀ov iv,subscripted i false ov iv=operate [ov,iv] (getItem ov iv)
theorem subD_of {prog:Program}{A:Around}{E:Value->Shared->Prop}{env:Env}{value slice:Expr}{pos:Pos}{T id:String}
  (hl:typeLookup (.type T) "__getitem__"=pure (some (.builtin id))) (hs:yo slice)
  (h:wpAny (model prog w) A (eval value env) (λ o s₁=>wpAny (model prog w) A (eval slice env) (λ i s₂=>s₂.TypeIs o T/\wpAny (model prog w) A (getItem o i) Q E s₂) E s₁) E s):
  wpAny (model prog w) A (eval (.Subscript value slice pos) env) Q E s:=by
 refine Subscript_ (AX h (λ o s₁ h₁=>AX h₁ (λ i s₂ h₂=>?_) λ _ _ x=>x) λ _ _ x=>x);obtain⟨hT,h₂⟩:=h₂;unfold subscriptTail;refine zx ?_;rw [getitemInPython_of_ne hT.not_modules];refine zx (wpAny_specialOf hT hl ?_);have fin:wpAny (model prog w) A (subscripted slice false o i) (λ r s₃=>wpAny (model prog w) A (letTemporaryGo value o r>>= λ _=>pure r) Q E s₃) E s₂:=by
  rw [hs o i];exact wpAny_operating (AX h₂ (λ r s₃ h₃=>zx (wpAny_letTemporaryGo (Ai h₃))) λ _ _ x=>x)
 first
  |exact Ai (zx fin)
  |exact zx (Ai (zx fin))
  |exact zx fin
theorem kZ {X:Cx}{pins:List (Addr×Obj)}(I:Inv X pins σ H s)(g:DGet H a y o):s.TypeIs (.ref a) "dict":=by
 rcases g with⟨kvs,k,e,_,_⟩|⟨kvs,k,b,e,_,_,_⟩
 ·obtain⟨_,_,vs,_,dd⟩:=lH I.hok e;exact dd.typeIs
 ·obtain⟨_,_,xs,_,dd⟩:=kU I.hok e;exact dd.typeIs
def xW (td ty:TE):TE:=λ σ H Q=>td σ H λ x H1=>ty σ H1 λ y H2=>∃a v,x=.ref a/\DGet H2 a y (some v)/\Q v H2
def zj (ty td:TE):TE:=λ σ H Q=>ty σ H λ y H1=>td σ H1 λ x H2=>∃a o,x=.ref a/\DGet H2 a y o/\Q (.bl o.isSome) H2
def vY (ty td:TE):TE:=λ σ H Q=>ty σ H λ y H1=>td σ H1 λ x H2=>∃a o,x=.ref a/\DGet H2 a y o/\Q (.bl (!o.isSome)) H2
def xX (td ty tv:TE):TS:=λ D σ H=>tv σ H λ v H1=>td σ H1 λ x H2=>ty σ H2 λ y H3=>∃a H4,x=.ref a/\DPut H3 a y v H4/\D.nx σ H4
section
variable {X : Cx} {o i e value : Expr} {pos pos' tpos : Pos} {td ty tv : TE}
theorem uE (hu:X.A.units+1<cLine)(ho:PE X o td)(hi:PE X i ty)(hs:yo i):PE X (.Subscript o i pos) (xW td ty):=by
 intro pins s σ H Q I h;refine subD_of PySem.F.slot_dict_getitem.lookup hs (thn (ho pins s σ H _ I h) λ u s1 ⟨x,H1,I1,rx,q1⟩=>thn (hi pins s1 σ H1 _ I1 q1) λ iv s2 z9=>?_);obtain⟨y,H2,I2,ry,a,v,ex,g,q2⟩:=z9;subst ex;obtain rfl:u=Value.ref a:=rx;exact⟨kZ I2 g,pJ hu I2 g ry λ w' s3 I3 rw'=>⟨v,H2,I3,rw',q2⟩⟩
theorem xJ (hu:X.A.units+1<cLine)(hi:PE X i ty)(ho:PE X o td):PC X .In i o (zj ty td):=by
 intro pins s σ H Q I h;refine thn (hi pins s σ H _ I h) λ iv s1 ⟨y,H1,I1,ry,q1⟩=>thn (ho pins s1 σ H1 _ I1 q1) λ u s2 z9=>?_
 obtain⟨x,H2,I2,rx,a,ov,ex,g,q2⟩:=z9;subst ex;obtain rfl:u=Value.ref a:=rx;exact yP hu I2 g ry λ s3 I3=>⟨.bl ov.isSome,H2,I3,rfl,q2⟩
theorem qg (hu:X.A.units+1<cLine)(hi:PE X i ty)(ho:PE X o td):PC X .NotIn i o (vY ty td):=by
 intro pins s σ H Q I h;refine thn (hi pins s σ H _ I h) λ iv s1 ⟨y,H1,I1,ry,q1⟩=>thn (ho pins s1 σ H1 _ I1 q1) λ u s2 z9=>?_
 obtain⟨x,H2,I2,rx,a,ov,ex,g,q2⟩:=z9;subst ex;obtain rfl:u=Value.ref a:=rx;exact ut hu I2 g ry λ s3 I3=>⟨.bl (!ov.isSome),H2,I3,rfl,q2⟩
theorem oy (hu:X.A.units+1<cLine)(ho:PE X o td)(hi:PE X i ty)(hv:PE X value tv)(hs:swapsWith value (some (.Subscript o i pos')) pos.line X.env=pure false):
  PS X (.Assign [.Subscript o i pos'] value pos) (xX td ty tv):=by
 intro pins s σ H D I h;refine wpAny_Assign_Subscript (thn (hv pins s σ H _ I h) λ r s1 ⟨v,H1,I1,rv,q1⟩=>thn (ho pins s1 σ H1 _ I1 q1) λ u s2 ⟨x,H2,I2,rx,q2⟩=>thn (hi pins s2 σ H2 _ I2 q2) λ iv s3 z9=>?_) hs;obtain⟨y,H3,I3,ry,a,H4,ex,g,q3⟩:=z9;subst ex;obtain rfl:u=Value.ref a:=rx;exact qC hu I3 g ry rv λ s4 I4=>⟨σ,H4,I4,q3⟩
end
theorem rh (h:Heap)(hb:sysModules<h.objs.size):ObjOk P w H (h.push {cls:=.type "dict",data:=.dict #[]}) h.objs.size (.dT []):=
 ⟨Ap _,Cf.mpr (DN (AE hb)),[],.nil,_,#[],0,Ak _ rfl,⟨rfl,rfl,rfl⟩,rfl,rfl,List.nodup_nil⟩
def w6:TE:=λ _ H Q=>∀p,H p=none->Q (.ref p) (upd H p (.dT []))
section
variable {X : Cx} {pos : Pos}
theorem kY:PE X (.Dict [] [] pos) w6:=λ pins s σ H Q I h=>
 wpAny_Dict_empty ⟨.ref s.heap.objs.size,_,I.laid (a:=s.heap.objs.size) (o:=.dT []) (t':=s.toks) (λ _ _ q=>zB _ q) (zy _) (rh s.heap I.big),rfl,h _ (I.hok.fresh (zy _))⟩
end
section
variable {X : Cx}
def yg (K:PySem.W.Frag):R2:=λ x y H Q=>∃(p q:Addr),x=.ref p/\y=.ref q/\wz K H p q/\Q (.bl false) H
theorem vD (hu:X.A.units+64<cLine):OpR X (compareOp .NotEq) (yg X.K):=by
 intro pins s σ H x y v u Q I rx ry h;obtain⟨p,q,rfl,rfl,⟨xs,ys,h1,h2,hl,hi⟩,k⟩:=h;cases rx;cases ry;obtain⟨its,rv,pl,hz⟩:=I.list h1;obtain⟨its2,rv2,pl2,hz2⟩:=I.list h2;have l1:=rv.length;have l2:=rv2.length;refine SeqAt.RcNeAt.lists (e:=λ _=>true) pl.isList pl2.isList (by rw [zE,zE];lia) (by lia) (λ j j1 j2=>?_) _ _ _ _ ?_
 ·have k1:j<xs.length:=by simp at j1;lia
  have k2:j<ys.length:=by lia
  obtain⟨u1,e1,r1⟩:=rv.get (i:=j) (x:=xs[j]) (by simp [k1]);obtain⟨u2,e2,r2⟩:=rv2.get (i:=j) (x:=ys[j]) (by simp [k2]);have g1:its.toArray[j]=u1:=by
   obtain⟨_,z⟩:=zz.mp e1;simpa using z
  have g2:its2.toArray[j]=u2:=by
   obtain⟨_,z⟩:=zz.mp e2;simpa using z
  rw [g1,g2];rcases hi j xs[j] ys[j] (by simp [k1]) (by simp [k2]) with⟨z1,z2⟩|⟨a,b,ns,z1,z2,q1,q2⟩
  ·rw [z1] at r1;rw [z2] at r2;cases r1;cases r2;exact SeqAt.EqAt.same _
  ·rw [z1] at r1;rw [z2] at r2;cases r1;cases r2;exact sD I q1 q2 (by show X.A.units+1<_;lia)
 ·refine⟨.bl false,H,I,?_,k⟩;show Value.bool _=Value.bool _;simp
theorem tN {K:PySem.W.Frag}{xs:List V}{g:TG}{tb:TS}{D:Ends}(Pv:Nat->St->Hp->Prop)(h0:Pv 0 σ H)(hl:∀i σ H,i≤xs.length->Pv i σ H->SqL K H a xs)
  (hs:∀i x p σ H,xs[i]?=some x->H p=none->Pv i σ H->g (.ref p) σ (upd H p (.tup [.int ((i:Nat):Int),x])) λ σ2 H2=>tb {D with nx:=Pv (i+1),ct:=Pv (i+1),bk:=D.nx} σ2 H2) (hd:∀σ H,Pv xs.length σ H->D.nx σ H):
  ∃W:Nat->Nat->St->Hp->Prop,(∃m,W 0 m σ H)/\∀i m σ H,W i m σ H->
   ((Ite K a).stop i H/\D.nx σ H)\/((Ite K a).go i H/\∃N:St->Hp->Prop,(∀σ' H',N σ' H'->∃m',m'<m/\W (i+1) m' σ' H')/\∀x H',(Ite K a).yld i H x H'->g x σ H' λ σ2 H2=>tb {D with nx:=N,ct:=N,bk:=D.nx} σ2 H2):=by
 refine⟨λ i m σ H=>m=xs.length-i/\i≤xs.length/\Pv i σ H,⟨xs.length,by simp,Ap _,h0⟩,?_⟩;rintro i m σ H ⟨rfl,hi,p⟩;have q:=hl i σ H hi p;by_cases hlt:i<xs.length
 ·refine .inr ⟨⟨xs,xs[i],q,by simp [hlt]⟩,Pv (i+1),λ σ' H' p'=>⟨xs.length-(i+1),by lia,rfl,hlt,p'⟩,λ x H' y=>?_⟩;obtain⟨p1,x1,hp1,e1,e2,y⟩:=y;subst e1 e2;exact hs i x1 p1 σ _ (y xs q) hp1 p
 ·have e:i=xs.length:=by lia
  subst e;exact .inl ⟨⟨xs,q,zy _⟩,hd σ H p⟩
theorem ip {lo:Int}{l:Addr}{k:Nat}{σ0:St}{g:TG}{tt:TT}{te:TE}{R:Hp->Prop}{H1:Hp}(Pv:Nat->List V->St->Hp->Prop)(h0:Pv 0 [] σ0 (upd H1 l (.lst [])))
  (hs:∀i ys σ H,i<k->Pv i ys σ H->g (.int (lo+(i:Nat))) σ H λ σ3 H3=>tt σ3 H3 λ c H5=>if c=true then te σ3 H5 λ y H4=>H4 l=some (.lst ys)/\ys.length<sizeLine/\Pv (i+1) (ys++[y]) σ3 (upd H4 l (.lst (ys++[y]))) else Pv (i+1) ys σ3 H5)
  (hd:∀ys σ H,Pv k ys σ H->R H) (mg:∀x σ H (A B:St->Hp->Prop),(∀σ' H',A σ' H'->B σ' H')->g x σ H A->g x σ H B) (mtt:∀σ H (A B:Bool->Hp->Prop),(∀v H',A v H'->B v H')->tt σ H A->tt σ H B) (mt:∀σ H (A B:VK),(∀v H',A v H'->B v H')->te σ H A->te σ H B):
  ∃W:Nat->Nat->List V->St->Hp->Prop,(∃m,W 0 m [] σ0 (upd H1 l (.lst [])))/\∀i m ys σ' H',W i m ys σ' H'->
   ((Itr lo k).stop i H'/\R H')\/((Itr lo k).go i H'/\∀x H2,(Itr lo k).yld i H' x H2->g x σ' H2 λ σ3 H3=>tt σ3 H3 λ c H5=>if c=true then te σ3 H5 λ y H4=>
    H4 l=some (.lst ys)/\ys.length<sizeLine/\∃m',m'<m/\W (i+1) m' (ys++[y]) σ3 (upd H4 l (.lst (ys++[y]))) else∃m',m'<m/\W (i+1) m' ys σ3 H5):=by
 refine⟨λ i m ys σ H=>m=k-i/\i≤k/\Pv i ys σ H,⟨k,by simp,Ap _,h0⟩,?_⟩;rintro i m ys σ H ⟨rfl,hi,p⟩;by_cases hlt:i<k
 ·refine .inr ⟨hlt,λ x H' y=>?_⟩;obtain⟨e,y⟩:=y;subst e y;refine mg _ _ _ _ _ (λ σ3 H3 z=>mtt _ _ _ _ (λ c H5 z2=>?_) z) (hs i ys σ _ hlt p);by_cases hc:c=true
  ·rw [zP hc] at z2 ⊢;exact mt _ _ _ _ (λ y H4 ⟨z1,z3,z4⟩=>⟨z1,z3,k-(i+1),by lia,rfl,hlt,z4⟩) z2
  ·rw [zK hc] at z2 ⊢;exact⟨k-(i+1),by lia,rfl,hlt,z2⟩
 ·have e:i=k:=by lia
  subst e;exact .inl ⟨zy _,hd ys σ H p⟩
end
end L2
set_option maxHeartbeats 4000000
namespace K20.C
open PySem L2 QQ C9 C10
seal PE PA PS PSs PT PW PG PI
variable {n s : Nat} {H H' : Hp} {B C d e f p r : Addr} {kvs : List (List Key×V)} {xs : List V} {L R : List Nat} {fd : FuncData}
theorem xF (R:List Nat):R.map vN=(R.map λ b=>((b:Nat):Int)).map V.int:=by rw [A5];rfl
def IsL (H:Hp)(x:V)(L:List Nat):Prop:=∃a,x=.ref a/\H a=some (.lst (L.map vN))/\∀l∈L,l≤12
def OT (H:Hp)(x:V):Option (Nat×Nat)->Prop
 |none=>x=.non
 |some c=>∃t,x=.ref t/\H t=some (.tup [vN c.1,vN c.2])
def CL (H:Hp)(xs:List V)(cs:List (Option (Nat×Nat))):Prop:=xs.length=cs.length/\∀(i:Nat) (x:V) (c:Option (Nat×Nat)),xs[i]?=some x->cs[i]?=some c->OT H x c
theorem OT.keep {x:V}{c:Option (Nat×Nat)}(h:OT H x c)(k:∀t ys,H t=some (.tup ys)->H' t=some (.tup ys)):OT H' x c:=by
 cases c with
 |none=>exact h
 |some c=>obtain⟨t,e,z⟩:=h;exact⟨t,e,k _ _ z⟩
theorem CL.keep {cs:List (Option (Nat×Nat))}(h:CL H xs cs)(k:∀t ys,H t=some (.tup ys)->H' t=some (.tup ys)):CL H' xs cs:=⟨h.1,λ i x c h1 h2=>(h.2 i x c h1 h2).keep k⟩
theorem CL.set {cs:List (Option (Nat×Nat))}(h:CL H xs cs){p:Nat}{y:V}{d:Option (Nat×Nat)}(hy:OT H y d):CL H (xs.set p y) (cs.set p d):=by
 refine⟨by rw [DJ,DJ];exact h.1,λ i x c h1 h2=>?_⟩;by_cases e:p=i
 ·subst e;have hp:p<xs.length:=by
   have:=(zz.mp h1).1
   rwa [DJ] at this
  rw [BE hp] at h1;rw [BE (by rw [<-h.1];exact hp)] at h2;cases h1;cases h2;exact hy
 ·rw [CG e] at h1 h2;exact h.2 i x c h1 h2
theorem CL.none (H:Hp)(n:Nat):CL H (List.replicate n .non) (List.replicate n none):=by
 refine⟨by rw [AR,AR],λ i x c h1 h2=>?_⟩;rw [Cc] at h1 h2
 split at h1
 ·cases h1;rw [zP (by assumption)] at h2;cases h2;rfl
 ·cases h1
theorem ndL:(["length"]:List Str).Nodup:=by decide+kernel
section
variable {P : Program} {w : World} {K : PySem.W.Frag} {mg : Str -> Option Value} {base : Heap}
def xP:Sp:=λ vs H Q _=>∃(a:Addr) (L:List Nat),vs=[.ref a]/\H a=some (.lst (L.map vN))/\(∀l∈L,l≤12)/\L.length≤300/\∀H',Same H H'->Q (vN (krf 12 L)) H'
theorem wJ:FnScope ["lengths"] ["lengths"] (defScope oF):=scK (by decide+kernel)
abbrev tI:TE:=tOp (rI xU λ i j=>.int (i*2^j.toNat)) (tC (.int 1)) (tOp (rI0 λ i j=>.int (i-j)) (tC (.int 12)) (eF 0))
abbrev sV:TT:=kF (tOp (rI0 λ i j=>.bl (decide (j<i))) (eF 0) (tC (.int 0)))
theorem vM (F:Fn K mg "room_taken" oF ["lengths"] f fd)(T:Txt K mg):FnOk P w K mg base CX0 31 f fd ["lengths"] xP:=by
 obtain⟨tm,hm⟩:=T.mlen;refine F.F.ok wJ (λ vs H Q E h=>?_) (λ cdv A outer s H vs Q E hr h=>?_)
 ·obtain⟨a,L,rfl,_⟩:=h;rfl
 ·obtain⟨a,L,rfl,hL,hb,hl300,k⟩:=h;have hn:=hr.hd (by decide);refine⟨_,af (az (aq (sC hn) (by rfl) T.sum PyProof.Rows.boot_sum (aa (hI (N:=["length"]) (g:=bf 0) (tt:=sV) (te:=tI) rfl rfl (by decide+kernel) (by decide+kernel) (by decide+kernel) (bu (pv 0))
    (λ fp s H=>aH (i:=0) ndL rfl (Or.inl rfl)) (λ fp s H=>ar bQ (pv 0) ae (ax _)) (λ fp s H=>aj c5 ae (aj aY (aG (v:=.int 12) (by rfl) hm ⟨tm,rfl⟩) (pv 0)))) ad))),?_⟩
  refine⟨_,rfl,a,rfl,⟨_,SqL.of hL⟩,λ l nl=>?_⟩;refine lN (K:=K) (a:=a) (l:=l) (xs:=L.map vN) (n:=1) (g:=bf 0) (tt:=sV) (te:=tI)
   (λ i ys H'=>ys=(((L.take i).filter (λ b=>decide (0<b))).map (λ b=>2^(12-b))).map vN/\H' l=some (.lst ys)/\Same H H') ⟨rfl,upd_same,ai nl⟩ (λ i ys H' _ ⟨_,_,sm⟩=>SqL.of (sm _ _ hL)) ?_ ?_ ?_ ?_ ?_
  ·rintro i x ys σ H' hx ⟨rfl,hl,sm⟩ hσ;obtain⟨b,hb1,rfl⟩:=cm hx;have hb12:=hb b (AK hb1);have hil:i<L.length:=(zz.mp hb1).1;obtain⟨u0,rfl⟩:∃u0,σ=[u0]:=match σ,hσ with| [u0],_=>⟨u0,rfl⟩
   have hlen:((L.take i).filter (λ b=>decide (0<b))).length≤300:=AM (Cw _ _) (by rw [zW];lia);refine⟨_,rfl,_,_,rfl,rfl,_,rfl,?_⟩;rw [bS hb1,z7];dsimp only;by_cases h0:0<b
   ·rw [zP (zw (show(0:Int)<((b:Nat):Int) by lia))];refine⟨_,rfl,_,_,rfl,rfl,_,_,rfl,rfl,⟨by lia,by lia,by decide⟩,hl,aX (by rw [zr,zr];lia),rfl,?_,upd_same,λ c o e=>?_⟩
    ·rw [zQ (by simpa using h0),zG,zG];have e1:(1:Int)*2^((12:Int)-((b:Nat):Int)).toNat=((2^(12-b):Nat):Int):=by
      rw [show((12:Int)-((b:Nat):Int)).toNat=12-b by lia,Int.one_mul];simp
     try dsimp only
     rw [e1];rfl
    ·rw [upd_ne (ag e nl)];exact sm _ _ e
   ·rw [zK (λ z=>absurd (zA z) (by lia))];refine⟨rfl,?_,?_,sm⟩
    ·rw [zY (by simpa using h0)];simp
    ·exact hl
  ·rintro ys H' ⟨rfl,hl,sm⟩;rw [zr,An,xF] at hl;refine⟨l,_,rfl,SqL.of hl,?_⟩;have e:(((L.filter (λ b=>decide (0<b))).map (λ b=>2^(12-b))).map (λ b=>((b:Nat):Int))).sum=((krf 12 L:Nat):Int):=by
    unfold krf;generalize (L.filter (λ b=>decide (0<b))).map (λ b=>2^(12-b))=Y
    induction Y with
    |nil=>rfl
    |cons y Y ih=>simp only [z8,Az];rw [ih];simp
   rw [e];exact k _ sm
  ·exact λ x σ H A B h z=>h _ _ z
  ·exact λ σ H A B h ⟨v,e1,i,j,e2,e3,c,e4,z⟩=>⟨v,e1,i,j,e2,e3,c,e4,h _ _ z⟩
  ·exact λ σ H A B h ⟨v,e1,i,j,e2,e3,i2,j2,e4,e5,c,z⟩=>⟨v,e1,i,j,e2,e3,i2,j2,e4,e5,c,h _ _ z⟩
def qB:Sp:=λ vs H Q _=>∃(x:V) (L:List Nat),vs=[x]/\IsL H x L/\Good L/\∀H',Same H H'->Q .non H'
theorem pX:FnScope ["lengths"] ["lengths"] (defScope dz):=scK (by decide+kernel)
structure Lns (K:PySem.W.Frag)(mg:Str->Option Value):Prop where
 X:Txt K mg
 whole:∃f fd,Fn K mg "is_whole" bJ ["thing","least","most"] f fd
 arewhole:∃f fd,Fn K mg "are_whole" bv ["thing","least","most"] f fd
 things:∃f fd,Fn K mg "are_of_things" c4 ["thing","most"] f fd
 room:∃f fd,Fn K mg "room_taken" oF ["lengths"] f fd
theorem nj (F:Fn K mg "need_lengths" dz ["lengths"] f fd)(Y:Lns K mg):FnOk P w K mg base CX0 32 f fd ["lengths"] qB:=by
 obtain⟨T,⟨_,_,W⟩,⟨_,_,AW⟩,⟨_,_,Th⟩,⟨_,_,Ro⟩⟩:=Y;have GT:=S.ok_things (P:=P) (w:=w) (base:=base) Th AW W T;have GR:=vM (P:=P) (w:=w) (base:=base) Ro T;obtain⟨tm,hm⟩:=T.mlen;refine F.F.ok pX (λ vs H Q E h=>?_) (λ cdv A outer s H vs Q E hr h=>?_)
 ·obtain⟨x,L,rfl,_⟩:=h;rfl
 ·obtain⟨x,L,rfl,⟨a,rfl,hB,hb⟩,G,k⟩:=h;refine⟨_,ac (aK (bF (bG (am GT hr (by rfl) Th.m Th.F.kp Th.b .nil ao (aa (pv 0) (aa (aG (v:=.int 12) (by rfl) hm ⟨tm,rfl⟩) ad))))) (af aS) aC)
   (af (aK (ar bQ (am GR hr (by rfl) Ro.m Ro.F.kp Ro.b .nil ao (aa (pv 0) ad)) (aj c5 ae (aG (v:=.int 12) (by rfl) hm ⟨tm,rfl⟩)) (ax _)) (af aS) aC)),?_⟩
  refine seq_g λ R1 g1=>?_
  refine⟨_,rfl,a,L,12,rfl,hB,hb,G.ne,G.le,G.some,_,rfl,bz (g1 _ _ ?_)⟩;clear g1;refine⟨_,rfl,a,L,rfl,hB,hb,G.le,λ H' s1=>?_⟩;refine⟨_,_,rfl,rfl,⟨by decide,by decide,by decide⟩,_,_,rfl,rfl,_,rfl,aL (λ h=>?_) (λ _=>k _ s1)⟩;exfalso;have:=zA h;have g:=G.room;have e:(1:Int)*2^(12:Int).toNat=4096:=by decide
  rw [e] at this;lia
end
theorem vU {α:Type}(x:α)(k:Nat):(List.replicate k [x]).flatten=List.replicate k x:=by
 induction k with
 |zero=>rfl
 |succ k ih=>rw [AJ,A4,ih,AJ];rfl
theorem tJ (hl:L.length≤300){j:Nat}(hj:j≤12):ed L j≤1228800:=by
 have h:=wq L j;have h1:2^j≤2^12:=BB (by decide) hj;have h2:L.length*2^j≤300*4096:=Nat.mul_le_mul hl h1;lia
theorem uu (L:List Nat)(j:Nat):cdAt L 0 (j+1)=2*ed L j:=by rw [pk];simp
theorem ixN_nat {i:Nat}(h:i<n):ixN n ((i:Nat):Int)=some i:=by
 unfold ixN;rw [zP (by lia)];simpa using h
section
variable {P : Program} {w : World} {K : PySem.W.Frag} {mg : Str -> Option Value} {base : Heap}
def qA:Sp:=λ vs H Q _=>∃(x:V) (L:List Nat),vs=[x]/\IsL H x L/\Good L/\∀l xs H',H l=none->Same H H'->H' l=some (.lst xs)->CL H' xs (codes L)->Q (.ref l) H'
abbrev xB:List Str:=["lengths","codes","code","size","place","length"]
theorem scCodesOf:FnScope xB ["lengths"] (defScope fj):=scK (by decide+kernel)
theorem ok_codesof {fN:Addr}{fdN:FuncData}(F:Fn K mg "codes_of" fj ["lengths"] f fd)(N:Fn K mg "need_lengths" dz ["lengths"] fN fdN)(Y:Lns K mg):FnOk P w K mg base CX0 33 f fd ["lengths"] qA:=by
 have GN:=nj (P:=P) (w:=w) (base:=base) N Y;have T:=Y.X;obtain⟨tm,hm⟩:=T.mlen;refine F.F.ok scCodesOf (λ vs H Q E h=>?_) (λ cdv A outer st H vs Q E hr h=>?_)
 ·obtain⟨x,L,rfl,_⟩:=h;rfl
 ·obtain⟨x,L,rfl,⟨a,rfl,hB,hb⟩,G,k⟩:=h;refine⟨_,ac (aA (am GN hr (by rfl) N.m N.F.kp N.b .nil ao (aa (pv 0) ad)))
   (ac (ak (i:=1) scCodesOf.nd rfl (Or.inl rfl) (aj gM (aW (aa jH ad)) (aq ap (by rfl) T.len zO (aa (pv 0) ad))))
   (ac (ak (i:=2) scCodesOf.nd rfl (Or.inl rfl) ae)
   (ac (bd Aa rfl (fZ (by rfl) T.range (aa ae (aa (aj aE (aG (v:=.int 12) (by rfl) hm ⟨tm,rfl⟩) ae) ad))) (aH (i:=3) scCodesOf.nd rfl (Or.inl rfl))
    (ac (ak (i:=2) scCodesOf.nd rfl (Or.inl rfl) (aj c5 (pv 2) ae))
    (af (bd Aa rfl (jF (by rfl) T.enum (aa (pv 0) ad)) (iE rfl (bA (aH (i:=4) scCodesOf.nd rfl (Or.inl rfl)) (bA (aH (i:=5) scCodesOf.nd rfl (Or.inl rfl)) eN)))
     (af (aK (ar bj (pv 5) (pv 3) (ax _))
      (ac (jU (cC (aa (pv 2) (aa (pv 3) ad))) (mP (pv 1) (pv 4) g9))
      (af (ak (i:=2) scCodesOf.nd rfl (Or.inl rfl) (aj aE (pv 2) ae)))) aC))))))
   (af (az (pv 1)))))),?_⟩
  refine seq_g λ R1 g1=>?_
  refine⟨_,rfl,_,L,rfl,⟨a,rfl,hB,hb⟩,G,λ H1 s1=>g1 _ _ ?_⟩;clear g1;have hl3:=G.le;refine seq_g λ R1 g1=>?_
  refine⟨(by show 1≤sizeLine;decide),λ l0 n0=>?_⟩;have s2:=ai (o:=.lst [.non]) n0;refine⟨_,rfl,a,_,rfl,.inl (SqL.of (s2 _ _ (s1 _ _ hB))),l0,_,_,rfl,rfl,upd_same,by lia,by rw [zr];lia,(by rw [zr,zV];exact eB (by show 1*_≤_;lia)),λ l nl=>g1 _ _ ?_⟩;clear g1;have s3:=ai (o:=.lst (List.replicate L.length V.non)) nl;have ez:(List.replicate (((L.map vN).length:Nat):Int).toNat [V.non]).flatten=List.replicate L.length V.non:=by rw [zr,zV,vU]
  try dsimp only
  rw [ez];have hl1:(upd (upd H1 l0 (.lst [.non])) l (.lst (List.replicate L.length V.non))) l=some (.lst (List.replicate L.length V.non)):=upd_same;have nlH:H l=none:=none_of (s1.trans s2) nl;have s03:=(s1.trans s2).trans s3;generalize upd (upd H1 l0 (.lst [.non])) l (.lst (List.replicate L.length V.non))=H3 at*;refine seq_g λ R1 g1=>g1 _ _ ?_
  clear g1;refine seq_g λ R1 g1=>?_
  refine⟨_,_,rfl,rfl,1,13,rfl,⟨by lia,by lia,by lia,by lia⟩,?_⟩;have en:((13:Int)-1).toNat=12:=by decide
  try dsimp only
  rw [en];refine bX (D:=⟨_,_,λ _ _=>False,λ _ _=>False⟩) (lo:=1) (n:=12) (λ j σ H2=>∃v3 v4 v5:Option V,∃xs:List V,σ=[some (.ref a),some (.ref l),some (vN (ed L j)),v3,v4,v5]/\H2 l=some (.lst xs)/\CL H2 xs (row L j 0)/\Same H H2) ⟨none,none,none,_,rfl,hl1,by rw [tL];exact CL.none _ _,s03⟩ ?_ ?_
  ·clear g1 hl1 s03 s3 nl;rintro j σ H2 hj ⟨v3,v4,v5,xs,rfl,hl2,hC,sm⟩;have eb:(1:Int)+((j:Nat):Int)=((j+1:Nat):Int):=by lia
   try dsimp only
   rw [eb];have hes:=tJ hl3 (show j≤12 by lia);refine seq_g λ R2 g2=>?_
   refine⟨_,rfl,_,_,rfl,rfl,⟨by lia,by lia,by lia⟩,g2 _ _ ?_⟩;clear g2;have ec:((ed L j:Nat):Int)*2^(1:Int).toNat=((cdAt L 0 (j+1):Nat):Int):=by
    rw [uu,show((1:Int).toNat)=1 from rfl];lia
   try dsimp only
   rw [ec];refine⟨_,rfl,a,_,rfl,SqL.of (sm _ _ hB),tN (D:=⟨_,_,λ _ _=>False,λ _ _=>False⟩) (K:=K) (a:=a) (xs:=L.map vN) (λ p σ H'=>∃v4 v5:Option V,∃xs:List V,σ=[some (.ref a),some (.ref l),some (vN (cdAt L p (j+1))),some (vN (j+1)),v4,v5]/\H' l=some (.lst xs)/\CL H' xs (row L j p)/\Same H H')
    ⟨v4,v5,xs,rfl,hl2,hC,sm⟩ (λ i σ H' _ z9=>by obtain⟨_,_,_,_,_,_,e⟩:=z9;exact SqL.of (e _ _ hB)) ?_ ?_⟩
   ·rintro p y t σ H' hp ht ⟨v4,v5,xs,rfl,hl2,hC,sm⟩;obtain⟨b,hb1,rfl⟩:=cm hp;have hpl:p<L.length:=(zz.mp hb1).1;have st:=ai (o:=.tup [vN p,vN b]) ht;refine⟨t,_,rfl,SqT.of upd_same,rfl,_,_,rfl,_,_,rfl,rfl,?_⟩;refine⟨_,rfl,_,rfl,rfl,_,rfl,aL (λ h1=>?_) (λ h1=>?_)⟩
    ·have e1:b=j+1:=vN_inj.mp (zA h1);rw [e1] at hb1 st ⊢;refine seq_g λ R3 g3=>?_
     refine⟨_,rfl,_,rfl,(by show 2≤sizeLine;decide),λ q nq=>?_⟩;have sq:=ai (o:=.tup [vN (cdAt L p (j+1)),vN (j+1)]) nq;have hlq:=sq _ _ (st _ _ hl2);have hCq:CL _ xs (row L j p):=hC.keep λ t ys e=>sq _ _ (st _ _ e)
     refine⟨_,rfl,_,rfl,l,xs,_,p,rfl,rfl,hlq,ixN_nat (by rw [hC.1,aV];exact hpl),g3 _ _ ?_⟩;clear g3;refine⟨_,rfl,_,_,rfl,rfl,?_⟩;have ec2:((cdAt L p (j+1):Nat):Int)+1=((cdAt L (p+1) (j+1):Nat):Int):=by rw [lX hb1];lia
     try dsimp only
     rw [ec2];refine⟨some (vN p),some (vN (j+1)),xs.set p (.ref q),rfl,upd_same,?_,λ c o e=>?_⟩
     ·rw [u5 hb1];refine(hCq.set (y:=.ref q) (d:=some (cdAt L p (j+1),j+1)) ⟨q,rfl,upd_same⟩).keep λ t2 ys e=>?_
      rw [upd_ne (ne_of e hlq (by intro z;cases z))];exact e
     ·rw [upd_ne (ag e nlH)];exact sq _ _ (st _ _ (sm _ _ e))
    ·have e1:L[p]?≠some (j+1):=by
      rw [hb1];intro z;cases z;exact h1 (zw rfl)
     refine⟨some (vN p),some (vN b),xs,?_,st _ _ hl2,?_,sm.trans st⟩
     ·rw [qw e1];rfl
     ·rw [tz e1];exact hC.keep λ t ys e=>st _ _ e
   ·rintro σ H' ⟨v4,v5,xs,rfl,hl2,hC,sm⟩;rw [zr] at hC ⊢;rw [lL];rw [sG] at hC;exact⟨_,_,_,xs,rfl,hl2,hC,sm⟩
  ·rintro σ H2 ⟨v3,v4,v5,xs,rfl,hl2,hC,sm⟩;exact g1 _ _ ⟨_,rfl,k l xs H2 nlH sm hl2 hC⟩
end
theorem u1 {k:Nat}{A:Around}(r:Room k A):A.units+1<cLine:=by have:=r.un;lia
abbrev kk (a b:Nat):List Key:=[.inl ((a:Nat):Int),.inl ((b:Nat):Int)]
theorem kk_inj {a b c d:Nat}:kk a b=kk c d<->a=c/\b=d:=by
 constructor
 ·intro h;injection h with h1 h2
  injection h2 with h2 _
  injection h1 with h1
  injection h2 with h2
  lia
 ·rintro⟨rfl,rfl⟩;rfl
theorem yn:¬(("things":Str)="beginnings"):=by decide+kernel
def fC (d e:Addr):List (Str×V):=[("things",.ref d),("beginnings",.ref e)]
theorem oh (d e:Addr):putF "beginnings" (.ref e) (putF "things" (.ref d) [])=fC d e:=by
 show(if("things":Str)="beginnings" then _ else(("things":Str),V.ref d):: [("beginnings",V.ref e)])=_;rw [zK yn];rfl
theorem wy (d e:Addr):(fC d e).lookup ("things":Str)=some (.ref d):=by
 rw [<-oh,aD,zK yn,aD,zP rfl]
theorem yu (d e:Addr):(fC d e).lookup ("beginnings":Str)=some (.ref e):=by
 rw [<-oh,aD,zP rfl]
theorem fC_no (d e:Addr){m:Str}(h1:¬m="beginnings")(h2:¬m="things"):(fC d e).lookup m=none:=by
 rw [<-oh,aD,zK h1,aD,zK h2];rfl
def lp (L:List Nat)(n:Nat)(kvs:List (List Key×V)):Prop:=kvs.length≤n/\∀a b:Nat,(∀q,q<n->L[q]?=some b->1≤b->cdAt L q b=a->bx kvs (kk a b)=some (vN q))/\((∀q,q<n->L[q]?=some b->1≤b->cdAt L q b≠a)->bx kvs (kk a b)=none)
def kA (L:List Nat)(n:Nat)(kvs:List (List Key×V)):Prop:=kvs.length≤12*n/\∀a b:Nat,(bx kvs (kk a b)).isSome=true<->∃q s,q<n/\L[q]?=some s/\b<s/\cdAt L q s/2^(s-b)=a
structure CdAt (C:Addr)(H:Hp)(p d e:Addr)(L:List Nat):Prop where
 ob:∃dx,H p=some (.ins C dx (fC d e))
 th:∃kvs,H d=some (.dT kvs)/\lp L L.length kvs
 bg:∃kvs,H e=some (.dT kvs)/\kA L L.length kvs
structure CRc (K:PySem.W.Frag)(mg:Str->Option Value)(C:Addr):Prop where
 cl:Cls K C
 nT:NoAttr K C "things"
 nB:NoAttr K C "beginnings"
section
variable {P : Program} {w : World} {K : PySem.W.Frag} {mg : Str -> Option Value} {base : Heap} {C : Addr}
def y9 (C:Addr):Sp:=λ vs H Q _=>∃(p d:Addr) (R:List Nat) (t u:Nat),vs=[.ref p,vN u]/\ReadAt C H p d R t/\u≤8*R.length/\
 ∀H',ReadAt C H' p d R u->(∀c o,H c=some o->c≠p->H' c=some o)->Q .non H'
theorem zp:FnScope ["self","place"] ["self","place"] (defScope sGo):=scK (by decide+kernel)
theorem ya {fW':Addr}{fdW:FuncData}(F:Fun K "go" "BitReader.go" sGo f fd)(W:Fn K mg "is_whole" bJ ["thing","least","most"] fW' fdW)(T:CRd K mg C)(X:Txt K mg):
  FnOk P w K mg base CX0 2 f fd ["self","place"] (y9 C):=by
 have GW:FnOk P w K mg base CX0 1 fW' fdW ["thing","least","most"] ft:=dq W X;refine F.ok zp (λ vs H Q E h=>?_) (λ cdv A outer st H vs Q E hr h=>?_)
 ·obtain⟨p,d,R,t,s,rfl,_⟩:=h;rfl
 ·obtain⟨p,d,R,t,u,rfl,S0,hu,q⟩:=h;obtain⟨⟨dx,hp⟩,hd,hb,ht⟩:=id S0;have npd:p≠d:=ne_of hp hd (by intro z;cases z);refine⟨_,ac (aK (bF (bG (am GW hr (by rfl) W.m W.F.kp W.b .nil ao (aa (pv 1) (aa ae (aa (aj cf ae (aq ap (by rfl) X.len zO (aa (aR (pv 0) rfl) ad))) ad)))))) (af aS) aC)
   (af (bV (pv 0) (pv 1) rfl)),?_⟩
  refine⟨_,rfl,_,rfl,p,C,dx,_,_,rfl,hp,T.cl,T.nH,fw _ _,d,_,rfl,.inl (SqL.of hd),_,_,rfl,rfl,.inl ⟨by decide,by decide⟩,_,_,_,rfl,_,rfl,?_⟩;have e1:(decide ((0:Int)≤(u:Int))&&decide ((u:Int)≤8*((R.map vN).length:Int)))=true:=by
   rw [zw (by lia),zw (by rw [zr];lia)];rfl
  try dsimp only
  rw [e1];refine bz ⟨_,rfl,_,rfl,p,C,dx,_,rfl,hp,T.cl,T.nT,rZ _ _,?_⟩
  try dsimp only
  rw [t9];refine q _ ⟨⟨dx,upd_same⟩,by rw [upd_ne npd.symm];exact hd,hb,hu⟩ λ c o e n1=>?_
  rw [upd_ne n1];exact e
def wT (C:Addr):Sp:=λ vs H Q _=>∃(p d e dx:Addr) (c s:Nat) (kvs:List (List Key×V)),vs=[.ref p,vN c,vN s]/\H p=some (.ins C dx (fC d e))/\H e=some (.dT kvs)/\kvs.length≤5000/\s≤12/\
 ∀H' kvs',H' e=some (.dT kvs')->kvs'.length≤kvs.length+s->(∀a b:Nat,(bx kvs' (kk a b)).isSome=true<->(bx kvs (kk a b)).isSome=true\/(b<s/\c/2^(s-b)=a))->
  (∀x o,H x=some o->x≠e->H' x=some o)->Q .non H'
theorem scKeep:FnScope ["self","code","length","size"] ["self","code","length"] (defScope on):=scK (by decide+kernel)
theorem uw (F:Fun K "keep_beginnings" "CodeReader.keep_beginnings" on f fd)(T:CRc K mg C)(X:Txt K mg):FnOk P w K mg base CX0 1 f fd ["self","code","length"] (wT C):=by
 refine F.ok scKeep (λ vs H Q E h=>?_) (λ cdv A outer st H vs Q E hr h=>?_)
 ·obtain⟨p,d,e,dx,c,s,kvs,rfl,_⟩:=h;rfl
 ·obtain⟨p,d,e,dx,c,s,kvs,rfl,hp,he,hl,hs,q⟩:=h;have npe:p≠e:=ne_of hp he (by intro z;cases z);refine⟨_,af (bd Aa rfl (bq (by rfl) X.range (aa (pv 2) ad)) (aH (i:=3) scKeep.nd rfl (Or.inl rfl))
   (af (oy (u1 hr) (aR (pv 0) rfl) (cC (aa (aj mX (pv 1) (aj aY (pv 2) (pv 3))) (aa (pv 3) ad))) dl rfl))),?_⟩
  refine⟨_,rfl,((s:Nat):Int),rfl,by lia,by lia,?_⟩
  try dsimp only
  rw [zV];refine bX (D:=⟨_,_,λ _ _=>False,λ _ _=>False⟩) (lo:=0) (n:=s) (λ i σ H2=>∃(v:Option V) (kvs':List (List Key×V)),σ=[some (.ref p),some (vN c),some (vN s),v]/\H2 e=some (.dT kvs')/\kvs'.length≤kvs.length+i/\
    (∀a b:Nat,(bx kvs' (kk a b)).isSome=true<->(bx kvs (kk a b)).isSome=true\/(b<i/\c/2^(s-b)=a))/\∀x o,H x=some o->x≠e->H2 x=some o)
   ⟨none,kvs,rfl,he,by lia,λ a b=>⟨.inl,λ z=>z.elim id λ z=>absurd z.1 (by lia)⟩,λ x o e _=>e⟩ ?_ ?_
  ·rintro i σ H2 hi ⟨v,kvs',rfl,he2,hl2,hv,oth⟩;have ei:(0:Int)+((i:Nat):Int)=((i:Nat):Int):=by lia
   try dsimp only
   rw [ei];have hp2:=oth _ _ hp npe;refine⟨_,rfl,p,C,dx,_,_,rfl,hp2,T.cl,T.nB,yu _ _,?_⟩;refine⟨_,rfl,_,rfl,_,rfl,_,_,rfl,rfl,_,_,rfl,rfl,(by show(0:Int)≤((s:Nat):Int)-((i:Nat):Int);lia),_,rfl,(by show 2≤sizeLine;decide),λ t nt=>?_⟩;have e1:((c:Nat):Int)/2^(((s:Nat):Int)-((i:Nat):Int)).toNat=((c/2^(s-i):Nat):Int):=by
    rw [show(((s:Nat):Int)-((i:Nat):Int)).toNat=s-i by lia];simp
   try dsimp only
   rw [e1];have net:e≠t:=ag he2 nt;refine⟨e,_,rfl,DPut.t (b:=t) (k:=kk (c/2^(s-i)) i) (by rw [upd_ne net];exact he2) upd_same (C5 (show _≤6000 by lia) (by decide)),?_⟩;refine⟨_,_,rfl,upd_same,AM (cM _ _ _) (by lia),λ a b=>?_,λ x o ex hx=>?_⟩
   ·rw [iF];by_cases c1:kk a b=kk (c/2^(s-i)) i
    ·rw [zP c1];obtain⟨rfl,rfl⟩:=kk_inj.mp c1;exact⟨λ _=>.inr ⟨by lia,rfl⟩,λ _=>rfl⟩
    ·rw [zK c1,hv];constructor
     ·rintro(z|⟨z1,z2⟩)
      ·exact .inl z
      ·exact .inr ⟨by lia,z2⟩
     ·rintro(z|⟨z1,z2⟩)
      ·exact .inl z
      ·refine .inr ⟨?_,z2⟩;rcases AB b i with h|h
       ·exact h
       ·have:b=i:=by lia
        subst this;exact absurd (kk_inj.mpr ⟨z2.symm,rfl⟩) c1
   ·have h1:=oth x o ex hx;rw [upd_ne hx,upd_ne (ag h1 nt)];exact h1
  ·rintro σ H2 ⟨v,kvs',rfl,he2,hl2,hv,oth⟩;exact q _ _ he2 hl2 hv oth
end
theorem vn (L:List Nat):lp L 0 []:=⟨zy _,λ a b=>⟨λ q hq=>absurd hq (by lia),λ _=>rfl⟩⟩
theorem uz (L:List Nat):kA L 0 []:=by
 refine⟨Ap _,λ a b=>⟨λ h=>?_,λ⟨q,s,hq,_⟩=>absurd hq (by lia)⟩⟩;cases h
theorem vG (h:lp L n kvs)(h0:∀s,L[n]?=some s->¬1≤s):lp L (n+1) kvs:=by
 refine⟨AM h.1 (CT _),λ a b=>⟨λ q hq hb h1 hc=>?_,λ hn=>(h.2 a b).2 λ q hq=>hn q (by lia)⟩⟩;rcases AB q n with z|z
 ·exact(h.2 a b).1 q z hb h1 hc
 ·have:q=n:=by lia
  subst this;exact absurd h1 (h0 b hb)
theorem vo (h:kA L n kvs)(h0:∀s,L[n]?=some s->¬1≤s):kA L (n+1) kvs:=by
 refine⟨AM h.1 (by lia),λ a b=>(h.2 a b).trans ⟨λ⟨q,s,hq,r⟩=>⟨q,s,by lia,r⟩,λ z9=>?_⟩⟩;obtain⟨q,s,hq,h1,h2,h3⟩:=z9;rcases AB q n with z|z
 ·exact⟨q,s,z,h1,h2,h3⟩
 ·have:q=n:=by lia
  subst this;exact absurd (by lia) (h0 s h1)
theorem wO (h:lp L n kvs)(hs:L[n]?=some s)(h1:1≤s):lp L (n+1) (putK kvs (kk (cdAt L n s) s) (vN n)):=by
 refine⟨AM (cM _ _ _) (by have:=h.1;lia),λ a b=>⟨λ q hq hb hb1 hc=>?_,λ hn=>?_⟩⟩
 ·rw [iF];by_cases c:kk a b=kk (cdAt L n s) s
  ·obtain⟨rfl,rfl⟩:=kk_inj.mp c;rw [zP rfl,sL hb hs hc]
  ·rw [zK c];rcases AB q n with z|z
   ·exact(h.2 a b).1 q z hb hb1 hc
   ·have:q=n:=by lia
    subst this;rw [hs] at hb;cases hb;exact absurd (kk_inj.mpr ⟨hc.symm,rfl⟩) c
 ·rw [iF,zK]
  ·exact(h.2 a b).2 λ q hq=>hn q (by lia)
  ·intro c;obtain⟨rfl,rfl⟩:=kk_inj.mp c;exact hn n (by lia) hs h1 rfl
theorem xu {kvs':List (List Key×V)}(h:kA L n kvs)(hs:L[n]?=some s)(hs12:s≤12)(hl:kvs'.length≤kvs.length+s)
  (hv:∀a b:Nat,(bx kvs' (kk a b)).isSome=true<->(bx kvs (kk a b)).isSome=true\/(b<s/\cdAt L n s/2^(s-b)=a)):kA L (n+1) kvs':=by
 refine⟨by have:=h.1;lia,λ a b=>(hv a b).trans ?_⟩;rw [h.2 a b];constructor
 ·rintro(⟨q,r,hq,z⟩|⟨z1,z2⟩)
  ·exact⟨q,r,by lia,z⟩
  ·exact⟨n,s,by lia,hs,z1,z2⟩
 ·rintro⟨q,r,hq,z1,z2,z3⟩;rcases AB q n with z|z
  ·exact .inl ⟨q,r,z,z1,z2,z3⟩
  ·have:q=n:=by lia
   subst this;rw [hs] at z1;cases z1;exact .inr ⟨z2,z3⟩
section
variable {P : Program} {w : World} {K : PySem.W.Frag} {mg : Str -> Option Value} {base : Heap} {C : Addr}
def uX (C:Addr):Sp:=λ vs H Q _=>∃(p dx a:Addr) (L:List Nat),vs=[.ref p,.ref a]/\H p=some (.ins C dx [])/\H a=some (.lst (L.map vN))/\Good L/\
 ∀(d e:Addr) (H':Hp),H d=none->H e=none->CdAt C H' p d e L->(∀b o,H b=some o->b≠p->H' b=some o)->Q .non H'
theorem scCInit:FnScope ["self","lengths","place","pair"] ["self","lengths"] (defScope jG):=scK (by decide+kernel)
structure Mks (K:PySem.W.Frag)(mg:Str->Option Value)(C:Addr):Prop where
 X:Txt K mg
 Y:Lns K mg
 need:∃f fd,Fn K mg "need_lengths" dz ["lengths"] f fd
 cof:∃f fd,Fn K mg "codes_of" fj ["lengths"] f fd
 keep:∃f fd,Me K C "keep_beginnings" "CodeReader.keep_beginnings" on ["self","code","length"] f fd
 R:CRc K mg C
theorem ok_cinit (F:Fun K "__init__" "CodeReader.__init__" jG f fd)(M:Mks K mg C):FnOk P w K mg base CX0 34 f fd ["self","lengths"] (uX C):=by
 obtain⟨X,Y,⟨_,_,N⟩,⟨_,_,O⟩,⟨_,_,Ke⟩,T⟩:=M;have GO:=ok_codesof (P:=P) (w:=w) (base:=base) O N Y;have GK:=uw (P:=P) (w:=w) (base:=base) Ke.F T X;refine F.ok scCInit (λ vs H Q E h=>?_) (λ cdv A outer st H vs Q E hr h=>?_)
 ·obtain⟨p,dx,a,L,rfl,_⟩:=h;rfl
 ·obtain⟨p,dx,a,L,rfl,hp,ha,G,q⟩:=h;have hr1:Room 1 _:=hr.mono (by decide);refine⟨_,ac (bV (pv 0) kY rfl) (ac (bV (pv 0) kY rfl)
   (af (bd Aa rfl (jF (by rfl) Y.X.enum (aa (am GO hr (by rfl) O.m O.F.kp O.b .nil ao (aa (pv 1) ad)) ad)) (iE rfl (bA (aH (i:=2) scCInit.nd rfl (Or.inl rfl)) (bA (aH (i:=3) scCInit.nd rfl (Or.inl rfl)) eN)))
    (af (aK (mV (vR (pv 3)))
     (ac (oy (u1 hr) (aR (pv 0) rfl) (pv 3) (pv 2) rfl)
     (af (aA (aI (pv 0) T.cl Ke.m GK hr1 Ke.b .nil ao (aa (aM a7 (pv 3) ae (λ _ _=>rfl)) (aa (aM a7 (pv 3) ae (λ _ _=>rfl)) ad)))))) aC))))),?_⟩
  refine seq_g λ R1 g1=>?_
  intro d nd;have npd:p≠d:=ag hp nd;refine⟨_,rfl,p,C,dx,[],rfl,(by rw [upd_ne npd];exact hp),T.cl,T.nT,(by show 0<1000;decide),g1 _ _ ?_⟩;clear g1;refine seq_g λ R1 g1=>?_
  intro e ne;have npe:p≠e:=by
   rintro rfl;rw [upd_same] at ne;cases ne
  have nde:d≠e:=by
   rintro rfl;rw [upd_ne npd.symm,upd_same] at ne;cases ne
  refine⟨_,rfl,p,C,dx,_,rfl,(by rw [upd_ne npe,upd_same]),T.cl,T.nB,(by show 1<1000;decide),g1 _ _ ?_⟩;clear g1;have neH:H e=none:=by
   rw [upd_ne npe.symm,upd_ne nde.symm] at ne;exact ne
  try dsimp only
  rw [oh];have kp:∀b o,H b=some o->b≠p->upd (upd (upd (upd H d (.dT [])) p (.ins C dx (putF "things" (.ref d) []))) e (.dT [])) p (.ins C dx (fC d e)) b=some o:=λ b o ez hn=>by
   rw [upd_ne hn,upd_ne (ag ez neH),upd_ne hn,upd_ne (ag ez nd)];exact ez
  have hp0:upd (upd (upd (upd H d (.dT [])) p (.ins C dx (putF "things" (.ref d) []))) e (.dT [])) p (.ins C dx (fC d e)) p=some (.ins C dx (fC d e)):=upd_same;have hd0:upd (upd (upd (upd H d (.dT [])) p (.ins C dx (putF "things" (.ref d) []))) e (.dT [])) p (.ins C dx (fC d e)) d=some (.dT []):=by
   rw [upd_ne npd.symm,upd_ne nde,upd_ne npd.symm,upd_same]
  have he0:upd (upd (upd (upd H d (.dT [])) p (.ins C dx (putF "things" (.ref d) []))) e (.dT [])) p (.ins C dx (fC d e)) e=some (.dT []):=by
   rw [upd_ne npe.symm,upd_same]
  generalize upd (upd (upd (upd H d (.dT [])) p (.ins C dx (putF "things" (.ref d) []))) e (.dT [])) p (.ins C dx (fC d e))=H0 at*;have nap:a≠p:=ne_of ha hp (by intro z;cases z);refine⟨_,rfl,_,L,rfl,⟨a,rfl,kp _ _ ha nap,G.most⟩,G,λ l xs H1 nl s1 hl1 hC1=>?_⟩;have nlp:l≠p:=λ z=>by rw [z,hp0] at nl;cases nl
  have nld:l≠d:=λ z=>by rw [z,hd0] at nl;cases nl
  have nle:l≠e:=λ z=>by rw [z,he0] at nl;cases nl
  refine⟨l,_,rfl,SqL.of hl1,tN (D:=⟨_,_,λ _ _=>False,λ _ _=>False⟩) (K:=K) (a:=l) (xs:=xs) (λ i σ H2=>∃(v2 v3:Option V) (k1 k2:List (List Key×V)),σ=[some (.ref p),some (.ref a),v2,v3]/\H2 p=some (.ins C dx (fC d e))/\H2 d=some (.dT k1)/\H2 e=some (.dT k2)/\lp L i k1/\kA L i k2/\H2 l=some (.lst xs)/\CL H2 xs (codes L)/\
    ∀b o,H b=some o->b≠p->H2 b=some o) ⟨none,none,[],[],rfl,s1 _ _ hp0,s1 _ _ hd0,s1 _ _ he0,vn L,uz L,hl1,hC1,λ b o ez hn=>s1 _ _ (kp b o ez hn)⟩ (λ i σ H' _ z9=>by obtain⟨_,_,_,_,_,_,_,_,_,_,z,_⟩:=z9;exact SqL.of z) ?_ ?_⟩
  ·rintro i x t σ H2 hx nt ⟨v2,v3,k1,k2,rfl,hp2,hd2,he2,hT,hB,hl2,hC,oth⟩;have hil:i<(codes L).length:=by rw [<-hC.1];exact(zz.mp hx).1
   have hiL:i<L.length:=by
    unfold codes at hil
    rwa [aV] at hil
   have hLle:=G.le;have st:=ai (o:=.tup [vN i,x]) nt;refine⟨t,_,rfl,SqT.of upd_same,rfl,_,_,rfl,_,_,rfl,rfl,?_⟩;have ot:=hC.2 i x _ hx (zu hil);have hpT:=st _ _ hp2;have hdT:=st _ _ hd2;have heT:=st _ _ he2;have hlT:=st _ _ hl2;have hCT:CL _ xs (codes L):=hC.keep λ t2 ys ez=>st _ _ ez
   have othT:∀b o,H b=some o->b≠p->upd H2 t (.tup [vN i,x]) b=some o:=λ b o ez hn=>st _ _ (oth b o ez hn)
   generalize upd H2 t (.tup [vN i,x])=H3 at*;cases eo:(codes L)[i] with
   |none=>
    rw [eo] at ot;have ex:x=.non:=ot;subst ex;have h0:∀s,L[i]?=some s->¬1≤s:=λ s hs h1=>by
     have:=codes_of_get G hs h1;rw [zu hil,eo] at this;cases this
    refine⟨_,rfl,_,rfl,bz ?_⟩;exact⟨_,_,k1,k2,rfl,hpT,hdT,heT,vG hT h0,vo hB h0,hlT,hCT,othT⟩
   |some c=>
    rw [eo] at ot;have hcs:=nk G (c:=c) (q:=i) (by rw [zu hil,eo]);obtain⟨u,ex,hu⟩:=hC.keep (H':=H3) (λ t2 ys ez=>by exact(st _ _ ez))|>.2 i x _ hx (by rw [zu hil,eo]);subst ex;refine⟨_,rfl,_,rfl,iA ?_⟩;refine seq_g λ R2 g2=>?_
    refine⟨_,rfl,_,rfl,p,C,dx,_,_,rfl,hpT,T.cl,T.nT,wy _ _,_,rfl,d,_,rfl,DPut.t (b:=u) (k:=kk c.1 c.2) hdT hu (C5 (show _≤300 by have:=hT.1;lia) (by decide)),g2 _ _ ?_⟩;clear g2;have nud:u≠d:=ne_of hu hdT (by intro z;cases z);have hu4:upd H3 d (.dT (putK k1 (kk c.1 c.2) (vN i))) u=some (.tup [vN c.1,vN c.2]):=by rw [upd_ne nud];exact hu
    refine⟨_,rfl,p,dx,_,rfl,(by rw [upd_ne npd];exact hpT),fC_no _ _ (by decide+kernel) (by decide+kernel),?_⟩;refine⟨_,rfl,u,_,_,_,rfl,rfl,SqT.of hu4,ay (j:=0) rfl,_,rfl,u,_,_,_,rfl,rfl,SqT.of hu4,ay (j:=1) rfl,?_⟩;have hc12:c.2≤12:=mx G hcs.1;refine⟨p,d,e,dx,c.1,c.2,k2,rfl,(by rw [upd_ne npd];exact hpT),(by rw [upd_ne nde.symm];exact heT),(by have:=hB.1;lia),hc12,λ H5 k2' he5 hl5 hv5 oth5=>?_⟩;refine⟨_,_,_,k2',rfl,oth5 _ _ (by rw [upd_ne npd];exact hpT) npe,oth5 _ _ upd_same nde,he5,?_,?_,oth5 _ _ (by rw [upd_ne nld];exact hlT) nle,?_,λ b o ez hn=>?_⟩
    ·have:=wO hT hcs.1 hcs.2.1;rw [<-hcs.2.2] at this;exact this
    ·refine xu hB hcs.1 hc12 hl5 λ a b=>?_
     rw [<-hcs.2.2];exact hv5 a b
    ·refine hCT.keep λ t2 ys ez=>?_
     refine oth5 _ _ ?_ (ne_of ez heT (by intro z;cases z));rw [upd_ne (ne_of ez hdT (by intro z;cases z))];exact ez
    ·have h3:=othT b o ez hn;refine oth5 _ _ ?_ (ag ez neH);rw [upd_ne (ag ez nd)];exact h3
  ·rintro σ H2 ⟨v2,v3,k1,k2,rfl,hp2,hd2,he2,hT,hB,hl2,hC,oth⟩;have e1:xs.length=L.length:=by rw [hC.1];unfold codes;rw [aV]
   rw [e1] at hT hB;exact q d e H2 nd neH ⟨⟨dx,hp2⟩,⟨k1,hd2,hT⟩,⟨k2,he2,hB⟩⟩ oth
end
def bt (R:List Nat):List Bool:=BP.dig (BP.val R) (8*R.length)
theorem pO (R:List Nat):(bt R).length=8*R.length:=BP.dig_length _ _
theorem o5 (n:Nat):∀(m i:Nat),i<m->(BP.dig n m)[i]?=some (decide (n/2^(m-1-i)%2=1))
 |m+1,0,_=>by
  show some _=some _;rfl
 |m+1,i+1,h=>by
  show(BP.dig n m)[i]?=_;rw [o5 n m i (by lia),show m+1-1-(i+1)=m-1-i by lia]
theorem wU {t:Nat}(h:t+s<8*R.length):∃b:Bool,((bt R).drop t).take (s+1)=((bt R).drop t).take s++[b]/\BP.val R/2^(8*R.length-(t+s+1))%2^1=b.toNat:=by
 refine⟨decide (BP.val R/2^(8*R.length-1-(t+s))%2=1),?_,?_⟩
 ·rw [AO,BY];unfold bt;rw [o5 _ _ _ h];rfl
 ·rw [show 8*R.length-(t+s+1)=8*R.length-1-(t+s) by lia,Nat.pow_one];have h2:=DG (BP.val R/2^(8*R.length-1-(t+s))) (show 0<2 by decide);by_cases c:BP.val R/2^(8*R.length-1-(t+s))%2=1
  ·rw [zw c,c];rfl
  ·rw [AC c];show _=0;lia
theorem _root_.K20.ReadAt.same {t:Nat}(h:ReadAt C H p d R t)(s:Same H H'):ReadAt C H' p d R t:=by
 obtain⟨⟨dx,h1⟩,h2,h3,h4⟩:=h;exact⟨⟨dx,s _ _ h1⟩,s _ _ h2,h3,h4⟩
theorem zm:¬(("things":Str)="held"):=by decide+kernel
theorem yC {g:Addr}{t:Nat}(h:CdAt C H p d e L)(h':ReadAt B H r g R t):p≠r/\d≠r/\e≠r/\p≠g/\d≠g/\e≠g:=by
 obtain⟨⟨dx,h1⟩,⟨k1,h2,_⟩,⟨k2,h3,_⟩⟩:=h;obtain⟨⟨dy,r1⟩,r2,_,_⟩:=h';refine⟨ne_of h1 r1 ?_,ne_of h2 r1 (by intro z;cases z),ne_of h3 r1 (by intro z;cases z),ne_of h1 r2 (by intro z;cases z),ne_of h2 r2 (by intro z;cases z),ne_of h3 r2 (by intro z;cases z)⟩;intro z;injection z with _ _ z
 unfold fC fR at z;injection z with z _
 injection z with z _
 exact zm z
theorem CdAt.keep (h:CdAt C H p d e L)(s:∀c o,H c=some o->(c=p\/c=d\/c=e)->H' c=some o):CdAt C H' p d e L:=by
 obtain⟨⟨dx,h1⟩,⟨k1,h2,h2'⟩,⟨k2,h3,h3'⟩⟩:=h;exact⟨⟨dx,s _ _ h1 (.inl rfl)⟩,⟨k1,s _ _ h2 (.inr (.inl rfl)),h2'⟩,⟨k2,s _ _ h3 (.inr (.inr rfl)),h3'⟩⟩
theorem CdAt.same (h:CdAt C H p d e L)(s:Same H H'):CdAt C H' p d e L:=h.keep λ c o e _=>s _ _ e
theorem CdAt.but {g:Addr}{t:Nat}(h:CdAt C H p d e L)(h':ReadAt B H r g R t)(s:∀c o,H c=some o->c≠r->H' c=some o):CdAt C H' p d e L:=by
 obtain⟨n1,n2,n3,_⟩:=yC h h';exact h.keep λ c o ez hc=>s c o ez (by rcases hc with rfl|rfl|rfl<;>assumption)
theorem u9 (h:kA L L.length kvs)(u:List Bool):(bx kvs (kk (BP.num u) u.length)).isSome=true<->Beg L u:=by
 rw [h.2];constructor
 ·rintro⟨q,s,_,h1,h2,h3⟩;exact⟨q,s,h1,h2,h3⟩
 ·rintro⟨q,s,h1,h2,h3⟩;exact⟨q,s,(zz.mp h1).1,h1,h2,h3⟩
theorem uv (h:lp L L.length kvs)(u:List Bool):(∀q,c8 L u q->bx kvs (kk (BP.num u) u.length)=some (vN q))/\((∀q,¬c8 L u q)->bx kvs (kk (BP.num u) u.length)=none):=by
 refine⟨λ q ⟨h1,h2,h3⟩=>(h.2 _ _).1 q (zz.mp h1).1 h1 h2 h3,λ hn=>(h.2 _ _).2 λ q _ h1 h2 h3=>hn q ⟨h1,h2,h3⟩⟩
section
variable {P : Program} {w : World} {K : PySem.W.Frag} {mg : Str -> Option Value} {base : Heap} {C B : Addr}
structure Rds (K:PySem.W.Frag)(mg:Str->Option Value)(B:Addr):Prop where
 X:Txt K mg
 whole:∃f fd,Fn K mg "is_whole" bJ ["thing","least","most"] f fd
 size:∃f fd,Fn K mg "need_size" bK ["size"] f fd
 ones:∃f fd,Fn K mg "ones" dC ["size"] f fd
 bits:∃f fd,Fn K mg "bits_at" c6 ["row","place","size"] f fd
 take:∃f fd,Me K B "take" "BitReader.take" lP ["self","size"] f fd
 left:∃f fd,Me K B "left" "BitReader.left" ig ["self"] f fd
 place:∃f fd,Me K B "place" "BitReader.place" gP ["self"] f fd
 go:∃f fd,Me K B "go" "BitReader.go" sGo ["self","place"] f fd
 R:CRd K mg B
def uM (C B:Addr):Sp:=λ vs H Q _=>∃(p d e r g:Addr) (L R:List Nat) (t q s:Nat),vs=[.ref p,.ref r]/\CdAt C H p d e L/\Good L/\ReadAt B H r g R t/\Due L ((bt R).drop t) (.thing q s)/\∀H',ReadAt B H' r g R (t+s)->(∀c o,H c=some o->c≠r->H' c=some o)->Q (vN q) H'
abbrev wv:List Str:=["self","reader","begin","code","size"]
theorem scThing:FnScope wv ["self","reader"] (defScope jE):=scK (by decide+kernel)
theorem ok_thing (F:Fun K "thing" "CodeReader.thing" jE f fd)(T:CRc K mg C)(D:Rds K mg B):FnOk P w K mg base CX0 31 f fd ["self","reader"] (uM C B):=by
 obtain⟨X,⟨_,_,W⟩,⟨_,_,S⟩,⟨_,_,O⟩,⟨_,_,Bi⟩,⟨_,_,Ta⟩,⟨_,_,Le⟩,⟨_,_,Pl⟩,⟨_,_,Go⟩,TB⟩:=D;have GT:=dO (P:=P) (w:=w) (base:=base) Ta.F S W Bi O Le TB X;have GL:=jq (P:=P) (w:=w) (base:=base) Le.F TB X;have GP:=gQ (P:=P) (w:=w) (base:=base) Pl.F TB;have GG:=ya (P:=P) (w:=w) (base:=base) Go.F W TB X;refine F.ok scThing (λ vs H Q E h=>?_) (λ cdv A outer st H vs Q E hr h=>?_)
 ·obtain⟨p,d,e,r,g,L,R,t,q0,s0,rfl,_⟩:=h;rfl
 ·obtain⟨p,d,e,r,g,L,R,t,q0,s0,rfl,hC,G,hR,hD,k⟩:=h;have hr1:Room 1 _:=hr.mono (by decide);have hr2:Room 2 _:=hr.mono (by decide);have hr3:Room 3 _:=hr.mono (by decide);refine⟨_,ac (ak (i:=2) scThing.nd rfl (Or.inl rfl) (bh (pv 1) TB.cl Pl.m GP hr1 Pl.b .nil ao))
   (ac (ak (i:=3) scThing.nd rfl (Or.inl rfl) ae)
   (ac (ak (i:=4) scThing.nd rfl (Or.inl rfl) ae)
   (ac (bE Aa (mV (xJ (u1 hr) (cC (aa (pv 3) (aa (pv 4) ad))) (aR (pv 0) rfl)))
    (ac (aK (ar bj (bh (pv 1) TB.cl Le.m GL hr1 Le.b .nil ao) ae (ax _))
     (ac (aA (aI (pv 1) TB.cl Go.m GG hr2 Go.b .nil ao (aa (pv 2) ad))) (af aS)) aC)
    (ac (ak (i:=3) scThing.nd rfl (Or.inl rfl) (aj rW (aj c5 (pv 3) ae) (aI (pv 1) TB.cl Ta.m GT hr3 Ta.b .nil ao (aa ae ad))))
    (af (ak (i:=4) scThing.nd rfl (Or.inl rfl) (aj aE (pv 4) ae))))))
   (ac (aK (mV (qg (u1 hr) (cC (aa (pv 3) (aa (pv 4) ad))) (aR (pv 0) rfl)))
     (ac (aA (aI (pv 1) TB.cl Go.m GG hr2 Go.b .nil ao (aa (pv 2) ad))) (af aS)) aC)
   (af (az (uE (u1 hr) (aR (pv 0) rfl) (cC (aa (pv 3) (aa (pv 4) ad))) (λ _ _=>rfl)))))))),?_⟩
  have ht:=hR.le;have hrl:((bt R).drop t).length=8*R.length-t:=by rw [zR,pO]
  refine seq_g λ R1 g1=>?_
  obtain⟨dx,hr0⟩:=hR.ob;refine⟨_,rfl,r,dx,_,rfl,hr0,cJ _ _ (by decide+kernel) (by decide+kernel),r,g,R,t,rfl,hR,g1 _ _ ?_⟩;clear g1;refine seq_g λ R1 g1=>g1 _ _ ?_
  clear g1;refine seq_g λ R1 g1=>g1 _ _ ?_
  clear g1;refine seq_g λ R1 g1=>?_
  refine⟨λ m σ H2=>∃s,m=(8*R.length-t)-s/\t+s≤8*R.length/\(∀j<s,Beg L (((bt R).drop t).take j))/\σ=[some (.ref p),some (.ref r),some (vN t),some (vN (BP.num (((bt R).drop t).take s))),some (vN s)]/\ReadAt B H2 r g R (t+s)/\CdAt C H2 p d e L/\∀c o,H c=some o->c≠r->H2 c=some o,
   ⟨_,0,rfl,by lia,λ j hj=>absurd hj (by lia),rfl,hR,hC,λ c o z _=>z⟩,?_⟩
  rintro m σ H2 ⟨s,rfl,hs,hbg,rfl,hR2,hC2,oth⟩;have hus:(((bt R).drop t).take s).length=s:=by rw [zW,hrl];lia
  obtain⟨k2,hk2,hB2⟩:=hC2.bg;obtain⟨dy,hp2⟩:=hC2.ob;refine⟨_,rfl,_,rfl,(by show 2≤sizeLine;decide),λ u nu=>?_⟩;have su:=ai (o:=.tup [vN (BP.num (((bt R).drop t).take s)),vN s]) nu;have hu:upd H2 u (.tup [vN (BP.num (((bt R).drop t).take s)),vN s]) u=some (.tup ((kk (BP.num (((bt R).drop t).take s)) s).map kV)):=upd_same;have hR3:=hR2.same su;have hC3:=hC2.same su;have oth3:∀c o,H c=some o->c≠r->upd H2 u (.tup [vN (BP.num (((bt R).drop t).take s)),vN s]) c=some o:=λ c o z hn=>su _ _ (oth c o z hn)
  have hk3:=su _ _ hk2;have hp3:=su _ _ hp2;generalize upd H2 u (.tup [vN (BP.num (((bt R).drop t).take s)),vN s])=H3 at*;refine⟨_,rfl,p,C,dy,_,_,rfl,hp3,T.cl,T.nB,yu _ _,e,_,rfl,DGet.t hk3 hu,_,rfl,?_⟩;have hw:=u9 hB2 (((bt R).drop t).take s);rw [hus] at hw;by_cases c1:Beg L (((bt R).drop t).take s)
  ·rw [hw.mpr c1];refine iA ?_;refine⟨λ σ' H'=>∃m',m'<8*R.length-t-s/\∃s',m'=(8*R.length-t)-s'/\t+s'≤8*R.length/\(∀j<s',Beg L (((bt R).drop t).take j))/\σ'=[some (.ref p),some (.ref r),some (vN t),some (vN (BP.num (((bt R).drop t).take s'))),some (vN s')]/\ReadAt B H' r g R (t+s')/\CdAt C H' p d e L/\∀c o,H c=some o->c≠r->H' c=some o,λ σ' H' h=>h,?_⟩;have hbg':∀j<s+1,Beg L (((bt R).drop t).take j):=λ j hj=>by
    rcases AB j s with z|z
    ·exact hbg j z
    ·have:j=s:=by lia
     subst this;exact c1
   refine seq_g λ R2 g2=>?_
   obtain⟨dx3,hr3'⟩:=hR3.ob;refine⟨_,rfl,r,dx3,_,rfl,hr3',cJ _ _ (by decide+kernel) (by decide+kernel),r,g,R,t+s,rfl,hR3,rfl,_,rfl,aL (λ h1=>?_) (λ h1=>?_)⟩
   ·have h0:8*R.length-(t+s)=0:=vN_inj.mp (zA h1);have hn:Due L ((bt R).drop t) .none:=λ j hj=>hbg' j (by rw [hrl] at hj;lia)
    cases hD.uniq hn
   ·have h0:t+s<8*R.length:=by
     rcases AB (t+s) (8*R.length) with z|z
     ·exact z
     ·exact absurd (zw (vN_inj.mpr (show 8*R.length-(t+s)=0 by lia))) h1
    refine g2 _ _ ?_;clear g2;obtain⟨b,hb1,hb2⟩:=wU h0;refine seq_g λ R2 g2=>?_
    have hs12:s≤12:=by
     obtain⟨q1,s1,z1,z2,_⟩:=c1;have:=mx G z1;lia
    have es:BP.num (((bt R).drop t).take s)<2^s:=by have:=BP.num_lt (((bt R).drop t).take s);rwa [hus] at this
    have es2:2^s≤2^12:=BB (by decide) hs12;refine⟨_,rfl,_,_,rfl,rfl,⟨by lia,by lia,by lia⟩,?_⟩;refine⟨_,rfl,r,dx3,_,rfl,hr3',cJ _ _ (by decide+kernel) (by decide+kernel),r,g,R,t+s,1,rfl,hR3,by lia,by lia,λ H4 hR4 oth4=>?_⟩;refine⟨_,_,rfl,rfl,g2 _ _ ?_⟩;clear g2;have hb3:b.toNat<2^1:=by cases b<;>decide
    have e1:Builtin.bitOr (((BP.num (((bt R).drop t).take s):Nat):Int)*2^(1:Int).toNat) ((BP.val R/2^(8*R.length-(t+s+1))%2^1:Nat):Int)=((BP.num (((bt R).drop t).take (s+1)):Nat):Int):=by
     rw [hb2];have:=m5 (BP.num (((bt R).drop t).take s)) b.toNat 1 hb3;rw [hb1,BP.num_snoc];rw [show((1:Int))=((1:Nat):Int) from rfl,this];lia
    try dsimp only
    rw [e1];refine⟨_,rfl,_,_,rfl,rfl,?_⟩;have e2:((s:Nat):Int)+1=((s+1:Nat):Int):=by lia
    try dsimp only
    rw [e2];exact⟨_,by lia,s+1,rfl,by lia,hbg',rfl,hR4,hC3.but hR3 oth4,λ c o z hn=>oth4 c o (oth3 c o z hn) hn⟩
  ·rw [Bool.eq_false_iff.mpr (λ z=>c1 (hw.mp z))];refine bz (g1 _ _ ?_);clear g1;obtain⟨k1,hk1,hT1⟩:=hC3.th;obtain⟨dx3,hr3'⟩:=hR3.ob;obtain⟨tw1,tw2⟩:=uv hT1 (((bt R).drop t).take s);rw [hus] at tw1 tw2;refine seq_g λ R2 g2=>?_
   refine⟨_,rfl,_,rfl,(by show 2≤sizeLine;decide),λ v nv=>?_⟩;have sv:=ai (o:=.tup [vN (BP.num (((bt R).drop t).take s)),vN s]) nv;have hv:upd H3 v (.tup [vN (BP.num (((bt R).drop t).take s)),vN s]) v=some (.tup ((kk (BP.num (((bt R).drop t).take s)) s).map kV)):=upd_same;have hR4:=hR3.same sv;have hC4:=hC3.same sv;have oth4:∀c o,H c=some o->c≠r->upd H3 v (.tup [vN (BP.num (((bt R).drop t).take s)),vN s]) c=some o:=λ c o z hn=>sv _ _ (oth3 c o z hn)
   have hk4:=sv _ _ hk1;have hp4:=sv _ _ hp3;have hr4:=sv _ _ hr3';generalize upd H3 v (.tup [vN (BP.num (((bt R).drop t).take s)),vN s])=H4 at*;refine⟨_,rfl,p,C,dy,_,_,rfl,hp4,T.cl,T.nT,wy _ _,d,_,rfl,DGet.t hk4 hv,_,rfl,?_⟩;by_cases c2:∃q,c8 L (((bt R).drop t).take s) q
   ·obtain⟨q,hq⟩:=c2;rw [tw1 q hq];refine bz (g2 _ _ ?_);clear g2;have hn:Due L ((bt R).drop t) (.thing q s):=⟨by rw [hrl];lia,hq,hbg⟩;have hz:=hD.uniq hn;obtain⟨e1,e2⟩:q=q0/\s=s0:=by cases hz;exact⟨rfl,rfl⟩
    subst e1 e2;refine⟨_,rfl,p,C,dy,_,_,rfl,hp4,T.cl,T.nT,wy _ _,_,rfl,_,rfl,(by show 2≤sizeLine;decide),λ x nx=>?_⟩;have sx:=ai (o:=.tup [vN (BP.num (((bt R).drop t).take s)),vN s]) nx;refine⟨d,_,rfl,?_,k _ (hR4.same sx) λ c o z hn=>sx _ _ (oth4 c o z hn)⟩;have:=DGet.t (sx _ _ hk4) (show upd H4 x (.tup [vN (BP.num (((bt R).drop t).take s)),vN s]) x=some (.tup ((kk (BP.num (((bt R).drop t).take s)) s).map kV)) from upd_same);rw [tw1 q hq] at this;exact this
   ·have c3:∀q,¬c8 L (((bt R).drop t).take s) q:=λ q hq=>c2 ⟨q,hq⟩
    rw [tw2 c3];refine iA ?_;have hn:Due L ((bt R).drop t) .bad:=⟨s,by rw [hrl];lia,hbg,c1,c3⟩;cases hD.uniq hn
end
end K20.C
set_option maxHeartbeats 1000000
namespace K20
open PySem L2 QQ W17 W16 BP
variable {x : Pc} {b q : Nat} {B L Q R W : List Nat} {ps : List (Nat×Nat)} {Pp : List Pc}
def th:Pc->Nat
 | .sg s=>s
 | .cp _ z=>253+z
def cP (L:List Nat):Pc->List (Nat×Nat)
 | .sg s=>[(C9.cdAt L s (L.getD s 0),L.getD s 0)]
 | .cp b z=>[(C9.cdAt L (253+z) (L.getD (253+z) 0),L.getD (253+z) 0),(b,8)]
def hP (L:List Nat)(P:List Pc):List (Nat×Nat):=P.flatMap (cP L)
def cn (Q:List Nat):List Nat:=(List.range 272).map λ q=>Q.count q
theorem dX (L:List Nat)(P Q:List Pc):hP L (P++Q)=hP L P++hP L Q:=by simp [hP]
theorem uh (L:List Nat)(x:Pc)(P:List Pc):hP L (x::P)=cP L x++hP L P:=by simp [hP]
theorem mM (L:List Nat)(x:Pc):hP L [x]=cP L x:=by simp [hP]
theorem cq (Q:List Nat):(cn Q).length=272:=by simp [cn]
theorem GR.all:∀{P:List Pc} {B:List Nat},GR B P->∀x∈P,∃B',dm B' x
 |y::P,B,h,x,hx=>by
  rcases zL.mp hx with rfl|hx
  ·exact⟨B,h.1⟩
  ·exact GR.all h.2 x hx
theorem nP (h:dm B x):th x<272:=by
 cases x with
 |sg s=>have:s<256:=h;show s<272;lia
 |cp b z=>
  obtain⟨_,_,_,_,h5⟩:1≤b/\b≤255/\b≤B.length/\3≤z/\z≤18:=h;show 253+z<272;lia
structure TOk (L:List Nat)(Pp:List Pc):Prop where
 good:C9.Good L
 len:L.length=272
 six:∀b∈L,b≤6
 has:∀x∈Pp,1≤L.getD (th x) 0
theorem TOk.at (h:TOk L Pp)(hx:x∈Pp)(g:dm B x):L[th x]?=some (L.getD (th x) 0)/\1≤L.getD (th x) 0/\L.getD (th x) 0≤6:=by
 have hl:th x<L.length:=by rw [h.len];exact nP g
 have e:L[th x]?=some (L.getD (th x) 0):=by rw [Ab,zu hl];rfl
 exact⟨e,h.has x hx,h.six _ (AK e)⟩
theorem uj (h:TOk L Pp)(g:GR W Pp):Good (hP L Pp):=λ q hq=>by
 obtain⟨x,hx,hq⟩:=D4.mp hq;obtain⟨B',gx⟩:=g.all x hx;obtain⟨e1,e2,e3⟩:=h.at hx gx;have cl:=C10.cd_lt h.good e1 e2;cases x with
 |sg s=>
  rw [zX.mp (show q∈ [(C9.cdAt L s (L.getD s 0),L.getD s 0)] from hq)];exact cl
 |cp b z=>
  rcases zL.mp (show q∈ [(C9.cdAt L (253+z) (L.getD (253+z) 0),L.getD (253+z) 0),(b,8)] from hq) with rfl|hq
  ·exact cl
  ·rw [zX.mp hq];obtain⟨_,h2,_,_,_⟩:1≤b/\b≤255/\b≤B'.length/\3≤z/\z≤18:=gx;show b<2^8;lia
theorem uP (six:∀b∈L,b≤6)(x:Pc):tots (cP L x)≤14:=by
 have six:∀n,L.getD n 0≤6:=λ n=>by
  rw [Ab];cases e:L[n]? with
  |none=>exact Ap _
  |some y=>exact six y (AK e)
 cases x with
 |sg s=>have:=six s;show L.getD s 0+0≤14;lia
 |cp b z=>have:=six (253+z);show L.getD (253+z) 0+(8+0)≤14;lia
theorem ju (six:∀b∈L,b≤6):∀P:List Pc,tots (hP L P)≤14*P.length
 | []=>zy _
 |x::P=>by
  rw [uh,aw,zD];have:=ju six P;have:=uP six x;lia
theorem gC:∀{It:List W13.Itm} (a:Nat),(∀x∈It,W13.StOk x)->tots (W13.puts It)≤3*(W13.decL a It).length
 | [],_,_=>zy _
 |x::It,a,h=>by
  have hx:=h x (by simp);have e:W13.puts (x::It)=x.puts++W13.puts It:=by simp [W13.puts]
  rw [e,aw];cases x with
  |one y=>
   have ih:=gC (It:=It) y λ z hz=>h z (by simp [hz])
   show(3+0)+tots (W13.puts It)≤3*((W13.decL y It).length+1);lia
  |rep r=>
   have ih:=gC (It:=It) a λ z hz=>h z (by simp [hz])
   have hr:3≤r/\r≤66:=hx;show(3+(6+0))+tots (W13.puts It)≤3*(List.replicate r a++W13.decL a It).length;rw [zv,AR];lia
theorem o3 (hl:L.length=272){It:List W13.Itm}(h:W13.Walk L 0 0 It 272 b):W13.decL 0 It=L:=by
 have:=W13.walk_dec h;rw [Cn,A3,<-hl,An] at this;exact this.symm
theorem oG:∀{P P':List W13.Itm} {p a b b':Nat},W13.Walk L p a P L.length b->W13.Walk L p a P' L.length b'->P=P'
 | [],[],_,_,_,_,_,_=>rfl
 | [],x::P',p,a,b,b',h,h'=>by have:=h.1;have:=h'.1;lia
 |x::P,[],p,a,b,b',h,h'=>by have:=h'.1;have:=h.1;lia
 |x::P,x'::P',p,a,b,b',h,h'=>by
  obtain⟨_,e,h⟩:=h;obtain⟨_,e',h'⟩:=h';subst e;subst e';rw [oG h h']
theorem fH (a:Nat)(Q:List Nat):∀n,((List.range n).map λ q=>(a::Q).count q).sum=((List.range n).map λ q=>Q.count q).sum+if a<n then 1 else 0
 |0=>rfl
 |n+1=>by
  rw [C6,zG,Bp,zG,Bp,fH a Q n];simp only [z8,CZ,Az,List.sum_nil,Ct];by_cases e:a=n
  ·subst e;rw [zK (BX _),zP (CP _)];simp;lia
  ·have:(a==n)=false:=by simp [e]
   rw [this];by_cases l:a<n
   ·have l2:a<n+1:=DX l;rw [zP l,zP l2];simp;lia
   ·have l2:¬a<n+1:=λ z=>e (Nat.le_antisymm (Nat.le_of_lt_succ z) (Nat.not_lt.mp l))
    rw [zK l,zK l2];simp
theorem xa (Q:List Nat)(h:q<272):Q.count q∈cn Q:=by
 unfold cn;exact Bl.mpr ⟨q,BZ.mpr h,rfl⟩
theorem p5 (h:b∈cn Q):∃q,b=Q.count q:=by
 unfold cn at h;obtain⟨q,_,e⟩:=Bl.mp h;exact⟨q,e.symm⟩
theorem rK:∀Q:List Nat,(cn Q).sum≤Q.length
 | []=>by
  have:∀n,((List.range n).map λ q=>([]:List Nat).count q).sum=0:=λ n=>by
   induction n with
   |zero=>rfl
   |succ n ih=>rw [C6,zG,Bp,ih];rfl
  show((List.range 272).map λ q=>([]:List Nat).count q).sum≤0;rw [this];exact zy _
 |a::Q=>by
  have ih:=rK Q;have e:=fH a Q 272;have ih':((List.range 272).map λ q=>Q.count q).sum≤Q.length:=ih;show((List.range 272).map λ q=>(a::Q).count q).sum≤Q.length+1;rw [e]
  split<;>lia
theorem dA:∀C:List Nat,(C.filter (λ b=>decide (0<b))).length≤C.sum
 | []=>zy _
 |a::C=>by
  have ih:=dA C;rw [BW,Az];by_cases h:0<a
  ·rw [zP (zw h),zD];lia
  ·rw [zK (by simpa using h)];lia
theorem rR (C:List Nat):C.filter (λ b=>decide (0<b))=(S.pos C).map (S.cw C):=by
 have e:C=(List.range C.length).map (S.cw C):=by
  apply Be;intro i;rw [AA];by_cases h:i<C.length
  ·rw [CS h,zu h];simp [S.cw,Ab,h]
  ·rw [AD (by lia),AD (by simp;lia)];rfl
 conv=>lhs;rw [e]
 rw [DI];rfl
theorem qP (Q:List Nat)(h:q<272):S.cw (cn Q) q=Q.count q:=by
 simp [S.cw,cn,Ab,h]
seal cn
theorem yr (hq:∀q∈Q,q<272)(h1:1≤Q.length)(h64:Q.length≤64):(∀b∈cn Q,b≤1000000)/\1≤(cn Q).length/\(cn Q).length≤300/\(∃b∈cn Q,0<b)/\1≤6/\6≤12/\((cn Q).filter (λ b=>decide (0<b))).length≤2^6/\(S.pos (cn Q)).length≤300/\1≤(S.pos (cn Q)).length/\(S.pos (cn Q)).length≤2^6:=by
 have hf:=dA (cn Q);have hs:=rK Q;have hp:(S.pos (cn Q)).length=((cn Q).filter (λ b=>decide (0<b))).length:=by rw [rR,zr]
 have h0:∃b∈cn Q,0<b:=by
  obtain⟨a,ha⟩:=Dy h1;exact⟨_,xa Q (hq a ha),C7.mpr ha⟩
 refine⟨λ b hb=>?_,by rw [cq];decide,by rw [cq];decide,h0,by decide,by decide,by lia,by lia,?_,by lia⟩
 ·obtain⟨q,rfl⟩:=p5 hb;have:=List.count_le_length (a:=q) (l:=Q);lia
 ·rw [hp];obtain⟨b,hb,hb0⟩:=h0;exact List.length_pos_iff.mpr (List.ne_nil_of_mem (By.mpr ⟨hb,zw hb0⟩))
def ShL (Q:List Nat)(L:List Nat):Prop:=∃ln:Nat->Nat,S.LnOf (cn Q) 6 ln/\L=(List.range 272).map ln/\PM.Best (S.pos (cn Q)) (S.cw (cn Q)) 6 ln
theorem ShL.uniq {L':List Nat}(h:ShL Q L)(h':ShL Q L'):L=L':=by
 obtain⟨ln,h1,rfl,_⟩:=h;obtain⟨ln',h2,rfl,_⟩:=h';rw [h1.uniq h2]
theorem mem_pos:q∈S.pos (cn Q)<->q<272/\q∈Q:=by
 unfold S.pos;rw [By,BZ,cq];constructor
 ·rintro⟨h1,h2⟩;rw [qP Q h1] at h2;exact⟨h1,C7.mp (zA h2)⟩
 ·rintro⟨h1,h2⟩;refine⟨h1,zw ?_⟩;rw [qP Q h1];exact C7.mpr h2
theorem ShL.ok (hq:∀q∈Q,q<272)(h1:1≤Q.length)(h:ShL Q L):C9.Good L/\L.length=272/\(∀b∈L,b≤6)/\∀q∈Q,1≤L.getD q 0:=by
 obtain⟨ln,_,rfl,b1,b2,b3,_⟩:=h;have get:∀q,q<272->((List.range 272).map ln).getD q 0=ln q:=λ q hq=>by simp [Ab,hq]
 have le6:∀q,ln q≤6:=λ q=>by
  by_cases m:q∈S.pos (cn Q)
  ·exact(b1 q m).2
  ·rw [b2 q m];decide
 have six:∀b∈(List.range 272).map ln,b≤6:=λ b hb=>by
  obtain⟨q,_,rfl⟩:=Bl.mp hb;exact le6 q
 have hpos:∀q∈Q,1≤ln q:=λ q m=>(b1 q (mem_pos.mpr ⟨hq q m,m⟩)).1
 have ek:C9.krf 6 ((List.range 272).map ln)=((S.pos (cn Q)).map λ p=>2^(6-ln p)).sum:=by
  unfold C9.krf S.pos;rw [DI,A5,cq];have:(List.range 272).filter ((λ l=>decide (0<l))∘ln)=(List.range 272).filter (λ p=>decide (0<S.cw (cn Q) p)):=by
   refine List.filter_congr λ q hq'=>?_
   have hq2:=BZ.mp hq';show decide (0<ln q)=decide (0<S.cw (cn Q) q);rw [qP Q hq2];by_cases m:q∈Q
   ·rw [zw (show 0<ln q from hpos q m),zw (C7.mpr m)]
   ·have z:=b2 q (λ z=>m (mem_pos.mp z).2);rw [z,List.count_eq_zero.mpr m]
  rw [this];rfl
 refine⟨⟨by simp,by simp,λ l hl=>AM (six l hl) (by decide),?_,?_⟩,by simp,six,λ q m=>by rw [get q (hq q m)];exact hpos q m⟩
 ·obtain⟨a,ha⟩:=Dy h1;exact⟨ln a,Bl.mpr ⟨a,BZ.mpr (hq a ha),rfl⟩,hpos a ha⟩
 ·rw [C9.krf_up (m:=6) (by decide) _ six,ek];have:2^(12-6)*((S.pos (cn Q)).map λ p=>2^(6-ln p)).sum≤2^(12-6)*2^6:=BF _ b3;exact this
theorem ShL.tok (g:GR W Pp)(h1:1≤Pp.length)(h:ShL (Pp.map th) L):TOk L Pp:=by
 have hq:∀q∈Pp.map th,q<272:=λ q hq=>by
  obtain⟨x,hx,rfl⟩:=Bl.mp hq;obtain⟨_,gx⟩:=g.all x hx;exact nP gx
 obtain⟨a,b,c,d⟩:=h.ok hq (by rw [zr];exact h1);exact⟨a,b,c,λ x hx=>d _ (Bl.mpr ⟨x,hx,rfl⟩)⟩
theorem rP (bs:List Bool):dig (num bs) bs.length=bs:=C10.num_inj (dig_length _ _) (by rw [jI,Cj (num_lt bs)])
theorem vQ (h:RdOf R ps):C.bt R=bitsP ps:=by
 unfold C.bt;rw [h.num,h.len,<-pZ h.good,<-ci ps];exact rP _
theorem xh (g:C9.Good L){a c:List (Nat×Nat)}{s:Nat}(h:RdOf R ps)(e:ps=a++(C9.cdAt L q s,s)::c)(hq:L[q]?=some s)(hs:1≤s):C10.Due L ((C.bt R).drop (tots a)) (.thing q s):=by
 have eb:(C.bt R).drop (tots a)=dig (C9.cdAt L q s) s++bitsP c:=by
  rw [vQ h,e,jN,eh,<-ci a,CH]
 rw [eb];have hl:(dig (C9.cdAt L q s) s).length=s:=dig_length _ _;have hn:num (dig (C9.cdAt L q s) s)=C9.cdAt L q s:=C10.wd_num g hq hs;refine⟨by rw [zv,hl];lia,?_,λ j hj=>?_⟩
 ·have et:(dig (C9.cdAt L q s) s++bitsP c).take s=dig (C9.cdAt L q s) s:=by
   conv=>lhs;rw [<-hl]
   rw [hl,Br (by lia),Ad (by lia)]
  rw [et];exact⟨by rw [hl];exact hq,by rw [hl];exact hs,by rw [hl,hn]⟩
 ·have et:(dig (C9.cdAt L q s) s++bitsP c).take j=(dig (C9.cdAt L q s) s).take j:=Br (by lia);rw [et];have elj:((dig (C9.cdAt L q s) s).take j).length=j:=by rw [zW];lia
  refine⟨q,s,hq,by lia,?_⟩;rw [elj,C10.num_take _ (by lia),hl,hn]
theorem u8 {pre post:List (Nat×Nat)}{It:List W13.Itm}(h:RdOf R (pre++W13.puts It++post))(ok:∀x∈It,W13.StOk x):Tb.Told pre post It R:=by
 refine⟨⟨?_,?_,?_⟩,λ q hq=>h.good q (by simp [hq]),ok⟩
 all_goals have hl:=h.len
 all_goals first|exact h.byt|lia|(rw [h.num,hl,Dq,Nat.pow_zero,Eg])|skip
end K20
set_option maxHeartbeats 1000000
namespace K20
open PySem L2 QQ W17 W16 BP
seal PE PA PS PSs PT PW PG PI
variable {fd : FuncData} {f : Addr} {q : Nat}
theorem i9 {X:Cx}{x:Str}{c:Int}{pos:Pos}(h:∃t,X.mg x=some (.int c t))(hg:Gl X x)(hd:(x==("__debug__":Str))=false:=by decide):PE X (.Name x pos) (tC (.int c)):=by
 obtain⟨t,h⟩:=h;exact aG hg h ⟨t,rfl⟩ hd
structure Shs (K:PySem.W.Frag)(mg:Str->Option Value):Prop where
 X:Txt K mg
 whole:∃f fd,Fn K mg "is_whole" bJ ["thing","least","most"] f fd
 arewhole:∃f fd,Fn K mg "are_whole" bv ["thing","least","most"] f fd
 things:∃f fd,Fn K mg "are_of_things" c4 ["thing","most"] f fd
 need:∃f fd,Fn K mg "need_shares" lj ["counts","most"] f fd
 weight:∃f fd,Fn K mg "weight_of" dW ["bundle"] f fd
 pairs:∃f fd,Fn K mg "in_pairs" fX ["bundles"] f fd
 light:∃f fd,Fn K mg "lightest_bundles" gW ["singles","most"] f fd
 lengths:∃f fd,S.FnL K mg "lengths_of" sLengths ["counts","most"] f fd
section
variable {P : Program} {w : World} {K : PySem.W.Frag} {mg : Str -> Option Value} {base : Heap}
def jk:Sp:=λ vs H Q _=>∃(t:Addr) (x:Pc),vs=[.ref t]/\H t=some (.tup (itm x))/\Q (vN (th x)) H
abbrev rY:List Str:=["piece"]
theorem qd:FnScope rY ["piece"] (defScope eM):=scK (by decide+kernel)
theorem m8 (F:Fn K mg "thing_of" eM ["piece"] f fd)(T:Txt K mg):FnOk P w K mg base CX0 1 f fd ["piece"] jk:=by
 refine F.F.ok qd (λ vs H Q E h=>?_) (λ cdv A outer s H vs Q E hr h=>?_)
 ·obtain⟨t,x,rfl,_⟩:=h;rfl
 ·obtain⟨t,x,rfl,ht,k⟩:=h;refine⟨_,ac (aK (ar bj (aM a7 (pv 0) ae (λ _ _=>rfl)) io (ax _)) (af (az (aM a7 (pv 0) ae (λ _ _=>rfl)))) aC)
   (af (az (aj aY (aj aE (i9 T.first (by rfl)) (aM a7 (pv 0) ae (λ _ _=>rfl))) (i9 T.least (by rfl))))),?_⟩
  cases x with
  |sg s=>
   refine⟨_,rfl,t,_,_,_,rfl,rfl,SqT.of ht,ay (j:=0) rfl,rfl,_,rfl,aL (λ _=>?_) (λ h=>absurd (zw rfl) h)⟩;exact⟨_,rfl,t,_,_,_,rfl,rfl,SqT.of ht,ay (j:=1) rfl,k⟩
  |cp b z=>
   refine⟨_,rfl,t,_,_,_,rfl,rfl,SqT.of ht,ay (j:=0) rfl,rfl,_,rfl,aL (λ h=>absurd (zA h) tW) (λ _=>?_)⟩;refine⟨_,rfl,t,_,_,_,rfl,rfl,SqT.of ht,ay (j:=2) rfl,_,_,rfl,rfl,_,_,rfl,rfl,?_⟩;have e:(256:Int)+((z:Nat):Int)-3=((253+z:Nat):Int):=by lia
   try dsimp only
   rw [e];exact k
def t8:Sp:=λ vs H Q _=>∃(a:Addr) (Qs:List Nat),vs=[.ref a]/\H a=some (.lst (Qs.map vN))/\(∀q∈Qs,q<272)/\1≤Qs.length/\Qs.length≤64/\
 ∀(l:Addr) (L:List Nat) (H':Hp),H l=none->Same H H'->H' l=some (.lst (L.map vN))->ShL Qs L->Q (.ref l) H'
abbrev pB:List Str:=["things","counts","thing"]
theorem scSharesOf:FnScope pB ["things"] (defScope dQ):=scK (by decide+kernel)
theorem wC {Qs:List Nat}{i:Nat}(h:Qs[i]?=some q)(hq:q<272):((cn (Qs.take i)).map vN).set q (vN ((Qs.take i).count q+1))=(cn (Qs.take (i+1))).map vN:=by
 have e1:∀A:List Nat,(cn A).map vN=(List.range 272).map λ p=>vN (A.count p):=λ A=>by unfold cn;rw [A5];rfl
 rw [e1,e1];refine S.set_range (f:=λ p=>(Qs.take i).count p) (f':=λ p=>(Qs.take (i+1)).count p) λ p=>?_
 show(Qs.take (i+1)).count p=(Qs.take i).count p+ [q].count p;rw [cG h,BN]
theorem wr:(List.replicate 272 [vN 0]).flatten=(cn []).map vN:=by
 have e1:(cn []).map vN=(List.range 272).map λ _=>vN 0:=by unfold cn;rw [A5];rfl
 rw [e1,Ea,BG];generalize 272=n
 induction n with
 |zero=>rfl
 |succ n ih=>rw [AJ,A4,ih,AJ];rfl
theorem lK (F:Fn K mg "shares_of" dQ ["things"] f fd)(Y:Shs K mg):FnOk P w K mg base CX0 34 f fd ["things"] t8:=by
 obtain⟨T,⟨_,_,Wh⟩,⟨_,_,AW⟩,⟨_,_,Th⟩,⟨_,_,Ne⟩,⟨_,_,We⟩,⟨_,_,Pa⟩,⟨_,_,Li⟩,⟨_,_,Le⟩⟩:=Y;have GL:=S.ok_lengths (P:=P) (w:=w) (base:=base) Le Ne Th AW Wh Li Pa We T;obtain⟨t6,B6⟩:=Le.d;refine F.F.ok scSharesOf (λ vs H Q E h=>?_) (λ cdv A outer st H vs Q E hr h=>?_)
 ·obtain⟨a,Qs,rfl,_⟩:=h;rfl
 ·obtain⟨a,Qs,rfl,ha,hq,h1,h64,k⟩:=h;refine⟨_,ac (ak (i:=1) scSharesOf.nd rfl (Or.inl rfl) (aj gM (aW (aa ae ad)) (i9 T.many (by rfl))))
   (ac (bd Aa rfl (bu (pv 0)) (aH (i:=2) scSharesOf.nd rfl (Or.inl rfl)) (af (jU (aj aE (aM aP (pv 1) (pv 2) (λ _ _=>rfl)) ae) (mP (pv 1) (pv 2) g9))))
   (af (az (am GL hr (by rfl) Le.m Le.kp B6 (.cons (a:=V.int 6) ⟨_,rfl⟩ .nil) ao (aa (pv 1) ad))))),?_⟩
  refine seq_g λ R1 g1=>?_
  refine⟨(by show 1≤sizeLine;decide),λ l4 n4=>?_⟩;have s4:=ai (o:=.lst [V.int 0]) n4;have h44:(upd H l4 (.lst [V.int 0])) l4=some (.lst [vN 0]):=upd_same;generalize upd H l4 (.lst [V.int 0])=H4 at*;refine⟨l4,_,_,rfl,rfl,h44,by decide,by decide,(by show 1*272≤sizeLine;decide),λ l5 n5=>g1 _ _ ?_⟩;clear g1;have s5:=ai (o:=.lst ((List.replicate 272 [vN 0]).flatten)) n5;have h55:(upd H4 l5 (.lst ((List.replicate (272:Int).toNat [vN 0]).flatten))) l5=some (.lst ((cn (Qs.take 0)).map vN)):=by
   rw [upd_same];exact Bk (λ z=>some (HO.lst z)) wr
  have n05:H l5=none:=none_of s4 n5;have s05:Same H (upd H4 l5 (.lst ((List.replicate (272:Int).toNat [vN 0]).flatten))):=s4.trans s5;generalize upd H4 l5 (.lst ((List.replicate (272:Int).toNat [vN 0]).flatten))=H5 at*;clear s5 s4 h44;have hal:a≠l5:=ag ha n05;refine seq_g λ R1 g1=>?_
  refine⟨_,rfl,a,rfl,⟨_,SqL.of (s05 _ _ ha)⟩,bP (D:=⟨_,_,λ _ _=>False,λ _ _=>False⟩) (K:=K) (a:=a) (xs:=Qs.map vN) (λ i σ H7=>∃v:Option V,σ=[some (.ref a),some (.ref l5),v]/\H7 l5=some (.lst ((cn (Qs.take i)).map vN))/\∀c o,c≠l5->H5 c=some o->H7 c=some o)
   ⟨none,rfl,h55,λ _ _ _ e=>e⟩ (λ i σ H7 _ ⟨_,_,_,kp⟩=>SqL.of (kp _ _ hal (s05 _ _ ha))) ?_ ?_⟩
  ·clear g1;rintro i y σ H7 hi ⟨v,rfl,h7,kp⟩;obtain⟨q,hqi,rfl⟩:=cm hi;have hqn:=hq q (AK hqi);have hg:((cn (Qs.take i)).map vN)[q]?=some (vN ((Qs.take i).count q)):=by
    unfold cn;rw [AA,AA,CS hqn];rfl
   have e2:(((Qs.take i).count q:Nat):Int)+1=(((Qs.take i).count q+1:Nat):Int):=by lia
   refine⟨_,rfl,_,rfl,l5,_,_,_,rfl,rfl,SqL.of h7,ay hg,_,_,rfl,rfl,?_⟩
   try dsimp only
   rw [e2];refine⟨_,rfl,_,rfl,l5,_,_,q,rfl,rfl,h7,S.ixN_nat (by rw [zr,cq];exact hqn),some (vN q),rfl,?_,λ c o n e=>?_⟩
   ·rw [upd_same,wC hqi hqn]
   ·rw [upd_ne n];exact kp _ _ n e
  ·rintro σ H7 ⟨v,rfl,h7,kp⟩;rw [zr,An] at h7;refine g1 _ _ ?_;clear g1;have s07:Same H H7:=λ c o e=>kp _ _ (ag e n05) (s05 _ _ e)
   obtain⟨q1,q2,q3,q4,q5,q6,q7,q8,q9,q10⟩:=yr hq h1 h64;refine⟨_,rfl,l5,cn Qs,6,rfl,h7,q1,q2,q3,q4,q5,q6,q7,q8,q9,q10,λ l ln H8 nl s8 hl hb hln=>?_⟩;refine k l ((List.range 272).map ln) H8 (none_of s07 nl) (s07.trans s8) ?_ ⟨ln,hln,rfl,hb⟩;rw [hl,cq,A5];rfl
structure Cds (K:PySem.W.Frag)(mg:Str->Option Value)(D C:Addr):Prop where
 M:K20.C.Mks K mg C
 Z:Rdr K mg D
 go:∃f fd,Me K D "go" "BitReader.go" sGo ["self","place"] f fd
 m:mg "CodeReader"=some (.ref C)
 init:∃f fd,Fun K "__init__" "CodeReader.__init__" jG f fd/\Binds K fd ["self","lengths"] []/\Mk K C f
 thing:∃f fd,Me K C "thing" "CodeReader.thing" jE ["self","reader"] f fd
 items:∃f fd,Fn K mg "lengths_in_items" ie ["reader"] f fd
 taketab:∃f fd,Fn K mg "take_table" de ["reader"] f fd
theorem Cds.rds {D C:Addr}(h:Cds K mg D C):K20.C.Rds K mg D:=⟨h.Z.R.X,h.Z.R.whole,h.Z.needsize,h.Z.ones,h.Z.bitsat,h.Z.take,h.Z.left,h.Z.place,h.go,h.Z.T⟩
end
section
variable {P : Program} {w : World} {K : PySem.W.Frag} {mg : Str -> Option Value} {base : Heap} {B D C : Addr}
def qo (D C:Addr):Sp:=λ vs H Q _=>∃(r d:Addr) (R:List Nat) (pre post:List (Nat×Nat)) (It:List W13.Itm),vs=[.ref r]/\ReadAt D H r d R (tots pre)/\Tb.Told pre post It R/\(W13.decL 0 It).length=272/\C9.Good (W13.decL 0 It)/\
 ∀(p e1 e2:Addr) (H':Hp),K20.C.CdAt C H' p e1 e2 (W13.decL 0 It)->ReadAt D H' r d R (tots pre+tots (W13.puts It))->(∀c o,H c=some o->c≠r->H' c=some o)->Q (.ref p) H'
abbrev tj:List Str:=["reader"]
theorem pF:FnScope tj ["reader"] (defScope fh):=scK (by decide+kernel)
theorem mz (F:Fn K mg "codes_in" fh ["reader"] f fd)(Y:Cds K mg D C):FnOk P w K mg base CX0 36 f fd ["reader"] (qo D C):=by
 obtain⟨_,_,It⟩:=Y.items;obtain⟨_,_,Tt⟩:=Y.taketab;obtain⟨_,_,FI,bI,MI⟩:=Y.init;have GT:=Tb.ok_taketable (P:=P) (w:=w) (base:=base) Tt It Y.Z;have GI:=K20.C.ok_cinit (P:=P) (w:=w) (base:=base) FI Y.M;refine F.F.ok pF (λ vs H Q E h=>?_) (λ cdv A outer st H vs Q E hr h=>?_)
 ·obtain⟨r,d,R,pre,post,It,rfl,_⟩:=h;rfl
 ·obtain⟨r,d,R,pre,post,It,rfl,hR,hT,h272,hG,k⟩:=h;have hr5:Room 5 _:=hr.mono (by decide);refine⟨_,af (jM (af (az (nJ MI GI hr (by rfl) Y.m bI .nil ao (aa (am GT hr5 (by rfl) Tt.m Tt.F.kp Tt.b .nil ao (aa (pv 0) ad)) ad))))),?_⟩;refine⟨_,rfl,r,d,R,pre,post,It,rfl,hR,hT,h272,λ l H2 nl h2l hR2 kp2=>?_⟩;intro p dp np ndp nep;have hp0:(upd (upd H2 dp (.own p)) p (.ins C dp [])) p=some (.ins C dp []):=upd_same;have s5:Same H2 (upd (upd H2 dp (.own p)) p (.ins C dp [])):=λ c o e=>by
   rw [upd_ne (ag e np),upd_ne (ag e ndp)];exact e
  refine⟨p,dp,l,_,rfl,hp0,s5 _ _ h2l,hG,λ e1 e2 H5 n1 n2 hC kp5=>⟨rfl,?_⟩⟩;have s25:Same H2 H5:=λ c o e=>kp5 _ _ (s5 _ _ e) (ag e np)
  exact k p e1 e2 H5 hC (hR2.same s25) λ c o e n=>s25 _ _ (kp2 _ _ e n)
def pH (D C:Addr):Sp:=λ vs H Q _=>∃(p d e r g:Addr) (L R:List Nat) (t q s:Nat),vs=[.ref r,.ref p]/\K20.C.CdAt C H p d e L/\C9.Good L/\ReadAt D H r g R t/\C10.Due L ((K20.C.bt R).drop t) (.thing q s)/\∀H',ReadAt D H' r g R (t+s)->(∀c o,H c=some o->c≠r->H' c=some o)->Q (vN q) H'
abbrev sJ:List Str:=["reader","codes"]
theorem p6:FnScope sJ ["reader","codes"] (defScope fz):=scK (by decide+kernel)
theorem nA (F:Fn K mg "thing_in" fz ["reader","codes"] f fd)(Y:Cds K mg D C):FnOk P w K mg base CX0 32 f fd ["reader","codes"] (pH D C):=by
 obtain⟨_,_,Tn⟩:=Y.thing;have TC:=Y.M.R;have GT:=K20.C.ok_thing (P:=P) (w:=w) (base:=base) Tn.F TC Y.rds;refine F.F.ok p6 (λ vs H Q E h=>?_) (λ cdv A outer st H vs Q E hr h=>?_)
 ·obtain⟨p,d,e,r,g,L,R,t,q,s,rfl,_⟩:=h;rfl
 ·obtain⟨p,d,e,r,g,L,R,t,q,s,rfl,hC,hG,hR,hD,k⟩:=h;refine⟨_,af (jM (af (az (aI (pv 1) TC.cl Tn.m GT hr Tn.b .nil ao (aa (pv 0) ad))))),?_⟩;obtain⟨dx,hp⟩:=hC.ob;exact⟨_,rfl,p,dx,_,rfl,hp,K20.C.fC_no _ _ (by decide+kernel) (by decide+kernel),_,rfl,p,d,e,r,g,L,R,t,q,s,rfl,hC,hG,hR,hD,k⟩
structure Shw (K:PySem.W.Frag)(mg:Str->Option Value)(B D C:Addr):Prop where
 Y:Wys K mg
 Zb:Bts K mg B
 Sh:Shs K mg
 Cd:Cds K mg D C
 thingof:∃f fd,Fn K mg "thing_of" eM ["piece"] f fd
 sharesof:∃f fd,Fn K mg "shares_of" dQ ["things"] f fd
 needtab:∃f fd,Fn K mg "need_table" cu ["lengths"] f fd
 again:∃f fd,Fn K mg "again_from" gJ ["lengths","place","ahead"] f fd
 puttab:∃f fd,Fn K mg "put_table" dL ["bits","lengths"] f fd
 codesin:∃f fd,Fn K mg "codes_in" fh ["reader"] f fd
 thingin:∃f fd,Fn K mg "thing_in" fz ["reader","codes"] f fd
def sh (B:Addr):Sp:=λ vs H Q _=>∃(o p d a:Addr) (x:V) (T W:List Nat) (Pp:List Pc) (N T0:Nat),vs=[.ref o,.ref p,.ref a,x]/\BitsAt B H p d N T0/\T0≤1000/\H a=some (.lst (T.map vN))/\(∀b∈T,b<256)/\1≤T.length/\T.length≤64/\WinV H x W/\(∀b∈W,b<256)/\W.length≤192/\Walk (W++T) W.length Pp (W++T).length/\
 ∀(L:List Nat) (It:List W13.Itm) (b:Nat) (H':Hp),ShL (Pp.map th) L->W13.Walk L 0 0 It 272 b->BitsAt B H' p d (nums (W13.puts It++hP L Pp) N) (T0+tots (W13.puts It++hP L Pp))->(∀c o,H c=some o->c≠p->c≠d->H' c=some o)->Q .non H'
abbrev vt:List Str:=["self","bits","text","before","pieces","lengths","codes","piece","pair"]
theorem scShTell:FnScope vt ["self","bits","text","before"] (defScope gm):=scK (by decide+kernel)
theorem zg:(["piece"]:List Str).Nodup:=by decide+kernel
def yi:TE:=o1 jk [] E0 (gg (eF 0) jx)
theorem pj {S:List Nat}{p:Nat}{Pp:List Pc}(h:Walk S p Pp q)(hpq:p<q):1≤Pp.length:=by
 cases Pp with
 |nil=>have:p=q:=h;lia
 |cons x Pp=>simp
theorem qz (F:Fun K "tell" "ShareWay.tell" gm f fd)(A0:Shw K mg B D C):FnOk P w K mg base CX0 35 f fd ["self","bits","text","before"] (sh B):=by
 obtain⟨⟨Vi,⟨_,_,Po⟩,⟨_,_,Ac⟩,⟨_,_,Na⟩,⟨_,_,Ns⟩,⟨_,_,Ao⟩,⟨_,_,Nm⟩,⟨_,_,La⟩⟩,Z,Sh,Cd,⟨_,_,To⟩,⟨_,_,So⟩,⟨_,_,Nt⟩,⟨_,_,Ag⟩,⟨_,_,Pt⟩,_,_⟩:=A0;obtain⟨_,_,Nr⟩:=Vi.needrow;obtain⟨_,_,Nw⟩:=Vi.needwin;have X:=Vi.R.X;have GN:=cj (P:=P) (w:=w) (base:=base) Ns Na Nw Nr Vi.R;have GO:=gh (P:=P) (w:=w) (base:=base) Po Vi;have GS:=lK (P:=P) (w:=w) (base:=base) So Sh;have GTh:=m8 (P:=P) (w:=w) (base:=base) To X;obtain⟨_,_,Nl⟩:=Cd.M.need;obtain⟨_,_,Co⟩:=Cd.M.cof;have GC:=K20.C.ok_codesof (P:=P) (w:=w) (base:=base) Co Nl Cd.M.Y;have GPt:=Tb.ok_puttable (P:=P) (w:=w) (base:=base) Pt Nt Ag Z;obtain⟨_,_,Wh⟩:=Z.R.whole;obtain⟨_,_,Sz⟩:=Z.needsize;obtain⟨_,_,O⟩:=Z.ones;obtain⟨_,_,Pu⟩:=Z.put;obtain⟨_,_,M⟩:=Z.move;have TB:=Z.T;have GP:=iB (P:=P) (w:=w) (base:=base) Pu.F Sz Wh O M TB X;refine F.ok scShTell (λ vs H Q E h=>?_) (λ cdv A outer st H vs Q E hr h=>?_)
 ·obtain⟨o,p,d,a,x,T,W,Pp,N,T0,rfl,_⟩:=h;rfl
 ·obtain⟨o,p,d,a,x,T,W,Pp,N,T0,rfl,hB,hT0,ha,hTb,h1,h64,hx,hWb,hWl,hwk,k⟩:=h;have hr1:Room 1 _:=hr.mono (by decide);have hr3:Room 3 _:=hr.mono (by decide);have hr7:Room 7 _:=hr.mono (by decide);have hr32:Room 32 _:=hr.mono (by decide);have hr33:Room 33 _:=hr.mono (by decide);refine⟨_,ac (aA (am GN hr7 (by rfl) Ns.m Ns.F.kp Ns.b .nil ao (aa (pv 2) (aa (pv 3) ad))))
   (ac (ak (i:=4) scShTell.nd rfl (Or.inl rfl) (am GO hr32 (by rfl) Po.m Po.kp Po.b .nil ao (aa (pv 2) (aa (pv 3) ad))))
   (ac (ak (i:=5) scShTell.nd rfl (Or.inl rfl) (am GS hr (by rfl) So.m So.F.kp So.b .nil ao (aa (uY (N:=["piece"]) (g:=bf 0) (te:=yi) rfl rfl (by decide+kernel) (by decide+kernel) (by decide+kernel) (bu (pv 4)) (λ fp s H=>aH (i:=0) zg rfl (Or.inl rfl)) (λ fp s H=>am GTh hr1 (by rfl) To.m To.F.kp To.b .nil ao (aa (pv 0) ad))) ad)))
   (ac (ak (i:=6) scShTell.nd rfl (Or.inl rfl) (am GC hr33 (by rfl) Co.m Co.F.kp Co.b .nil ao (aa (pv 5) ad)))
   (ac (aA (am GPt hr32 (by rfl) Pt.m Pt.F.kp Pt.b .nil ao (aa (pv 1) (aa (pv 5) ad))))
   (af (bd Aa rfl (bu (pv 4)) (aH (i:=7) scShTell.nd rfl (Or.inl rfl)) (ac (ak (i:=8) scShTell.nd rfl (Or.inl rfl) (aM aP (pv 6) (am GTh hr1 (by rfl) To.m To.F.kp To.b .nil ao (aa (pv 7) ad)) (λ _ _=>rfl)))
   (ac (aA (aI (pv 1) TB.cl Pu.m GP hr3 Pu.b .nil ao (aa (aM a7 (pv 8) ae (λ _ _=>rfl)) (aa (aM a7 (pv 8) ae (λ _ _=>rfl)) ad))))
   (af (aK (ar bj (aM a7 (pv 7) ae (λ _ _=>rfl)) io (ax _)) (af (aA (aI (pv 1) TB.cl Pu.m GP hr3 Pu.b .nil ao (aa (aM a7 (pv 7) ae (λ _ _=>rfl)) (aa ae ad))))) aC)))))))))),?_⟩
  refine seq_g λ R1 g1=>?_
  refine⟨_,rfl,_,rfl,a,x,T,W,rfl,ha,hTb,h1,h64,hx,hWb,hWl,λ l0 H0 s0 n0 h00=>g1 _ _ ?_⟩;clear g1;refine seq_g λ R1 g1=>?_
  refine⟨_,rfl,_,rfl,a,x,W,T,rfl,s0 _ _ ha,hx.same s0,hWb,hTb,by lia,by lia,λ l P' H1 s01 nl0 ⟨ts,hl,hts⟩ hwk'=>g1 _ _ ?_⟩;clear g1;have eP:P'=Pp:=cW hwk' hwk;subst eP;have s1:=s0.trans s01;have nl:H l=none:=none_of s0 nl0;obtain⟨gr,hrun,hPl⟩:=cR hWb hTb hwk;have hP1:1≤P'.length:=pj hwk (by rw [zv];lia);clear s0 s01 h00 nl0 hwk';refine seq_g λ R1 g1=>?_
  refine⟨_,rfl,l,rfl,⟨_,SqL.of hl⟩,λ l2 nl2=>?_⟩;refine vC (g:=bf 0) (te:=yi) (K:=K) (a:=l) (l:=l2) (xs:=ts.map V.ref) (n:=1) (λ i ys H2=>ys=((P'.take i).map th).map vN/\H2 l2=some (.lst ys)/\Same H1 H2)
   ⟨rfl,upd_same,ai nl2⟩ (λ i ys H2 _ ⟨_,_,sm⟩=>SqL.of (sm _ _ hl)) ?_ ?_ ?_ ?_
  ·clear g1;rintro i y ys σ H2 hi ⟨rfl,h22,sm⟩ hσ;obtain⟨t,ht,rfl⟩:=gA hi;obtain⟨u0,rfl⟩:∃u0,σ=[u0]:=match σ,hσ with| [u0],_=>⟨u0,rfl⟩
   have hil:i<P'.length:=by rw [<-hts.1];exact(zz.mp ht).1
   have hPi:P'[i]?=some P'[i]:=zu hil;refine⟨_,rfl,t,P'[i],rfl,sm _ _ (hts.2 i t _ ht hPi),h22,aX (by rw [zr,zr,zW];lia),rfl,?_,upd_same,λ c o e=>?_⟩
   ·rw [cG hPi,zG,zG];rfl
   ·rw [upd_ne (ag e nl2)];exact sm _ _ e
  rotate_left
  ·exact λ x σ H A B h z=>h _ _ z
  ·rintro σ H A B h ⟨v,e1,t,x,e2,e3,z⟩;exact⟨v,e1,t,x,e2,e3,h _ _ z⟩
  rintro ys H2 ⟨rfl,h22,s12⟩;rw [zr,hts.1,An] at h22;have hq:∀q∈P'.map th,q<272:=λ q hq=>by
   obtain⟨x,hx,rfl⟩:=Bl.mp hq;obtain⟨_,gx⟩:=gr.all x hx;exact nP gx
  refine⟨l2,P'.map th,rfl,h22,hq,by rw [zr];exact hP1,by rw [zr];lia,λ l3 L H3 nl3 s23 h33 hsh=>g1 _ _ ?_⟩;clear g1;have tok:=hsh.tok gr hP1;have s13:=s12.trans s23;have nl31:H1 l3=none:=none_of s12 nl3;refine seq_g λ R1 g1=>?_
  refine⟨_,rfl,_,L,rfl,⟨l3,rfl,h33,λ b hb=>AM (tok.six b hb) (by decide)⟩,tok.good,λ l4 xs H4 nl4 s34 h44 hcl=>g1 _ _ ?_⟩;clear g1;have s14:=s13.trans s34;have hB4:=hB.keep λ c o e _=>s14 _ _ (s1 _ _ e)
  have h43:=s34 _ _ h33;obtain⟨dxp,rp,kp',hpp⟩:=hB4.ob;obtain⟨dxd,Bd,rd,kd,_,hdd,_⟩:=id hB4;have nl3p:l3≠p:=ne_of h43 hpp (by intro z;cases z);have nl3d:l3≠d:=(bY (hB.sm.2.imp λ _ e=>s1 _ _ e) nl31).symm;have nl4p:l4≠p:=ne_of h44 hpp (by intro z;cases z);have nl4d:l4≠d:=(bY (hB.sm.2.imp λ _ e=>s13 _ _ (s1 _ _ e)) nl4).symm;have nlp:l≠p:=(bY hB.sm.1 nl).symm;have nld:l≠d:=(bY hB.sm.2 nl).symm;refine seq_g λ R1 g1=>?_
  refine⟨_,rfl,_,rfl,p,d,l3,N,T0,L,rfl,hB4,hT0,h43,tok.len,tok.six,nl3d,λ It b H5 hit hB5 kp5=>g1 _ _ ?_⟩;clear g1;have hit2:=o3 tok.len hit;have hto:=gC 0 (W13.walk_ok tok.six hit);rw [hit2,tok.len] at hto;have h5l:=kp5 _ _ (s14 _ _ hl) nlp nld;have h54:=kp5 _ _ h44 nl4p nl4d;have htup:∀t ys,H4 t=some (.tup ys)->H5 t=some (.tup ys):=λ t ys e=>kp5 _ _ e (ne_of e hpp (by intro z;cases z)) (ne_of e hdd (by intro z;cases z))
  have hcl5:=hcl.keep htup;have hts5:=(hts.keep λ a xs e=>s14 _ _ e).keep htup;obtain⟨dxp5,rp5,kp5',hpp5⟩:=hB5.ob;obtain⟨dxd5,Bd5,rd5,kd5,_,hdd5,_⟩:=id hB5;refine⟨_,rfl,l,rfl,⟨_,SqL.of h5l⟩,bP (D:=⟨_,_,λ _ _=>False,λ _ _=>False⟩) (K:=K) (a:=l) (xs:=ts.map V.ref) (λ i σ H6=>∃v7 v8:Option V,σ=[some (.ref o),some (.ref p),some (.ref a),some x,some (.ref l),some (.ref l3),some (.ref l4),v7,v8]/\BitsAt B H6 p d (nums (hP L (P'.take i)) (nums (W13.puts It) N)) (T0+tots (W13.puts It)+tots (hP L (P'.take i)))/\∀c o,H5 c=some o->c≠p->c≠d->H6 c=some o)
   ⟨none,none,rfl,hB5,λ c o e _ _=>e⟩ (λ i σ H6 _ z9=>by obtain⟨_,_,_,_,kp⟩:=z9;exact SqL.of (kp _ _ h5l nlp nld)) ?_ ?_⟩
  ·rintro i y σ H6 hi ⟨v7,v8,rfl,hB6,kp⟩;obtain⟨t,ht,rfl⟩:=gA hi;have hil:i<P'.length:=by rw [<-hts.1];exact(zz.mp ht).1
   have hPi:P'[i]?=some P'[i]:=zu hil;have htt:=hts5.2 i t _ ht hPi;have hga:=gr.at hPi;have hmem:P'[i]∈P':=Ay hil;have ntp:t≠p:=ne_of htt hpp5 (by intro z;cases z);have ntd:t≠d:=ne_of htt hdd5 (by intro z;cases z);have htt6:=kp _ _ htt ntp ntd;have h64':=kp _ _ h54 nl4p nl4d;obtain⟨e1,e2,e3⟩:=tok.at hmem hga;have hco:=C10.codes_of_get tok.good e1 e2;have hlx:th P'[i]<xs.length:=by rw [hcl5.1];exact(zz.mp hco).1
   have hxi:xs[th P'[i]]?=some xs[th P'[i]]:=zu hlx;obtain⟨tc,etc,htc⟩:K20.C.OT H5 xs[th P'[i]] (some (C9.cdAt L (th P'[i]) (L.getD (th P'[i]) 0),L.getD (th P'[i]) 0)):=hcl5.2 _ _ _ hxi hco;rw [etc] at hxi;have ntcp:tc≠p:=ne_of htc hpp5 (by intro z;cases z);have ntcd:tc≠d:=ne_of htc hdd5 (by intro z;cases z);have htc6:=kp _ _ htc ntcp ntcd;have hto2:=ju tok.six (P'.take i);rw [zW] at hto2;have hcl2:=C10.cd_lt tok.good e1 e2;obtain⟨dx,r,kk,hp6⟩:=hB6.ob;rw [cG hPi,dX,aT,aw,mM];refine seq_g λ R2 g2=>?_
   refine⟨_,rfl,_,rfl,t,P'[i],rfl,htt6,l4,_,_,_,rfl,rfl,SqL.of h64',ay hxi,g2 _ _ ?_⟩;clear g2;refine seq_g λ R2 g2=>?_
   refine⟨_,rfl,p,dx,_,rfl,hp6,cA _ _ _ (by decide+kernel) (by decide+kernel) (by decide+kernel),_,rfl,tc,_,_,_,rfl,rfl,SqT.of htc6,ay (j:=0) rfl,_,rfl,tc,_,_,_,rfl,rfl,SqT.of htc6,ay (j:=1) rfl,p,d,_,_,_,_,rfl,hB6,by lia,by lia,hcl2,λ H7 hB7 kp7=>g2 _ _ ?_⟩;clear g2;have htt7:=kp7 _ _ htt6 ntp ntd;obtain⟨dx7,r7,kk7,hp7⟩:=hB7.ob;generalize P'[i]=xx at*;cases xx with
   |sg s=>
    refine⟨_,rfl,t,_,_,_,rfl,rfl,SqT.of htt7,ay (j:=0) rfl,rfl,_,rfl,aL (λ h=>absurd (zA h) (λ z=>tW z.symm)) (λ _=>?_)⟩;refine⟨_,_,rfl,?_,λ c o e n1 n2=>kp7 _ _ (kp _ _ e n1 n2) n1 n2⟩;have e5:T0+tots (W13.puts It)+(tots (hP L (P'.take i))+tots (cP L (.sg s)))=T0+tots (W13.puts It)+tots (hP L (P'.take i))+L.getD (th (.sg s)) 0:=by
     have:tots (cP L (.sg s))=L.getD (th (.sg s)) 0:=rfl;lia
    rw [e5];exact hB7
   |cp bk z=>
    obtain⟨g1,g2,g3,g4,g5⟩:1≤bk/\bk≤255/\bk≤_/\3≤z/\z≤18:=hga;refine⟨_,rfl,t,_,_,_,rfl,rfl,SqT.of htt7,ay (j:=0) rfl,rfl,_,rfl,aL (λ _=>?_) (λ h=>absurd (zw rfl) h)⟩;refine⟨_,rfl,p,dx7,_,rfl,hp7,cA _ _ _ (by decide+kernel) (by decide+kernel) (by decide+kernel),_,rfl,t,_,_,_,rfl,rfl,SqT.of htt7,ay (j:=1) rfl,p,d,_,_,bk,8,rfl,hB7,by lia,by decide,(by show bk<2^8;lia),λ H8 hB8 kp8=>?_⟩;refine⟨_,_,rfl,?_,λ c o e n1 n2=>kp8 _ _ (kp7 _ _ (kp _ _ e n1 n2) n1 n2) n1 n2⟩;have e5:T0+tots (W13.puts It)+(tots (hP L (P'.take i))+tots (cP L (.cp bk z)))=T0+tots (W13.puts It)+tots (hP L (P'.take i))+L.getD (th (.cp bk z)) 0+8:=by
     have:tots (cP L (.cp bk z))=L.getD (th (.cp bk z)) 0+8:=rfl;lia
    rw [e5];exact hB8
  ·rintro σ H6 ⟨v7,v8,rfl,hB6,kp⟩;rw [zr,hts.1,An] at hB6;refine k L It b H6 hsh hit ?_ λ c o e n1 n2=>kp _ _ (kp5 _ _ (s14 _ _ (s1 _ _ e)) n1 n2) n1 n2
   rw [aT,aw,<-Bc];exact hB6
def vh:Sp:=λ vs H Q _=>∃o:Addr,vs=[.ref o]/\Q (.int 3) H
abbrev xH:List Str:=["self"]
theorem uZ:FnScope xH ["self"] (defScope dS):=scK (by decide+kernel)
theorem rg (F:Fun K "number" "ShareWay.number" dS f fd):FnOk P w K mg base CX0 1 f fd ["self"] vh:=by
 refine F.ok uZ (λ vs H Q E h=>?_) (λ cdv A outer st H vs Q E hr h=>?_)
 ·obtain⟨o,rfl,_⟩:=h;rfl
 ·obtain⟨o,rfl,k⟩:=h;exact⟨_,af (az ae),k⟩
def tS (D:Addr):Sp:=λ vs H Q _=>∃(o r d:Addr) (x:V) (R:List Nat) (pre post:List (Nat×Nat)) (W T:List Nat) (Pp:List Pc) (It:List W13.Itm) (L:List Nat),vs=[.ref o,.ref r,vN T.length,x]/\WinV H x W/\ReadAt D H r d R (tots pre)/\RdOf R (pre++(W13.puts It++hP L Pp)++post)/\(∀x∈It,W13.StOk x)/\W13.decL 0 It=L/\TOk L Pp/\GR W Pp/\runP W Pp=W++T/\T.length≤64/\W.length≤192/\
 ∀l H',H l=none->H' l=some (.lst (T.map vN))->ReadAt D H' r d R (tots (pre++(W13.puts It++hP L Pp)))->(∀c o,H c=some o->c≠r->H' c=some o)->Q (.ref l) H'
abbrev uO:List Str:=["self","reader","count","before","signs","begin","end","codes","thing","back"]
theorem scShRead:FnScope uO ["self","reader","count","before"] (defScope gz):=scK (by decide+kernel)
theorem pM (F:Fun K "read" "ShareWay.read" gz f fd)(A0:Shw K mg B D C):FnOk P w K mg base CX0 37 f fd ["self","reader","count","before"] (tS D):=by
 have Z:=A0.Cd.Z;have X:=Z.R.X;obtain⟨_,_,Wh⟩:=Z.R.whole;obtain⟨_,_,Sz⟩:=Z.needsize;obtain⟨_,_,O⟩:=Z.ones;obtain⟨_,_,Ba⟩:=Z.bitsat;obtain⟨_,_,Tk⟩:=Z.take;obtain⟨_,_,Lf⟩:=Z.left;obtain⟨_,_,Ac⟩:=A0.Y.addcopy;obtain⟨_,_,Ao⟩:=A0.Y.aheadof;obtain⟨_,_,Nm⟩:=A0.Y.needroom;obtain⟨_,_,La⟩:=A0.Y.laycopy;obtain⟨_,_,Ci⟩:=A0.codesin;obtain⟨_,_,Ti⟩:=A0.thingin;have TR:=Z.T;have GT:=dO (P:=P) (w:=w) (base:=base) Tk.F Sz Wh Ba O Lf TR X;have GA:=hV (P:=P) (w:=w) (base:=base) Ao X;have GL:=rm (P:=P) (w:=w) (base:=base) La Nm Ac X;have GC:=mz (P:=P) (w:=w) (base:=base) Ci A0.Cd;have GI:=nA (P:=P) (w:=w) (base:=base) Ti A0.Cd;refine F.ok scShRead (λ vs H Q E h=>?_) (λ cdv A outer st H vs Q E hr h=>?_)
 ·obtain⟨o,r,d,x,R,pre,post,W,T,Pp,It,L,rfl,_⟩:=h;rfl
 ·obtain⟨o,r,d,x,R,pre,post,W,T,Pp,It,L,rfl,hx,hR,hrd,hIt,hdec,tok,gr,hrun,h64,hWl,k⟩:=h;have hr3:Room 3 _:=hr.mono (by decide);have hr2:Room 2 _:=hr.mono (by decide);have hr1:Room 1 _:=hr.mono (by decide);have hr32:Room 32 _:=hr.mono (by decide);refine⟨_,ac (ak (i:=4) scShRead.nd rfl (Or.inl rfl) (am GA hr1 (by rfl) Ao.m Ao.F.kp Ao.b .nil ao (aa (pv 3) ad)))
   (ac (ak (i:=5) scShRead.nd rfl (Or.inl rfl) (aq ap (by rfl) X.len zO (aa (pv 4) ad)))
   (ac (ak (i:=6) scShRead.nd rfl (Or.inl rfl) (aj aE (pv 5) (pv 2)))
   (ac (ak (i:=7) scShRead.nd rfl (Or.inl rfl) (am GC hr (by rfl) Ci.m Ci.F.kp Ci.b .nil ao (aa (pv 1) ad)))
   (ac (bE Aa (ar du (aq ap (by rfl) X.len zO (aa (pv 4) ad)) (pv 6) (ax _)) (ac (ak (i:=8) scShRead.nd rfl (Or.inl rfl) (am GI hr32 (by rfl) Ti.m Ti.F.kp Ti.b .nil ao (aa (pv 1) (aa (pv 7) ad))))
   (af (aK (ar du (pv 8) (i9 X.first (by rfl)) (ax _)) (af (aA (cH Af AG AL a6 (pv 4) (aa (pv 8) ad)))) (ac (ak (i:=9) scShRead.nd rfl (Or.inl rfl) (aI (pv 1) TR.cl Tk.m GT hr3 Tk.b .nil ao (aa ae ad)))
   (af (aA (am GL hr2 (by rfl) La.m La.F.kp La.b .nil ao (aa (pv 4) (aa (pv 9) (aa (aj aE (aj aY (pv 8) (i9 X.first (by rfl))) (i9 X.least (by rfl))) (aa (pv 6) ad))))))))))))
   (af (az (cV dE (pv 4) (cL (pv 5)) gk))))))),?_⟩
  obtain⟨⟨dx0,hr0⟩,hd0,_,_⟩:=id hR;refine seq_g λ R1 g1=>?_
  refine⟨_,rfl,x,W,rfl,hx,λ l nl=>g1 _ _ ?_⟩;clear g1;have nlr:l≠r:=(ag hr0 nl).symm;have nld:l≠d:=(ag hd0 nl).symm;refine seq_g λ R1 g1=>?_
  refine⟨_,rfl,l,_,rfl,.inl (SqL.of upd_same),g1 _ _ ?_⟩;clear g1
  try dsimp only
  rw [zr];refine seq_g λ R1 g1=>?_
  have e0:((W.length:Nat):Int)+((T.length:Nat):Int)=((W.length+T.length:Nat):Int):=by lia
  refine⟨_,rfl,_,rfl,_,_,rfl,rfl,g1 _ _ ?_⟩;clear g1
  try dsimp only
  rw [e0];have s0:=ai (o:=.lst (W.map vN)) nl;have h0l:(upd H l (.lst (W.map vN))) l=some (.lst (W.map vN)):=upd_same;have hR0:=hR.same s0;generalize upd H l (.lst (W.map vN))=H0 at*;refine seq_g λ R1 g1=>?_
  have hrd1:RdOf R (pre++W13.puts It++(hP L Pp++post)):=by
   have e:pre++W13.puts It++(hP L Pp++post)=pre++(W13.puts It++hP L Pp)++post:=by simp [zt]
   rw [e];exact hrd
  refine⟨_,rfl,r,d,R,pre,hP L Pp++post,It,rfl,hR0,u8 hrd1 hIt,by rw [hdec];exact tok.len,by rw [hdec];exact tok.good,λ pc e1 e2 H1 hC1 hR1 kp1=>g1 _ _ ?_⟩;clear g1;rw [hdec] at hC1;have h1l:=kp1 _ _ h0l nlr;have hall:(runP W Pp).length=W.length+T.length:=by rw [hrun,zv]
  have hlt:∀i,i≤Pp.length->(runP W (Pp.take i)).length+(Pp.length-i)≤W.length+T.length:=λ i hi=>by
   have h1:=(gr.drop i).len;rw [<-iD,hall,zR] at h1;exact h1
  have nlC:∀{H2:Hp} {xs:List V},K20.C.CdAt C H2 pc e1 e2 L->H2 l=some (.lst xs)->l≠pc/\l≠e1/\l≠e2:=λ h hl=>by
   obtain⟨⟨dx,ho⟩,⟨k1,ht,_⟩,⟨k2,hb,_⟩⟩:=h;exact⟨ne_of hl ho (by intro z;cases z),ne_of hl ht (by intro z;cases z),ne_of hl hb (by intro z;cases z)⟩
  refine seq_g λ R1 g1=>?_
  refine⟨λ n σ H2=>∃(i:Nat) (v8 v9:Option V),n=Pp.length-i/\i≤Pp.length/\σ=[some (.ref o),some (.ref r),some (vN T.length),some x,some (.ref l),some (vN W.length),some (vN (W.length+T.length)),some (.ref pc),v8,v9]/\H2 l=some (.lst ((runP W (Pp.take i)).map vN))/\ReadAt D H2 r d R (tots (pre++(W13.puts It++hP L (Pp.take i))))/\K20.C.CdAt C H2 pc e1 e2 L/\∀c o,H c=some o->c≠r->H2 c=some o,
   ⟨Pp.length,0,none,none,rfl,Ap _,rfl,h1l,?_,hC1,λ c o e n=>kp1 _ _ (s0 _ _ e) n⟩,?_⟩
  ·have et:tots (pre++(W13.puts It++hP L (Pp.take 0)))=tots pre+tots (W13.puts It):=by
    rw [aw,aw];show tots pre+(tots (W13.puts It)+0)=_;lia
   rw [et];exact hR1
  rintro n σ H2 ⟨i,v8,v9,rfl,hi,rfl,h2l,hR2,hC2,kp⟩;have hli:=hlt i hi;refine⟨_,rfl,l,_,rfl,.inl (SqL.of h2l),_,rfl,_,_,rfl,rfl,_,rfl,aL (λ h=>?_) (λ h=>?_)⟩
  ·clear g1;have hiP:i<Pp.length:=by
    have h':=zA h;rw [zr] at h';rcases AB i Pp.length with q|q
    ·exact q
    ·rw [Ad q,hall] at h';lia
   have hPi:Pp[i]?=some Pp[i]:=zu hiP;have hmem:Pp[i]∈Pp:=Ay hiP;have hga:=gr.at hPi;have hl1:=hlt (i+1) (by lia);have ers:runP W (Pp.take (i+1))=app (runP W (Pp.take i)) Pp[i]:=by rw [cG hPi,jd]
   have eps:hP L Pp=hP L (Pp.take i)++cP L Pp[i]++hP L (Pp.drop (i+1)):=by
    rw [<-mM,<-dX,<-dX,<-cG hPi,zM]
   have etk:pre++(W13.puts It++hP L (Pp.take (i+1)))=pre++(W13.puts It++hP L (Pp.take i))++cP L Pp[i]:=by rw [cG hPi,dX,mM];simp [zt]
   rw [ers] at hl1;rw [eu] at hl1;refine⟨λ σ' H'=>∃(v8 v9:Option V),σ'=[some (.ref o),some (.ref r),some (vN T.length),some x,some (.ref l),some (vN W.length),some (vN (W.length+T.length)),some (.ref pc),v8,v9]/\H' l=some (.lst ((runP W (Pp.take (i+1))).map vN))/\ReadAt D H' r d R (tots (pre++(W13.puts It++hP L (Pp.take (i+1)))))/\K20.C.CdAt C H' pc e1 e2 L/\∀c o,H c=some o->c≠r->H' c=some o,
    λ σ' H' ⟨v8,v9,z⟩=>⟨Pp.length-(i+1),by lia,i+1,v8,v9,rfl,by lia,z⟩,?_⟩
   rw [ers,etk];obtain⟨q1,q2,q3⟩:=tok.at hmem hga;have hth:=nP hga;generalize Pp[i]=xx at*;obtain⟨⟨dx,hr2'⟩,_,_,_⟩:=id hR2;have no:∀t,(fR d t).lookup ("take":Str)=none:=λ t=>cJ _ _ (by decide+kernel) (by decide+kernel)
   have n0:=nlC hC2 h2l;have ea:∃c,pre++(W13.puts It++hP L Pp)++post=(pre++(W13.puts It++hP L (Pp.take i)))++(C9.cdAt L (th xx) (L.getD (th xx) 0),L.getD (th xx) 0)::c:=by
    cases xx with
    |sg s=>exact⟨hP L (Pp.drop (i+1))++post,by rw [eps];simp [cP,th,zt]⟩
    |cp b z=>exact⟨(b,8)::(hP L (Pp.drop (i+1))++post),by rw [eps];simp [cP,th,zt]⟩
   obtain⟨ca,ea⟩:=ea;have hdue:=xh tok.good hrd ea q1 q2;refine seq_g λ R2 g2=>?_
   refine⟨_,rfl,_,rfl,pc,e1,e2,r,d,L,R,_,th xx,L.getD (th xx) 0,rfl,hC2,tok.good,hR2,hdue,λ H3 hR3 kp3=>g2 _ _ ?_⟩;clear g2;have h3l:=kp3 _ _ h2l nlr;have hC3:=hC2.but hR2 kp3;cases xx with
   |sg s=>
    have hs:s<256:=hga;refine⟨_,rfl,_,_,rfl,rfl,_,rfl,aL (λ _=>?_) (λ h=>?_)⟩
    ·refine⟨_,rfl,.inl ⟨rfl,_,SqL.of h3l⟩,_,rfl,l,_,_,rfl,rfl,h3l,aX (by rw [zr];lia),_,_,rfl,by rw [upd_same];show _=some (HO.lst ((runP W (Pp.take i)++[s]).map vN));rw [zG];rfl,?_,?_,λ c o' e n=>?_⟩
     ·have et2:tots (pre++(W13.puts It++hP L (Pp.take i))++cP L (.sg s))=tots (pre++(W13.puts It++hP L (Pp.take i)))+L.getD (th (.sg s)) 0:=by rw [aw];rfl
      rw [et2];refine hR3.keep λ c o e hc=>?_
      rw [upd_ne (by rcases hc with rfl|rfl;exact nlr.symm;exact nld.symm)];exact e
     ·refine hC3.keep λ c o e hc=>?_
      rw [upd_ne (by rcases hc with rfl|rfl|rfl;exact n0.1.symm;exact n0.2.1.symm;exact n0.2.2.symm)];exact e
     ·rw [upd_ne (ag e nl)];exact kp3 _ _ (kp _ _ e n) n
    ·exact absurd (zw (show((th (.sg s):Nat):Int)<256 by show((s:Nat):Int)<256;lia)) h
   |cp b z=>
    obtain⟨g1,g2,g3,g4,g5⟩:1≤b/\b≤255/\b≤(runP W (Pp.take i)).length/\3≤z/\z≤18:=hga;have hzs:(Pc.cp b z).size=z:=rfl;rw [hzs] at hl1;have eb:pre++(W13.puts It++hP L Pp)++post=(pre++(W13.puts It++hP L (Pp.take i))++[(C9.cdAt L (253+z) (L.getD (253+z) 0),L.getD (253+z) 0)])++(b,8)::(hP L (Pp.drop (i+1))++post):=by rw [eps];simp [cP,zt]
    obtain⟨b1,b2⟩:=hrd.at eb;have et1:tots (pre++(W13.puts It++hP L (Pp.take i))++[(C9.cdAt L (253+z) (L.getD (253+z) 0),L.getD (253+z) 0)])=tots (pre++(W13.puts It++hP L (Pp.take i)))+L.getD (th (.cp b z)) 0:=by rw [aw];rfl
    rw [et1] at b1 b2;refine⟨_,rfl,_,_,rfl,rfl,_,rfl,aL (λ h=>?_) (λ _=>?_)⟩
    ·have:((253+z:Nat):Int)<256:=zA h;lia
    obtain⟨⟨dx3,hr3'⟩,_,_,_⟩:=id hR3;refine seq_g λ R2 q2=>?_
    refine⟨_,rfl,r,dx3,_,rfl,hr3',no _,r,d,R,_,8,rfl,hR3,by decide,b1,λ H4 hR4 kp4=>q2 _ _ ?_⟩;clear q2;rw [b2];have h4l:=kp4 _ _ h3l nlr;have hC4:=hC3.but hR3 kp4;have ez:((th (.cp b z):Nat):Int)-256+3=((z:Nat):Int):=by show((253+z:Nat):Int)-256+3=_;lia
    refine⟨_,rfl,_,rfl,_,rfl,_,_,rfl,rfl,_,_,rfl,rfl,_,rfl,?_⟩
    try dsimp only
    rw [ez];refine⟨l,runP W (Pp.take i),b,z,W.length+T.length,rfl,h4l,g1,g3,by lia,by lia,_,_,rfl,upd_same,?_,?_,λ c o' e n=>?_⟩
    ·have et3:tots (pre++(W13.puts It++hP L (Pp.take i))++cP L (.cp b z))=tots (pre++(W13.puts It++hP L (Pp.take i)))+L.getD (th (.cp b z)) 0+8:=by
      rw [aw];have:tots (cP L (.cp b z))=L.getD (th (.cp b z)) 0+8:=rfl;lia
     rw [et3];refine hR4.keep λ c o e hc=>?_
     rw [upd_ne (by rcases hc with rfl|rfl;exact nlr.symm;exact nld.symm)];exact e
    ·refine hC4.keep λ c o e hc=>?_
     rw [upd_ne (by rcases hc with rfl|rfl|rfl;exact n0.1.symm;exact n0.2.1.symm;exact n0.2.2.symm)];exact e
    ·rw [upd_ne (ag e nl)];exact kp4 _ _ (kp3 _ _ (kp _ _ e n) n) n
  ·have hiP:i=Pp.length:=by
    rcases AB i Pp.length with q|q
    ·exact absurd (zw (by rw [zr];lia)) h
    ·lia
   rw [hiP,An] at h2l hR2;rw [hrun] at h2l;refine g1 _ _ ?_;clear g1;have ec:cutV ((W++T).map vN) (some ((W.length:Nat):Int)) none=T.map vN:=by rw [iz,<-DF,CH]
   refine⟨_,rfl,_,rfl,_,rfl,l,_,rfl,SqL.of h2l,λ l9 n9=>?_⟩
   try dsimp only
   rw [ec];have s9:=ai (o:=.lst (T.map vN)) n9;refine k l9 _ ?_ upd_same (hR2.keep λ c o e _=>s9 _ _ e) λ c o e n=>s9 _ _ (kp _ _ e n)
   cases e:H l9 with
   |none=>rfl
   |some o'=>
    by_cases z:l9=r
    ·subst z;obtain⟨⟨dx9,hr9⟩,_⟩:=hR2;rw [hr9] at n9;cases n9
    ·rw [kp _ _ e z] at n9;cases n9
end
end K20
namespace L2
open PySem
variable {a b c x : Str} {j l : Nat}
theorem iy {i k:Nat}(h1: [a,b][i]?=some x)(h2: [none,some k][i]?=some (some j)):x=b/\j=k:=by
 rcases i with _|_|i
 ·cases h2
 ·cases h1;cases h2;exact⟨rfl,rfl⟩
 ·cases h1
theorem slots3 {i k:Nat}(h1: [a,b,c][i]?=some x)(h2: [none,some k,some l][i]?=some (some j)):(x=b/\j=k)\/(x=c/\j=l):=by
 rcases i with _|_|_|i
 ·cases h2
 ·cases h1;cases h2;exact .inl ⟨rfl,rfl⟩
 ·cases h1;cases h2;exact .inr ⟨rfl,rfl⟩
 ·cases h1
theorem slotsL {i k:Nat}(h1: [b,c][i]?=some x)(h2: [k,l][i]?=some j):(x=b/\j=k)\/(x=c/\j=l):=by
 rcases i with _|_|i
 ·cases h1;cases h2;exact .inl ⟨rfl,rfl⟩
 ·cases h1;cases h2;exact .inr ⟨rfl,rfl⟩
 ·cases h1
end L2
set_option maxHeartbeats 1000000
namespace K20
open PySem L2 QQ W17 W16 BP
seal PE PA PS PSs PT PW PG PI
variable {fd : FuncData} {f : Addr}
theorem gi (T:List Nat)(s:Nat):pf false (T++[s])=pf false T++[(s,8)]:=by simp [pf]
theorem ii (r a:Nat):(List.replicate r [vN a]).flatten=(List.replicate r a).map vN:=by
 induction r with
 |zero=>rfl
 |succ r ih=>rw [AJ,A4,ih];rfl
section
variable {P : Program} {w : World} {K : PySem.W.Frag} {mg : Str -> Option Value} {base : Heap} {B D : Addr}
def rz:Sp:=λ vs H Q _=>∃(a:Addr) (T:List Nat),vs=[.ref a]/\H a=some (.lst (T.map vN))/\T.length≤64/\∀l ts H',Same H H'->H l=none->H' l=some (.lst (ts.map V.ref))->Prs H' ts (rl T)->Q (.ref l) H'
abbrev vx:List Str:=["signs","runs","begin","place"]
theorem scRunsOf:FnScope vx ["signs"] (defScope dJ):=scK (by decide+kernel)
theorem pN (F:Fn K mg "runs_of" dJ ["signs"] f fd)(T:Txt K mg):FnOk P w K mg base CX0 1 f fd ["signs"] rz:=by
 refine F.F.ok scRunsOf (λ vs H Q E h=>?_) (λ cdv A outer st H vs Q E hr h=>?_)
 ·obtain⟨a,T,rfl,_⟩:=h;rfl
 ·obtain⟨a,S,rfl,ha,h64,k⟩:=h;refine⟨_,ac (ak (i:=1) scRunsOf.nd rfl (Or.inl rfl) (aW ad))
   (ac (ak (i:=2) scRunsOf.nd rfl (Or.inl rfl) ae)
   (ac (bd Aa rfl (fZ (by rfl) T.range (aa ae (aa (aj aE (aq ap (by rfl) T.len zO (aa (pv 0) ad)) ae) ad))) (aH (i:=3) scRunsOf.nd rfl (Or.inl rfl))
    (af (aK (PW.pt (eT (ar bj (pv 3) (aq ap (by rfl) T.len zO (aa (pv 0) ad)) (ax _)) (dn (ar oN (aM aP (pv 0) (pv 3) (λ _ _=>rfl)) (aM aP (pv 0) (pv 2) (λ _ _=>rfl)) (ax _)))))
     (ac (aA (cH Af AG AL a6 (pv 1) (aa (cC (aa (aM aP (pv 0) (pv 2) (λ _ _=>rfl)) (aa (aj aY (pv 3) (pv 2)) ad))) ad)))
     (af (ak (i:=2) scRunsOf.nd rfl (Or.inl rfl) (pv 3)))) aC)))
   (af (az (pv 1))))),?_⟩
  refine seq_g λ R1 g1=>?_
  refine⟨by decide,λ l nl=>g1 _ _ ?_⟩;clear g1;have s0:=ai (o:=.lst []) nl;refine seq_g λ R1 g1=>g1 _ _ ?_
  clear g1;refine seq_g λ R1 g1=>?_
  have en:(((S.map vN).length:Int)+1-1).toNat=S.length:=by rw [zr];lia
  refine⟨_,rfl,a,_,rfl,.inl (SqL.of (s0 _ _ ha)),_,_,rfl,rfl,1,_,rfl,⟨by lia,by lia,by rw [zr];lia,by rw [zr];lia⟩,?_⟩;rw [en];refine bX (D:=⟨_,_,λ _ _=>False,λ _ _=>False⟩) (lo:=1) (n:=S.length) (λ i σ H2=>∃(b:Nat) (rs:List (Nat×Nat)) (ts:List Addr) (v3:Option V),σ=[some (.ref a),some (.ref l),some (vN b),v3]/\Same H H2/\H2 l=some (.lst (ts.map V.ref))/\Prs H2 ts rs/\rs++rl (S.drop b)=rl S/\b≤i/\rs.length≤i/\(i=S.length->b=S.length)/\∀j,b≤j->j≤i->j<S.length->S[j]?=S[b]?)
   ⟨0,[],[],none,rfl,s0,upd_same,.nil,rfl,zy _,zy _,λ z=>z,λ j h1 h2 _=>by rw [Nat.le_zero.mp h2]⟩ ?_ ?_
  ·clear g1;rintro i σ H2 hi ⟨b,rs,ts,v3,rfl,sm,hl2,hprs,hrl,hbi,hri,hend,hal⟩;have hbS:b<S.length:=by lia
   have ha2:=sm _ _ ha;have ep:(1:Int)+((i:Nat):Int)=((i+1:Nat):Int):=by lia
   have htl:=hprs.len;have Sb:S[b]?=some S[b]:=zu hbS;have J:(S[i+1]?≠some S[b])->∀(t:Addr),H2 t=none->∃(b':Nat) (rs:List (Nat×Nat)) (ts':List Addr) (v3:Option V),[some (V.ref a),some (V.ref l),some (vN (i+1)),some (vN (i+1))]=[some (V.ref a),some (V.ref l),some (vN b'),v3]/\Same H (upd (upd H2 t (.tup [vN S[b],vN (i+1-b)])) l (.lst ((ts++[t]).map V.ref)))/\(upd (upd H2 t (.tup [vN S[b],vN (i+1-b)])) l (.lst ((ts++[t]).map V.ref))) l=some (.lst (ts'.map V.ref))/\Prs (upd (upd H2 t (.tup [vN S[b],vN (i+1-b)])) l (.lst ((ts++[t]).map V.ref))) ts' rs/\rs++rl (S.drop b')=rl S/\b'≤i+1/\rs.length≤i+1/\(i+1=S.length->b'=S.length)/\∀j,b'≤j->j≤i+1->j<S.length->S[j]?=S[b']?:=by
    intro hne t nt;have st:=ai (o:=.tup [vN S[b],vN (i+1-b)]) nt;have nlt:t≠l:=(ag hl2 nt).symm;refine⟨i+1,rs++[(S[b],i+1-b)],ts++[t],some (vN (i+1)),rfl,λ c o e=>?_,upd_same,?_,?_,zy _,by rw [zv];show rs.length+1≤i+1;lia,λ z=>z,λ j h1 h2 _=>by rw [show j=i+1 by lia]⟩
    ·rw [upd_ne (ag e nl)];exact st _ _ (sm _ _ e)
    ·refine((hprs.mono st).keep λ c xs e=>?_).app (.cons ?_ .nil)
     ·rw [upd_ne (λ z=>by rw [z,st _ _ hl2] at e;cases e)];exact e
     ·rw [upd_ne nlt,upd_same]
    ·rw [zt,<-hrl,uT (b:=b) (e:=i+1) (a:=S[b]) (by lia) (by lia) (λ j h1 h2=>by rw [hal j h1 (by lia) (by lia),Sb]) hne];rfl
   rw [ep];refine⟨_,rfl,_,rfl,a,_,rfl,.inl (SqL.of ha2),rfl,_,rfl,aL (λ h=>?_) (λ h=>?_)⟩
   ·have he:i+1=S.length:=by
     have:=zA h;injection this with this
     rw [zr] at this;lia
    refine iA ⟨_,rfl,.inl ⟨rfl,_,SqL.of hl2⟩,_,rfl,_,rfl,a,_,_,_,rfl,rfl,SqL.of ha2,ay (bi hbS),_,rfl,_,rfl,_,_,rfl,rfl,(by show 2≤sizeLine;decide),λ t nt=>?_⟩;have e2:((i+1:Nat):Int)-((b:Nat):Int)=((i+1-b:Nat):Int):=by lia
    try dsimp only at nt
    try dsimp only
    rw [e2];refine⟨l,_,_,rfl,rfl,ai nt _ _ hl2,aX (by rw [zr];lia),_,rfl,?_⟩;have z:=J (by rw [he,AD (zy _)];exact λ z=>nomatch z) t nt;rw [zG] at z;exact z
   ·have he:i+1<S.length:=by
     have h':¬(decide (V.int ((i+1:Nat):Int)=V.int ((S.map vN).length:Int))=true):=h;rcases AB (i+1) S.length with q|q
     ·exact q
     ·exact absurd (zw (by rw [zr,show i+1=S.length by lia])) h'
    refine⟨_,rfl,_,rfl,a,_,_,_,rfl,rfl,SqL.of ha2,ay (bi he),_,rfl,_,rfl,a,_,_,_,rfl,rfl,SqL.of ha2,ay (bi hbS),rfl,_,rfl,?_⟩;by_cases hne:S[i+1]=S[b]
    ·rw [hne,zw rfl];refine bz ⟨b,rs,ts,_,rfl,sm,hl2,hprs,hrl,by lia,by lia,λ z=>by lia,λ j h1 h2 h3=>?_⟩;rcases AB i j with q|q
     ·rw [show j=i+1 by lia,zu he,Sb,hne]
     ·exact hal j h1 q h3
    ·rw [AC (λ z=>hne (vN_inj.mp z))];refine iA ⟨_,rfl,.inl ⟨rfl,_,SqL.of hl2⟩,_,rfl,_,rfl,a,_,_,_,rfl,rfl,SqL.of ha2,ay (bi hbS),_,rfl,_,rfl,_,_,rfl,rfl,(by show 2≤sizeLine;decide),λ t nt=>?_⟩;have e2:((i+1:Nat):Int)-((b:Nat):Int)=((i+1-b:Nat):Int):=by lia
     try dsimp only at nt
     try dsimp only
     rw [e2];refine⟨l,_,_,rfl,rfl,ai nt _ _ hl2,aX (by rw [zr];lia),_,rfl,?_⟩;have z:=J (by rw [zu he];exact λ z=>hne (zS z)) t nt;rw [zG] at z;exact z
  ·rintro σ H2 ⟨b,rs,ts,v3,rfl,sm,hl2,hprs,hrl,_,_,hend,_⟩;rw [hend rfl,Dx,xO,Ax] at hrl;rw [hrl] at hprs;exact g1 _ _ ⟨_,rfl,k l ts H2 sm nl hl2 hprs⟩
def yZ (u:Bool):Int:=if u then 1 else 0
def md (u:Bool):Sp:=λ vs H Q _=>∃o:Addr,vs=[.ref o]/\Q (.int (yZ u)) H
theorem ke:FnScope ["self"] ["self"] (defScope df):=scK (by decide+kernel)
theorem k7:FnScope ["self"] ["self"] (defScope c9):=scK (by decide+kernel)
theorem jR (F:Fun K "number" "RawWay.number" df f fd):FnOk P w K mg base CX0 1 f fd ["self"] (md false):=by
 refine F.ok ke (λ vs H Q E h=>?_) (λ cdv A outer st H vs Q E hr h=>?_)
 ·obtain⟨o,rfl,_⟩:=h;rfl
 ·obtain⟨o,rfl,k⟩:=h;exact⟨_,af (az ae),k⟩
theorem jv (F:Fun K "number" "RunWay.number" c9 f fd):FnOk P w K mg base CX0 1 f fd ["self"] (md true):=by
 refine F.ok k7 (λ vs H Q E h=>?_) (λ cdv A outer st H vs Q E hr h=>?_)
 ·obtain⟨o,rfl,_⟩:=h;rfl
 ·obtain⟨o,rfl,k⟩:=h;exact⟨_,af (az ae),k⟩
def tu (u:Bool)(B:Addr):Sp:=λ vs H Q _=>∃(o p d a:Addr) (x:V) (T W:List Nat) (N T0:Nat),vs=[.ref o,.ref p,.ref a,x]/\BitsAt B H p d N T0/\T0≤1000/\H a=some (.lst (T.map vN))/\(∀b∈T,b<256)/\1≤T.length/\T.length≤64/\WinV H x W/\(∀b∈W,b<256)/\W.length≤192/\
 ∀H',BitsAt B H' p d (nums (pf u T) N) (T0+tots (pf u T))->(∀c o,H c=some o->c≠p->c≠d->H' c=some o)->Q .non H'
theorem scRawTell:FnScope ["self","bits","text","before","sign"] ["self","bits","text","before"] (defScope fg):=scK (by decide+kernel)
theorem mK (F:Fun K "tell" "RawWay.tell" fg f fd)(Y:Wys K mg)(Z:Bts K mg B):FnOk P w K mg base CX0 8 f fd ["self","bits","text","before"] (tu false B):=by
 have R:=Y.V.R;obtain⟨_,_,Nr⟩:=Y.V.needrow;obtain⟨_,_,Nw⟩:=Y.V.needwin;obtain⟨_,_,Na⟩:=Y.needahead;obtain⟨_,_,Ns⟩:=Y.needsigns;have X:=R.X;have GN:=cj (P:=P) (w:=w) (base:=base) Ns Na Nw Nr R;obtain⟨_,_,W⟩:=Z.R.whole;obtain⟨_,_,S⟩:=Z.needsize;obtain⟨_,_,O⟩:=Z.ones;obtain⟨_,_,Pu⟩:=Z.put;obtain⟨_,_,M⟩:=Z.move;have TB:=Z.T;have GP:=iB (P:=P) (w:=w) (base:=base) Pu.F S W O M TB X;refine F.ok scRawTell (λ vs H Q E h=>?_) (λ cdv A outer st H vs Q E hr h=>?_)
 ·obtain⟨o,p,d,a,x,T,W,N,T0,rfl,_⟩:=h;rfl
 ·obtain⟨o,p,d,a,x,T,W,N,T0,rfl,hB,hT0,ha,hTb,h1,h64,hx,hWb,hWl,k⟩:=h;have hr3:Room 3 _:=hr.mono (by decide);refine⟨_,af (bd Aa rfl (bu (am GN hr (by rfl) Ns.m Ns.F.kp Ns.b .nil ao (aa (pv 2) (aa (pv 3) ad)))) (aH (i:=4) scRawTell.nd rfl (Or.inl rfl))
   (af (aA (aI (pv 1) TB.cl Pu.m GP hr3 Pu.b .nil ao (aa (pv 4) (aa ae ad)))))),?_⟩
  refine⟨_,rfl,_,rfl,a,x,T,W,rfl,ha,hTb,h1,h64,hx,hWb,hWl,λ l H1 s1 nl hl=>?_⟩;have hB1:=hB.keep λ c o e _=>s1 _ _ e
  have nlp:l≠p:=(bY hB.sm.1 nl).symm;have nld:l≠d:=(bY hB.sm.2 nl).symm;refine⟨l,rfl,⟨_,SqL.of hl⟩,bP (D:=⟨_,_,λ _ _=>False,λ _ _=>False⟩) (K:=K) (a:=l) (xs:=T.map vN) (λ i σ H2=>∃v4:Option V,σ=[some (.ref o),some (.ref p),some (.ref a),some x,v4]/\BitsAt B H2 p d (nums (pf false (T.take i)) N) (T0+tots (pf false (T.take i)))/\∀c o,H1 c=some o->c≠p->c≠d->H2 c=some o)
   ⟨none,rfl,hB1,λ c o e _ _=>e⟩ (λ i σ H2 _ ⟨_,_,_,kp⟩=>SqL.of (kp _ _ hl nlp nld)) ?_ ?_⟩
  ·rintro i y σ H2 hi ⟨v4,rfl,hB2,kp⟩;obtain⟨b,hb,rfl⟩:=cm hi;have hil:i<T.length:=(zz.mp hb).1;obtain⟨dx,r,kk,hp2⟩:=hB2.ob;have htt:=eW (T.take i);rw [zW] at htt;refine⟨_,rfl,p,dx,_,rfl,hp2,cA _ _ _ (by decide+kernel) (by decide+kernel) (by decide+kernel),_,rfl,p,d,_,_,b,8,rfl,hB2,by lia,by decide,hTb b (AK hb),λ H3 hB3 kp3=>?_⟩;refine⟨_,rfl,?_,λ c o e n1 n2=>kp3 _ _ (kp _ _ e n1 n2) n1 n2⟩;rw [bS hb,gi,aT,aw,<-Bc];exact hB3
  ·rintro σ H2 ⟨v4,rfl,hB2,kp⟩;rw [zr,An] at hB2;exact k H2 hB2 λ c o e n1 n2=>kp _ _ (s1 _ _ e) n1 n2
theorem scRunTell:FnScope ["self","bits","text","before","sign","size"] ["self","bits","text","before"] (defScope eJ):=scK (by decide+kernel)
theorem mW {fR:Addr}{fdR:FuncData}(F:Fun K "tell" "RunWay.tell" eJ f fd)(Ro:Fn K mg "runs_of" dJ ["signs"] fR fdR)(Y:Wys K mg)(Z:Bts K mg B):FnOk P w K mg base CX0 8 f fd ["self","bits","text","before"] (tu true B):=by
 have R:=Y.V.R;obtain⟨_,_,Nr⟩:=Y.V.needrow;obtain⟨_,_,Nw⟩:=Y.V.needwin;obtain⟨_,_,Na⟩:=Y.needahead;obtain⟨_,_,Ns⟩:=Y.needsigns;have X:=R.X;have GN:=cj (P:=P) (w:=w) (base:=base) Ns Na Nw Nr R;have GR:=pN (P:=P) (w:=w) (base:=base) Ro X;obtain⟨_,_,W⟩:=Z.R.whole;obtain⟨_,_,S⟩:=Z.needsize;obtain⟨_,_,O⟩:=Z.ones;obtain⟨_,_,Pu⟩:=Z.put;obtain⟨_,_,M⟩:=Z.move;have TB:=Z.T;have GP:=iB (P:=P) (w:=w) (base:=base) Pu.F S W O M TB X;refine F.ok scRunTell (λ vs H Q E h=>?_) (λ cdv A outer st H vs Q E hr h=>?_)
 ·obtain⟨o,p,d,a,x,T,W,N,T0,rfl,_⟩:=h;rfl
 ·obtain⟨o,p,d,a,x,T,W,N,T0,rfl,hB,hT0,ha,hTb,h1,h64,hx,hWb,hWl,k⟩:=h;have hr3:Room 3 _:=hr.mono (by decide);have hr1:Room 1 _:=hr.mono (by decide);refine⟨_,af (bd Aa rfl (bu (am GR hr1 (by rfl) Ro.m Ro.F.kp Ro.b .nil ao (aa (am GN hr (by rfl) Ns.m Ns.F.kp Ns.b .nil ao (aa (pv 2) (aa (pv 3) ad))) ad)))
   (iE rfl (bA (aH (i:=4) scRunTell.nd rfl (Or.inl rfl)) (bA (aH (i:=5) scRunTell.nd rfl (Or.inl rfl)) eN)))
   (ac (aA (aI (pv 1) TB.cl Pu.m GP hr3 Pu.b .nil ao (aa (aj aY (pv 5) ae) (aa ae ad))))
   (af (aA (aI (pv 1) TB.cl Pu.m GP hr3 Pu.b .nil ao (aa (pv 4) (aa ae ad))))))),?_⟩
  refine⟨_,rfl,_,rfl,a,x,T,W,rfl,ha,hTb,h1,h64,hx,hWb,hWl,λ l0 H0 s0 n0 h00=>?_⟩;refine⟨l0,T,rfl,h00,h64,λ l ts H1 s01 nl0 hl hprs=>?_⟩;have s1:=s0.trans s01;have nl:H l=none:=none_of s0 nl0;have hB1:=hB.keep λ c o e _=>s1 _ _ e
  have nlp:l≠p:=(bY hB.sm.1 nl).symm;have nld:l≠d:=(bY hB.sm.2 nl).symm;have htl:=hprs.len;have hok:=qS h64 hTb;have hlen:(rl T).length≤64:=by
   have:=dj (rs:=rl T) λ q hq=>(jZ hq).1
   rw [mH] at this;lia
  obtain⟨dxp,rp,kp',hpp⟩:=hB1.ob;obtain⟨dxd,Bd,rd,kd,_,hdd,_⟩:=id hB1;refine⟨l,rfl,⟨_,SqL.of hl⟩,bP (D:=⟨_,_,λ _ _=>False,λ _ _=>False⟩) (K:=K) (a:=l) (xs:=ts.map V.ref) (λ i σ H2=>∃v4 v5:Option V,σ=[some (.ref o),some (.ref p),some (.ref a),some x,v4,v5]/\BitsAt B H2 p d (nums (pR ((rl T).take i)) N) (T0+tots (pR ((rl T).take i)))/\∀c o,H1 c=some o->c≠p->c≠d->H2 c=some o)
   ⟨none,none,rfl,hB1,λ c o e _ _=>e⟩ (λ i σ H2 _ z9=>by obtain⟨_,_,_,_,kp⟩:=z9;exact SqL.of (kp _ _ hl nlp nld)) ?_ ?_⟩
  ·rintro i y σ H2 hi ⟨v4,v5,rfl,hB2,kp⟩;obtain⟨t,ht,rfl⟩:=gA hi;obtain⟨q,hq,htt⟩:=hprs.at ht;have hil:i<(rl T).length:=(zz.mp hq).1;obtain⟨q1,q2,q3⟩:=hok q (AK hq);have ntp:t≠p:=ne_of htt hpp (by intro z;cases z);have ntd:t≠d:=ne_of htt hdd (by intro z;cases z);have htt2:=kp _ _ htt ntp ntd;obtain⟨dx,r,kk,hp2⟩:=hB2.ob;have hto:=dg ((rl T).take i);rw [zW] at hto;refine⟨t,_,rfl,SqT.of htt2,rfl,_,_,rfl,_,_,rfl,rfl,?_⟩;have e1:((q.2:Nat):Int)-1=((q.2-1:Nat):Int):=by lia
   refine seq_g λ R2 g2=>?_
   refine⟨_,rfl,p,dx,_,rfl,hp2,cA _ _ _ (by decide+kernel) (by decide+kernel) (by decide+kernel),_,rfl,_,_,rfl,rfl,?_⟩
   try dsimp only
   rw [e1];refine⟨p,d,_,_,q.2-1,6,rfl,hB2,by lia,by decide,(by show q.2-1<2^6;lia),λ H3 hB3 kp3=>g2 _ _ ?_⟩;clear g2;obtain⟨dx3,r3,kk3,hp3⟩:=hB3.ob;refine⟨_,rfl,p,dx3,_,rfl,hp3,cA _ _ _ (by decide+kernel) (by decide+kernel) (by decide+kernel),_,rfl,p,d,_,_,q.1,8,rfl,hB3,by lia,by decide,(by show q.1<2^8;lia),λ H4 hB4 kp4=>?_⟩;refine⟨_,_,rfl,?_,λ c o e n1 n2=>kp4 _ _ (kp3 _ _ (kp _ _ e n1 n2) n1 n2) n1 n2⟩;rw [cG hq,fQ,aT,aw];have e5:T0+(tots (pR ((rl T).take i))+tots (pR [q]))=T0+tots (pR ((rl T).take i))+6+8:=by
    have:tots (pR [q])=14:=by rw [dg];rfl
    lia
   rw [e5];exact hB4
  ·rintro σ H2 ⟨v4,v5,rfl,hB2,kp⟩;rw [zr,htl,An] at hB2;exact k H2 hB2 λ c o e n1 n2=>kp _ _ (s1 _ _ e) n1 n2
def oU (u:Bool)(D:Addr):Sp:=λ vs H Q _=>∃(o r d:Addr) (x:V) (R:List Nat) (pre post:List (Nat×Nat)) (T:List Nat),vs=[.ref o,.ref r,vN T.length,x]/\ReadAt D H r d R (tots pre)/\RdOf R (pre++pf u T++post)/\1≤T.length/\T.length≤64/\(∀b∈T,b<256)/\
 ∀l H',H l=none->H' l=some (.lst (T.map vN))->ReadAt D H' r d R (tots (pre++pf u T))->(∀c o,H c=some o->c≠r->H' c=some o)->Q (.ref l) H'
theorem qD:FnScope ["self","reader","count","before"] ["self","reader","count","before"] (defScope fb):=scK (by decide+kernel)
theorem zl:(["step","reader"]:List Str).Nodup:=by decide+kernel
def tH (D:Addr):TE:=qX D "take" (qU D) [] E0 (eF 1) (gg (tC (.int 8)) jx)
theorem mw (F:Fun K "read" "RawWay.read" fb f fd)(Z:Rdr K mg D):FnOk P w K mg base CX0 5 f fd ["self","reader","count","before"] (oU false D):=by
 have X:=Z.R.X;obtain⟨_,_,W⟩:=Z.R.whole;obtain⟨_,_,S⟩:=Z.needsize;obtain⟨_,_,O⟩:=Z.ones;obtain⟨_,_,Ba⟩:=Z.bitsat;obtain⟨_,_,Tk⟩:=Z.take;obtain⟨_,_,L⟩:=Z.left;have TR:=Z.T;have GT:=dO (P:=P) (w:=w) (base:=base) Tk.F S W Ba O L TR X;refine F.ok qD (λ vs H Q E h=>?_) (λ cdv A outer st H vs Q E hr h=>?_)
 ·obtain⟨o,r,d,x,R,pre,post,T,rfl,_⟩:=h;rfl
 ·obtain⟨o,r,d,x,R,pre,post,T,rfl,hR,hrd,h1,h64,hTb,k⟩:=h;have hr3:Room 3 _:=hr.mono (by decide);refine⟨_,af (az (lR (N:=["step","reader"]) (js:=[none,some 1]) (cl:=[("reader",st.heap.objs.size+1)]) (g:=bf 0) (te:=tH D) rfl
   ⟨rfl,by decide+kernel,by decide+kernel,by rfl,λ x c h=>(by obtain⟨rfl,rfl⟩:=cy h;rfl),λ x hx=>?c1,rfl,λ i x j h1 h2=>?c2⟩
   (bq (by rfl) X.range (aa (pv 2) ad)) (λ fp s H=>aH (i:=0) zl rfl (Or.inl rfl))
   (λ fp s H=>aI (pv 1) TR.cl Tk.m GT hr3 Tk.b .nil ao (aa ae ad)))),?_⟩
  case c1=>
   rcases hx with hx|hx
   ·have m':(x,NameKind.cell)∈([(".0",.local),("step",.local),("reader",.cell)]:List (Str×NameKind)):=Ar hx;have e:x="reader":=by simpa using m'
    subst e;exact⟨_,rfl⟩
   ·have m':(x,NameKind.free)∈([(".0",.local),("step",.local),("reader",.cell)]:List (Str×NameKind)):=Ar hx;simp at m'
  case c2=>
   obtain⟨rfl,rfl⟩:=iy h1 h2;exact⟨rfl,rfl,rfl,λ c h=>h⟩
  refine⟨_,rfl,((T.length:Nat):Int),rfl,by lia,by lia,λ l nl=>?_⟩;obtain⟨⟨dx0,hr0⟩,hd0,_,_⟩:=id hR;have nlr:l≠r:=(ag hr0 nl).symm;have nld:l≠d:=(ag hd0 nl).symm;refine f8 (g:=bf 0) (te:=tH D) (lo:=0) (l:=l) (k:=((T.length:Nat):Int).toNat)
   (λ i ys σ H2=>∃v0:Option V,σ=[v0,some (.ref r)]/\ys=(T.take i).map vN/\H2 l=some (.lst ys)/\ReadAt D H2 r d R (tots (pre++pf false (T.take i)))/\∀c o,H c=some o->c≠r->H2 c=some o)
   ⟨none,rfl,rfl,upd_same,?_,λ c o e _=>ai nl _ _ e⟩ ?_ ?_ ?_ ?_
  ·show ReadAt D _ r d R (tots (pre++[]));rw [Ax];exact hR.keep λ c o e _=>ai nl _ _ e
  ·rintro i ys σ H2 hi ⟨v0,rfl,rfl,h2l,hR2,kp⟩;have hil:i<T.length:=by simpa using hi
   have hTi:T[i]?=some T[i]:=zu hil;obtain⟨⟨dx,hr2⟩,_,_,_⟩:=id hR2;have et:T=T.take i++T[i]::T.drop (i+1):=by rw [<-AH hil,zM]
   have ep:pre++pf false T++post=(pre++pf false (T.take i))++(T[i],8)::(pf false (T.drop (i+1))++post):=by
    have:pf false T=pf false (T.take i)++(T[i],8)::pf false (T.drop (i+1)):=by
     show T.map _=(T.take i).map _++(T[i],8)::(T.drop (i+1)).map _;rw [<-z8 (f:=λ s=>(s,8)),<-zG,<-et]
    rw [this];simp [zt]
   obtain⟨q1,q2⟩:=hrd.at ep;refine⟨_,rfl,r,dx,_,rfl,hr2,cJ _ _ (by decide+kernel) (by decide+kernel),r,d,R,_,8,rfl,hR2,by decide,q1,λ H3 hR3 kp3=>?_⟩;rw [q2];refine⟨kp3 _ _ h2l nlr,aX (by rw [zr,zW];lia),_,rfl,by rw [bS hTi,zG];rfl,upd_same,?_,λ c o e n=>?_⟩
   ·rw [bS hTi,gi,<-zt,aw];refine hR3.keep λ c o e hc=>?_
    rw [upd_ne (by rcases hc with rfl|rfl;exact nlr.symm;exact nld.symm)];exact e
   ·rw [upd_ne (ag e nl)];exact kp3 _ _ (kp _ _ e n) n
  rotate_left
  ·exact λ x σ H A B h z=>h _ _ z
  ·rintro σ H A B h ⟨v,e1,a',dx,fs,e2,e3,e4,p',d',R',t',s',e5,e6,e7,e8,z⟩;exact⟨v,e1,a',dx,fs,e2,e3,e4,p',d',R',t',s',e5,e6,e7,e8,λ H' z1 z2=>h _ _ (z H' z1 z2)⟩
  ·rintro ys σ H2 ⟨v0,rfl,rfl,h2l,hR2,kp⟩;rw [zV,An] at h2l hR2;exact k l H2 nl h2l hR2 kp
theorem scRunRead:FnScope ["self","reader","count","before","signs","size","sign"] ["self","reader","count","before"] (defScope fE):=scK (by decide+kernel)
theorem mv (F:Fun K "read" "RunWay.read" fE f fd)(Y:Wys K mg)(Z:Rdr K mg D):FnOk P w K mg base CX0 5 f fd ["self","reader","count","before"] (oU true D):=by
 have X:=Z.R.X;obtain⟨_,_,W⟩:=Z.R.whole;obtain⟨_,_,S⟩:=Z.needsize;obtain⟨_,_,O⟩:=Z.ones;obtain⟨_,_,Ba⟩:=Z.bitsat;obtain⟨_,_,Tk⟩:=Z.take;obtain⟨_,_,L⟩:=Z.left;obtain⟨_,_,Nm⟩:=Y.needroom;have TR:=Z.T;have GT:=dO (P:=P) (w:=w) (base:=base) Tk.F S W Ba O L TR X;have GM:=f9 (P:=P) (w:=w) (base:=base) Nm X;refine F.ok scRunRead (λ vs H Q E h=>?_) (λ cdv A outer st H vs Q E hr h=>?_)
 ·obtain⟨o,r,d,x,R,pre,post,T,rfl,_⟩:=h;rfl
 ·obtain⟨o,r,d,x,R,pre,post,T,rfl,hR,hrd,h1,h64,hTb,k⟩:=h;have hr3:Room 3 _:=hr.mono (by decide);have hr1:Room 1 _:=hr.mono (by decide);refine⟨_,ac (ak (i:=4) scRunRead.nd rfl (Or.inl rfl) (aW ad))
   (ac (bE Aa (ar du (aq ap (by rfl) X.len zO (aa (pv 4) ad)) (pv 2) (ax _))
    (ac (ak (i:=5) scRunRead.nd rfl (Or.inl rfl) (aj aE (aI (pv 1) TR.cl Tk.m GT hr3 Tk.b .nil ao (aa ae ad)) ae))
    (ac (ak (i:=6) scRunRead.nd rfl (Or.inl rfl) (aI (pv 1) TR.cl Tk.m GT hr3 Tk.b .nil ao (aa ae ad)))
    (ac (aA (am GM hr1 (by rfl) Nm.m Nm.F.kp Nm.b .nil ao (aa (pv 4) (aa (pv 5) (aa (pv 2) ad)))))
    (af (aA (cH Af Dm PySem.F.type_list_extend jc (pv 4) (aa (aj gM (aW (aa (pv 6) ad)) (pv 5)) ad))))))))
   (af (az (pv 4)))),?_⟩
  obtain⟨⟨dx0,hr0⟩,hd0,_,_⟩:=id hR;have hpos:∀q∈rl T,1≤q.2:=λ q hq=>(jZ hq).1
  have hok:=qS h64 hTb;have hex:=mH T;have hspl:∀i,i≤(rl T).length->(exp ((rl T).take i)).length+((rl T).length-i)≤T.length/\(i=(rl T).length->exp ((rl T).take i)=T):=λ i hi=>by
   have e:=Bk List.length hex;rw [<-zM i (rl T),ee,zv] at e;have:=dj (rs:=(rl T).drop i) λ q hq=>hpos q (A1 hq)
   rw [zR] at this;refine⟨by lia,λ z=>by rw [z,An,hex]⟩
  refine seq_g λ R1 g1=>?_
  refine⟨by decide,λ l nl=>g1 _ _ ?_⟩;clear g1;have nlr:l≠r:=(ag hr0 nl).symm;have nld:l≠d:=(ag hd0 nl).symm;refine seq_g λ R1 g1=>?_
  refine⟨λ n σ H2=>∃(i:Nat) (v5 v6:Option V),n=(rl T).length-i/\i≤(rl T).length/\σ=[some (.ref o),some (.ref r),some (vN T.length),some x,some (.ref l),v5,v6]/\H2 l=some (.lst ((exp ((rl T).take i)).map vN))/\ReadAt D H2 r d R (tots (pre++pR ((rl T).take i)))/\∀c o,H c=some o->c≠r->H2 c=some o,
   ⟨(rl T).length,0,none,none,rfl,Ap _,rfl,upd_same,?_,λ c o e _=>ai nl _ _ e⟩,?_⟩
  ·show ReadAt D _ r d R (tots (pre++[]));rw [Ax];exact hR.keep λ c o e _=>ai nl _ _ e
  rintro n σ H2 ⟨i,v5,v6,rfl,hi,rfl,h2l,hR2,kp⟩;obtain⟨hsl,hfull⟩:=hspl i hi;refine⟨_,rfl,l,_,rfl,.inl (SqL.of h2l),_,rfl,_,_,rfl,rfl,_,rfl,aL (λ h=>?_) (λ h=>?_)⟩
  ·clear g1;have hlt:i<(rl T).length:=by
    have h':=zA h;rw [zr] at h';rcases AB i (rl T).length with q|q
    ·exact q
    ·rw [hfull (by lia)] at h';lia
   have hqi:(rl T)[i]?=some (rl T)[i]:=zu hlt;obtain⟨q1,q2,q3⟩:=hok _ (Ay hlt);have hsl2:=(hspl (i+1) (by lia)).1;rw [cG hqi,ee,zv,gR,zv,AR] at hsl2;have hto:=dg ((rl T).take i);have ep:pre++pf true T++post=(pre++pR ((rl T).take i))++((rl T)[i].2-1,6)::((rl T)[i].1,8)::(pR ((rl T).drop (i+1))++post):=by
    have:pf true T=pR ((rl T).take i)++((rl T)[i].2-1,6)::((rl T)[i].1,8)::pR ((rl T).drop (i+1)):=by
     show pR (rl T)=_;rw [<-nM,<-fQ,<-AH hlt,zM]
    rw [this];simp [zt]
   have ep2:pre++pf true T++post=(pre++pR ((rl T).take i)++[((rl T)[i].2-1,6)])++((rl T)[i].1,8)::(pR ((rl T).drop (i+1))++post):=by rw [ep];simp [zt]
   obtain⟨a1,a2⟩:=hrd.at ep;obtain⟨b1,b2⟩:=hrd.at ep2;have et6:tots (pre++pR ((rl T).take i)++[((rl T)[i].2-1,6)])=tots (pre++pR ((rl T).take i))+6:=by rw [aw];rfl
   rw [et6] at b1 b2;have et14:tots (pre++pR ((rl T).take (i+1)))=tots (pre++pR ((rl T).take i))+6+8:=by
    rw [cG hqi,fQ,<-zt,aw];have:tots (pR [(rl T)[i]])=14:=by rw [dg];rfl
    lia
   have eex:exp ((rl T).take (i+1))=exp ((rl T).take i)++List.replicate (rl T)[i].2 (rl T)[i].1:=by
    rw [cG hqi,ee,gR];show _++(_++[])=_;rw [Ax]
   generalize (rl T)[i]=qq at*;refine⟨λ σ' H'=>∃(v5 v6:Option V),σ'=[some (.ref o),some (.ref r),some (vN T.length),some x,some (.ref l),v5,v6]/\H' l=some (.lst ((exp ((rl T).take (i+1))).map vN))/\ReadAt D H' r d R (tots (pre++pR ((rl T).take (i+1))))/\∀c o,H c=some o->c≠r->H' c=some o,
    λ σ' H' ⟨v5,v6,z⟩=>⟨(rl T).length-(i+1),by lia,i+1,v5,v6,rfl,by lia,z⟩,?_⟩
   obtain⟨⟨dx,hr2⟩,_,_,_⟩:=id hR2;refine seq_g λ R2 g2=>?_
   refine⟨_,rfl,r,dx,_,rfl,hr2,cJ _ _ (by decide+kernel) (by decide+kernel),r,d,R,_,6,rfl,hR2,by decide,a1,λ H3 hR3 kp3=>?_⟩;rw [a2];have e1:((qq.2-1:Nat):Int)+1=((qq.2:Nat):Int):=by lia
   refine⟨_,_,rfl,rfl,g2 _ _ ?_⟩;clear g2
   try dsimp only
   rw [e1];obtain⟨⟨dx3,hr3'⟩,_,_,_⟩:=id hR3;refine seq_g λ R2 g2=>?_
   refine⟨_,rfl,r,dx3,_,rfl,hr3',cJ _ _ (by decide+kernel) (by decide+kernel),r,d,R,_,8,rfl,hR3,by decide,b1,λ H4 hR4 kp4=>g2 _ _ ?_⟩;clear g2;rw [b2];have h4l:=kp4 _ _ (kp3 _ _ h2l nlr) nlr;refine seq_g λ R2 g2=>?_
   refine⟨_,rfl,_,rfl,_,rfl,l,_,qq.2,T.length,rfl,h4l,by rw [zr];lia,g2 _ _ ?_⟩;clear g2;refine⟨_,rfl,.inl ⟨rfl,_,SqL.of h4l⟩,_,rfl,(by show 1≤sizeLine;decide),λ q nq=>?_⟩;have sq:=ai (o:=.lst [vN qq.1]) nq;have hqq:(upd H4 q (.lst [vN qq.1])) q=some (.lst [vN qq.1]):=upd_same;have hR5:=hR4.keep λ c o e _=>sq _ _ e
   have h5l:=sq _ _ h4l;generalize upd H4 q (.lst [vN qq.1])=H5 at*;refine⟨_,rfl,q,_,_,rfl,rfl,hqq,by lia,by lia,(by rw [zV];exact eB (by show 1*qq.2≤2000;lia)),λ z nz=>?_⟩
   try dsimp only
   rw [zV,ii];have sz:=ai (o:=.lst ((List.replicate qq.2 qq.1).map vN)) nz;have hzz:(upd H5 z (.lst ((List.replicate qq.2 qq.1).map vN))) z=some (.lst ((List.replicate qq.2 qq.1).map vN)):=upd_same;have hR6:=hR5.keep λ c o e _=>sz _ _ e
   have h6l:=sz _ _ h5l;have s46:=sq.trans sz;generalize upd H5 z (.lst ((List.replicate qq.2 qq.1).map vN))=H6 at*;refine⟨l,z,_,_,rfl,rfl,h6l,hzz,eB (by rw [zr,zr,AR];lia),_,_,rfl,by rw [upd_same,eex,zG],?_,λ c o' e n=>?_⟩
   ·rw [et14];refine hR6.keep λ c o e hc=>?_
    rw [upd_ne (by rcases hc with rfl|rfl;exact nlr.symm;exact nld.symm)];exact e
   ·rw [upd_ne (ag e nl)];exact s46 _ _ (kp4 _ _ (kp3 _ _ (kp _ _ e n) n) n)
  ·have hlt:i=(rl T).length:=by
    rcases AB i (rl T).length with q|q
    ·exact absurd (zw (by rw [zr];lia)) h
    ·lia
   rw [hfull hlt] at h2l;rw [hlt,An] at hR2;exact g1 _ _ ⟨_,rfl,k l H2 nl h2l hR2 kp⟩
def vL:Sp:=λ vs H Q _=>∃o:Addr,vs=[.ref o]/\Q (.int 2) H
theorem uy:FnScope ["self"] ["self"] (defScope cI):=scK (by decide+kernel)
theorem sA (F:Fun K "number" "CopyWay.number" cI f fd):FnOk P w K mg base CX0 1 f fd ["self"] vL:=by
 refine F.ok uy (λ vs H Q E h=>?_) (λ cdv A outer st H vs Q E hr h=>?_)
 ·obtain⟨o,rfl,_⟩:=h;rfl
 ·obtain⟨o,rfl,k⟩:=h;exact⟨_,af (az ae),k⟩
def qF (B:Addr):Sp:=λ vs H Q _=>∃(o p d a:Addr) (x:V) (T W:List Nat) (Pp:List Pc) (N T0:Nat),vs=[.ref o,.ref p,.ref a,x]/\BitsAt B H p d N T0/\T0≤1000/\H a=some (.lst (T.map vN))/\(∀b∈T,b<256)/\1≤T.length/\T.length≤64/\WinV H x W/\(∀b∈W,b<256)/\W.length≤192/\Walk (W++T) W.length Pp (W++T).length/\
 ∀H',BitsAt B H' p d (nums (pP Pp) N) (T0+tots (pP Pp))->(∀c o,H c=some o->c≠p->c≠d->H' c=some o)->Q .non H'
theorem scCpTell:FnScope ["self","bits","text","before","piece"] ["self","bits","text","before"] (defScope dG):=scK (by decide+kernel)
theorem qh (F:Fun K "tell" "CopyWay.tell" dG f fd)(Y:Wys K mg)(Z:Bts K mg B):FnOk P w K mg base CX0 33 f fd ["self","bits","text","before"] (qF B):=by
 obtain⟨Vi,⟨_,_,Po⟩,⟨_,_,Ac⟩,⟨_,_,Na⟩,⟨_,_,Ns⟩,⟨_,_,Ao⟩,⟨_,_,Nm⟩,⟨_,_,La⟩⟩:=Y;obtain⟨_,_,Nr⟩:=Vi.needrow;obtain⟨_,_,Nw⟩:=Vi.needwin;have X:=Vi.R.X;have GN:=cj (P:=P) (w:=w) (base:=base) Ns Na Nw Nr Vi.R;have GO:=gh (P:=P) (w:=w) (base:=base) Po Vi;obtain⟨_,_,W⟩:=Z.R.whole;obtain⟨_,_,S⟩:=Z.needsize;obtain⟨_,_,O⟩:=Z.ones;obtain⟨_,_,Pu⟩:=Z.put;obtain⟨_,_,M⟩:=Z.move;have TB:=Z.T;have GP:=iB (P:=P) (w:=w) (base:=base) Pu.F S W O M TB X;obtain⟨tl,hle⟩:=X.least;refine F.ok scCpTell (λ vs H Q E h=>?_) (λ cdv A outer st H vs Q E hr h=>?_)
 ·obtain⟨o,p,d,a,x,T,W,Pp,N,T0,rfl,_⟩:=h;rfl
 ·obtain⟨o,p,d,a,x,T,W,Pp,N,T0,rfl,hB,hT0,ha,hTb,h1,h64,hx,hWb,hWl,hwk,k⟩:=h;have hr3:Room 3 _:=hr.mono (by decide);have hr7:Room 7 _:=hr.mono (by decide);refine⟨_,ac (aA (am GN hr7 (by rfl) Ns.m Ns.F.kp Ns.b .nil ao (aa (pv 2) (aa (pv 3) ad))))
   (af (bd Aa rfl (bu (am GO hr (by rfl) Po.m Po.kp Po.b .nil ao (aa (pv 2) (aa (pv 3) ad)))) (aH (i:=4) scCpTell.nd rfl (Or.inl rfl))
    (af (aK (ar bj (aM a7 (pv 4) ae (λ _ _=>rfl)) io (ax _))
     (ac (aA (aI (pv 1) TB.cl Pu.m GP hr3 Pu.b .nil ao (aa ae (aa ae ad))))
     (af (aA (aI (pv 1) TB.cl Pu.m GP hr3 Pu.b .nil ao (aa (aM a7 (pv 4) ae (λ _ _=>rfl)) (aa ae ad))))))
     (ac (aA (aI (pv 1) TB.cl Pu.m GP hr3 Pu.b .nil ao (aa ae (aa ae ad))))
     (ac (aA (aI (pv 1) TB.cl Pu.m GP hr3 Pu.b .nil ao (aa (aM a7 (pv 4) ae (λ _ _=>rfl)) (aa ae ad))))
     (af (aA (aI (pv 1) TB.cl Pu.m GP hr3 Pu.b .nil ao (aa (aj aY (aM a7 (pv 4) ae (λ _ _=>rfl)) (aG (v:=.int 3) (by rfl) hle ⟨tl,rfl⟩)) (aa ae ad)))))))))))
   ,?_⟩
  refine seq_g λ R1 g1=>?_
  refine⟨_,rfl,_,rfl,a,x,T,W,rfl,ha,hTb,h1,h64,hx,hWb,hWl,λ l0 H0 s0 n0 h00=>g1 _ _ ?_⟩;clear g1;refine⟨_,rfl,_,rfl,a,x,W,T,rfl,s0 _ _ ha,hx.same s0,hWb,hTb,by lia,by lia,λ l P' H1 s01 nl0 z9 hwk'=>?_⟩;obtain⟨ts,hl,hts⟩:=z9;have eP:P'=Pp:=cW hwk' hwk;subst eP;have s1:=s0.trans s01;have nl:H l=none:=none_of s0 nl0;have hB1:=hB.keep λ c o e _=>s1 _ _ e
  have nlp:l≠p:=(bY hB.sm.1 nl).symm;have nld:l≠d:=(bY hB.sm.2 nl).symm;obtain⟨gr,hrun,hPl⟩:=cR hWb hTb hwk;obtain⟨dxp,rp,kp',hpp⟩:=hB1.ob;obtain⟨dxd,Bd,rd,kd,_,hdd,_⟩:=id hB1;refine⟨l,rfl,⟨_,SqL.of hl⟩,bP (D:=⟨_,_,λ _ _=>False,λ _ _=>False⟩) (K:=K) (a:=l) (xs:=ts.map V.ref) (λ i σ H2=>∃v4:Option V,σ=[some (.ref o),some (.ref p),some (.ref a),some x,v4]/\BitsAt B H2 p d (nums (pP (P'.take i)) N) (T0+tots (pP (P'.take i)))/\∀c o,H1 c=some o->c≠p->c≠d->H2 c=some o)
   ⟨none,rfl,hB1,λ c o e _ _=>e⟩ (λ i σ H2 _ ⟨_,_,_,kp⟩=>SqL.of (kp _ _ hl nlp nld)) ?_ ?_⟩
  ·rintro i y σ H2 hi ⟨v4,rfl,hB2,kp⟩;obtain⟨t,ht,rfl⟩:=gA hi;have hil:i<P'.length:=by rw [<-hts.1];exact(zz.mp ht).1
   have hPi:P'[i]?=some P'[i]:=zu hil;have htt:=hts.2 i t _ ht hPi;have hga:=gr.at hPi;have ntp:t≠p:=ne_of htt hpp (by intro z;cases z);have ntd:t≠d:=ne_of htt hdd (by intro z;cases z);have htt2:=kp _ _ htt ntp ntd;obtain⟨dx,r,kk,hp2⟩:=hB2.ob;have hto:=jQ (P'.take i);rw [zW] at hto;rw [cG hPi,dI,aT,aw,mi];generalize P'[i]=xx at*;cases xx with
   |sg s=>
    have hs:s<256:=hga;refine⟨_,rfl,t,_,_,_,rfl,rfl,SqT.of htt2,ay (j:=0) rfl,rfl,_,rfl,aL (λ _=>?_) (λ h=>absurd (zw rfl) h)⟩;refine seq_g λ R2 g2=>?_
    refine⟨_,rfl,p,dx,_,rfl,hp2,cA _ _ _ (by decide+kernel) (by decide+kernel) (by decide+kernel),p,d,_,_,0,1,rfl,hB2,by lia,by decide,by decide,λ H3 hB3 kp3=>g2 _ _ ?_⟩;clear g2;have htt3:=kp3 _ _ htt2 ntp ntd;obtain⟨dx3,r3,kk3,hp3⟩:=hB3.ob;refine⟨_,rfl,p,dx3,_,rfl,hp3,cA _ _ _ (by decide+kernel) (by decide+kernel) (by decide+kernel),_,rfl,t,_,_,_,rfl,rfl,SqT.of htt3,ay (j:=1) rfl,p,d,_,_,s,8,rfl,hB3,by lia,by decide,hs,λ H4 hB4 kp4=>?_⟩;refine⟨_,rfl,?_,λ c o e n1 n2=>kp4 _ _ (kp3 _ _ (kp _ _ e n1 n2) n1 n2) n1 n2⟩;have e5:T0+(tots (pP (P'.take i))+tots (pcP (.sg s)))=T0+tots (pP (P'.take i))+1+8:=by
     have:tots (pcP (.sg s))=9:=rfl;lia
    rw [e5];exact hB4
   |cp b z=>
    obtain⟨g1,g2,g3,g4,g5⟩:1≤b/\b≤255/\b≤_/\3≤z/\z≤18:=hga;refine⟨_,rfl,t,_,_,_,rfl,rfl,SqT.of htt2,ay (j:=0) rfl,rfl,_,rfl,aL (λ h=>absurd (zA h) tW) (λ _=>?_)⟩;refine seq_g λ R2 q2=>?_
    refine⟨_,rfl,p,dx,_,rfl,hp2,cA _ _ _ (by decide+kernel) (by decide+kernel) (by decide+kernel),p,d,_,_,1,1,rfl,hB2,by lia,by decide,by decide,λ H3 hB3 kp3=>q2 _ _ ?_⟩;clear q2;have htt3:=kp3 _ _ htt2 ntp ntd;obtain⟨dx3,r3,kk3,hp3⟩:=hB3.ob;refine seq_g λ R2 q2=>?_
    refine⟨_,rfl,p,dx3,_,rfl,hp3,cA _ _ _ (by decide+kernel) (by decide+kernel) (by decide+kernel),_,rfl,t,_,_,_,rfl,rfl,SqT.of htt3,ay (j:=1) rfl,p,d,_,_,b,8,rfl,hB3,by lia,by decide,(by show b<2^8;lia),λ H4 hB4 kp4=>q2 _ _ ?_⟩;clear q2;have htt4:=kp4 _ _ htt3 ntp ntd;obtain⟨dx4,r4,kk4,hp4⟩:=hB4.ob;have e1:((z:Nat):Int)-3=((z-3:Nat):Int):=by lia
    refine⟨_,rfl,p,dx4,_,rfl,hp4,cA _ _ _ (by decide+kernel) (by decide+kernel) (by decide+kernel),_,rfl,t,_,_,_,rfl,rfl,SqT.of htt4,ay (j:=2) rfl,_,_,rfl,rfl,?_⟩
    try dsimp only
    rw [e1];refine⟨p,d,_,_,z-3,4,rfl,hB4,by lia,by decide,(by show z-3<2^4;lia),λ H5 hB5 kp5=>?_⟩;refine⟨_,rfl,?_,λ c o e n1 n2=>kp5 _ _ (kp4 _ _ (kp3 _ _ (kp _ _ e n1 n2) n1 n2) n1 n2) n1 n2⟩;have e5:T0+(tots (pP (P'.take i))+tots (pcP (.cp b z)))=T0+tots (pP (P'.take i))+1+8+4:=by
     have:tots (pcP (.cp b z))=13:=rfl;lia
    rw [e5];exact hB5
  ·rintro σ H2 ⟨v4,rfl,hB2,kp⟩;rw [zr,hts.1,An] at hB2;exact k H2 hB2 λ c o e n1 n2=>kp _ _ (s1 _ _ e) n1 n2
def vA (D:Addr):Sp:=λ vs H Q _=>∃(o r d:Addr) (x:V) (R:List Nat) (pre post:List (Nat×Nat)) (W T:List Nat) (Pp:List Pc),vs=[.ref o,.ref r,vN T.length,x]/\WinV H x W/\ReadAt D H r d R (tots pre)/\RdOf R (pre++pP Pp++post)/\GR W Pp/\runP W Pp=W++T/\T.length≤64/\W.length≤192/\
 ∀l H',H l=none->H' l=some (.lst (T.map vN))->ReadAt D H' r d R (tots (pre++pP Pp))->(∀c o,H c=some o->c≠r->H' c=some o)->Q (.ref l) H'
abbrev wx:List Str:=["self","reader","count","before","signs","begin","end","back","size"]
theorem scCRead:FnScope wx ["self","reader","count","before"] (defScope dF):=scK (by decide+kernel)
theorem qH (F:Fun K "read" "CopyWay.read" dF f fd)(Y:Wys K mg)(Z:Rdr K mg D):FnOk P w K mg base CX0 5 f fd ["self","reader","count","before"] (vA D):=by
 have X:=Z.R.X;obtain⟨_,_,Wh⟩:=Z.R.whole;obtain⟨_,_,S⟩:=Z.needsize;obtain⟨_,_,O⟩:=Z.ones;obtain⟨_,_,Ba⟩:=Z.bitsat;obtain⟨_,_,Tk⟩:=Z.take;obtain⟨_,_,L⟩:=Z.left;obtain⟨_,_,Ac⟩:=Y.addcopy;obtain⟨_,_,Ao⟩:=Y.aheadof;obtain⟨_,_,Nm⟩:=Y.needroom;obtain⟨_,_,La⟩:=Y.laycopy;have TR:=Z.T;have GT:=dO (P:=P) (w:=w) (base:=base) Tk.F S Wh Ba O L TR X;have GA:=hV (P:=P) (w:=w) (base:=base) Ao X;have GL:=rm (P:=P) (w:=w) (base:=base) La Nm Ac X;obtain⟨tl,hle⟩:=X.least;refine F.ok scCRead (λ vs H Q E h=>?_) (λ cdv A outer st H vs Q E hr h=>?_)
 ·obtain⟨o,r,d,x,R,pre,post,W,T,Pp,rfl,_⟩:=h;rfl
 ·obtain⟨o,r,d,x,R,pre,post,W,T,Pp,rfl,hx,hR,hrd,gr,hrun,h64,hWl,k⟩:=h;have hr3:Room 3 _:=hr.mono (by decide);have hr2:Room 2 _:=hr.mono (by decide);have hr1:Room 1 _:=hr.mono (by decide);refine⟨_,ac (ak (i:=4) scCRead.nd rfl (Or.inl rfl) (am GA hr1 (by rfl) Ao.m Ao.F.kp Ao.b .nil ao (aa (pv 3) ad)))
   (ac (ak (i:=5) scCRead.nd rfl (Or.inl rfl) (aq ap (by rfl) X.len zO (aa (pv 4) ad)))
   (ac (ak (i:=6) scCRead.nd rfl (Or.inl rfl) (aj aE (pv 5) (pv 2)))
   (ac (bE Aa (ar du (aq ap (by rfl) X.len zO (aa (pv 4) ad)) (pv 6) (ax _))
    (af (aK (ar bj (aI (pv 1) TR.cl Tk.m GT hr3 Tk.b .nil ao (aa ae ad)) ae (ax _))
     (af (aA (cH Af AG AL a6 (pv 4) (aa (aI (pv 1) TR.cl Tk.m GT hr3 Tk.b .nil ao (aa ae ad)) ad))))
     (ac (ak (i:=7) scCRead.nd rfl (Or.inl rfl) (aI (pv 1) TR.cl Tk.m GT hr3 Tk.b .nil ao (aa ae ad)))
     (ac (ak (i:=8) scCRead.nd rfl (Or.inl rfl) (aj aE (aI (pv 1) TR.cl Tk.m GT hr3 Tk.b .nil ao (aa ae ad)) (aG (v:=.int 3) (by rfl) hle ⟨tl,rfl⟩)))
     (af (aA (am GL hr2 (by rfl) La.m La.F.kp La.b .nil ao (aa (pv 4) (aa (pv 7) (aa (pv 8) (aa (pv 6) ad))))))))))))
   (af (az (cV dE (pv 4) (cL (pv 5)) gk)))))),?_⟩
  obtain⟨⟨dx0,hr0⟩,hd0,_,_⟩:=id hR;refine seq_g λ R1 g1=>?_
  refine⟨_,rfl,x,W,rfl,hx,λ l nl=>g1 _ _ ?_⟩;clear g1;have nlr:l≠r:=(ag hr0 nl).symm;have nld:l≠d:=(ag hd0 nl).symm;refine seq_g λ R1 g1=>?_
  refine⟨_,rfl,l,_,rfl,.inl (SqL.of upd_same),g1 _ _ ?_⟩;clear g1
  try dsimp only
  rw [zr];refine seq_g λ R1 g1=>?_
  have e0:((W.length:Nat):Int)+((T.length:Nat):Int)=((W.length+T.length:Nat):Int):=by lia
  refine⟨_,rfl,_,rfl,_,_,rfl,rfl,g1 _ _ ?_⟩;clear g1
  try dsimp only
  rw [e0];have hall:(runP W Pp).length=W.length+T.length:=by rw [hrun,zv]
  have hlt:∀i,i≤Pp.length->(runP W (Pp.take i)).length+(Pp.length-i)≤W.length+T.length:=λ i hi=>by
   have h1:=(gr.drop i).len;rw [<-iD,hall,zR] at h1;exact h1
  refine seq_g λ R1 g1=>?_
  refine⟨λ n σ H2=>∃(i:Nat) (v7 v8:Option V),n=Pp.length-i/\i≤Pp.length/\σ=[some (.ref o),some (.ref r),some (vN T.length),some x,some (.ref l),some (vN W.length),some (vN (W.length+T.length)),v7,v8]/\H2 l=some (.lst ((runP W (Pp.take i)).map vN))/\ReadAt D H2 r d R (tots (pre++pP (Pp.take i)))/\∀c o,H c=some o->c≠r->H2 c=some o,
   ⟨Pp.length,0,none,none,rfl,Ap _,rfl,upd_same,?_,λ c o e _=>ai nl _ _ e⟩,?_⟩
  ·show ReadAt D _ r d R (tots (pre++[]));rw [Ax];exact hR.keep λ c o e _=>ai nl _ _ e
  rintro n σ H2 ⟨i,v7,v8,rfl,hi,rfl,h2l,hR2,kp⟩;have hli:=hlt i hi;refine⟨_,rfl,l,_,rfl,.inl (SqL.of h2l),_,rfl,_,_,rfl,rfl,_,rfl,aL (λ h=>?_) (λ h=>?_)⟩
  ·clear g1;have hiP:i<Pp.length:=by
    have h':=zA h;rw [zr] at h';rcases AB i Pp.length with q|q
    ·exact q
    ·rw [Ad q,hall] at h';lia
   have hPi:Pp[i]?=some Pp[i]:=zu hiP;have hga:=gr.at hPi;have hl1:=hlt (i+1) (by lia);have ers:runP W (Pp.take (i+1))=app (runP W (Pp.take i)) Pp[i]:=by rw [cG hPi,jd]
   have eps:pP Pp=pP (Pp.take i)++pcP Pp[i]++pP (Pp.drop (i+1)):=by
    rw [<-mi,<-dI,<-dI,<-cG hPi,zM]
   have etk:pre++pP (Pp.take (i+1))=pre++pP (Pp.take i)++pcP Pp[i]:=by rw [cG hPi,dI,mi,zt]
   rw [ers] at hl1;rw [eu] at hl1;refine⟨λ σ' H'=>∃(v7 v8:Option V),σ'=[some (.ref o),some (.ref r),some (vN T.length),some x,some (.ref l),some (vN W.length),some (vN (W.length+T.length)),v7,v8]/\H' l=some (.lst ((runP W (Pp.take (i+1))).map vN))/\ReadAt D H' r d R (tots (pre++pP (Pp.take (i+1))))/\∀c o,H c=some o->c≠r->H' c=some o,
    λ σ' H' ⟨v7,v8,z⟩=>⟨Pp.length-(i+1),by lia,i+1,v7,v8,rfl,by lia,z⟩,?_⟩
   rw [ers,etk];generalize Pp[i]=xx at*;obtain⟨⟨dx,hr2'⟩,_,_,_⟩:=id hR2;have no:∀t,(fR d t).lookup ("take":Str)=none:=λ t=>cJ _ _ (by decide+kernel) (by decide+kernel)
   cases xx with
   |sg s=>
    have ea:pre++pP Pp++post=(pre++pP (Pp.take i))++(0,1)::((s,8)::pP (Pp.drop (i+1))++post):=by rw [eps];simp [pcP,zt]
    have eb:pre++pP Pp++post=(pre++pP (Pp.take i)++[(0,1)])++(s,8)::(pP (Pp.drop (i+1))++post):=by rw [eps];simp [pcP,zt]
    obtain⟨a1,a2⟩:=hrd.at ea;obtain⟨b1,b2⟩:=hrd.at eb;have et1:tots (pre++pP (Pp.take i)++[(0,1)])=tots (pre++pP (Pp.take i))+1:=by rw [aw];rfl
    rw [et1] at b1 b2;refine⟨_,rfl,r,dx,_,rfl,hr2',no _,r,d,R,_,1,rfl,hR2,by decide,a1,λ H3 hR3 kp3=>?_⟩;rw [a2];refine⟨rfl,_,rfl,aL (λ _=>?_) (λ h=>absurd (zw rfl) h)⟩;obtain⟨⟨dx3,hr3'⟩,_,_,_⟩:=id hR3;have h3l:=kp3 _ _ h2l nlr;refine⟨_,rfl,.inl ⟨rfl,_,SqL.of h3l⟩,_,rfl,r,dx3,_,rfl,hr3',no _,r,d,R,_,8,rfl,hR3,by decide,b1,λ H4 hR4 kp4=>?_⟩;rw [b2];have h4l:=kp4 _ _ h3l nlr;refine⟨l,_,_,rfl,rfl,h4l,aX (by rw [zr];lia),_,_,rfl,by rw [upd_same];show _=some (HO.lst ((runP W (Pp.take i)++[s]).map vN));rw [zG];rfl,?_,λ c o' e n=>?_⟩
    ·have et2:tots (pre++pP (Pp.take i)++pcP (.sg s))=tots (pre++pP (Pp.take i))+1+8:=by rw [aw];rfl
     rw [et2];refine hR4.keep λ c o e hc=>?_
     rw [upd_ne (by rcases hc with rfl|rfl;exact nlr.symm;exact nld.symm)];exact e
    ·rw [upd_ne (ag e nl)];exact kp4 _ _ (kp3 _ _ (kp _ _ e n) n) n
   |cp b z=>
    obtain⟨g1,g2,g3,g4,g5⟩:1≤b/\b≤255/\b≤(runP W (Pp.take i)).length/\3≤z/\z≤18:=hga;have hzs:(Pc.cp b z).size=z:=rfl;rw [hzs] at hl1;have ea:pre++pP Pp++post=(pre++pP (Pp.take i))++(1,1)::((b,8)::(z-3,4)::pP (Pp.drop (i+1))++post):=by rw [eps];simp [pcP,zt]
    have eb:pre++pP Pp++post=(pre++pP (Pp.take i)++[(1,1)])++(b,8)::((z-3,4)::pP (Pp.drop (i+1))++post):=by rw [eps];simp [pcP,zt]
    have ec:pre++pP Pp++post=(pre++pP (Pp.take i)++[(1,1),(b,8)])++(z-3,4)::(pP (Pp.drop (i+1))++post):=by rw [eps];simp [pcP,zt]
    obtain⟨a1,a2⟩:=hrd.at ea;obtain⟨b1,b2⟩:=hrd.at eb;obtain⟨c1,c2⟩:=hrd.at ec;have et1:tots (pre++pP (Pp.take i)++[(1,1)])=tots (pre++pP (Pp.take i))+1:=by rw [aw];rfl
    have et2:tots (pre++pP (Pp.take i)++[(1,1),(b,8)])=tots (pre++pP (Pp.take i))+1+8:=by rw [aw];rfl
    rw [et1] at b1 b2;rw [et2] at c1 c2;refine⟨_,rfl,r,dx,_,rfl,hr2',no _,r,d,R,_,1,rfl,hR2,by decide,a1,λ H3 hR3 kp3=>?_⟩;rw [a2];refine⟨rfl,_,rfl,aL (λ h=>absurd (zA h) (by intro z;cases z)) (λ _=>?_)⟩;obtain⟨⟨dx3,hr3'⟩,_,_,_⟩:=id hR3;refine seq_g λ R2 q2=>?_
    refine⟨_,rfl,r,dx3,_,rfl,hr3',no _,r,d,R,_,8,rfl,hR3,by decide,b1,λ H4 hR4 kp4=>q2 _ _ ?_⟩;clear q2;rw [b2];obtain⟨⟨dx4,hr4'⟩,_,_,_⟩:=id hR4;refine seq_g λ R2 q2=>?_
    refine⟨_,rfl,r,dx4,_,rfl,hr4',no _,r,d,R,_,4,rfl,hR4,by decide,c1,λ H5 hR5 kp5=>?_⟩;rw [c2];have ez:((z-3:Nat):Int)+3=((z:Nat):Int):=by lia
    refine⟨_,_,rfl,rfl,q2 _ _ ?_⟩;clear q2
    try dsimp only
    rw [ez];have h5l:=kp5 _ _ (kp4 _ _ (kp3 _ _ h2l nlr) nlr) nlr;refine⟨_,rfl,_,rfl,_,rfl,_,rfl,l,runP W (Pp.take i),b,z,W.length+T.length,rfl,h5l,g1,g3,by lia,by lia,_,_,rfl,upd_same,?_,λ c o' e n=>?_⟩
    ·have et3:tots (pre++pP (Pp.take i)++pcP (.cp b z))=tots (pre++pP (Pp.take i))+1+8+4:=by rw [aw];rfl
     rw [et3];refine hR5.keep λ c o e hc=>?_
     rw [upd_ne (by rcases hc with rfl|rfl;exact nlr.symm;exact nld.symm)];exact e
    ·rw [upd_ne (ag e nl)];exact kp5 _ _ (kp4 _ _ (kp3 _ _ (kp _ _ e n) n) n) n
  ·have hiP:i=Pp.length:=by
    rcases AB i Pp.length with q|q
    ·exact absurd (zw (by rw [zr];lia)) h
    ·lia
   rw [hiP,An] at h2l hR2;rw [hrun] at h2l;refine g1 _ _ ?_;clear g1;have ec:cutV ((W++T).map vN) (some ((W.length:Nat):Int)) none=T.map vN:=by rw [iz,<-DF,CH]
   refine⟨_,rfl,_,rfl,_,rfl,l,_,rfl,SqL.of h2l,λ l9 n9=>?_⟩
   try dsimp only
   rw [ec];have s9:=ai (o:=.lst (T.map vN)) n9;refine k l9 _ ?_ upd_same (hR2.keep λ c o e _=>s9 _ _ e) λ c o e n=>s9 _ _ (kp _ _ e n)
   cases e:H l9 with
   |none=>rfl
   |some o'=>
    by_cases z:l9=r
    ·subst z;obtain⟨⟨dx9,hr9⟩,_⟩:=hR2;rw [hr9] at n9;cases n9
    ·rw [kp _ _ e z] at n9;cases n9
end
end K20
set_option maxHeartbeats 2000000
namespace L2
open PySem PySem.Spec PySem.Calls PyProof.Rows QQ PySem.W
variable {P Tb c c' f l : Addr} {qual x y : Str} {v : V} {mg : Str->Option Value} {Q : VK} {base h' : Heap} {js : List Nat} {t' : Nat} {K : PySem.W.Frag} {u : Value} {xs : List V} {body : Expr} {fd : FuncData} {E : Value->Shared->Prop} {H' : Hp} {cl : List (Str×Addr)} {scope : Scope} {sp : Sp} {Nc : List Str} {w : World}
section
variable {X : Cx} {pins : List (Addr × Obj)} {σ : St} {H : Hp} {s : Shared}
theorem Inv.grown {ps more:Array Value}{oc:Obj}(I:Inv X pins σ H s)(hP:H P=some (.tbl ps))(k:Heap.ExtBut P s.heap h')(hc:s.heap.objs.size≤c')
  (hoc:h'.get? c'=some oc) (hP':h'.get? P=some (tabObj (ps++more))):Inv X pins σ (upd (upd H P (.tbl (ps++more))) c' (.frz oc (.own c'))) {s with heap:=h',toks:=t'}:=by
 have hn:H c'=none:=I.hok.fresh hc;have nPc:P≠c':=ag hP hn;have at_:∀{b:Addr} {u:HO},H b=some u->b≠P->(upd (upd H P (.tbl (ps++more))) c' (.frz oc (.own c'))) b=some u:=λ {b u} e n=>by
  rw [upd_ne (ag e hn),upd_ne n];exact e
 refine I.step (g':=s.gens) (d':=s.drawn) (ch:=[]) (λ _ z=>nomatch z) (λ b o _ _ _ e n=>k b o (ag hP n).symm e) (λ b o _ _ _ e n=>⟨o.slots,k b o (ag hP n).symm e⟩) (λ b o _ e n=>?_)
  (λ b o _ e=>?_) (λ b xs e=>at_ e (ne_of e hP (by intro z;cases z))) (λ b o u e=>at_ e (ne_of e hP (by intro z;cases z))) (λ b qs e=>?_) (λ m hm=>?_) (λ b u e=>?_) I.bare
 ·rw [upd_ne (AE (Am (zZ e) hc)),upd_ne (ag hP n).symm];exact n
 ·by_cases z:b=P
  ·subst z;exact⟨_,hP'⟩
  ·exact⟨o,k b o z e⟩
 ·by_cases z:b=P
  ·subst z;rw [hP] at e;cases e;exact⟨more,by rw [upd_ne nPc,upd_same]⟩
  ·exact⟨#[],by rw [at_ e z];simp⟩
 ·obtain⟨o,es,ep,ho,r⟩:=hm;exact⟨o,es,ep,k _ o (ag hP I.free).symm ho,r⟩
 ·by_cases z:b=c'
  ·subst z;rw [upd_same] at e;cases e;exact⟨hoc,oc,hoc⟩
  ·rw [upd_ne z] at e;by_cases y:b=P
   ·subst y;rw [upd_same] at e;cases e;exact hP'
   ·rw [upd_ne y] at e;refine(I.hok b u e).stay (λ c v hcb q=>k c v ?_ q) (λ c q=>at_ q (ne_of q hP (by intro z;cases z))) λ c xs q=>at_ q (ne_of q hP (by intro z;cases z))
    rcases hcb with hcb|hcb
    ·rw [hcb];exact y
    ·exact ne_of hcb hP (by intro z;cases z)
def SameT (P:Addr)(H H':Hp):Prop:=∀c o,c≠P->H c=some o->H' c=some o
def TbOk (P:Addr)(pos:Pos)(qual:Str)(H:Hp):Prop:=∃ps:Array Value,H P=some (.tbl ps)/\(ps=#[]\/∃(c':Addr) (oc:Obj) (vs:Array Value) (t:Tok),ps=#[rawInt pos.line,rawInt pos.col,.ref c']/\H c'=some (.frz oc (.own c'))/\oc.data=.fields vs/\vs[1]?=some (.str qual t))
theorem TbOk.same {pos:Pos}(h:TbOk P pos qual H)(s:Same H H'):TbOk P pos qual H':=by
 obtain⟨ps,e,h⟩:=h;refine⟨ps,s _ _ e,?_⟩;rcases h with h|⟨c',oc,vs,t,a,b,r⟩
 ·exact .inl h
 ·exact .inr ⟨c',oc,vs,t,a,s _ _ b,r⟩
theorem iK (pos:Pos)(v:Value):codeAmong pos [rawInt pos.line,rawInt pos.col,v]=some v:=by
 have:=codeAmong_snoc (c:=v) (pos:=pos) [] trivial rfl;simpa using this
theorem sZ {params:Arguments}{pos:Pos}{clos:List (Str×Addr)}{Q:Value->Shared->Prop}(I:Inv X pins σ H s)(T:TbOk P pos (X.env.qual++"<lambda>") H)
  (hcode:X.env.code=.ref c) (C:CodeHd X.base c P) (hbm:∃bm o,X.mg "__builtins__"=some (.ref bm)/\bm≠builtinsNs/\bm≠mainGlobals/\X.base.get? bm=some o/\o.cls=.type "module"/\o.dict=some builtinsNs/\o.data=.plain)
  (hdef:defaultsOf params X.env=([],[])) (hcl:closureFor scope X.env=pure clos)
  (h:∀(f c':Addr) (pm ctv:Value) (H':Hp) (s':Shared),Inv X pins σ H' s'->FpOk X pins H' f->s'.heap.get? f=some (kla_obj "<lambda>" (X.env.qual++"<lambda>") params body scope clos pm c' ctv)->s'.heap.CodeRec (.ref c') (X.env.qual++"<lambda>")->
   (∃oc vs t,H' c'=some (.frz oc (.own c'))/\oc.data=.fields vs/\vs[1]?=some (.str (X.env.qual++"<lambda>") t))->TbOk P pos (X.env.qual++"<lambda>") H'->SameT P H H'->Q (.ref f) s'):
  wpAny (model X.prog X.w) X.A (eval (.Lambda params body scope pos) X.env) Q E s:=by
 refine kla_eval hdef ?_;obtain⟨ps,hP,T⟩:=T;have hPo:s.heap.get? P=some (tabObj ps):=I.hok P _ hP;have M:=I.ok.mod;have hg:s.heap.Ns mainGlobals X.mg:=M.glob.keeps I.bk;have hgP:mainGlobals≠P:=λ z=>by
  obtain⟨o,es,ep,e,hd,_⟩:=hg;rw [z,hPo] at e;cases e;cases hd
 have hb:s.heap.BuiltinsAt X.mg P:=by
  obtain⟨bm,o,b1,b2,b3,b4,b5,b6,b7⟩:=hbm;refine⟨bm,o,b1,b2,b3,λ z=>?_,I.bk _ _ b4,b5,b6,b7⟩;have:=I.bk _ _ b4;rw [z,hPo] at this;cases this;cases b5
 rcases T with rfl|⟨c',oc,vs,t,rfl,hc',d1,d2⟩
 ·refine kla_makeFunction (mg:=X.mg) hcl I.ok.glob hg hcode (C.keeps I.bk) hPo trivial rfl hgP hb λ c' ctv h' tk hx hge hlt hrec htb=>?_
  obtain⟨c2,oc,vs,t,e2,hoc,d1,d2⟩:=hrec;cases e2;have I1:=I.grown (t':=tk) hP hx hge hoc htb;have hn:H c'=none:=I.hok.fresh hge;have nPc:P≠c':=ag hP hn;have I2:=I1.kept (t':=tk) (h':=h'.push (kla_obj "<lambda>" (X.env.qual++"<lambda>") params body scope clos ((X.mg "__name__").getD .none) c' ctv)) λ b u e=>zB _ e
  have hoc2:(h'.push (kla_obj "<lambda>" (X.env.qual++"<lambda>") params body scope clos ((X.mg "__name__").getD .none) c' ctv)).get? c'=some oc:=zB _ hoc;refine h h'.objs.size c' _ ctv _ _ I2 (I1.fpOk (zy _) (I1.hok.fresh (zy _))) (Ak _ rfl) ⟨c',oc,vs,t,rfl,hoc2,d1,d2⟩ ⟨oc,vs,t,upd_same,d1,d2⟩
   ⟨_,by rw [upd_ne nPc,upd_same],.inr ⟨c',oc,vs,t,by simp,upd_same,d1,d2⟩⟩ λ b o n e=>?_
  rw [upd_ne (ag e hn),upd_ne n];exact e
 ·have hoc:s.heap.get? c'=some oc:=(I.hok _ _ hc').1;refine kla_makeFunctionHit (cv:=.ref c') (mg:=X.mg) hcl I.ok.glob hg hcode (C.keeps I.bk) hPo (by simp [TriplesOk,rawInt]) (iK pos _) hb λ ctv h' tk hk hsz=>?_
  have I2:=I.kept (t':=tk) (h':=h'.push {cls:=.type "function",data:=.func (kla_fn "<lambda>" (X.env.qual++"<lambda>") params body scope clos ((X.mg "__name__").getD .none) (.ref c') ctv)}) λ b u e=>zB _ (hk b u e)
  refine h h'.objs.size c' _ ctv _ _ I2 (I.fpOk hsz (I.hok.fresh hsz)) (Ak _ rfl) ⟨c',oc,vs,t,rfl,zB _ (hk _ _ hoc),d1,d2⟩ ⟨oc,vs,t,hc',d1,d2⟩
   ⟨_,hP,.inr ⟨c',oc,vs,t,rfl,hc',d1,d2⟩⟩ λ b o n e=>e
end
def ll (X:Cx)(N:List Str)(qual:Str)(scope:Scope)(cl:List (Str×Addr))(f:Addr)(cd:Value)(A:Around)(s:Shared)(H:Hp):Cx where
 prog:=X.prog
 w:=X.w
 K:=X.K
 mg:=X.mg
 base:=X.base
 A:=A.deeper (envX qual scope s.heap.objs.size f cd cl)
 N:=N
 s₀:=s
 H₀:=H
 env:=envX qual scope s.heap.objs.size f cd cl
 outer:=X.stack
 stack:=envX qual scope s.heap.objs.size f cd cl::X.stack
 ex:=[]
 calm:=true
 fn:=λ _=>false
 pn:=[]
 xe:=λ _ _=>False
structure LCaps (X:Cx)(y:Str)(Nc:List Str)(scope:Scope)(cl:List (Str×Addr))(js:List Nat):Prop where
 kind:scope.kind=.function
 co:scope.isCoroutine=false
 gen:scope.isGenerator=false
 nocell:∀x∈scope.names,x.2≠ .cell
 par:scope.names.lookup y=some .local
 clos:closureFor scope X.env=pure cl
 sub:∀x c,cl.lookup x=some c->X.env.cells.lookup x=some c
 has:∀x,(scope.names.lookup x=some .cell\/scope.names.lookup x=some .free)->∃c,cl.lookup x=some c
 len:js.length=Nc.length
 slot:∀(i:Nat) (x:Str) (j:Nat),Nc[i]?=some x->js[i]?=some j->X.N[j]?=some x/\X.env.scope.names.lookup x=some .cell/\scope.names.lookup x=some .free/\∀c,X.env.cells.lookup x=some c->cl.lookup x=some c
def uL (js:List Nat)(σ:St)(v:V):St:=some v::js.map λ j=>(σ[j]?).getD none
section
variable {X : Cx} {pins : List (Addr × Obj)} {σ : St} {H : Hp} {s : Shared}
theorem vd {cd:Value}(I:Inv X pins σ H s)(C:LCaps X y Nc scope cl js)(r:RelV v u)
  (hn:h'.Ns s.heap.objs.size (λ z=>([(y,u)]:List (Str×Value)).reverse.lookup z)) (hk:∀b o,s.heap.get? b=some o->h'.get? b=some o):
  Inv (ll X (y::Nc) qual scope cl f cd X.A.in1 s H) [] (uL js σ v) H {s with heap:=h',toks:=t'}:=by
 have e0:=I.env0.in1;have noA:∀b:Addr,b∉(ll X (y::Nc) qual scope cl f cd X.A.in1 s H).ex:=λ b z=>absurd (show b∈([]:List Addr) from z) (by simp)
 have sub:∀{x:Str} {c:Addr},(ll X (y::Nc) qual scope cl f cd X.A.in1 s H).env.cells.lookup x=some c->X.env.cells.lookup x=some c:=λ {x c} e=>C.sub x c e
 refine⟨⟨I.ok.mod,C.kind,rfl,rfl,zy _,λ x z c e1 e2=>I.ok.inj x z c (sub e1) (sub e2),λ x hx=>C.has x hx,λ x c e _=>(by cases e),e0.qt,Around.frames_deeper e0.frames,.inr ⟨rfl,rfl⟩,
  λ b z=>absurd z (noA b),I.bs,e0.bsz,λ b _ _=>noA b,λ b z=>absurd z (noA b),e0.funs,e0.frf⟩,
  rfl,I.bare,Un.kept hk,⟨_,hn,λ i x v' h1 h2 h3=>?_⟩,λ x c e=>?_,I.hok.fresh (zy _),λ x c e=>I.freeC x c (sub e),λ p hp=>absurd (show p∈([]:List (Addr×Obj)) from hp) (by simp),I.hok.kept hk,?_⟩
 ·cases i with
  |zero=>
   have h1':some y=some x:=h1;cases h1';have h2':some (some v)=some (some v'):=h2;cases h2';refine⟨u,r,.inl ⟨C.par,?_⟩⟩;show([(y,u)]:List (Str×Value)).reverse.lookup y=some u;simp [List.lookup]
  |succ i=>
   have h1':Nc[i]?=some x:=h1;have h2':(js.map λ j=>(σ[j]?).getD none)[i]?=some (some v'):=h2;rw [AA] at h2';cases ej:js[i]? with
   |none=>rw [ej] at h2';cases h2'
   |some j=>
    rw [ej] at h2';have h3':(σ[j]?).getD none=some v':=zS h2';obtain⟨hj1,hk1,hk2,hc⟩:=C.slot i x j h1' ej;have hj2:σ[j]?=some (some v'):=by
     cases e:σ[j]? with
     |none=>rw [e] at h3';cases h3'
     |some w'=>rw [e] at h3';exact Bk some h3'
    obtain⟨mo,hno,hl⟩:=I.loc;obtain⟨u',r',l⟩:=hl j x v' hj1 hj2 (.inr (.inl hk1));refine⟨u',r',?_⟩;rcases l with⟨q,_⟩|⟨_,c,ec,o,ho,hd⟩
    ·have q':X.env.scope.names.lookup x=some .local:=q;rw [hk1] at q';cases q'
    ·exact .inr ⟨.inr hk2,c,hc c ec,o,hk c o ho,hd⟩
 ·obtain⟨v',o,ho,hd⟩:=I.cell x c (sub e);exact⟨v',o,hk c o ho,hd⟩
 ·show(some v::js.map λ j=>(σ[j]?).getD none).length=(y::Nc).length;rw [zD,zr,C.len,zD]
theorem sN {params:Arguments}{pm ctv:Value}{te:TE}{k:Nat}
  (I:Inv X pins σ H s) (C:LCaps X y Nc scope cl js) (hr:Room (k+2) X.A) (hf:s.heap.get? f=some (kla_obj "<lambda>" qual params body scope cl pm c' ctv)) (hcd:s.heap.CodeRec (.ref c') qual)
  (hbind:∀u,bindArgs (kla_fn "<lambda>" qual params body scope cl pm (.ref c') ctv) ⟨[u],[]⟩=pure [(y,u)]) (r:RelV v u)
  (he:PE (ll X (y::Nc) qual scope cl f (.ref c') X.A.in1 s H) body te) (hq:te (uL js σ v) H Q):
  wpAny (model X.prog X.w) X.A.in1 (call (.ref f) [u]) (EP X pins σ Q) E s:=by
 have hd:X.A.in1.depth<recursionLimit:=(show Room (k+1) X.A.in1 from hr.in1).depth;refine wpAny_call (kla_callFunE hd hf rfl C.co C.gen rfl hcd ?_);rw [hbind];refine Ai (wpAny_newFunctionEnv C.nocell (λ z hz=>?_) (λ h₁ hns hsb=>⟨(I.ok.mod.nolimit.keeps I.bk).fresh _ hsb,?_⟩) C.kind)
 ·rw [zX.mp hz];exact C.par
 show codeAny _ _ (.expr body (envX qual scope s.heap.objs.size f (.ref c') cl)) _ _;have hk₁:∀b o,s.heap.get? b=some o->h₁.get? b=some o:=λ b o e=>hsb.extBut b o (AE (zZ e)) (zB _ e)
 refine kla_codeExpr (AX (he [] _ (uL js σ v) H Q (vd I C r hns hk₁) hq) (λ w' s' hs=>?_) λ _ _ z=>False.elim z);obtain⟨v',H',J,r',q⟩:=hs;exact I.after ⟨v',H',J.os,J.bare,J.base,J.hok,r',q⟩
theorem FpOk.at {b:Addr}(f:FpOk X pins H b)(n:H' b=none):FpOk X pins H' b:=⟨n,f.2⟩
theorem sQ {I S:Addr}{of:Obj}(kf:Nat->Int)(hh:X.A.handled=none)(hq:SqL X.K H l xs)(hf:∀v,of.data≠ .cell v)
  (step:∀(pins':List (Addr×Obj)) (s':Shared) (H':Hp) (i:Nat) (v:V) (u:Value),Inv X pins' σ H' s'->s'.heap.get? f=some of->Same H H'->xs[i]?=some v->RelV v u->
   wpAny (model X.prog X.w) X.A.in1 (call (.ref f) [u]) (EP X pins' σ λ r H''=>r=.int (kf i)/\Same H' H'') (λ _ _=>False) s')
  (fin:∀(i:Nat) (v:V) (H':Hp),xs[i]?=some v->(∀j,j<xs.length->kf i≤kf j/\(j<i->kf i<kf j))->Same H H'->Q v H') (hSI:S≠I):
  ∀(r j i:Nat) (s':Shared) (H':Hp) (vb:V) (ub:Value) (tb:Tok) (c:Nat),xs.length-(j+1)=r->j+1≤xs.length->Inv X pins σ H' s'->Same H H'->FpOk X pins H' I->FpOk X pins H' S->FpOk X pins H' f->f≠I->f≠S->
   s'.heap.get? f=some of->s'.heap.get? S=some (seqObj "list" #[ub,.int (kf i) tb] c)->s'.heap.IsListIter I l (j+1)->xs[i]?=some vb->RelV vb ub->i≤j->(∀j',j'≤j->kf i≤kf j'/\(j'<i->kf i<kf j'))->
   codeAny (model X.prog X.w) X.A (.builtin "min.loop" ⟨[.ref I,.ref f,.ref S],[]⟩) (λ r s''=>match r with| .ok (.ret v)=>EP X pins σ Q v s''| .ok _=>False| .error e=>E e s'') s':=by
 have hname:(toString "min"++toString ".loop":String)="min.loop":=by decide
 intro r
 induction r with
 |zero=>
  intro j i s' H' vb ub tb c hr hj J sm fI fS ff nfI nfS hfo hSo hit hvb rb hij hbest;have hin:j+1=xs.length:=by lia
  obtain⟨its,rv,pl,hz⟩:=J.list (sm.seq hq);have hil:=rv.length;have hlI:l≠I:=λ z=>by
   obtain⟨o,e,hc,n,hd⟩:=pl.isList;obtain⟨o2,e2,ec,ed⟩:=hit;rw [z,e2] at e;have e':=zS e;rw [<-e',ed] at hd;cases hd
  have W:=Walks.list (prog:=X.prog) (w:=X.w) (A:=X.A.in1) hh I l hlI its.toArray;have hsz:its.toArray.size=its.length:=zE ..;refine DQ Do ?_;rw [DD Bo _];show wpAny _ X.A.in1 (seqItems? (.ref S)>>= _) _ _ _;refine zx (CJ hSo rfl ?_);show wpAny _ X.A.in1 (tryCatch (pyNext (.ref I)) _>>= _) _ _ _;refine zx (CK (W.done _ _ _ ⟨by rw [hsz,<-hil,<-hin];exact hit,pl.isList⟩ λ h' tk' hk'=>?_));have J1:Inv X pins σ H' {s' with heap:=h',toks:=tk'}:=J.turned (it:=I) (λ b o n e=>hk' b o (by simpa using n) e) fI.1 fI.2.1 fI.2.2.2.1 fI.2.2.2.2.1 fI.2.2.2.2.2;have hS':=hk' S _ (by simpa using hSI) hSo;show wpAny _ X.A.in1 (updateSeq S (λ _=>#[])>>= _) _ _ _;refine zx ?_;refine wpAny_updateSeq hS' rfl (zx (DL (Ai ?_)));exact⟨vb,H',J1.turn fS,rb,fin i vb H' hvb (λ j' hj'=>hbest j' (by lia)) sm⟩
 |succ r ih=>
  intro j i s' H' vb ub tb c hr hj J sm fI fS ff nfI nfS hfo hSo hit hvb rb hij hbest;have hlt:j+1<xs.length:=by lia
  obtain⟨its,rv,pl,hz⟩:=J.list (sm.seq hq);have hil:=rv.length;have hlI:l≠I:=λ z=>by
   obtain⟨o,e,hc,n,hd⟩:=pl.isList;obtain⟨o2,e2,ec,ed⟩:=hit;rw [z,e2] at e;have e':=zS e;rw [<-e',ed] at hd;cases hd
  have W:=Walks.list (prog:=X.prog) (w:=X.w) (A:=X.A.in1) hh I l hlI its.toArray;have hsz:its.toArray.size=its.length:=zE ..;refine DQ Do ?_;rw [DD Bo _];show wpAny _ X.A.in1 (seqItems? (.ref S)>>= _) _ _ _;refine zx (CJ hSo rfl ?_);show wpAny _ X.A.in1 (tryCatch (pyNext (.ref I)) _>>= _) _ _ _;refine zx (CK (W.item (j+1) _ _ _ (by rw [hsz];lia) ⟨hit,pl.isList⟩ λ u h' tk' hP hst' hk'=>?_));have hu:its[j+1]?=some u:=by simpa using hP
  obtain⟨oI',hoI',hoc,hod⟩:=id hst'.1;obtain⟨v,hv,rvu⟩:∃v,xs[j+1]?=some v/\RelV v u:=by
   obtain⟨u',e3,r3⟩:=rv.get (i:=j+1) (x:=xs[j+1]) (zu hlt);rw [hu] at e3;cases e3;exact⟨_,zu hlt,r3⟩
  have J1:Inv X pins σ H' {s' with heap:=h',toks:=tk'}:=J.turned (it:=I) (λ b o n e=>hk' b o (by simpa using n) e) fI.1 fI.2.1 fI.2.2.2.1 fI.2.2.2.2.1 fI.2.2.2.2.2;have hS':=hk' S _ (by simpa using hSI) hSo;have hf':=hk' f _ (by simpa using nfI) hfo;have Jp:=J1.pinned (fp:=[I,S,f]) (λ b hb=>by
   rcases zL.mp hb with rfl|hb
   ·exact fI
   ·rcases zL.mp hb with rfl|hb
    ·exact fS
    ·rw [zX.mp hb];exact ff) (λ b hb=>by
   rcases zL.mp hb with rfl|hb
   ·exact⟨_,hoI',λ v z=>by rw [hod] at z;cases z⟩
   ·rcases zL.mp hb with rfl|hb
    ·exact⟨_,hS',dh⟩
    ·rw [zX.mp hb];exact⟨_,hf',hf⟩)
  show wpAny _ X.A.in1 (tryCatch (holding [u] (call (.ref f) [u])) _>>= _) _ _ _;refine zx (CK (Bf (AX (step _ _ H' (j+1) v u Jp hf' sm hv rvu) (λ x s'' he=>?_) λ _ _ hF=>hF.elim)));obtain⟨rv',H2,J2p,rr,re,sm2⟩:=he;subst re;obtain⟨t2,rfl⟩:∃t,x=.int (kf (j+1)) t:=rr;have pin:∀{b:Addr} {o:Obj},b∈ [I,S,f]->h'.get? b=some o->s''.heap.get? b=some o/\H2 b=none:=λ {b o} hb e=>by
   have:=J2p.pin (b,o) (zJ _ (zJ _ (a8 hb e)));exact⟨this.1,this.2.1⟩
  obtain⟨gI,nI⟩:=pin (by simp) hoI';obtain⟨gS,nS⟩:=pin (by simp) hS';obtain⟨gf,nf⟩:=pin (by simp) hf';have J2:=J2p.unpinned;have sm02:=sm.trans sm2;have hit2:s''.heap.IsListIter I l (j+1+1):=⟨oI',gI,hoc,hod⟩;show wpAny _ X.A.in1 (tryCatch (holding [u,.int (kf (j+1)) t2] (richCompare .Lt (.int (kf (j+1)) t2) (.int (kf i) tb)>>= _)) _>>= _) _ _ _;refine zx (CK (Bf (zx (CmpOf.ints_lt (prog:=X.prog) (w:=X.w) (A:=X.A.in1) (P:=λ i v=>∃t,v=.int (kf i) t) kf (λ i v h=>h) (j+1) i _ _ _ _ _ ⟨t2,rfl⟩ ⟨tb,rfl⟩ ?_))));refine zx (Bf (BO ?_));refine zx (DL (Ai ?_));by_cases hb':kf (j+1)<kf i
  ·obtain⟨c2,hc2⟩:∃c2,(s''.heap.update S (Obj.mapSeq λ _=>#[u,.int (kf (j+1)) t2])).get? S=some (seqObj "list" #[u,.int (kf (j+1)) t2] c2):=⟨_,De gS λ _=>#[u,.int (kf (j+1)) t2]⟩;simp only [hb',decide_true,if_true];refine zx ?_;refine wpAny_updateSeq gS rfl (zx (DL ?_));rw [hname];have fS2:=fS.at nS;refine Ai ⟨plainId_quiet Bo _,ih (j+1) (j+1) _ H2 v u t2 c2 (by lia) hlt (J2.turn fS2) sm02 (fI.at nI) fS2 (ff.at nf) nfI nfS ?_ hc2 ⟨oI',?_,hoc,hod⟩ hv rvu (zy _) λ j' hj'=>?_⟩
   ·show(s''.heap.update S _).get? f=_;rw [Bu _ _ _ _ nfS];exact gf
   ·show(s''.heap.update S _).get? I=_;rw [Bu _ _ _ _ hSI.symm];exact gI
   ·by_cases e:j'=j+1
    ·subst e;exact⟨Int.le_refl _,λ h=>absurd h (BX _)⟩
    ·have:=hbest j' (by lia);exact⟨by lia,λ _=>by lia⟩
  ·simp only [hb',decide_false,BJ,if_false];refine zx (DL ?_);rw [hname];refine Ai ⟨plainId_quiet Bo _,ih (j+1) i _ H2 vb ub tb c (by lia) hlt J2 sm02 (fI.at nI) (fS.at nS) (ff.at nf) nfI nfS gf gS hit2 hvb rb (by lia) λ j' hj'=>?_⟩;by_cases e:j'=j+1
   ·subst e;exact⟨by lia,λ _=>by lia⟩
   ·exact hbest j' (by lia)
theorem uC {of:Obj}(I:Inv X pins σ H s)(kf:Nat->Int)(hh:X.A.handled=none)(hq:SqL X.K H l xs)(hne:0<xs.length)(hf:∀v,of.data≠ .cell v)(ff:FpOk X pins H f)(hfo:s.heap.get? f=some of)
  (step:∀(pins':List (Addr×Obj)) (s':Shared) (H':Hp) (i:Nat) (v:V) (u:Value),Inv X pins' σ H' s'->s'.heap.get? f=some of->Same H H'->xs[i]?=some v->RelV v u->
   wpAny (model X.prog X.w) X.A.in1 (call (.ref f) [u]) (EP X pins' σ λ r H''=>r=.int (kf i)/\Same H' H'') (λ _ _=>False) s')
  (fin:∀(i:Nat) (v:V) (H':Hp),xs[i]?=some v->(∀j,j<xs.length->kf i≤kf j/\(j<i->kf i<kf j))->Same H H'->Q v H'):
  wpAny (model X.prog X.w) X.A (call (.builtin "min") [.ref l] [(Str.ofString "key",.ref f)]) (EP X pins σ Q) E s:=by
 have hname:(toString "min"++toString ".loop":String)="min.loop":=by decide
 obtain⟨its,rv,pl,hz⟩:=I.list hq;have hil:=rv.length;have hll:l<s.heap.objs.size:=by obtain⟨o,e,_⟩:=pl.isList;exact zZ e
 refine kmk_tree PySem.F.kind_min PySem.F.plain_min PySem.F.entry_min (kmk_min_key _ _) ?_;show wpAny _ X.A.in1 (Builtin.Builtins.bindParams "min" ["key","default"] 0 ⟨[],[(Str.ofString "key",.ref f)]⟩>>= _) _ _ s;refine zx (wpAny_of_eq (show Builtin.Builtins.bindParams "min" ["key","default"] 0 ⟨[],[(Str.ofString "key",.ref f)]⟩=pure [some (.ref f),none] from rfl) ?_);refine zx (Ai ?_);refine zx (wpAny_pyIter_list pl.isList ?_);refine zx (wpAny_newList ?_ (Ap _));rw [hname];have hS:(s.heap.push {cls:=.type "list_iterator",data:=.fields #[.ref l,.int 0 0]}).objs.size=s.heap.objs.size+1:=size_push' ..;have hlI:l≠s.heap.objs.size:=AE hll;have hSI:(s.heap.push {cls:=.type "list_iterator",data:=.fields #[.ref l,.int 0 0]}).objs.size≠s.heap.objs.size:=by rw [hS];exact Nat.ne_of_gt (CP _)
 refine Ai ⟨plainId_quiet Bo _,?_⟩;have hk0:∀b o,s.heap.get? b=some o->((s.heap.push {cls:=.type "list_iterator",data:=.fields #[.ref l,.int 0 0]}).push (seqObj "list" #[] 0)).get? b=some o:=λ b o e=>zB _ (zB _ e)
 have gI:((s.heap.push {cls:=.type "list_iterator",data:=.fields #[.ref l,.int 0 0]}).push (seqObj "list" #[] 0)).get? s.heap.objs.size=some {cls:=.type "list_iterator",data:=.fields #[.ref l,.int 0 0]}:=
  zB _ (Ak _ rfl)
 have gS:((s.heap.push {cls:=.type "list_iterator",data:=.fields #[.ref l,.int 0 0]}).push (seqObj "list" #[] 0)).get? (s.heap.push {cls:=.type "list_iterator",data:=.fields #[.ref l,.int 0 0]}).objs.size=some (seqObj "list" #[] 0):=Ak _ rfl;have fI:FpOk X pins H s.heap.objs.size:=I.fpOk (zy _) (I.hok.fresh (zy _));have fS:FpOk X pins H (s.heap.push {cls:=.type "list_iterator",data:=.fields #[.ref l,.int 0 0]}).objs.size:=I.fpOk (by rw [hS];lia) (I.hok.fresh (by rw [hS];lia));have nfI:f≠s.heap.objs.size:=AE (zZ hfo);have nfS:f≠(s.heap.push {cls:=.type "list_iterator",data:=.fields #[.ref l,.int 0 0]}).objs.size:=by rw [hS];exact AE (DX (zZ hfo))
 have J0:Inv X pins σ H {s with heap:=(s.heap.push {cls:=.type "list_iterator",data:=.fields #[.ref l,.int 0 0]}).push (seqObj "list" #[] 0)}:=I.kept (t':=s.toks) hk0;have hl0:((s.heap.push {cls:=.type "list_iterator",data:=.fields #[.ref l,.int 0 0]}).push (seqObj "list" #[] 0)).IsList l its.toArray:=by
  obtain⟨o,e,r⟩:=pl.isList;exact⟨o,hk0 _ _ e,r⟩
 have hf0:=hk0 _ _ hfo;generalize (s.heap.push {cls:=.type "list_iterator",data:=.fields #[.ref l,.int 0 0]}).objs.size=S at*;generalize (s.heap.push {cls:=.type "list_iterator",data:=.fields #[.ref l,.int 0 0]}).push (seqObj "list" #[] 0)=h0 at*;generalize s.heap.objs.size=Ia at*;have W:=Walks.list (prog:=X.prog) (w:=X.w) (A:=X.A.in1) hh Ia l hlI its.toArray;have hsz:its.toArray.size=its.length:=zE ..;refine DQ Do ?_;rw [DD Bo _];show wpAny _ X.A.in1 (seqItems? (.ref _)>>= _) _ _ _;refine zx (CJ gS rfl ?_);show wpAny _ X.A.in1 (tryCatch (pyNext (.ref Ia)) _>>= _) _ _ _;refine zx (CK (W.item 0 _ _ _ (by rw [hsz];lia) ⟨⟨_,gI,rfl,rfl⟩,hl0⟩ λ u h' tk' hP hst' hk'=>?_));have hu:its[0]?=some u:=by simpa using hP
 obtain⟨oI',hoI',hoc,hod⟩:=id hst'.1;obtain⟨v,hv,rvu⟩:∃v,xs[0]?=some v/\RelV v u:=by
  obtain⟨u',e3,r3⟩:=rv.get (i:=0) (x:=xs[0]) (zu hne);rw [hu] at e3;cases e3;exact⟨_,zu hne,r3⟩
 have J1:Inv X pins σ H {s with heap:=h',toks:=tk'}:=Inv.turned (s:={s with heap:=h0}) (it:=Ia) J0 (λ b o n e=>hk' b o (by simpa using n) e) fI.1 fI.2.1 fI.2.2.2.1 fI.2.2.2.2.1 fI.2.2.2.2.2;have hS':=hk' S _ (by simpa using hSI) gS;have hf':=hk' f _ (by simpa using nfI) hf0;have Jp:=J1.pinned (fp:=[Ia,S,f]) (λ b hb=>by
  rcases zL.mp hb with rfl|hb
  ·exact fI
  ·rcases zL.mp hb with rfl|hb
   ·exact fS
   ·rw [zX.mp hb];exact ff) (λ b hb=>by
  rcases zL.mp hb with rfl|hb
  ·exact⟨_,hoI',λ v z=>by rw [hod] at z;cases z⟩
  ·rcases zL.mp hb with rfl|hb
   ·exact⟨_,hS',dh⟩
   ·rw [zX.mp hb];exact⟨_,hf',hf⟩)
 show wpAny _ X.A.in1 (tryCatch (holding [u] (call (.ref f) [u])) _>>= _) _ _ _;refine zx (CK (Bf (AX (step _ _ H 0 v u Jp hf' (Same.refl H) hv rvu) (λ x s'' he=>?_) λ _ _ hF=>hF.elim)));obtain⟨rv',H2,J2p,rr,re,sm2⟩:=he;subst re;obtain⟨t2,rfl⟩:∃t,x=.int (kf 0) t:=rr;have pin:∀{b:Addr} {o:Obj},b∈ [Ia,S,f]->h'.get? b=some o->s''.heap.get? b=some o/\H2 b=none:=λ {b o} hb e=>by
  have:=J2p.pin (b,o) (zJ _ (zJ _ (a8 hb e)));exact⟨this.1,this.2.1⟩
 obtain⟨gI2,nI⟩:=pin (by simp) hoI';obtain⟨gS2,nS⟩:=pin (by simp) hS';obtain⟨gf2,nf⟩:=pin (by simp) hf';have J2:=J2p.unpinned;obtain⟨c2,hc2⟩:∃c2,(s''.heap.update S (Obj.mapSeq λ _=>#[u,.int (kf 0) t2])).get? S=some (seqObj "list" #[u,.int (kf 0) t2] c2):=⟨_,De gS2 λ _=>#[u,.int (kf 0) t2]⟩;show wpAny _ X.A.in1 (updateSeq S (λ _=>#[u,.int (kf 0) t2])>>= _) _ _ _;refine zx ?_;refine wpAny_updateSeq gS2 rfl ?_;rw [hname];have fS2:=fS.at nS;refine Ai ⟨plainId_quiet Bo _,sQ kf hh hq hf step fin hSI _ 0 0 _ H2 v u t2 c2 rfl hne (J2.turn fS2) sm2 (fI.at nI) fS2 (ff.at nf) nfI nfS ?_ hc2 ⟨oI',?_,hoc,hod⟩ hv rvu (zy _) λ j' hj'=>?_⟩
 ·show(s''.heap.update S _).get? f=_;rw [Bu _ _ _ _ nfS];exact gf2
 ·show(s''.heap.update S _).get? Ia=_;rw [Bu _ _ _ _ hSI.symm];exact gI2
 ·have e:j'=0:=by lia
  subst e;exact⟨Int.le_refl _,λ h=>absurd h (BX _)⟩
end
def x5 (K:PySem.W.Frag)(P:Addr)(pos:Pos)(qual:Str)(js:List Nat)(te:TE)(t:TA):TE:=λ σ H Q=>t σ H λ zs H1=>∃(p:Addr) (xs:List V) (kf:Nat->Int),zs=[.ref p]/\SqL K H1 p xs/\0<xs.length/\TbOk P pos qual H1/\(∀c xs,SqL K H1 c xs->c≠P)/\
 ∀H2,SameT P H1 H2->TbOk P pos qual H2->
  (∀(i:Nat) (v:V) (H':Hp),xs[i]?=some v->Same H2 H'->te (uL js σ v) H' λ r H''=>r=.int (kf i)/\Same H' H'')/\
  ∀(i:Nat) (v:V) (H':Hp),xs[i]?=some v->(∀j,j<xs.length->kf i≤kf j/\(j<i->kf i<kf j))->Same H2 H'->Q v H'
section
variable {X : Cx} {k : Nat} {e body : Expr} {te : TE} {p kp pos lpos : Pos} {y : Str} {Nc : List Str} {scope : Scope} {params : Arguments} {cl : List (Str × Addr)} {js : List Nat} {P c : Addr}
theorem uV {t:TA}(hn:X.A.handled=none)(hr:Room (k+2) X.A)(hg:Gl X "min")(hm:X.mg "min"=none)(C:LCaps X y Nc scope cl js)(hcode:X.env.code=.ref c)(hC:CodeHd X.base c P)
  (hbm:∃bm o,X.mg "__builtins__"=some (.ref bm)/\bm≠builtinsNs/\bm≠mainGlobals/\X.base.get? bm=some o/\o.cls=.type "module"/\o.dict=some builtinsNs/\o.data=.plain)
  (hdef:defaultsOf params X.env=([],[])) (hbind:∀(pm cd ct u:Value),bindArgs (kla_fn "<lambda>" (X.env.qual++"<lambda>") params body scope cl pm cd ct) ⟨[u],[]⟩=pure [(y,u)])
  (he:∀f c' s H,PE (ll X (y::Nc) (X.env.qual++"<lambda>") scope cl f (.ref c') X.A.in1 s H) body te) (ha:PA X [e] t)
  (hee:backTo pos (starEach (e:: []) X.env)=(false,eval e X.env)::backTo pos (starEach [] X.env):=by rfl) (hplain:(backTo pos (starEach (e:: []) X.env)).any (·.1)=false:=by rfl)
  (hall:(backToKw pos (keywordEach [⟨some "key",.Lambda params body scope lpos,kp⟩] X.env)).all (·.1.isSome)=true:=by rfl)
  (hkw:(backToKw pos (keywordEach [⟨some "key",.Lambda params body scope lpos,kp⟩] X.env)).any (·.1.isNone)=false:=by rfl)
  (hfm:(backToKw pos (keywordEach [⟨some "key",.Lambda params body scope lpos,kp⟩] X.env)).filterMap (·.1)=[("key":Str)]:=by rfl):
  PE X (.Call (.Name "min" p) [e] [⟨some "key",.Lambda params body scope lpos,kp⟩] pos) (x5 X.K P lpos (X.env.qual++"<lambda>") js te t):=by
 intro pins s σ H Q I h;refine Bm (ld_blt I hg hm (show bootBuiltins "min"=some (.builtin "min") by decide+kernel) ?_);refine PyProof.Rows.callWith_kw (e:=e) (rest:=[]) (thn (ha pos pins s σ H _ I h) λ us s1 z9=>?_) hee hplain hall hkw;obtain⟨vs,H1,I1,r1,q1⟩:=z9;obtain⟨l,xs,kf,rfl,hq,hne,hT,hnP,q⟩:=q1;obtain⟨u,rfl,ru⟩:=gb r1;obtain rfl:u=Value.ref l:=ru;refine kws_cons (sZ I1 hT hcode hC hbm hdef C.clos λ f c' pm ctv H2 s2 I2 ff hfo hcd hrec hT2 sT=>kws_nil ?_);rw [hfm];obtain⟨qs,qf⟩:=q H2 sT hT2;show wpAny _ _ (call (.builtin "min") [.ref l] [(Str.ofString "key",.ref f)]) _ _ s2;have hq2:SqL X.K H2 l xs:=by
  rcases hq with hq|hq
  ·rcases hq with z|⟨o,z⟩
   ·exact .inl (.inl (sT _ _ (hnP l xs (.inl (.inl z))) z))
   ·exact .inl (.inr ⟨o,sT _ _ (hnP l xs (.inl (.inr ⟨o,z⟩))) z⟩)
  ·exact .inr hq
 refine uC I2 kf hn hq2 hne (λ v z=>by cases z) ff hfo (λ pins' s' H' i v u J hfo' sm hv ru=>?_) qf;obtain⟨oc,vs',t,hc,d1,d2⟩:=hrec;have hoc:s'.heap.get? c'=some oc:=(J.hok _ _ (sm _ _ hc)).1;exact sN J C hr hfo' ⟨c',oc,vs',t,rfl,hoc,d1,d2⟩ (λ u=>hbind _ _ _ u) ru (he f c' s' H') (qs i v H' hv sm)
end
section
variable {X : Cx} {o e : Expr} {es : List Expr} {m : Str} {apos pos : Pos} {k : Nat} {ta : TE} {t : TA}
theorem FnOk.weak {P:Program}{CX:CXT}{ps:List Str}{sp':Sp}(F:FnOk P w K mg base CX k f fd ps sp)(h:∀vs H Q E,sp' vs H Q E->sp vs H Q E):FnOk P w K mg base CX k f fd ps sp':=
 ⟨λ vs H Q E z=>F.len vs H Q E (h _ _ _ _ z),λ A outer s H args us vs Q E hr e0 hb r z=>F.run A outer s H args us vs Q E hr e0 hb r (h _ _ _ _ z)⟩
def xN (P:Program)(w:World)(K:PySem.W.Frag)(mg:Str->Option Value)(base:Heap)(k:Nat)(m:Str)(ta:TE)(t:TA):TE:=λ σ H Q=>ta σ H λ x H1=>∃(a C dx:Addr) (fs:List (Str×V)) (f:Addr) (fd:FuncData) (ps:List Str) (sp:Sp),x=.ref a/\H1 a=some (.ins C dx fs)/\fs.lookup m=none/\Cls K C/\Meth K C m f/\FnOk P w K mg base CX0 k f fd ps sp/\Binds K fd ps []/\
 t σ H1 λ vs H2=>sp (x::(vs++[])) H2 Q E0
theorem kS {P:Program}{pl:Sem Bool}(hP:X.prog=P)(hw:X.w=w)(hK:X.K=K)(hmg:X.mg=mg)(hb0:X.base=base)(he:PE X o ta)(hr:Room k X.A)(ha:PA X (e::es) t)
    (hst:starEach (e::es) X.env=(false,eval e X.env)::starEach es X.env:=by rfl) (hpl:(backTo pos (starEach es X.env)).any (·.1)=false:=by rfl)
    (ht:eval (.Call (.Attribute o m apos) (e::es) [] pos) X.env=(do
      let ov<-eval o X.env
      standAt apos.atName
      let(f,first)<-holding [ov] (getMethod ov m pl)
      callWith pos f first (backTo pos (starEach (e::es) X.env)) (backToKw pos (keywordEach [] X.env))):=by rfl):
    PE X (.Call (.Attribute o m apos) (e::es) [] pos) (xN P w K mg base k m ta t):=by
  subst hP hw hK hmg hb0
  intro pins s σ H Q I h
  refine Du (pl:=pl) (thn (he pins s σ H _ I h) λ u s1 z9=>?_) ht
  obtain⟨x,H1,I1,rx,a,C,dx,fs,f,fd,ps,sp,ex,ea,l,c,hm,F,hb,q⟩:=z9
  subst ex
  obtain rfl:u=Value.ref a:=rx
  refine eg I1 ea c hm l ?_
  refine Dg (first:=[.ref a]) (h₀:=X.base) I.ok.mod.kin hm.kp (thn (ha pos pins s1 σ H1 _ I1 q) λ us s2 ⟨vs,H2,I2,r,q2⟩=>⟨I2.kIn,?_⟩) hst hpl
  exact run_fn (us:=.ref a::us) (vs:=.ref a::vs) F hr hb .nil ao I2 (.cons rfl r) q2
end
abbrev BmAt (mg:Str->Option Value)(h:Heap):Prop:=∃bm o,mg "__builtins__"=some (.ref bm)/\bm≠builtinsNs/\bm≠mainGlobals/\h.get? bm=some o/\o.cls=.type "module"/\o.dict=some builtinsNs/\o.data=.plain
theorem pU {P:Program}{mb:Str->Option Value}{k:Nat}{fa a:Addr}{s₁:Shared}{vs:List Value}{ns:List Int}
  (KX:K.In s₁.heap) (hns:s₁.heap.Ns mainGlobals mg) (hb:s₁.heap.Ns builtinsNs mb) (hbb:∀x:Str,x≠ "__name__"->mb x=bootBuiltins x) (hlim:s₁.heap.NoLimit) (hg:s₁.gens=#[])
  (ha:s₁.heap.get? a=some {cls:=.type "list",data:=.seq vs.toArray}) (hi:IntsAre vs ns) (hl:ns.length≤sizeLine) (hr:Room k callerA)
  (hT:s₁.heap.get? Tb=some (tabObj #[])) (hC:CodeHd s₁.heap c Tb) (hKT:K.lookup Tb=none) (hbm:BmAt mg s₁.heap)
  (F:∀base:Heap,K.In base->base.Ns mainGlobals mg->CodeHd base c Tb->BmAt mg base->FnOk P w K mg base CX0 k fa fd [x] sp) (hbind:∀(s:Shared) (u:Value),BindsTo s fd ⟨[u],[]⟩ [(x,u)])
  (hsp:∀H:Hp,SqL K H a (ns.map V.int)->H Tb=some (.tbl #[])->a≠Tb->sp [.ref a] H (λ v _=>v=.bl true) λ _ _ _=>False):
  codeAny (model P w) callerA (.call (.ref fa) ⟨[.ref a],[]⟩) (λ r s'=>r=.ok (.ret (.bool true))/\OldK s₁.heap s'.heap/\s'.os=s₁.os/\AllBare s'.gens) s₁:=by
 have rv:=fG hi;have lenV:=hi.length;have naT:a≠Tb:=λ z=>by rw [z,hT] at ha;cases ha
 have core:∀H:Hp,(∀b,b≠Tb->H b=none\/∃ob xs,H b=some (.frz ob (.lst xs)))->H Tb=some (.tbl #[])->SqL K H a (ns.map V.int)->HOk P w H s₁.heap->(∀b,H b≠none->b=a\/b=Tb)->(H a≠none->K.lookup a=none)->
   codeAny (model P w) callerA (.call (.ref fa) ⟨[.ref a],[]⟩) (λ r s'=>r=.ok (.ret (.bool true))/\OldK s₁.heap s'.heap/\s'.os=s₁.os/\AllBare s'.gens) s₁:=by
  intro H hO hHT hS hok hA hK;have base_of:∀{b:Addr} {o:Obj},s₁.heap.get? b=some o->H b=none->(hidT s₁.heap H).get? b=some o:=λ e n=>kn e n
  have noH:∀{b:Addr} {o:Obj},s₁.heap.get? b=some o->(b=a->False)->(b=Tb->False)->H b=none:=λ {b o} e n1 n2=>by
   cases q:H b with
   |none=>rfl
   |some u=>
    rcases hA b (by rw [q];simp) with z|z
    ·exact(n1 z).elim
    ·exact(n2 z).elim
  have noA:∀{b:Addr} {o:Obj} {es:Array DictEntry} {ep:Nat},s₁.heap.get? b=some o->o.data=.dict es ep->H b=none:=λ {b o es ep} e d=>noH e (λ z=>by
   subst z;rw [ha] at e;cases e;have d':Data.seq vs.toArray _=Data.dict es ep:=d;cases d') (λ z=>by
   subst z;rw [hT] at e;cases e;have d':Data.fields #[]=Data.dict es ep:=d;cases d')
  have nsK:∀{b:Addr} {m:Str->Option Value},s₁.heap.Ns b m->(hidT s₁.heap H).Ns b m:=λ {b m} ⟨o,es,ep,e,d,r⟩=>⟨o,es,ep,base_of e (noA e d),d,r⟩
  have hKb:K.In (hidT s₁.heap H):=λ b o e=>base_of (KX b o e) (by
   cases q:H b with
   |none=>rfl
   |some u=>
    rcases hA b (by rw [q];simp) with z|z
    ·subst z;rw [hK (by rw [q];simp)] at e;cases e
    ·subst z;rw [hKT] at e;cases e)
  have hM:Mod K mg (hidT s₁.heap H):=⟨hKb,nsK hns,⟨mb,nsK hb,hbb⟩,let⟨mc,h1,h2⟩:=hlim;⟨mc,nsK h1,h2⟩⟩;have hCb:CodeHd (hidT s₁.heap H) c Tb:=by
   obtain⟨o,vs',file,tf,flags,tg,inF,text,tt,e1,r1,r2,r3,r4,r5,r6,r7,r8,hne⟩:=hC;exact⟨o,vs',file,tf,flags,tg,inF,text,tt,base_of e1 (noH e1 (λ z=>by
    subst z;rw [ha] at e1;cases e1;have r2':Data.seq vs.toArray _=Data.fields vs':=r2;cases r2') hne),r1,r2,r3,r4,r5,r6,r7,r8,hne⟩
  have hBb:BmAt mg (hidT s₁.heap H):=by
   obtain⟨bm,o,b1,b2,b3,b4,b5,b6,b7⟩:=hbm;exact⟨bm,o,b1,b2,b3,base_of b4 (noH b4 (λ z=>by
    subst z;rw [ha] at b4;cases b4;have b7':Data.seq vs.toArray _=Data.plain:=b7;cases b7') (λ z=>by
    subst z;rw [hT] at b4;cases b4;have b7':Data.fields #[]=Data.plain:=b7;cases b7')),b5,b6,b7⟩
  have e0:Env0 P w K mg (hidT s₁.heap H) callerA [] s₁ H:=⟨rfl,hM,λ b o e=>o4 e,Nat.le_of_eq (je _ _),trivial,λ b hb=>absurd (show b∈([]:List Addr) from hb) (by simp),hok,.of_eq hg,.inl rfl⟩;refine Dp ((F _ hKb (nsK hns) hCb hBb).run callerA [] s₁ H ⟨[.ref a],[]⟩ [.ref a] [.ref a] _ _ hr e0 (hbind s₁ (.ref a)) (.cons rfl .nil) (hsp H hS hHT naT)) λ r s' h=>?_
  cases r with
  |error e=>exact False.elim h
  |ok fl=>
   cases fl with
   |next=>exact False.elim h
   |brk=>exact False.elim h
   |cont=>exact False.elim h
   |ret u=>
    obtain⟨v,H',os,bare,un,hok',r',q⟩:=h;have q':v=.bl true:=q;subst q';obtain rfl:u=Value.bool true:=r';have keep:∀b o,b≠Tb->s₁.heap.get? b=some o->s'.heap.get? b=some o:=λ b o n e=>by
     cases q:H b with
     |none=>exact un.keep b o e q (by intro z;exact absurd (show b∈([]:List Addr) from z) (by simp)) (by simp)
     |some u=>
      rcases hO b n with z|⟨ob,xs,z⟩
      ·rw [q] at z;cases z
      ·have z2:=un.frzs b ob _ z;obtain⟨e1,_⟩:=hok b _ z;obtain⟨e2,_⟩:=hok' b _ z2;rw [e] at e1;cases e1;exact e2
    obtain⟨more,hm⟩:=un.tbls Tb #[] hHT;have hTo:s'.heap.get? Tb=some (tabObj (#[]++more)):=hok' Tb _ hm;refine⟨rfl,⟨λ b o e=>?_,λ b o e=>?_⟩,os,bare⟩
    ·by_cases z:b=Tb
     ·subst z;rw [hT] at e;cases e;exact .inr (.inl ⟨(hC.tab hT).isCodeTable,rfl,#[],more,rfl,hTo⟩)
     ·exact .inl (keep b o z e)
    ·by_cases z:b=Tb
     ·subst z;exact⟨_,hTo⟩
     ·exact⟨o,keep b o z e⟩
 cases hk:K.lookup a with
 |some o=>
  have e:=KX a o hk;rw [ha] at e;cases e;refine core (λ b=>if b=Tb then some (.tbl #[]) else none) (λ b n=>.inl (zK n)) (zP rfl) (.inr ⟨_,vs.toArray,_,hk,rfl,rfl,rfl,by rw [zE,lenV];exact hl,by simpa using rv⟩) (λ b u z=>?_) (λ b z=>?_) λ z=>absurd (zK naT) z
  ·by_cases hb:b=Tb
   ·have z':=(zP hb).symm.trans z;cases z';subst hb;exact hT
   ·have z':=(zK hb).symm.trans z;cases z'
  ·by_cases hb:b=Tb
   ·exact .inr hb
   ·exact absurd (zK hb) z
 |none=>
  refine core (λ b=>if b=Tb then some (.tbl #[]) else if b=a then some (.frz {cls:=.type "list",data:=.seq vs.toArray} (.lst (ns.map V.int))) else none) (λ b n=>?_) (zP rfl) (.inl (.inr ⟨{cls:=.type "list",data:=.seq vs.toArray},by show(if a=Tb then _ else _)=_;rw [zK naT,zP rfl]⟩)) (λ b u z=>?_) (λ b z=>?_) λ _=>hk
  ·by_cases hb:b=a
   ·exact .inr ⟨_,_,(zK n).trans (zP hb)⟩
   ·exact .inl ((zK n).trans (zK hb))
  ·by_cases hT':b=Tb
   ·have z':=(zP hT').symm.trans z;cases z';subst hT';exact hT
   ·by_cases hb:b=a
    ·have z':=((zK hT').trans (zP hb)).symm.trans z;cases z';subst hb;exact⟨ha,by rw [zr];exact hl,vs,_,rv,ha⟩
    ·have z':=((zK hT').trans (zK hb)).symm.trans z;cases z'
  ·by_cases hT':b=Tb
   ·exact .inr hT'
   ·by_cases hb:b=a
    ·exact .inl hb
    ·exact absurd ((zK hT').trans (zK hb)) z
theorem walk_ofT {l:PySem.W.OpenLaw}{n k:Nat}{q:Program}{loose:List Str}{XP:(Str->Option Value)->Heap->Prop}{YP:World->Heap->Prop}{d:DefRec}{K:Params->PySem.W.Frag}{sp:World->Sp}
  (hn:l.most=some n) (hn2:n≤sizeLine) (hdf:d.params.defaults=[]) (hr:Room k callerA)
  (hY:∀(w:World) (h:Heap),YP w h->(K w.params).In h/\h.get? Tb=some (tabObj #[])) (hC:∀w:World,codeHdIn (K w.params) c Tb=true) (hKT:∀w:World,(K w.params).lookup Tb=none)
  (F:∀(w:World) (mg:Str->Option Value) (fa:Addr) (h:Heap),(K w.params).In h->h.Ns mainGlobals mg->mg d.name=some (.ref fa)->
   ∃fd:FuncData,(∀(s:Shared) (u:Value),BindsTo s fd ⟨[u],[]⟩ [(x,u)])/\
    ∀base:Heap,(K w.params).In base->base.Ns mainGlobals mg->CodeHd base c Tb->BmAt mg base->FnOk l.prog w (K w.params) mg base CX0 k fa fd [x] (sp w))
  (hsp:∀(w:World) (H:Hp) (a:Addr) (ns:List Int),ns.length≤n->SqL (K w.params) H a (ns.map V.int)->H Tb=some (.tbl #[])->a≠Tb->sp w [.ref a] H (λ v _=>v=.bl true) λ _ _ _=>False):
  PySem.W.WalkO q loose XP YP l.row.toRowW d [] (λ f vs=>PySem.call f vs):=by
 refine Att.attach_call hn hdf λ w s₀ s₁ mg mb fa o pm cd doc a vs ns G Y ho hd hcd hmg hobj hints hlen hg=>?_
 obtain⟨KX,hT⟩:=hY w _ Y;obtain⟨fd,hb,hF⟩:=F w mg fa _ KX G.T.g hmg;have hbm:BmAt mg s₁.heap:=by
  obtain⟨bm,ob,b1,b2,b3,b4,b5,b6⟩:=G.T.bmain;refine⟨bm,ob,b1,b2,λ z=>?_,b3,b4,b5,b6⟩;obtain⟨o,es,ep,e,hd,_⟩:=G.T.g;rw [z,e] at b3;cases b3;rw [hd] at b6;cases b6
 exact pU KX G.T.g G.T.b G.T.builtins G.T.nolimit hg hobj hints (AM hlen hn2) hr hT (codeHd_of_K KX (hC w)) (hKT w) hbm hF hb λ H hS hHT na=>hsp w H a ns hlen hS hHT na
end L2
set_option maxHeartbeats 1000000
namespace K20
open PySem L2 QQ W17 W16 BP
seal PE PA PS PSs PT PW PG PI
variable {p : Pos} {dV : Value} {C CW Tb a c f fD : Addr} {os : Nat->Addr} {L T W : List Nat} {u : Nat} {fd fdD : FuncData} {H : Hp} {sp : Sp} {q x : Str} {ps : List (Nat×Nat)}
def PtOf (u:Nat)(W T:List Nat)(ps:List (Nat×Nat)):Prop:=
 match u with
 |0=>ps=pf false T
 |1=>ps=pf true T
 |2=>∃Pp,Walk (W++T) W.length Pp (W++T).length/\ps=pP Pp
 |3=>∃(Pp:List Pc) (L:List Nat) (It:List W13.Itm) (b:Nat),Walk (W++T) W.length Pp (W++T).length/\ShL (Pp.map th) L/\W13.Walk L 0 0 It 272 b/\ps=W13.puts It++hP L Pp
 |_=>False
structure TW (T W:List Nat):Prop where
 tb:∀b∈T,b<256
 one:1≤T.length
 le:T.length≤64
 wb:∀b∈W,b<256
 wl:W.length≤192
theorem PtOf.lt (h:PtOf u W T ps):u<4:=by
 match u,h with
 |0,_=>decide
 |1,_=>decide
 |2,_=>decide
 |3,_=>decide
 |n+4,h=>exact h.elim
theorem ShL.len {Q:List Nat}(h:ShL Q L):L.length=272:=by
 obtain⟨ln,_,rfl,_⟩:=h;simp
theorem PtOf.uniq {ps':List (Nat×Nat)}(h:PtOf u W T ps)(h':PtOf u W T ps'):ps=ps':=by
 rcases u with _|_|_|_|u
 ·exact Eq.trans h (Eq.symm h')
 ·exact Eq.trans h (Eq.symm h')
 ·obtain⟨P,w,e⟩:=h;obtain⟨P',w',e'⟩:=h';rw [e,e',cW w w']
 ·obtain⟨P,L,It,b,w,sl,wi,e⟩:=h;obtain⟨P',L',It',b',w',sl',wi',e'⟩:=h';have eP:=cW w w';subst eP;have eL:=sl.uniq sl';subst eL;have hl:=sl.len;rw [<-hl] at wi wi';rw [e,e',oG wi wi']
 ·exact False.elim h
theorem kH (t:TW T W){Pp:List Pc}{It:List W13.Itm}{b:Nat}(w:Walk (W++T) W.length Pp (W++T).length)(sl:ShL (Pp.map th) L)(wi:W13.Walk L 0 0 It 272 b):
  GR W Pp/\runP W Pp=W++T/\Pp.length≤T.length/\1≤Pp.length/\TOk L Pp/\(∀x∈It,W13.StOk x)/\W13.decL 0 It=L:=by
 obtain⟨gr,hrun,hPl⟩:=cR t.wb t.tb w;have h1:=t.one;have hP1:=pj w (by rw [zv];lia);have tok:=sl.tok gr hP1;exact⟨gr,hrun,hPl,hP1,tok,W13.walk_ok tok.six wi,o3 tok.len wi⟩
theorem PtOf.good (h:PtOf u W T ps)(t:TW T W):Good ps/\tots ps≤1712:=by
 have hl:=t.le;rcases u with _|_|_|_|u
 ·have h:ps=pf false T:=h;have:=nO false T;rw [h];exact⟨o0 false hl t.tb,by lia⟩
 ·have h:ps=pf true T:=h;have:=nO true T;rw [h];exact⟨o0 true hl t.tb,by lia⟩
 ·obtain⟨P,w,e⟩:=h;obtain⟨gr,hrun,hPl⟩:=cR t.wb t.tb w;have:=jQ P;rw [e];exact⟨oz gr,by lia⟩
 ·obtain⟨P,L,It,b,w,sl,wi,e⟩:=h;obtain⟨gr,hrun,hPl,hP1,tok,hIt,hdec⟩:=kH t w sl wi;have h1:=ju tok.six P;have h2:=gC 0 hIt;rw [hdec,tok.len] at h2;rw [e];refine⟨λ q hq=>?_,by rw [aw];lia⟩;rcases zI.mp hq with z|z
  ·exact W13.puts_good hIt q z
  ·exact uj tok gr q z
 ·exact False.elim h
theorem uQ (S:List Nat):∀(n p:Nat),S.length-p=n->p≤S.length->∃Pp,Walk S p Pp S.length:=by
 intro n
 induction n using Nat.strongRecOn with
 |ind n ih=>
  intro p hn hp;by_cases e:p=S.length
  ·exact⟨[],e⟩
  ·have hlt:p<S.length:=by lia
   have hz:=fY hlt;obtain⟨Pp,w⟩:=ih (S.length-(p+(pcAt S p).size)) (by lia) (p+(pcAt S p).size) rfl hz.2;exact⟨pcAt S p::Pp,hlt,rfl,w⟩
theorem fr (W T:List Nat):∃Pp,Walk (W++T) W.length Pp (W++T).length:=uQ _ _ _ rfl (by rw [zv];lia)
def spT (u:Nat)(B:Addr):Sp:=λ vs H Q _=>∃(o p d a:Addr) (x:V) (T W:List Nat) (N T0:Nat),vs=[.ref o,.ref p,.ref a,x]/\BitsAt B H p d N T0/\T0≤1000/\H a=some (.lst (T.map vN))/\WinV H x W/\TW T W/\
 ∀(ps:List (Nat×Nat)) (H':Hp),PtOf u W T ps->BitsAt B H' p d (nums ps N) (T0+tots ps)->(∀c o,H c=some o->c≠p->c≠d->H' c=some o)->Q .non H'
def spR (u:Nat)(D:Addr):Sp:=λ vs H Q _=>∃(o r d:Addr) (x:V) (R:List Nat) (pre post ps:List (Nat×Nat)) (W T:List Nat),vs=[.ref o,.ref r,vN T.length,x]/\WinV H x W/\ReadAt D H r d R (tots pre)/\RdOf R (pre++ps++post)/\PtOf u W T ps/\TW T W/\
 ∀l H',H l=none->H' l=some (.lst (T.map vN))->ReadAt D H' r d R (tots (pre++ps))->(∀c o,H c=some o->c≠r->H' c=some o)->Q (.ref l) H'
def spC (u:Nat)(C:Addr):Sp:=λ vs H Q _=>∃(o dx a:Addr) (x:V) (T W:List Nat),vs=[.ref o,.ref a,x]/\H o=some (.ins C dx [])/\H a=some (.lst (T.map vN))/\WinV H x W/\TW T W/\∀(ps:List (Nat×Nat)) (H':Hp),PtOf u W T ps->Same H H'->Q (vN (tots ps)) H'
def spN (u:Nat):Sp:=λ vs H Q _=>∃o:Addr,vs=[.ref o]/\Q (vN u) H
structure WayOk (P:Program)(w:World)(K:PySem.W.Frag)(mg:Str->Option Value)(base:Heap)(B D C:Addr)(u:Nat):Prop where
 cl:Cls K C
 num:∃f fd,Meth K C "number" f/\Binds K fd ["self"] []/\FnOk P w K mg base CX0 1 f fd ["self"] (spN u)
 tell:∃f fd,Meth K C "tell" f/\Binds K fd ["self","bits","text","before"] []/\FnOk P w K mg base CX0 35 f fd ["self","bits","text","before"] (spT u B)
 read:∃f fd,Meth K C "read" f/\Binds K fd ["self","reader","count","before"] []/\FnOk P w K mg base CX0 37 f fd ["self","reader","count","before"] (spR u D)
 cost:∃f fd,Meth K C "cost" f/\Binds K fd ["self","text","before"] []/\FnOk P w K mg base CX0 36 f fd ["self","text","before"] (spC u C)
section
variable {P : Program} {w : World} {K : PySem.W.Frag} {mg : Str -> Option Value} {base : Heap} {B D G : Addr}
abbrev yy:List Str:=["self","text","before","bits"]
theorem scCost:FnScope yy ["self","text","before"] (defScope g7):=scK (by decide+kernel)
theorem gp {fT:Addr}{fdT:FuncData}(F:Fun K "cost" "Way.cost" g7 f fd)(Z:Bts K mg B)(clW:Cls K C)(Te:Meth K C "tell" fT)(bT:Binds K fdT ["self","bits","text","before"] [])(GT:FnOk P w K mg base CX0 35 fT fdT ["self","bits","text","before"] (spT u B)):
  FnOk P w K mg base CX0 36 f fd ["self","text","before"] (spC u C):=by
 have X:=Z.R.X;obtain⟨_,_,FI,bI,MI⟩:=Z.init;obtain⟨_,_,Ma⟩:=Z.many;have TB:=Z.T;have GI:=kb (P:=P) (w:=w) (base:=base) FI TB;have GM:=nQ (P:=P) (w:=w) (base:=base) Ma.F TB X;refine F.ok scCost (λ vs H Q E h=>?_) (λ cdv A outer st H vs Q E hr h=>?_)
 ·obtain⟨o,dx,a,x,T,W,rfl,_⟩:=h;rfl
 ·obtain⟨o,dx,a,x,T,W,rfl,ho,ha,hx,tw,k⟩:=h;have hr2:Room 2 _:=hr.mono (by decide);have hr1:Room 1 _:=hr.mono (by decide);refine⟨_,ac (ak (i:=3) scCost.nd rfl (Or.inl rfl) (kO MI GI hr2 (by rfl) Z.m bI .nil ao))
   (ac (aA (aI (pv 0) clW Te GT hr bT .nil ao (aa (pv 3) (aa (pv 1) (aa (pv 2) ad)))))
   (af (az (bh (pv 3) TB.cl Ma.m GM hr1 Ma.b .nil ao)))),?_⟩
  refine seq_g λ R1 g1=>?_
  intro p dp np ndp nep;have hp0:(upd (upd H dp (.own p)) p (.ins B dp [])) p=some (.ins B dp []):=upd_same;have s0:Same H (upd (upd H dp (.own p)) p (.ins B dp [])):=λ c o e=>by
   rw [upd_ne (ag e np),upd_ne (ag e ndp)];exact e
  refine⟨p,dp,rfl,hp0,λ d H1 nd hB kp=>⟨rfl,g1 _ _ ?_⟩⟩;clear g1;have nd0:H d=none:=none_of s0 nd;have s1:Same H H1:=λ c o e=>kp _ _ (s0 _ _ e) (ag e np)
  clear s0 hp0 kp;refine seq_g λ R1 g1=>?_
  refine⟨_,rfl,o,dx,_,rfl,s1 _ _ ho,rfl,_,rfl,_,rfl,_,rfl,o,p,d,a,x,T,W,0,0,rfl,hB,by decide,s1 _ _ ha,hx.same s1,tw,λ ps H2 hps hB2 kp2=>g1 _ _ ?_⟩;clear g1;have s2:Same H H2:=λ c o e=>kp2 _ _ (s1 _ _ e) (ag e np) (ag e nd0)
  obtain⟨dx2,r2,k2,hp2⟩:=hB2.ob;refine⟨_,rfl,p,dx2,_,rfl,hp2,cA _ _ _ (by decide+kernel) (by decide+kernel) (by decide+kernel),p,d,_,_,rfl,hB2,?_⟩;rw [A9];exact k ps _ hps s2
structure WC (K:PySem.W.Frag)(mg:Str->Option Value)(C CW:Addr):Prop where
 cl:Cls K C
 mkb:MkB K C
 ha:PySem.W.findIn K (.ref C) "__class__"=some (some (.builtin "object.__class__"))
 hm:PySem.W.mroIn K C (.type "object")=some true
 cost:∃f fd,Me K C "cost" "Way.cost" g7 ["self","text","before"] f fd
 i0:PySem.W.kitOne K (.ref C) (.ref CW)=some true
structure Raw (K:PySem.W.Frag)(mg:Str->Option Value)(C CW:Addr):Prop where
 W:WC K mg C CW
 m:mg "RawWay"=some (.ref C)
 num:∃f fd,Me K C "number" "RawWay.number" df ["self"] f fd
 tell:∃f fd,Me K C "tell" "RawWay.tell" fg ["self","bits","text","before"] f fd
 read:∃f fd,Me K C "read" "RawWay.read" fb ["self","reader","count","before"] f fd
structure Run (K:PySem.W.Frag)(mg:Str->Option Value)(C CW:Addr):Prop where
 W:WC K mg C CW
 m:mg "RunWay"=some (.ref C)
 num:∃f fd,Me K C "number" "RunWay.number" c9 ["self"] f fd
 tell:∃f fd,Me K C "tell" "RunWay.tell" eJ ["self","bits","text","before"] f fd
 read:∃f fd,Me K C "read" "RunWay.read" fE ["self","reader","count","before"] f fd
structure Cpy (K:PySem.W.Frag)(mg:Str->Option Value)(C CW:Addr):Prop where
 W:WC K mg C CW
 m:mg "CopyWay"=some (.ref C)
 num:∃f fd,Me K C "number" "CopyWay.number" cI ["self"] f fd
 tell:∃f fd,Me K C "tell" "CopyWay.tell" dG ["self","bits","text","before"] f fd
 read:∃f fd,Me K C "read" "CopyWay.read" dF ["self","reader","count","before"] f fd
structure Shr (K:PySem.W.Frag)(mg:Str->Option Value)(C CW:Addr):Prop where
 W:WC K mg C CW
 m:mg "ShareWay"=some (.ref C)
 num:∃f fd,Me K C "number" "ShareWay.number" dS ["self"] f fd
 tell:∃f fd,Me K C "tell" "ShareWay.tell" gm ["self","bits","text","before"] f fd
 read:∃f fd,Me K C "read" "ShareWay.read" gz ["self","reader","count","before"] f fd
theorem oM {k:Nat}{ps:List Str}(F:FnOk P w K mg base CX0 k f fd ps sp)
  (h:∀(o p d a:Addr) (x:V) (T W:List Nat) (N T0:Nat) (H:Hp) (Q:VK) (E:XK),BitsAt B H p d N T0->T0≤1000->H a=some (.lst (T.map vN))->WinV H x W->TW T W->
   (∀(ps:List (Nat×Nat)) (H':Hp),PtOf u W T ps->BitsAt B H' p d (nums ps N) (T0+tots ps)->(∀c o,H c=some o->c≠p->c≠d->H' c=some o)->Q .non H')->sp [.ref o,.ref p,.ref a,x] H Q E):FnOk P w K mg base CX0 k f fd ps (spT u B):=by
 refine F.weak λ vs H Q E z=>?_
 obtain⟨o,p,d,a,x,T,W,N,T0,rfl,hB,h0,ha,hx,t,k⟩:=z;exact h o p d a x T W N T0 H Q E hB h0 ha hx t k
theorem nD {k:Nat}{ps:List Str}(F:FnOk P w K mg base CX0 k f fd ps sp)
  (h:∀(o r d:Addr) (x:V) (R:List Nat) (pre post ps:List (Nat×Nat)) (W T:List Nat) (H:Hp) (Q:VK) (E:XK),WinV H x W->ReadAt D H r d R (tots pre)->RdOf R (pre++ps++post)->PtOf u W T ps->TW T W->
   (∀l H',H l=none->H' l=some (.lst (T.map vN))->ReadAt D H' r d R (tots (pre++ps))->(∀c o,H c=some o->c≠r->H' c=some o)->Q (.ref l) H')->sp [.ref o,.ref r,vN T.length,x] H Q E):FnOk P w K mg base CX0 k f fd ps (spR u D):=by
 refine F.weak λ vs H Q E z=>?_
 obtain⟨o,r,d,x,R,pre,post,ps,W,T,rfl,hx,hR,hrd,hp,t,k⟩:=z;exact h o r d x R pre post ps W T H Q E hx hR hrd hp t k
theorem xK (R0:Raw K mg C CW)(S0:Shw K mg B D G):WayOk P w K mg base B D C 0:=by
 obtain⟨_,_,N⟩:=R0.num;obtain⟨_,_,T⟩:=R0.tell;obtain⟨_,_,R⟩:=R0.read;obtain⟨_,_,Co⟩:=R0.W.cost;have GT:FnOk P w K mg base CX0 35 _ _ ["self","bits","text","before"] (spT 0 B):=oM ((mK (P:=P) (w:=w) (base:=base) T.F S0.Y S0.Zb).mono (k:=35) (by decide)) λ o p d a x T W N T0 H Q E hB h0 ha hx t k=>
  ⟨o,p,d,a,x,T,W,N,T0,rfl,hB,h0,ha,t.tb,t.one,t.le,hx,t.wb,t.wl,λ H'=>k _ H' rfl⟩
 exact⟨R0.W.cl,⟨_,_,N.m,N.b,jR N.F⟩,⟨_,_,T.m,T.b,GT⟩,
  ⟨_,_,R.m,R.b,nD ((mw (P:=P) (w:=w) (base:=base) R.F S0.Cd.Z).mono (k:=37) (by decide)) λ o r d x R pre post ps W T H Q E hx hR hrd hp t k=>by
   have hp:ps=pf false T:=hp;subst hp;exact⟨o,r,d,x,R,pre,post,T,rfl,hR,hrd,t.one,t.le,t.tb,k⟩⟩,⟨_,_,Co.m,Co.b,gp Co.F S0.Zb R0.W.cl T.m T.b GT⟩⟩
theorem xA (R0:Run K mg C CW)(S0:Shw K mg B D G){fR:Addr}{fdR:FuncData}(Ro:Fn K mg "runs_of" dJ ["signs"] fR fdR):WayOk P w K mg base B D C 1:=by
 obtain⟨_,_,N⟩:=R0.num;obtain⟨_,_,T⟩:=R0.tell;obtain⟨_,_,R⟩:=R0.read;obtain⟨_,_,Co⟩:=R0.W.cost;have GT:FnOk P w K mg base CX0 35 _ _ ["self","bits","text","before"] (spT 1 B):=oM ((mW (P:=P) (w:=w) (base:=base) T.F Ro S0.Y S0.Zb).mono (k:=35) (by decide)) λ o p d a x T W N T0 H Q E hB h0 ha hx t k=>
  ⟨o,p,d,a,x,T,W,N,T0,rfl,hB,h0,ha,t.tb,t.one,t.le,hx,t.wb,t.wl,λ H'=>k _ H' rfl⟩
 exact⟨R0.W.cl,⟨_,_,N.m,N.b,jv N.F⟩,⟨_,_,T.m,T.b,GT⟩,
  ⟨_,_,R.m,R.b,nD ((mv (P:=P) (w:=w) (base:=base) R.F S0.Y S0.Cd.Z).mono (k:=37) (by decide)) λ o r d x R pre post ps W T H Q E hx hR hrd hp t k=>by
   have hp:ps=pf true T:=hp;subst hp;exact⟨o,r,d,x,R,pre,post,T,rfl,hR,hrd,t.one,t.le,t.tb,k⟩⟩,⟨_,_,Co.m,Co.b,gp Co.F S0.Zb R0.W.cl T.m T.b GT⟩⟩
theorem xk (R0:Cpy K mg C CW)(S0:Shw K mg B D G):WayOk P w K mg base B D C 2:=by
 obtain⟨_,_,N⟩:=R0.num;obtain⟨_,_,T⟩:=R0.tell;obtain⟨_,_,R⟩:=R0.read;obtain⟨_,_,Co⟩:=R0.W.cost;have GT:FnOk P w K mg base CX0 35 _ _ ["self","bits","text","before"] (spT 2 B):=oM ((qh (P:=P) (w:=w) (base:=base) T.F S0.Y S0.Zb).mono (k:=35) (by decide)) λ o p d a x T W N T0 H Q E hB h0 ha hx t k=>by
  obtain⟨Pp,hw⟩:=fr W T;exact⟨o,p,d,a,x,T,W,Pp,N,T0,rfl,hB,h0,ha,t.tb,t.one,t.le,hx,t.wb,t.wl,hw,λ H'=>k _ H' ⟨Pp,hw,rfl⟩⟩
 exact⟨R0.W.cl,⟨_,_,N.m,N.b,sA N.F⟩,⟨_,_,T.m,T.b,GT⟩,
  ⟨_,_,R.m,R.b,nD ((qH (P:=P) (w:=w) (base:=base) R.F S0.Y S0.Cd.Z).mono (k:=37) (by decide)) λ o r d x R pre post ps W T H Q E hx hR hrd hp t k=>by
   obtain⟨Pp,hw,hp⟩:=hp;subst hp;obtain⟨gr,hrun,_⟩:=cR t.wb t.tb hw;exact⟨o,r,d,x,R,pre,post,W,T,Pp,rfl,hx,hR,hrd,gr,hrun,t.le,t.wl,k⟩⟩,⟨_,_,Co.m,Co.b,gp Co.F S0.Zb R0.W.cl T.m T.b GT⟩⟩
theorem xM (R0:Shr K mg C CW)(S0:Shw K mg B D G):WayOk P w K mg base B D C 3:=by
 obtain⟨_,_,N⟩:=R0.num;obtain⟨_,_,T⟩:=R0.tell;obtain⟨_,_,R⟩:=R0.read;obtain⟨_,_,Co⟩:=R0.W.cost;have GT:FnOk P w K mg base CX0 35 _ _ ["self","bits","text","before"] (spT 3 B):=oM (qz (P:=P) (w:=w) (base:=base) T.F S0) λ o p d a x T W N T0 H Q E hB h0 ha hx t k=>by
  obtain⟨Pp,hw⟩:=fr W T;exact⟨o,p,d,a,x,T,W,Pp,N,T0,rfl,hB,h0,ha,t.tb,t.one,t.le,hx,t.wb,t.wl,hw,λ L It b H' sl wi=>k _ H' ⟨Pp,L,It,b,hw,sl,wi,rfl⟩⟩
 exact⟨R0.W.cl,⟨_,_,N.m,N.b,rg N.F⟩,⟨_,_,T.m,T.b,GT⟩,
  ⟨_,_,R.m,R.b,nD (pM (P:=P) (w:=w) (base:=base) R.F S0) λ o r d x R pre post ps W T H Q E hx hR hrd hp t k=>by
   obtain⟨Pp,L,It,b,hw,sl,wi,hp⟩:=hp;subst hp;obtain⟨gr,hrun,hPl,hP1,tok,hIt,hdec⟩:=kH t hw sl wi;exact⟨o,r,d,x,R,pre,post,W,T,Pp,It,L,rfl,hx,hR,hrd,hIt,hdec,tok,gr,hrun,t.le,t.wl,k⟩⟩,⟨_,_,Co.m,Co.b,gp Co.F S0.Zb R0.W.cl T.m T.b GT⟩⟩
end
noncomputable def cst (u:Nat) (W T:List Nat):Nat:=open Classical in if h:∃ps,PtOf u W T ps then tots h.choose else 0
theorem ij (h:PtOf u W T ps):cst u W T=tots ps:=by
 have e:∃ps,PtOf u W T ps:=⟨ps,h⟩;unfold cst;rw [dif_pos e,PtOf.uniq e.choose_spec h]
theorem gx4 {i:Nat}(hi:i<4):([.ref (os 0),.ref (os 1),.ref (os 2),.ref (os 3)]:List V)[i]?=some (.ref (os i)):=by
 rcases i with _|_|_|_|i
 all_goals first|rfl|lia
theorem ix4 {i:Nat}{v:V}(e:([.ref (os 0),.ref (os 1),.ref (os 2),.ref (os 3)]:List V)[i]?=some v):i<4/\v=.ref (os i):=by
 have hi:i<4:=(zz.mp e).1;rw [gx4 hi] at e;exact⟨hi,(zS e).symm⟩
def cs (C0 C1 C2 C3:Addr):Nat->Addr
 |0=>C0
 |1=>C1
 |2=>C2
 |_=>C3
structure Wal (K:PySem.W.Frag)(mg:Str->Option Value)(B D C CW C0 C1 C2 C3:Addr):Prop where
 S0:Shw K mg B D C
 runsof:∃f fd,Fn K mg "runs_of" dJ ["signs"] f fd
 raw:Raw K mg C0 CW
 run:Run K mg C1 CW
 cpy:Cpy K mg C2 CW
 shr:Shr K mg C3 CW
 ways:∃f fd,Fn K mg "ways" o7 [] f fd
section
variable {P : Program} {w : World} {K : PySem.W.Frag} {mg : Str -> Option Value} {base : Heap} {B D G CW C0 C1 C2 C3 : Addr}
theorem Wal.ok (Z:Wal K mg B D G CW C0 C1 C2 C3){i:Nat}(hi:i<4):WayOk P w K mg base B D (cs C0 C1 C2 C3 i) i:=by
 obtain⟨_,_,Ro⟩:=Z.runsof
 match i,hi with
 |0,_=>exact xK Z.raw Z.S0
 |1,_=>exact xA Z.run Z.S0 Ro
 |2,_=>exact xk Z.cpy Z.S0
 |3,_=>exact xM Z.shr Z.S0
theorem dR {p d:Addr}(np:H p=none)(nd:H d=none):Same H (upd (upd H d (.own p)) p (.ins C d [])):=λ c o e=>by
 rw [upd_ne (ag e np),upd_ne (ag e nd)];exact e
def xf (C:Nat->Addr):Sp:=λ vs H Q _=>vs=[]/\∀(l:Addr) (os ds:Nat->Addr) (H':Hp),H l=none->(∀i,i<4->H (os i)=none)->H' l=some (.lst [.ref (os 0),.ref (os 1),.ref (os 2),.ref (os 3)])->(∀i,i<4->H' (os i)=some (.ins (C i) (ds i) []))->Same H H'->Q (.ref l) H'
abbrev yt:List Str:=[]
theorem xo:FnScope yt [] (defScope o7):=scK (by decide+kernel)
theorem jJ (F:Fun K "ways" "ways" o7 f fd)(Z:Wal K mg B D G CW C0 C1 C2 C3):FnOk P w K mg base CX0 1 f fd [] (xf (cs C0 C1 C2 C3)):=by
 refine F.ok xo (λ vs H Q E h=>?_) (λ cdv A outer st H vs Q E hr h=>?_)
 ·obtain⟨rfl,_⟩:=h;rfl
 ·obtain⟨rfl,k⟩:=h;refine⟨_,af (az (aW (aa (eV Z.raw.W.mkb (by rfl) Z.raw.m) (aa (eV Z.run.W.mkb (by rfl) Z.run.m) (aa (eV Z.cpy.W.mkb (by rfl) Z.cpy.m) (aa (eV Z.shr.W.mkb (by rfl) Z.shr.m) ad)))))),?_⟩;intro p0 d0 n0 m0 e0 p1 d1 n1 m1 e1 p2 d2 n2 m2 e2 p3 d3 n3 m3 e3;have s0:=dR (C:=C0) n0 m0;have g0:(upd (upd H d0 (.own p0)) p0 (.ins C0 d0 [])) p0=_:=upd_same;generalize upd (upd H d0 (.own p0)) p0 (.ins C0 d0 [])=H1 at*;have s1:=dR (C:=C1) n1 m1;have g1:(upd (upd H1 d1 (.own p1)) p1 (.ins C1 d1 [])) p1=_:=upd_same;generalize upd (upd H1 d1 (.own p1)) p1 (.ins C1 d1 [])=H2 at*;have s2:=dR (C:=C2) n2 m2;have g2:(upd (upd H2 d2 (.own p2)) p2 (.ins C2 d2 [])) p2=_:=upd_same;generalize upd (upd H2 d2 (.own p2)) p2 (.ins C2 d2 [])=H3 at*;have s3:=dR (C:=C3) n3 m3;have g3:(upd (upd H3 d3 (.own p3)) p3 (.ins C3 d3 [])) p3=_:=upd_same;generalize upd (upd H3 d3 (.own p3)) p3 (.ins C3 d3 [])=H4 at*;have s02:Same H H2:=λ c o e=>s1 _ _ (s0 _ _ e)
  have s03:Same H H3:=λ c o e=>s2 _ _ (s02 _ _ e)
  have s04:Same H H4:=λ c o e=>s3 _ _ (s03 _ _ e)
  have s14:Same H1 H4:=λ c o e=>s3 _ _ (s2 _ _ (s1 _ _ e))
  have s24:Same H2 H4:=λ c o e=>s3 _ _ (s2 _ _ e)
  refine⟨by show(4:Nat)≤sizeLine;decide,λ l nl=>?_⟩;have s5:Same H4 (upd H4 l (.lst [.ref p0,.ref p1,.ref p2,.ref p3])):=λ c o e=>(upd_ne (ag e nl)).trans e
  refine k l (cs p0 p1 p2 p3) (cs d0 d1 d2 d3) _ (none_of s04 nl) (λ i hi=>?_) upd_same (λ i hi=>?_) (λ c o e=>s5 _ _ (s04 _ _ e))
  ·match i,hi with
   |0,_=>exact n0
   |1,_=>exact none_of s0 n1
   |2,_=>exact none_of s02 n2
   |3,_=>exact none_of s03 n3
  ·match i,hi with
   |0,_=>exact s5 _ _ (s14 _ _ g0)
   |1,_=>exact s5 _ _ (s24 _ _ g1)
   |2,_=>exact s5 _ _ (s3 _ _ g2)
   |3,_=>exact s5 _ _ g3
theorem lookup_two {y z:Str}{b:Addr}(h:List.lookup x [(y,a),(z,b)]=some c):(x=y/\c=a)\/(x=z/\c=b):=by
 unfold List.lookup at h
 split at h
 ·rename_i e
  cases h;exact .inl ⟨by simpa using e,rfl⟩
 ·unfold List.lookup at h
  split at h
  ·rename_i e
   cases h;exact .inr ⟨by simpa using e,rfl⟩
  ·cases h
structure FunC (K:PySem.W.Frag)(x qual:Str)(st:Stmt)(dV:Value)(c f:Addr)(fd:FuncData):Prop where
 ex:∃(oc:Value) (od:Option Addr) (kV doc pm:Value) (an:Option Addr) (ct:Value) (osl:Array (Option Value)),
  fd=PySem.W.fnOf x qual (defArgs st) (defBody st) (defScope st) dV kV doc pm an (.ref c) ct/\K.lookup f=some ⟨oc,od,.func fd,osl⟩/\PySem.W.codeIn K (.ref c) qual=true
 kp:PySem.W.keepIn K (.ref f)=true
theorem FunC.ok {qual:Str}{st:Stmt}{N ps:List Str}{k:Nat}(F:FunC K x qual st dV c f fd)(S:FnScope N ps (defScope st))(len:∀vs H Q E,sp vs H Q E->vs.length=ps.length)
  (hb:∀(A:Around) (outer:List Env) (s:Shared) (H:Hp) (vs:List V) (Q:VK) (E:XK),Room k (A.deeper (PyProof.Rows.envOfC qual (defScope st) s.heap.objs.size f (.ref c)))->sp vs H Q E->
   ∃t,PSs (cxOf CX0 P w K mg base N qual (defScope st) f (.ref c) A outer s H E).nox (defBody st) t/\t {nx:=λ _ H'=>Q .non H',rt:=Q} (start N vs) H):FnOk P w K mg base CX0 (k+1) f fd ps sp:=by
 obtain⟨oc,od,kV,doc,pm,an,ct,osl,rfl,lk,hcd⟩:=F.ex;refine sP lk hcd S len λ A outer s H vs Q E hr hsp=>?_
 obtain⟨t,h,q⟩:=hb A outer s H vs Q E hr hsp;exact⟨t,h.nox,q⟩
def wA:Pos:=match defBody sBestWay with
 | [.Return (some (.Call _ _ [⟨_,.Lambda _ _ _ p,_⟩] _)) _]=>p
 |_=>default
abbrev TbB (Tb:Addr)(H:Hp):Prop:=TbOk Tb wA ("best_way.<locals>."++"<lambda>") H
theorem _root_.L2.TbOk.ne {o:HO}(h:TbOk Tb p q H)(e:H a=some o)(hn:∀ps,o≠ .tbl ps):a≠Tb:=by
 rintro rfl;obtain⟨ps,e',_⟩:=h;rw [e] at e';exact hn ps (zS e')
theorem _root_.L2.TbOk.sq {xs:List V}(h:TbOk Tb p q H)(hK:K.lookup Tb=none)(e:SqL K H a xs):a≠Tb:=by
 rcases e with(e|⟨o,e⟩)|⟨o,its,n,e,_⟩
 ·exact h.ne e (by intro ps z;cases z)
 ·exact h.ne e (by intro ps z;cases z)
 ·rintro rfl;rw [hK] at e;cases e
theorem WinV.sameT {H':Hp}{x:V}(h:WinV H x W)(t:TbB Tb H)(s:SameT Tb H H'):WinV H' x W:=by
 rcases h with h|⟨a,e,h⟩
 ·exact .inl h
 ·exact .inr ⟨a,e,s _ _ (t.ne h (by intro ps z;cases z)) h⟩
def qG (Tb:Addr)(C:Nat->Addr):Sp:=λ vs H Q _=>∃(a:Addr) (x:V) (T W:List Nat),vs=[.ref a,x]/\H a=some (.lst (T.map vN))/\WinV H x W/\TW T W/\TbB Tb H/\
 ∀(i:Nat) (o dx:Addr) (H':Hp),i<4->H o=none->H' o=some (.ins (C i) dx [])->(∀j,j<4->cst i W T≤cst j W T/\(j<i->cst i W T<cst j W T))->SameT Tb H H'->TbB Tb H'->Q (.ref o) H'
abbrev yH:List Str:=["text","before"]
theorem xj:FnScope yH ["text","before"] (defScope sBestWay):=scK (by decide+kernel)
theorem ur (F:FunC K "best_way" "best_way" sBestWay dV c f fd)(Z:Wal K mg B D G CW C0 C1 C2 C3)(hm:mg "min"=none)(hC:PySem.W.CodeHd base c Tb)(hB:BmAt mg base)(hK:K.lookup Tb=none):
  FnOk P w K mg base CX0 39 f fd ["text","before"] (qG Tb (cs C0 C1 C2 C3)):=by
 obtain⟨_,_,Wy⟩:=Z.ways;have GW:=jJ (P:=P) (w:=w) (base:=base) Wy.F Z;refine F.ok xj (λ vs H Q E h=>?_) (λ A outer st H vs Q E hr h=>?_)
 ·obtain⟨a,x,T,W,rfl,_⟩:=h;rfl
 ·obtain⟨a,x,T,W,rfl,ha,hx,tw,hT,k⟩:=h;have hr1:Room 1 _:=hr.mono (by decide);have hn:=hr.hd (by decide);refine⟨_,af (az (uV (k:=36) (y:="way") (Nc:=["text","before"]) (js:=[0,1]) (cl:=[("text",st.heap.objs.size+1),("before",st.heap.objs.size+1+1)]) (P:=Tb) (c:=c) hn hr (by rfl) hm
   ⟨rfl,rfl,rfl,by decide+kernel,rfl,by rfl,λ x c h=>?c0,λ x hx=>?c1,rfl,λ i x j h1 h2=>?c2⟩ rfl hC hB (by rfl) (λ pm cd ct u=>by rfl)
   (λ f' c' s H=>kS (P:=P) (w:=w) (K:=K) (mg:=mg) (base:=base) (k:=36) rfl rfl rfl rfl rfl (pv 0) (hr.in1.deeper _) (aa (pv 1) (aa (pv 2) ad)))
   (aa (im GW hr1 (by rfl) Wy.m Wy.F.kp Wy.b .nil ao) ad))),?_⟩
  case c0=>
   rcases lookup_two h with⟨rfl,rfl⟩|⟨rfl,rfl⟩<;>rfl
  case c1=>
   rcases hx with hx|hx
   ·have m':(x,NameKind.cell)∈([("way",.local),("before",.free),("text",.free)]:List (Str×NameKind)):=Ar hx;simp at m'
   ·have m':(x,NameKind.free)∈([("way",.local),("before",.free),("text",.free)]:List (Str×NameKind)):=Ar hx;have e:x="before"\/x="text":=by simpa using m'
    rcases e with rfl|rfl<;>exact⟨_,rfl⟩
  case c2=>rcases slotsL h1 h2 with⟨rfl,rfl⟩|⟨rfl,rfl⟩<;>exact⟨rfl,rfl,rfl,λ c h=>h⟩
  refine⟨rfl,λ l os ds H1 nl no hl ho s1=>⟨l,_,λ i=>((cst i W T:Nat):Int),rfl,.inl (.inl hl),Nat.zero_lt_succ _,hT.same s1,λ c xs h=>(hT.same s1).sq hK h,λ H2 sT hT2=>?_⟩⟩;have hT1:=hT.same s1;have ho2:∀i,i<4->H2 (os i)=some (.ins (cs C0 C1 C2 C3 i) (ds i) []):=λ i hi=>sT _ _ (hT1.ne (ho i hi) (by intro ps z;cases z)) (ho i hi)
  refine⟨λ i v H' hv sm=>?_,λ i v H' hv hmin sm=>?_⟩
  ·obtain⟨hi,rfl⟩:=ix4 hv;have WK:=Z.ok (P:=P) (w:=w) (base:=base) hi;obtain⟨fc,fdc,mc,bc,Gc⟩:=WK.cost;refine⟨_,rfl,os i,_,ds i,[],fc,fdc,_,_,rfl,sm _ _ (ho2 i hi),rfl,WK.cl,mc,Gc,bc,_,rfl,_,rfl,os i,ds i,a,x,T,W,rfl,sm _ _ (ho2 i hi),sm _ _ (sT _ _ (hT1.ne (s1 _ _ ha) (by intro ps z;cases z)) (s1 _ _ ha)),((hx.same s1).sameT hT1 sT).same sm,tw,λ ps H'' hps sm2=>⟨?_,sm2⟩⟩;show vN (tots ps)=vN (cst i W T);rw [ij hps]
  ·obtain⟨hi,rfl⟩:=ix4 hv;refine k i (os i) (ds i) H' hi (no i hi) (sm _ _ (ho2 i hi)) (λ j hj=>?_) (λ c o n e=>sm _ _ (sT _ _ n (s1 _ _ e))) (hT2.same sm);obtain⟨z1,z2⟩:=hmin j hj;exact⟨Int.ofNat_le.mp z1,λ hji=>Int.ofNat_lt.mp (z2 hji)⟩
end
abbrev eI:Stmt:=top 81
abbrev fJ:Stmt:=top 82
abbrev gY:Stmt:=top 83
abbrev gG:Stmt:=top 84
theorem uU (a:Nat)(c:Int):∃v:Nat,(v=0\/v=a)/\atI [V.int 0,vN a,vN a,V.int 0] (c%4)=some (vN v):=by
 obtain⟨z,hz,ez⟩:∃z:Nat,z<4/\c%4=(z:Int):=⟨(c%4).toNat,by lia,by lia⟩;rw [ez]
 match z,hz with
 |0,_=>exact⟨0,.inl rfl,ay rfl⟩
 |1,_=>exact⟨a,.inr rfl,ay rfl⟩
 |2,_=>exact⟨a,.inr rfl,ay rfl⟩
 |3,_=>exact⟨0,.inl rfl,ay rfl⟩
theorem vB {S:List Nat}(h:S≠ []):∃b∈S,atI (S.map vN) (-1)=some (vN b):=by
 have hl:0<S.length:=List.length_pos_iff.mpr h;have hl2:S.length-1<S.length:=by lia
 refine⟨S[S.length-1],Ay _,?_⟩;exact oQ (b:=1) (by decide) (by rw [zr];lia) (by rw [zr];exact bi hl2)
section
variable {P : Program} {w : World} {K : PySem.W.Frag} {mg : Str -> Option Value} {base : Heap} {C : Addr}
def um (C:Addr):Sp:=λ vs H Q _=>∃(p d:Addr) (R:List Nat) (t:Nat),vs=[.ref p]/\ReadAt C H p d R t/\∀H',Same H H'->Q (.bl (decide (8*R.length-t<8)&&decide (BP.val R%2^(8*R.length-t)=0))) H'
theorem scAtEnd:FnScope ["self","left"] ["self"] (defScope jW):=scK (by decide+kernel)
theorem qW {fB fO fL:Addr}{fdB fdO fdL:FuncData}(F:Fun K "at_end" "BitReader.at_end" jW f fd)
  (B:Fn K mg "bits_at" c6 ["row","place","size"] fB fdB) (O:Fn K mg "ones" dC ["size"] fO fdO) (L:Me K C "left" "BitReader.left" ig ["self"] fL fdL) (T:CRd K mg C) (X:Txt K mg):
  FnOk P w K mg base CX0 3 f fd ["self"] (um C):=by
 have GB:FnOk P w K mg base CX0 2 fB fdB ["row","place","size"] iI:=i4 B O X;have GL:FnOk P w K mg base CX0 1 fL fdL ["self"] (spLeft C):=jq L.F T X;refine F.ok scAtEnd (λ vs H Q E h=>?_) (λ cdv A outer st H vs Q E hr h=>?_)
 ·obtain⟨p,d,R,t,rfl,_⟩:=h;rfl
 ·obtain⟨p,d,R,t,rfl,S0,q⟩:=h;obtain⟨⟨dx,hp⟩,hd,hb,ht⟩:=id S0;have hr1:Room 1 _:=hr.mono (by decide);refine⟨_,ac (ak (i:=1) scAtEnd.nd rfl (Or.inl rfl) (bh (pv 0) T.cl L.m GL hr1 L.b .nil ao))
   (af (az (eC (cQ du (pv 1) ae (ax _)) (fF (cQ bj (am GB hr (by rfl) B.m B.F.kp B.b .nil ao (aa (aR (pv 0) rfl) (aa (aR (pv 0) rfl) (aa (pv 1) ad)))) ae (ax _)))))),?_⟩
  refine⟨_,rfl,p,dx,_,rfl,hp,cJ _ _ (by decide+kernel) (by decide+kernel),p,d,R,t,rfl,S0,?_⟩;refine⟨_,rfl,_,_,rfl,rfl,_,rfl,?_⟩;by_cases h8:8*R.length-t<8
  rotate_left
  ·have e0:decide (((8*R.length-t:Nat):Int)<8)=false:=AC (by lia)
   try dsimp only
   rw [e0];rw [AC h8,Ee] at q;exact bz (q _ (Same.refl _))
  have e0:decide (((8*R.length-t:Nat):Int)<8)=true:=zw (by lia)
  try dsimp only
  rw [e0];rw [zw h8,Bool.true_and] at q;refine iA ?_;refine⟨_,rfl,p,C,dx,_,_,rfl,hp,T.cl,T.nH,fw _ _,_,rfl,p,C,dx,_,_,rfl,hp,T.cl,T.nT,dD _ _,_,rfl,d,R,t,8*R.length-t,rfl,hd,hb,by lia,by lia,λ H1 sm=>?_⟩;have e1:8*R.length-(t+(8*R.length-t))=0:=by lia
  try dsimp only
  rw [e1,Nat.pow_zero,Nat.div_one];refine⟨rfl,?_⟩;have e2:decide (vN (BP.val R%2^(8*R.length-t))=V.int 0)=decide (BP.val R%2^(8*R.length-t)=0):=by
   by_cases h0:BP.val R%2^(8*R.length-t)=0
   ·rw [zw h0,zw (by rw [h0];rfl)]
   ·rw [AC h0,AC (λ z=>h0 (by have:=V.int.inj z;lia))]
  rw [e2];exact q H1 sm
def xz (K:PySem.W.Frag):Sp:=λ vs H Q _=>∃(a:Addr) (ns:List Int) (k:Nat),vs=[.ref a,vN k]/\SqL K H a (ns.map V.int)/\Q (.int (ns.getD k 0)) H
theorem wZ:FnScope ["_law_script","_law_k"] ["_law_script","_law_k"] (defScope eI):=scK (by decide+kernel)
theorem oW (F:Fn K mg "_law_cell_at" eI ["_law_script","_law_k"] f fd)(X:Txt K mg):FnOk P w K mg base CX0 1 f fd ["_law_script","_law_k"] (xz K):=by
 refine F.F.ok wZ (λ vs H Q E h=>?_) (λ cdv A outer st H vs Q E hr h=>?_)
 ·obtain⟨a,ns,k,rfl,_⟩:=h;rfl
 ·obtain⟨a,ns,k,rfl,hS,q⟩:=h;refine⟨_,ac (aK (ar du (pv 1) (aq ap (by rfl) X.len zO (aa (pv 0) ad)) (ax _)) (af (az (aM aP (pv 0) (pv 1) (λ _ _=>rfl)))) aC)
   (af (az ae)),?_⟩
  refine⟨_,rfl,_,rfl,a,_,rfl,.inl hS,_,_,rfl,rfl,_,rfl,?_⟩;refine aL (λ h1=>?_) (λ h1=>?_)
  ·have h2:k<ns.length:=by have:=zA h1;rw [zr] at this;lia
   refine⟨_,rfl,_,rfl,a,_,_,V.int (ns.getD k 0),rfl,rfl,hS,ay ?_,q⟩;rw [AA,zu h2,Ab,zu h2];rfl
  ·have h1':decide ((k:Int)<((ns.map V.int).length:Int))≠true:=h1;have h2:ns.length≤k:=by
    rw [zr] at h1';by_cases h:(k:Int)<(ns.length:Int)
    ·exact absurd (zw h) h1'
    ·lia
   try dsimp only
   rw [Ab,AD h2] at q;exact q
def pq:Sp:=λ vs H Q _=>∃(c:Int) (k:Nat),vs=[.int c,vN k]/\k≤1000/\∀v:Nat,Q (vN v) H
theorem scDrawn:FnScope ["_law_seed","_law_k","_law_mixed"] ["_law_seed","_law_k"] (defScope fJ):=scK (by decide+kernel)
theorem tF (F:Fn K mg "_law_drawn" fJ ["_law_seed","_law_k"] f fd):FnOk P w K mg base CX0 1 f fd ["_law_seed","_law_k"] pq:=by
 refine F.F.ok scDrawn (λ vs H Q E h=>?_) (λ cdv A outer st H vs Q E hr h=>?_)
 ·obtain⟨c,k,rfl,_⟩:=h;rfl
 ·obtain⟨c,k,rfl,hk,q⟩:=h;refine⟨_,ac (ak (i:=2) scDrawn.nd rfl (Or.inl rfl) (aj aZ (aj cf (aj aE (aj aE (aj aE (pv 0) (aj cf (aj cf ae (pv 1)) (pv 1))) (aj cf ae (pv 1))) ae) ae) ae))
   (af (az (aj a9 (aj aZ (aj cf (aj aE (aj a9 (pv 2) ae) (pv 1)) ae) ae) ae))),?_⟩
  refine seq_g λ R1 g1=>?_
  refine⟨_,rfl,_,rfl,_,_,rfl,rfl,.inl ⟨by decide,by decide⟩,_,rfl,_,_,rfl,rfl,.inr ⟨by lia,by lia⟩,_,_,rfl,rfl,_,rfl,_,_,rfl,rfl,.inl ⟨by decide,by decide⟩,_,_,rfl,rfl,_,_,rfl,rfl,?_⟩;refine⟨_,_,rfl,rfl,.inr ⟨by decide,by decide⟩,_,_,rfl,rfl,(by show(0:Int)<2147483647;decide),g1 _ _ ?_⟩;clear g1;obtain⟨m,em⟩:=Int.eq_ofNat_of_zero_le (Int.emod_nonneg ((c+101*((k:Nat):Int)*((k:Nat):Int)+7*((k:Nat):Int)+13)*48271) (show(2147483647:Int)≠0 by decide))
  try dsimp only
  rw [em];refine⟨_,rfl,_,_,rfl,rfl,⟨by decide,by decide⟩,_,rfl,_,_,rfl,rfl,_,_,rfl,rfl,.inr ⟨by decide,by decide⟩,_,_,rfl,rfl,(by show(0:Int)<2147483629;decide),_,_,rfl,rfl,⟨by decide,by decide⟩,?_⟩;obtain⟨v,ev⟩:∃v:Nat,(((m:Nat):Int)/7+((k:Nat):Int))*16807%2147483629/64=((v:Nat):Int):=⟨((((m:Nat):Int)/7+((k:Nat):Int))*16807%2147483629/64).toNat,by lia⟩
  try dsimp only
  rw [ev];exact q v
def uW:Sp:=λ vs H Q _=>∃(c:Int) (s:Nat) (a:Addr) (A:List Nat),vs=[.int c,vN s,.ref a]/\H a=some (.lst (A.map vN))/\(∀b∈A,b<256)/\A.length≤192/\s≤192/\∀(l:Addr) (T:List Nat) (H':Hp),Same H H'->H l=none->H' l=some (.lst (T.map vN))->T.length=s->(∀b∈T,b<256)->Q (.ref l) H'
abbrev w8:List Str:=["_law_cell","_law_size","_law_ahead","_law_found","_law_some","_law_back","_law_k","_law_number","_law_sign"]
theorem scSigns:FnScope w8 ["_law_cell","_law_size","_law_ahead"] (defScope gY):=scK (by decide+kernel)
theorem yW:(["_law_k","_law_cell"]:List Str).Nodup:=by decide+kernel
def qL:TE:=tOp (rI (λ _ j=>0<j) λ i j=>.int (i%j)) (o1 pq [] E0 (gg (eF 1) (gg (tOp (rI0 λ i j=>.int (i+j)) (tC (.int 300)) (eF 0)) jx))) (tC (.int 256))
theorem kQ (F:Fn K mg "_law_signs" gY ["_law_cell","_law_size","_law_ahead"] f fd)(Dr:Fn K mg "_law_drawn" fJ ["_law_seed","_law_k"] fD fdD)(X:Txt K mg):FnOk P w K mg base CX0 31 f fd ["_law_cell","_law_size","_law_ahead"] uW:=by
 have GD:=tF (P:=P) (w:=w) (base:=base) Dr;refine F.F.ok scSigns (λ vs H Q E h=>?_) (λ cdv A outer st H vs Q E hr h=>?_)
 ·obtain⟨c,s,a,A,rfl,_⟩:=h;rfl
 ·obtain⟨c,s,a,A,rfl,ha,hAb,hA,hs,k⟩:=h;have hr1:Room 1 _:=hr.mono (by decide);have hu:=hr.units;refine⟨_,ac (ak (i:=3) scSigns.nd rfl (Or.inl rfl) (aU aN (by rfl) X.list Aq (aa (pv 2) ad)))
   (ac (kP (N:=["_law_k","_law_cell"]) (js:=[none,some 0]) (cl:=[("_law_cell",st.heap.objs.size+1)]) (g:=bf 0) (te:=qL) (i:=4) scSigns.nd rfl (Or.inl rfl) rfl
    ⟨rfl,by decide+kernel,by decide+kernel,by rfl,λ x c h=>(by obtain⟨rfl,rfl⟩:=cy h;rfl),λ x hx=>?c1,rfl,λ i x j h1 h2=>?c2⟩
    (bq (by rfl) X.range (aa (aj aE ae (aj aZ (aj a9 (pv 0) ae) ae)) ad)) (λ fp s H=>aH (i:=0) yW rfl (Or.inl rfl))
    (λ fp s H=>aj aZ (am GD hr1 (by rfl) Dr.m Dr.F.kp Dr.b .nil ao (aa (pv 1) (aa (aj aE ae (pv 0)) ad))) ae) (by rfl))
   (ac (ak (i:=5) scSigns.nd rfl (Or.inl rfl) (aj aE ae (aj aZ (am GD hr1 (by rfl) Dr.m Dr.F.kp Dr.b .nil ao (aa (pv 0) (aa ae ad))) (aq (iN (hr.hd (by decide))) (by rfl) X.max Dt (aa ae (aa (aj aE (aq ap (by rfl) X.len zO (aa (pv 2) ad)) ae) ad))))))
   (ac (bd Aa rfl (bq (by rfl) X.range (aa (pv 1) ad)) (aH (i:=6) scSigns.nd rfl (Or.inl rfl))
    (ac (ak (i:=7) scSigns.nd rfl (Or.inl rfl) (am GD hr1 (by rfl) Dr.m Dr.F.kp Dr.b .nil ao (aa (pv 0) (aa (pv 6) ad))))
    (ac (ak (i:=8) scSigns.nd rfl (Or.inl rfl) (aM aP (pv 4) (aj aZ (pv 7) (aq ap (by rfl) X.len zO (aa (pv 4) ad))) (λ _ _=>rfl)))
    (ac (aK (ar bj (aj aZ (pv 0) ae) ae (ax _)) (af (ak (i:=8) scSigns.nd rfl (Or.inl rfl) (aj aZ (pv 7) ae)))
     (af (aK (PW.pt (f7 (ar bj (aj aZ (pv 0) ae) ae (ax _)) (f7 (ar bQ (aj aZ (aj a9 (pv 7) ae) ae) ae (ax _)) (gn (ar (jC hu) (pv 3) (aW ad) (ax _))))))
      (af (ak (i:=8) scSigns.nd rfl (Or.inl rfl) (aM aP (pv 3) (wn rN ae) (λ _ _=>rfl))))
      (af (aK (PW.pt (f7 (ar bj (aj aZ (pv 0) ae) ae (ax _)) (f7 (ar bQ (aj aZ (aj a9 (pv 7) ae) ae) ae (ax _)) (gn (ar kD (pv 5) (aq ap (by rfl) X.len zO (aa (pv 3) ad)) (ax _))))))
       (af (ak (i:=8) scSigns.nd rfl (Or.inl rfl) (aM aP (pv 3) (aj aY (aq ap (by rfl) X.len zO (aa (pv 3) ad)) (pv 5)) (λ _ _=>rfl)))) aC)))))
    (af (aA (cH Af AG AL a6 (pv 3) (aa (pv 8) ad))))))))
   (af (az (cV dE (pv 3) (cL (aq ap (by rfl) X.len zO (aa (pv 2) ad))) gk)))))),?_⟩
  case c1=>
   rcases hx with hx|hx
   ·have m':(x,NameKind.cell)∈([(".0",.local),("_law_k",.local),("_law_drawn",.globalImplicit),("_law_cell",.cell)]:List (Str×NameKind)):=Ar hx;have e:x="_law_cell":=by simpa using m'
    subst e;exact⟨_,rfl⟩
   ·have m':(x,NameKind.free)∈([(".0",.local),("_law_k",.local),("_law_drawn",.globalImplicit),("_law_cell",.cell)]:List (Str×NameKind)):=Ar hx;simp at m'
  case c2=>
   obtain⟨rfl,rfl⟩:=iy h1 h2;exact⟨rfl,rfl,rfl,λ c h=>h⟩
  refine seq_g λ R1 g1=>?_
  refine⟨_,rfl,a,_,rfl,.inl (SqL.of ha),λ lf nf=>g1 _ _ ?_⟩;clear g1;have s0:=ai (o:=.lst (A.map vN)) nf;have h0f:(upd H lf (.lst (A.map vN))) lf=some (.lst (A.map vN)):=upd_same;generalize upd H lf (.lst (A.map vN))=H0 at*;refine seq_g λ R1 g1=>?_
  obtain⟨n,hn1,hn6,en⟩:∃n:Nat,1≤n/\n≤6/\(1:Int)+c/4%6=((n:Nat):Int):=⟨(1+c/4%6).toNat,by lia,by lia,by lia⟩;refine⟨_,rfl,_,_,rfl,rfl,⟨by decide,by decide⟩,_,_,rfl,rfl,(by show(0:Int)<6;decide),_,_,rfl,rfl,?_⟩
  try dsimp only
  rw [en];refine⟨((n:Nat):Int),rfl,by lia,by lia,λ ls ns=>?_⟩;refine f8 (g:=bf 0) (te:=qL) (lo:=0) (l:=ls) (k:=((n:Nat):Int).toNat)
   (λ p ys σ H2=>∃(v0:Option V) (S:List Nat),σ=[v0,some (.int c)]/\ys=S.map vN/\S.length=p/\(∀b∈S,b<256)/\H2 ls=some (.lst ys)/\Same H0 H2)
   ⟨none,[],rfl,rfl,rfl,(λ _ h=>nomatch h),upd_same,ai ns⟩ ?_ ?_ ?_ ?_
  ·clear g1;rintro p ys σ H2 hp ⟨v0,S,rfl,rfl,hSl,hSb,h2l,sm⟩;have hp6:p<n:=by simpa using hp
   have e2:(300:Int)+((0:Int)+((p:Nat):Int))=((300+p:Nat):Int):=by lia
   refine⟨_,rfl,_,rfl,_,_,rfl,rfl,?_⟩
   try dsimp only
   rw [e2];refine⟨c,300+p,rfl,by lia,λ v=>?_⟩;have e3:((v:Nat):Int)%256=((v%256:Nat):Int):=by lia
   refine⟨_,_,rfl,rfl,(by show(0:Int)<256;decide),?_⟩
   try dsimp only
   rw [e3];refine⟨h2l,aX (by rw [zr];lia),_,S++[v%256],rfl,by rw [zG];rfl,by rw [zv,hSl];rfl,λ b hb=>?_,upd_same,λ c o e=>?_⟩
   ·rcases zI.mp hb with h|h
    ·exact hSb b h
    ·rw [zX.mp h];exact DG _ (by decide)
   ·rw [upd_ne (ag e ns)];exact sm _ _ e
  rotate_left
  ·exact λ x σ H A B h z=>h _ _ z
  ·rintro σ H A B h ⟨v,e1,v2,e2,i,j,e3,e4,c',k',e5,e6,z⟩;refine⟨v,e1,v2,e2,i,j,e3,e4,c',k',e5,e6,λ v=>?_⟩;obtain⟨i2,j2,f1,f2,f3,z⟩:=z v;exact⟨i2,j2,f1,f2,f3,h _ _ z⟩
  rintro ys σ H2 ⟨v0,S,rfl,rfl,hSl,hSb,h2s,sm2⟩;rw [zV] at hSl;refine g1 _ _ ?_;clear g1;have h2f:=sm2 _ _ h0f;have s02:=s0.trans sm2;have ha2:=s02 _ _ ha;have nsf:ls≠lf:=(ag h0f ns).symm;refine seq_g λ R1 g1=>?_
  refine⟨_,rfl,c,400,rfl,by decide,λ v=>⟨_,rfl,a,_,rfl,.inl (SqL.of ha2),_,_,rfl,rfl,_,_,rfl,?_⟩⟩;have emx:(if((A.map vN).length:Int)+9>1 then((A.map vN).length:Int)+9 else 1)=((A.length+9:Nat):Int):=by
   rw [zr,zP (by lia)];lia
  have em:(1:Int)+((v:Nat):Int)%((A.length+9:Nat):Int)=((1+v%(A.length+9):Nat):Int):=by rw [<-Int.natCast_emod];lia
  try dsimp only
  rw [emx];refine⟨_,_,rfl,rfl,(by show(0:Int)<((A.length+9:Nat):Int);lia),_,_,rfl,rfl,g1 _ _ ?_⟩;clear g1
  try dsimp only
  rw [em];have hbk1:1≤1+v%(A.length+9):=by lia
  generalize 1+v%(A.length+9)=bk at*;refine seq_g λ R1 g1=>?_
  refine⟨_,rfl,((s:Nat):Int),rfl,by lia,by lia,bX (D:=⟨_,_,λ _ _=>False,λ _ _=>False⟩) (lo:=0) (n:=((s:Nat):Int).toNat) (λ i σ H3=>∃(v6 v7 v8:Option V) (T:List Nat),σ=[some (.int c),some (vN s),some (.ref a),some (.ref lf),some (.ref ls),some (vN bk),v6,v7,v8]/\T.length=i/\(∀b∈T,b<256)/\H3 lf=some (.lst ((A++T).map vN))/\∀c o,c≠lf->H2 c=some o->H3 c=some o)
   ⟨none,none,none,[],rfl,rfl,(λ _ h=>nomatch h),by rw [Ax];exact h2f,λ _ _ _ e=>e⟩ ?_ ?_⟩
  ·clear g1;rintro i σ H3 hi ⟨v6,v7,v8,T,rfl,hTl,hTb,h3f,kp⟩;have his:i<s:=by simpa using hi
   have h3s:=kp _ _ nsf h2s;have e0:(0:Int)+((i:Nat):Int)=((i:Nat):Int):=by lia
   rw [e0];refine seq_g λ R2 g2=>?_
   refine⟨_,rfl,_,rfl,c,i,rfl,by lia,λ m=>g2 _ _ ?_⟩;clear g2;have hb2:∀b∈A++T,b<256:=λ b hb=>by
    rcases zI.mp hb with h|h
    ·exact hAb b h
    ·exact hTb b h
   refine seq_g λ R2 g2=>?_
   have hmS:=DG m (show 0<S.length by lia);refine⟨_,rfl,_,rfl,_,rfl,ls,_,rfl,.inl (SqL.of h3s),_,_,rfl,rfl,(by show(0:Int)<((S.map vN).length:Int);rw [zr];lia),?_⟩;have emm:((m:Nat):Int)%(((S.map vN).length:Nat):Int)=((m%S.length:Nat):Int):=by rw [zr,Int.natCast_emod]
   try dsimp only
   rw [emm];refine⟨ls,_,_,_,rfl,rfl,SqL.of h3s,ay (bi hmS),g2 _ _ ?_⟩;clear g2;have hs0:S[m%S.length]<256:=hSb _ (Ay hmS);generalize S[m%S.length]=sg0 at*;refine seq_g λ R2 g2=>?_
   have J:∀(sg:Nat) (H4:Hp),sg<256->Same H3 H4->R2 [some (.int c),some (vN s),some (.ref a),some (.ref lf),some (.ref ls),some (vN bk),some (vN i),some (vN m),some (vN sg)] H4:=by
    intro sg H4 hsg s34;refine g2 _ _ ?_;have h4f:=s34 _ _ h3f;refine⟨_,rfl,.inl ⟨rfl,_,SqL.of h4f⟩,_,rfl,lf,_,_,rfl,rfl,h4f,aX (by rw [zr,zv];lia),_,_,_,T++[sg],rfl,by rw [zv,hTl];rfl,λ b hb=>?_,?_,λ c o n e=>?_⟩
    ·rcases zI.mp hb with h|h
     ·exact hTb b h
     ·rw [zX.mp h];exact hsg
    ·rw [upd_same,<-zt,zG (l₁:=A++T)];rfl
    ·rw [upd_ne n];exact s34 _ _ (kp _ _ n e)
   clear g2;refine⟨_,rfl,_,_,rfl,rfl,(by show(0:Int)<4;decide),rfl,_,rfl,aL (λ _=>?_) (λ _=>?_)⟩
   ·have e3:((m:Nat):Int)%256=((m%256:Nat):Int):=by lia
    refine⟨_,rfl,_,_,rfl,rfl,(by show(0:Int)<256;decide),?_⟩
    try dsimp only
    rw [e3];exact J _ _ (DG _ (by decide)) (Same.refl _)
   refine⟨_,rfl,_,_,rfl,rfl,(by show(0:Int)<4;decide),rfl,_,rfl,aL (λ _=>?_) (λ _=>bz ?_)⟩
   ·refine⟨_,rfl,_,_,rfl,rfl,⟨by decide,by decide⟩,_,_,rfl,rfl,(by show(0:Int)<5;decide),_,_,rfl,rfl,_,rfl,aL (λ _=>?_) (λ _=>bz ?_)⟩
    ·refine⟨_,rfl,by decide,λ q nq=>?_⟩;have sq:=ai (o:=.lst []) nq;have hqq:(upd H3 q (.lst [])) q=some (.lst (([]:List Int).map V.int)):=upd_same;generalize upd H3 q (.lst [])=H4 at*;refine⟨lf,q,(A++T).map (λ b=>((b:Nat):Int)),[],rfl,rfl,by rw [<-di];exact SqL.of (sq _ _ h3f),SqL.of hqq,_,rfl,aL (λ hne=>?_) (λ _=>?_)⟩
     ·have hne':A++T≠ []:=λ z=>by rw [z] at hne;simp at hne
      obtain⟨b,hb,hat⟩:=vB hne';exact⟨_,rfl,_,rfl,lf,_,_,_,rfl,rfl,SqL.of (sq _ _ h3f),hat,J b _ (hb2 b hb) sq⟩
     ·refine⟨_,rfl,_,_,rfl,rfl,(by show(0:Int)<4;decide),rfl,_,rfl,aL (λ _=>?_) (λ _=>bz (J sg0 _ hs0 sq))⟩;refine⟨_,rfl,_,_,rfl,rfl,⟨by decide,by decide⟩,_,_,rfl,rfl,(by show(0:Int)<9;decide),_,_,rfl,rfl,_,rfl,aL (λ _=>?_) (λ _=>bz (J sg0 _ hs0 sq))⟩;refine⟨_,rfl,_,rfl,lf,_,rfl,.inl (SqL.of (sq _ _ h3f)),_,_,rfl,rfl,_,rfl,aL (λ hb=>?_) (λ _=>J sg0 _ hs0 sq)⟩;have hbl:bk≤(A++T).length:=by
       have:=zA hb;rw [zr] at this;lia
      refine⟨_,rfl,_,rfl,lf,_,rfl,.inl (SqL.of (sq _ _ h3f)),_,rfl,_,_,rfl,rfl,?_⟩;have ei:((((A++T).map vN).length:Nat):Int)-((bk:Nat):Int)=(((A++T).length-bk:Nat):Int):=by rw [zr];lia
      try dsimp only
      rw [ei];exact⟨lf,_,_,_,rfl,rfl,SqL.of (sq _ _ h3f),ay (bi (show(A++T).length-bk<(A++T).length by lia)),J _ _ (hb2 _ (Ay _)) sq⟩
    ·refine⟨_,rfl,_,_,rfl,rfl,(by show(0:Int)<4;decide),rfl,_,rfl,aL (λ _=>?_) (λ _=>bz (J sg0 _ hs0 (Same.refl H3)))⟩;refine⟨_,rfl,_,_,rfl,rfl,⟨by decide,by decide⟩,_,_,rfl,rfl,(by show(0:Int)<9;decide),_,_,rfl,rfl,_,rfl,aL (λ _=>?_) (λ _=>bz (J sg0 _ hs0 (Same.refl H3)))⟩;refine⟨_,rfl,_,rfl,lf,_,rfl,.inl (SqL.of ((Same.refl H3) _ _ h3f)),_,_,rfl,rfl,_,rfl,aL (λ hb=>?_) (λ _=>J sg0 _ hs0 (Same.refl H3))⟩;have hbl:bk≤(A++T).length:=by
      have:=zA hb;rw [zr] at this;lia
     refine⟨_,rfl,_,rfl,lf,_,rfl,.inl (SqL.of ((Same.refl H3) _ _ h3f)),_,rfl,_,_,rfl,rfl,?_⟩;have ei:((((A++T).map vN).length:Nat):Int)-((bk:Nat):Int)=(((A++T).length-bk:Nat):Int):=by rw [zr];lia
     try dsimp only
     rw [ei];exact⟨lf,_,_,_,rfl,rfl,SqL.of ((Same.refl H3) _ _ h3f),ay (bi (show(A++T).length-bk<(A++T).length by lia)),J _ _ (hb2 _ (Ay _)) (Same.refl H3)⟩
   ·refine⟨_,rfl,_,_,rfl,rfl,(by show(0:Int)<4;decide),rfl,_,rfl,aL (λ _=>?_) (λ _=>bz (J sg0 _ hs0 (Same.refl H3)))⟩;refine⟨_,rfl,_,_,rfl,rfl,⟨by decide,by decide⟩,_,_,rfl,rfl,(by show(0:Int)<9;decide),_,_,rfl,rfl,_,rfl,aL (λ _=>?_) (λ _=>bz (J sg0 _ hs0 (Same.refl H3)))⟩;refine⟨_,rfl,_,rfl,lf,_,rfl,.inl (SqL.of ((Same.refl H3) _ _ h3f)),_,_,rfl,rfl,_,rfl,aL (λ hb=>?_) (λ _=>J sg0 _ hs0 (Same.refl H3))⟩;have hbl:bk≤(A++T).length:=by
     have:=zA hb;rw [zr] at this;lia
    refine⟨_,rfl,_,rfl,lf,_,rfl,.inl (SqL.of ((Same.refl H3) _ _ h3f)),_,rfl,_,_,rfl,rfl,?_⟩;have ei:((((A++T).map vN).length:Nat):Int)-((bk:Nat):Int)=(((A++T).length-bk:Nat):Int):=by rw [zr];lia
    try dsimp only
    rw [ei];exact⟨lf,_,_,_,rfl,rfl,SqL.of ((Same.refl H3) _ _ h3f),ay (bi (show(A++T).length-bk<(A++T).length by lia)),J _ _ (hb2 _ (Ay _)) (Same.refl H3)⟩
  ·rintro σ H3 ⟨v6,v7,v8,T,rfl,hTl,hTb,h3f,kp⟩;rw [zV] at hTl;refine g1 _ _ ?_;clear g1;have naf:a≠lf:=ag ha nf;refine⟨_,rfl,_,rfl,a,_,rfl,.inl (SqL.of (kp _ _ naf ha2)),_,rfl,lf,_,rfl,SqL.of h3f,λ l nl=>?_⟩;have ec:cutV ((A++T).map vN) (some (((A.map vN).length:Nat):Int)) none=T.map vN:=by
    rw [iz,zr,<-DF,CH]
   try dsimp only
   rw [ec];have sl:=ai (o:=.lst (T.map vN)) nl;refine k l T _ (λ c o e=>sl _ _ (kp _ _ (ag e nf) (s02 _ _ e))) ?_ upd_same hTl hTb;cases e:H l with
   |none=>rfl
   |some o=>rw [kp _ _ (ag e nf) (s02 _ _ e)] at nl;cases nl
def sO (K:PySem.W.Frag):Sp:=λ vs H Q _=>∃(a:Addr) (ns:List Int) (f:Nat),vs=[.ref a,vN f]/\SqL K H a (ns.map V.int)/\∀(t lt lb:Addr) (T W:List Nat) (H':Hp),Same H H'->H' t=some (.tup [.ref lt,.ref lb])->H' lt=some (.lst (T.map vN))->H' lb=some (.lst (W.map vN))->1≤T.length->T.length≤64->W.length≤192->(∀b∈T,b<256)->(∀b∈W,b<256)->Q (.ref t) H'
abbrev vg:List Str:=["_law_script","_law_first","_law_cell","_law_wide","_law_size","_law_before"]
theorem scTextBy:FnScope vg ["_law_script","_law_first"] (defScope gG):=scK (by decide+kernel)
theorem ql {fC fS:Addr}{fdC fdS:FuncData}(F:Fn K mg "_law_text_by" gG ["_law_script","_law_first"] f fd)(Ce:Fn K mg "_law_cell_at" eI ["_law_script","_law_k"] fC fdC)(Si:Fn K mg "_law_signs" gY ["_law_cell","_law_size","_law_ahead"] fS fdS)(Dr:Fn K mg "_law_drawn" fJ ["_law_seed","_law_k"] fD fdD)(X:Txt K mg):FnOk P w K mg base CX0 32 f fd ["_law_script","_law_first"] (sO K):=by
 have GC:=oW (P:=P) (w:=w) (base:=base) Ce X;have GS:=kQ (P:=P) (w:=w) (base:=base) Si Dr X;refine F.F.ok scTextBy (λ vs H Q E h=>?_) (λ cdv A outer st H vs Q E hr h=>?_)
 ·obtain⟨a,ns,f,rfl,_⟩:=h;rfl
 ·obtain⟨a,ns,f,rfl,hS,k⟩:=h;have hr1:Room 1 _:=hr.mono (by decide);refine⟨_,ac (ak (i:=2) scTextBy.nd rfl (Or.inl rfl) (am GC hr1 (by rfl) Ce.m Ce.F.kp Ce.b .nil ao (aa (pv 0) (aa (pv 1) ad))))
   (ac (ak (i:=3) scTextBy.nd rfl (Or.inl rfl) (aM aP (aW (aa ae (aa (aj aZ (aj a9 (pv 2) ae) ae) (aa (aj aZ (aj a9 (pv 2) ae) ae) (aa ae ad))))) (aj aZ (pv 2) ae) (λ _ _=>rfl)))
   (ac (ak (i:=4) scTextBy.nd rfl (Or.inl rfl) (aj aE ae (aj aZ (aj a9 (pv 2) ae) ae)))
   (ac (aK (ar bj (aj aZ (aj a9 (pv 2) ae) ae) ae (ax _))
    (ac (ak (i:=3) scTextBy.nd rfl (Or.inl rfl) (aj aE ae (aj aZ (aj a9 (pv 2) ae) ae))) (af (ak (i:=4) scTextBy.nd rfl (Or.inl rfl) (aj aE ae (aj aZ (aj a9 (pv 2) ae) ae))))) aC)
   (ac (aK (ar bj (aj aZ (aj a9 (pv 2) ae) ae) ae (ax _))
    (ac (ak (i:=3) scTextBy.nd rfl (Or.inl rfl) ae) (af (ak (i:=4) scTextBy.nd rfl (Or.inl rfl) (aj aY ae (aj aZ (aj a9 (pv 2) ae) ae))))) aC)
   (ac (ak (i:=5) scTextBy.nd rfl (Or.inl rfl) (am GS hr (by rfl) Si.m Si.F.kp Si.b .nil ao (aa (am GC hr1 (by rfl) Ce.m Ce.F.kp Ce.b .nil ao (aa (pv 0) (aa (aj aE (pv 1) ae) ad))) (aa (pv 3) (aa (aW ad) ad)))))
   (af (az (cC (aa (am GS hr (by rfl) Si.m Si.F.kp Si.b .nil ao (aa (am GC hr1 (by rfl) Ce.m Ce.F.kp Ce.b .nil ao (aa (pv 0) (aa (aj aE (pv 1) ae) ad))) (aa (pv 4) (aa (pv 5) ad)))) (aa (pv 5) ad)))))))))),?_⟩
  refine seq_g λ R1 g1=>?_
  refine⟨_,rfl,_,rfl,a,ns,f,rfl,hS,g1 _ _ ?_⟩;clear g1;generalize ns.getD f 0=c;refine seq_g λ R1 g1=>?_
  obtain⟨m,hm,em⟩:∃m:Nat,m≤30/\c/8%31=((m:Nat):Int):=⟨(c/8%31).toNat,by lia,by lia⟩;refine⟨_,rfl,_,_,rfl,rfl,⟨by decide,by decide⟩,_,_,rfl,rfl,(by show(0:Int)<31;decide),_,rfl,_,_,rfl,rfl,⟨by decide,by decide⟩,_,_,rfl,rfl,(by show(0:Int)<31;decide),(by show 4≤sizeLine;decide),λ l1 n1=>?_⟩
  try dsimp only at n1
  try dsimp only
  rw [em];obtain⟨wd,hwd,hat⟩:=uU m c;have s1:=ai (o:=.lst [V.int 0,V.int ((m:Nat):Int),V.int ((m:Nat):Int),V.int 0]) n1;have h11:(upd H l1 (.lst [V.int 0,V.int ((m:Nat):Int),V.int ((m:Nat):Int),V.int 0])) l1=some (.lst [V.int 0,vN m,vN m,V.int 0]):=upd_same;generalize upd H l1 (.lst [V.int 0,V.int ((m:Nat):Int),V.int ((m:Nat):Int),V.int 0])=H1 at*;refine⟨_,rfl,_,_,rfl,rfl,(by show(0:Int)<4;decide),l1,_,_,_,rfl,rfl,SqL.of h11,hat,g1 _ _ ?_⟩;clear g1;have hwd30:wd≤192:=by rcases hwd with h|h<;>lia
  refine seq_g λ R1 g1=>?_
  obtain⟨sz,hsz1,hsz2,esz⟩:∃m:Nat,1≤m/\m≤64/\(1:Int)+c/300%24=((m:Nat):Int):=⟨(1+c/300%24).toNat,by lia,by lia,by lia⟩;refine⟨_,rfl,_,_,rfl,rfl,⟨by decide,by decide⟩,_,_,rfl,rfl,(by show(0:Int)<24;decide),_,_,rfl,rfl,g1 _ _ ?_⟩;clear g1
  try dsimp only
  rw [esz];refine seq_g λ R1 g1=>?_
  have J:∀wd sz:Nat,wd≤192->1≤sz->sz≤64->R1 [some (.ref a),some (vN f),some (.int c),some (vN wd),some (vN sz),none] H1:=by
   intro wd sz hwd h1 h64;refine g1 _ _ ?_;clear g1;refine seq_g λ R2 g2=>?_
   have J2:∀wd sz:Nat,wd≤192->1≤sz->sz≤64->R2 [some (.ref a),some (vN f),some (.int c),some (vN wd),some (vN sz),none] H1:=by
    intro wd sz hwd h1 h64;refine g2 _ _ ?_;clear g2;have e1:((f:Nat):Int)+1=((f+1:Nat):Int):=by lia
    have e2:((f:Nat):Int)+2=((f+2:Nat):Int):=by lia
    refine seq_g λ R3 g3=>?_
    refine⟨_,rfl,_,rfl,_,_,rfl,rfl,?_⟩
    try dsimp only
    rw [e1];refine⟨a,ns,f+1,rfl,s1.seq hS,_,rfl,by decide,λ l2 n2=>?_⟩;have s2:=ai (o:=.lst []) n2;have h22:(upd H1 l2 (.lst [])) l2=some (.lst (([]:List Nat).map vN)):=upd_same;generalize upd H1 l2 (.lst [])=H2 at*;refine⟨_,wd,l2,[],rfl,h22,(λ _ h=>nomatch h),by decide,hwd,λ lb W H3 s3 nb hlb hWl hWb=>g3 _ _ ?_⟩;clear g3;have s13:=(s1.trans s2).trans s3;refine⟨_,rfl,_,rfl,_,_,rfl,rfl,?_⟩
    try dsimp only
    rw [e2];refine⟨a,ns,f+2,rfl,s13.seq hS,_,rfl,_,rfl,_,sz,lb,W,rfl,hlb,hWb,by lia,by lia,λ lt T H4 s4 nt hlt hTl hTb=>?_⟩;refine⟨_,rfl,(by show 2≤sizeLine;decide),λ t ntt=>?_⟩;have st:=ai (o:=.tup [V.ref lt,V.ref lb]) ntt;exact k t lt lb T W _ ((s13.trans s4).trans st) upd_same (st _ _ hlt) (st _ _ (s4 _ _ hlb)) (by lia) (by lia) (by lia) hTb hWb
   clear g2;obtain⟨q,hq9,eq⟩:∃m:Nat,m≤8/\c/64%9=((m:Nat):Int):=⟨(c/64%9).toNat,by lia,by lia⟩;refine⟨_,rfl,_,_,rfl,rfl,⟨by decide,by decide⟩,_,_,rfl,rfl,(by show(0:Int)<16;decide),rfl,_,rfl,aL (λ _=>?_) (λ _=>J2 wd sz hwd h1 h64)⟩;refine⟨_,rfl,_,_,rfl,rfl,⟨by decide,by decide⟩,_,_,rfl,rfl,(by show(0:Int)<9;decide),_,_,rfl,rfl,?_⟩
   try dsimp only
   rw [eq,show(64:Int)-((q:Nat):Int)=((64-q:Nat):Int) by lia];exact J2 0 (64-q) (by decide) (by lia) (by lia)
  clear g1;obtain⟨q,hq33,eq⟩:∃m:Nat,m≤32/\c/64%33=((m:Nat):Int):=⟨(c/64%33).toNat,by lia,by lia⟩;obtain⟨q2,hq9,eq2⟩:∃m:Nat,m≤8/\c/64%9=((m:Nat):Int):=⟨(c/64%9).toNat,by lia,by lia⟩;refine⟨_,rfl,_,_,rfl,rfl,⟨by decide,by decide⟩,_,_,rfl,rfl,(by show(0:Int)<16;decide),rfl,_,rfl,aL (λ _=>?_) (λ _=>J wd sz hwd30 hsz1 hsz2)⟩;refine⟨_,rfl,_,_,rfl,rfl,⟨by decide,by decide⟩,_,_,rfl,rfl,(by show(0:Int)<33;decide),_,_,rfl,rfl,?_⟩;refine⟨_,rfl,_,_,rfl,rfl,⟨by decide,by decide⟩,_,_,rfl,rfl,(by show(0:Int)<9;decide),_,_,rfl,rfl,?_⟩
  try dsimp only
  rw [eq,eq2,show(160:Int)+((q:Nat):Int)=((160+q:Nat):Int) by lia,show(1:Int)+((q2:Nat):Int)=((1+q2:Nat):Int) by lia];exact J (160+q) (1+q2) (by lia) (by lia) (by lia)
end
end K20
set_option maxHeartbeats 1000000
namespace L2
open PySem PySem.Spec PyProof.Rows QQ
def yN (K:PySem.W.Frag):R2:=λ x y H Q=>∃(p q:Addr) (bs:List Bool),x=.ref p/\y=.ref q/\SqL K H p (bs.map V.bl)/\SqL K H q (bs.map V.bl)/\Q (.bl true) H
theorem vj {X:Cx}(hu:X.A.units+64<cLine):OpR X (compareOp .Eq) (yN X.K):=by
 intro pins s σ H x y v u Q I rx ry h;obtain⟨p,q,bs,rfl,rfl,h1,h2,k⟩:=h;cases rx;cases ry;obtain⟨its,rv,pl,hz⟩:=I.list h1;obtain⟨its2,rv2,pl2,hz2⟩:=I.list h2;have l1:=rv.length;have l2:=rv2.length;refine SeqAt.RcAt.lists (e:=λ _=>true) pl.isList pl2.isList (by rw [zE,zE];lia) (by lia) (λ j j1 j2=>?_) _ _ _ _ ?_
 ·have k1:j<(bs.map V.bl).length:=by simp at j1;lia
  obtain⟨u1,e1,r1⟩:=rv.get (i:=j) (x:=(bs.map V.bl)[j]) (zu k1);obtain⟨u2,e2,r2⟩:=rv2.get (i:=j) (x:=(bs.map V.bl)[j]) (zu k1);have g1:its.toArray[j]=u1:=by
   obtain⟨_,z⟩:=zz.mp e1;simpa using z
  have g2:its2.toArray[j]=u2:=by
   obtain⟨_,z⟩:=zz.mp e2;simpa using z
  rw [g1,g2];rw [D7] at r1 r2;have e:u1=u2:=Eq.trans r1 (Eq.symm r2);rw [e];exact SeqAt.EqAt.same _
 ·refine⟨.bl true,H,I,?_,k⟩;show Value.bool _=Value.bool _;simp
end L2
namespace K20
open PySem L2 QQ W17 W16 BP
seal PE PA PS PSs PT PW PG PI
variable {fd : FuncData} {f : Addr} {K : PySem.W.Frag} {X : Cx}
abbrev oK:Stmt:=top 85
abbrev fk:Stmt:=top 86
abbrev dM:Stmt:=top 87
abbrev jT:Stmt:=top 88
structure Own (K:PySem.W.Frag)(mg:Str->Option Value)(B D C CW C0 C1 C2 C3:Addr):Prop where
 Z:Wal K mg B D C CW C0 C1 C2 C3
 way:mg "Way"=some (.ref CW)
 isi:((List.range 4).all λ i=>(List.range 4).all λ j=>decide (PySem.W.kitOne K (.ref (cs C0 C1 C2 C3 i)) (.ref (cs C0 C1 C2 C3 j))=some (decide (j=i))))=true
 hn:PySem.W.specialIn K (.builtin "object.__class__") "__get__"=some (some (.builtin "getset_descriptor.__get__"))
 htk:PySem.W.takesIn K (.builtin "object.__class__")=some true
 atend:∃f fd,Me K D "at_end" "BitReader.at_end" jW ["self"] f fd
 isof:∃f fd,Fn K mg "_law_is_of" oK ["_law_way","_law_number"] f fd
 runbits:∃f fd,Fn K mg "_law_run_bits" fk ["_law_text"] f fd
 readback:∃f fd,Fn K mg "_law_read_back" dM ["_law_way","_law_text","_law_before","_law_cost"] f fd
theorem oo {k y x:Str}(hx:List.lookup x ([(".0",.local),(k,.local),(y,.cell)]:List (Str×NameKind))=some .cell\/List.lookup x ([(".0",.local),(k,.local),(y,.cell)]:List (Str×NameKind))=some .free):x=y:=by
 rcases hx with hx|hx
 ·have m':=Ar hx;simpa using m'
 ·have m':=Ar hx;simp at m'
section
variable {P : Program} {w : World} {K : PySem.W.Frag} {mg : Str -> Option Value} {base : Heap} {B D G CW C0 C1 C2 C3 : Addr}
theorem Wal.wc (Z:Wal K mg B D G CW C0 C1 C2 C3){i:Nat}(hi:i<4):WC K mg (cs C0 C1 C2 C3 i) CW:=by
 match i,hi with
 |0,_=>exact Z.raw.W
 |1,_=>exact Z.run.W
 |2,_=>exact Z.cpy.W
 |3,_=>exact Z.shr.W
theorem Own.is (O:Own K mg B D G CW C0 C1 C2 C3){i j:Nat}(hi:i<4)(hj:j<4):PySem.W.kitOne K (.ref (cs C0 C1 C2 C3 i)) (.ref (cs C0 C1 C2 C3 j))=some (decide (j=i)):=
 zA (D5.mp (D5.mp O.isi i (BZ.mpr hi)) j (BZ.mpr hj))
def xv (C:Nat->Addr):Sp:=λ vs H Q _=>∃(o dx:Addr) (i:Nat),vs=[.ref o,vN i]/\i<4/\H o=some (.ins (C i) dx [])/\∀H',Same H H'->Q (.bl true) H'
theorem yS:(["_law_k","_law_number"]:List Str).Nodup:=by decide+kernel
abbrev yI:List Str:=["_law_way","_law_number","_law_fits"]
theorem scIsOf:FnScope yI ["_law_way","_law_number"] (defScope oK):=scK (by decide+kernel)
theorem oS (F:Fn K mg "_law_is_of" oK ["_law_way","_law_number"] f fd)(O:Own K mg B D G CW C0 C1 C2 C3):FnOk P w K mg base CX0 2 f fd ["_law_way","_law_number"] (xv (cs C0 C1 C2 C3)):=by
 have X:=O.Z.S0.Zb.R.X;refine F.F.ok scIsOf (λ vs H Q E h=>?_) (λ cdv A outer st H vs Q E hr h=>?_)
 ·obtain⟨o,dx,i,rfl,_⟩:=h;rfl
 ·obtain⟨o,dx,i,rfl,hi,ho,k⟩:=h;have hu:=hr.units;have WO:=O.Z.ok (P:=P) (w:=w) (base:=base) hi;obtain⟨_,_,n0,bn,GN⟩:=WO.num;refine⟨_,ac (ak (i:=2) scIsOf.nd rfl (Or.inl rfl) (aW (aa (aq cU (by rfl) X.isi AN (aa (pv 0) (aa (aG (v:=.ref C0) (by rfl) O.Z.raw.m rfl) ad))) (aa (aq cU (by rfl) X.isi AN (aa (pv 0) (aa (aG (v:=.ref C1) (by rfl) O.Z.run.m rfl) ad))) (aa (aq cU (by rfl) X.isi AN (aa (pv 0) (aa (aG (v:=.ref C2) (by rfl) O.Z.cpy.m rfl) ad))) (aa (aq cU (by rfl) X.isi AN (aa (pv 0) (aa (aG (v:=.ref C3) (by rfl) O.Z.shr.m rfl) ad))) ad))))))
   (af (az (eC (aq cU (by rfl) X.isi AN (aa (pv 0) (aa (aG (v:=.ref CW) (by rfl) O.way rfl) ad))) (eC (cQ (vj hu) (pv 2) (lR (N:=["_law_k","_law_number"]) (js:=[none,some 1]) (cl:=[("_law_number",st.heap.objs.size+1)]) (g:=bf 0) rfl ⟨rfl,by decide+kernel,by decide+kernel,by rfl,λ x c h=>(by obtain⟨rfl,rfl⟩:=cy h;rfl),λ x hx=>(by obtain rfl:=oo hx;exact⟨_,rfl⟩),rfl,λ i x j h1 h2=>?c2⟩ (bq (by rfl) X.range (aa ae ad)) (λ fp s H=>aH (i:=0) yS rfl (Or.inl rfl)) (λ fp s H=>cQ bj (pv 0) (pv 1) (ax _))) (ax _)) (fF (cQ bj (bh (pv 0) WO.cl n0 GN hr bn .nil ao) (pv 1) (ax _))))))),?_⟩
  case c2=>obtain⟨rfl,rfl⟩:=iy h1 h2;exact⟨rfl,rfl,rfl,λ c h=>h⟩
  have wc:=O.Z.wc hi;have ty:∀{H':Hp},H' o=some (.ins (cs C0 C1 C2 C3 i) dx [])->TyOf K H' (.ref o) (.ref (cs C0 C1 C2 C3 i)):=λ h=>.ins h wc.cl wc.ha O.hn O.htk wc.hm
  refine seq_g λ R1 g1=>?_
  refine⟨_,rfl,_,C0,_,_,rfl,ty ho,O.is hi (j:=0) (by decide),_,rfl,_,C1,_,_,rfl,ty ho,O.is hi (j:=1) (by decide),_,rfl,_,C2,_,_,rfl,ty ho,O.is hi (j:=2) (by decide),_,rfl,_,C3,_,_,rfl,ty ho,O.is hi (j:=3) (by decide),by show(4:Nat)≤sizeLine;decide,λ lf nf=>g1 _ _ ?_⟩;clear g1;have sf:=ai (o:=.lst [.bl (decide (0=i)),.bl (decide (1=i)),.bl (decide (2=i)),.bl (decide (3=i))]) nf;have hf:(upd H lf (.lst [.bl (decide (0=i)),.bl (decide (1=i)),.bl (decide (2=i)),.bl (decide (3=i))])) lf=_:=upd_same;generalize upd H lf _=H1 at*;refine⟨_,rfl,_,CW,_,_,rfl,ty (sf _ _ ho),wc.i0,_,rfl,iA ?_⟩;refine⟨_,rfl,4,rfl,by decide,by decide,λ l nl=>?_⟩;refine f8 (g:=bf 0) (lo:=0) (l:=l) (k:=4) (λ j ys σ H2=>∃v0:Option V,σ=[v0,some (vN i)]/\ys=((List.range j).map λ n=>V.bl (decide (n=i)))/\H2 l=some (.lst ys)/\Same H1 H2) ⟨none,rfl,rfl,upd_same,ai nl⟩ ?_ ?_ ?_ ?_
  ·rintro j ys σ H2 hj ⟨v0,rfl,rfl,h2l,s2⟩;refine⟨_,rfl,_,rfl,rfl,h2l,aX (by rw [zr,BG];lia),_,rfl,?_,upd_same,λ c o e=>?_⟩
   ·rw [C6,zG];refine Bk (_++[·]) (Bk V.bl ?_);show decide (V.int (0+(j:Nat))=vN i)=decide (j=i);by_cases e:j=i
    ·rw [zw e,zw (by rw [e,Int.zero_add])]
    ·rw [AC e,AC (λ z=>e (by have:=V.int.inj z;lia))]
   ·rw [upd_ne (ag e nl)];exact s2 _ _ e
  rotate_left
  ·exact λ x σ H A B h z=>h _ _ z
  ·rintro σ H A B h ⟨v,e1,v2,e2,e3,z⟩;exact⟨v,e1,v2,e2,e3,h _ _ z⟩
  ·rintro ys σ H2 ⟨v0,rfl,rfl,h2l,s2⟩;have s02:=sf.trans s2;refine⟨lf,l,(List.range 4).map λ n=>decide (n=i),rfl,rfl,SqL.of (s2 _ _ hf),SqL.of h2l,_,rfl,iA ?_⟩;refine⟨_,rfl,o,dx,_,rfl,s02 _ _ ho,rfl,o,rfl,_,rfl,rfl,?_⟩;rw [zw rfl];exact k _ s02
end
def rlen:List Nat->Nat
 | []=>0
 |a::L=>rlen L+if L.head?=some a then 0 else 1
theorem lF (a:Nat):∀L:List Nat,rlen (a::L)=1+rlen (L.drop (W13.run a L))
 | []=>rfl
 |b::L=>by
  have e:rlen (a::b::L)=rlen (b::L)+if(b::L).head?=some a then 0 else 1:=rfl
  by_cases h:b=a
  ·subst h;rw [e,zP (show(b::L).head?=some b from rfl),lF b L,show W13.run b (b::L)=W13.run b L+1 by rw [W13.run,zP rfl],List.drop_succ_cons];rfl
  ·rw [e,zK (by intro z;exact h (zS z)),show W13.run a (b::L)=0 by rw [W13.run,zK h]];exact DU _ _
theorem sR:∀(n:Nat) (T:List Nat),T.length≤n->(rl T).length=rlen T
 |_,[],_=>rfl
 |0,_::_,h=>by simp at h
 |n+1,a::L,h=>by
  rw [oC,zD,lF,sR n _ (by rw [zR];simp at h;lia)];lia
theorem ug (xs:List V){a b:Nat}(h:a≤b):cutV xs (some ((a:Nat):Int)) (some ((b:Nat):Int))=(xs.drop a).take (b-a):=by
 unfold cutV;rw [HT.sIx_nat,HT.sIx_nat];rcases Nat.le_total a xs.length with h1|h1
 ·rw [BS h1];rcases Nat.le_total b xs.length with h2|h2
  ·rw [BS h2]
  ·rw [Ck h2,Ad (by rw [zR];lia),Ad (by rw [zR];lia)]
 ·rw [Ck h1,Ck (AM h1 h),BV h1,Dx];simp
theorem RdOf.mk0 {R:List Nat}{ps:List (Nat×Nat)}(h:RowOf (nums ps 0) (tots ps) R)(g:Good ps):RdOf R (ps++[(0,8*R.length-tots ps)]):=by
 have hl:=h.len;refine⟨?_,?_,?_,h.byt⟩
 ·rw [aw];have:tots [(0,8*R.length-tots ps)]=8*R.length-tots ps:=by simp [tots]
  rw [this];lia
 ·rw [h.num,aT];show _=nums ps 0*2^(8*R.length-tots ps)+0;rfl
 ·intro q hq;rcases zI.mp hq with hq|hq
  ·exact g q hq
  ·rw [zX.mp hq];exact pow_pos2 _
theorem rO (hK:X.K=K):SlR X (x9 K):=by
 subst hK;exact dE
theorem vq (hK:X.K=K)(hu:X.A.units+64<cLine):OpR X (compareOp .NotEq) (yj K):=by
 subst hK;exact jC hu
theorem y3:(["_law_k","_law_text"]:List Str).Nodup:=by decide+kernel
section
variable {P : Program} {w : World} {K : PySem.W.Frag} {mg : Str -> Option Value} {base : Heap} {B D G CW C0 C1 C2 C3 : Addr}
def qb:Sp:=λ vs H Q _=>∃(a:Addr) (T:List Nat),vs=[.ref a]/\H a=some (.lst (T.map vN))/\T.length≤64/\∀H',Same H H'->Q (vN (14*(rl T).length)) H'
abbrev rJ:List Str:=["_law_text"]
theorem pD:FnScope rJ ["_law_text"] (defScope fk):=scK (by decide+kernel)
theorem mh (F:Fn K mg "_law_run_bits" fk ["_law_text"] f fd)(X:Txt K mg):FnOk P w K mg base CX0 1 f fd ["_law_text"] qb:=by
 refine F.F.ok pD (λ vs H Q E h=>?_) (λ cdv A outer st H vs Q E hr h=>?_)
 ·obtain⟨a,T,rfl,_⟩:=h;rfl
 ·obtain⟨a,T,rfl,ha,h64,k⟩:=h;have hu:=hr.units;refine⟨_,af (az (aj cf ae (aq ap (by rfl) X.len zO (aa (iW (N:=["_law_k","_law_text"]) (js:=[none,some 0]) (cl:=[("_law_text",st.heap.objs.size+1)]) (g:=bf 0) rfl ⟨rfl,by decide+kernel,by decide+kernel,by rfl,λ x c h=>(by obtain⟨rfl,rfl⟩:=cy h;rfl),λ x hx=>(by obtain rfl:=oo hx;exact⟨_,rfl⟩),rfl,λ i x j h1 h2=>?c2⟩ (bq (by rfl) X.range (aa (aq ap (by rfl) X.len zO (aa (pv 0) ad)) ad)) (λ fp s H=>aH (i:=0) y3 rfl (Or.inl rfl)) (λ fp s H=>ar (vq (K:=K) rfl hu) (cV (rO (K:=K) rfl) (pv 1) (cL (aj aE (pv 0) ae)) (cL (aj aE (pv 0) ae))) (aW (aa (aM (lB (K:=K) rfl) (pv 1) (pv 0) (λ _ _=>rfl)) ad)) (ax _)) (λ fp s H=>pv 0)) ad)))),?_⟩
  case c2=>obtain⟨rfl,rfl⟩:=iy h1 h2;exact⟨rfl,rfl,rfl,λ c h=>h⟩
  have el:(((T.map vN).length:Nat):Int)=((T.length:Nat):Int):=by rw [zr]
  refine⟨_,rfl,a,_,rfl,.inl (SqL.of ha),?_⟩
  try dsimp only
  rw [el];refine⟨((T.length:Nat):Int),rfl,by lia,by lia,λ l nl=>?_⟩;refine ip (g:=bf 0) (lo:=0) (l:=l) (k:=((T.length:Nat):Int).toNat) (λ i ys σ H2=>∃v0:Option V,σ=[v0,some (.ref a)]/\ys.length+rlen (T.drop i)=rlen T/\ys.length≤i/\H2 l=some (.lst ys)/\Same H H2) ⟨none,rfl,A9 _,zy _,upd_same,ai nl⟩ ?_ ?_ ?_ ?_ ?_
  ·rintro i ys σ H2 hi ⟨v0,rfl,hlen,hyl,h2l,s2⟩;have hil:i<T.length:=by simpa using hi
   have ha2:=s2 _ _ ha;have nla:l≠a:=(ag ha nl).symm;refine⟨_,rfl,_,rfl,_,_,rfl,rfl,_,rfl,_,rfl,_,_,rfl,rfl,_,rfl,a,_,rfl,SqL.of ha2,λ p np=>?_⟩;have s3:=ai (o:=.lst (cutV (T.map vN) (some (0+((i:Nat):Int)+1)) (some (0+((i:Nat):Int)+2)))) np;have h3p:(upd H2 p (.lst (cutV (T.map vN) (some (0+((i:Nat):Int)+1)) (some (0+((i:Nat):Int)+2))))) p=_:=upd_same;generalize upd H2 p _=H3 at*;rw [show 0+((i:Nat):Int)+1=((i+1:Nat):Int) by lia,show 0+((i:Nat):Int)+2=((i+2:Nat):Int) by lia,ug _ (by lia:i+1≤i+2),<-DF,<-D2,show i+2-(i+1)=1 by lia,di ((T.drop (i+1)).take 1)] at h3p;refine⟨_,rfl,_,rfl,a,_,_,vN T[i],rfl,rfl,SqL.of (s3 _ _ ha2),?_,by show(1:Nat)≤sizeLine;decide,λ q nq=>?_⟩
   ·rw [Int.zero_add];exact ay (bi hil)
   have s4:=ai (o:=.lst [vN T[i]]) nq;have h4q:(upd H3 q (.lst [vN T[i]])) q=some (.lst ([((T[i]:Nat):Int)].map V.int)):=upd_same;generalize upd H3 q _=H4 at*;have ed:T.drop i=T[i]::T.drop (i+1):=AH hil;have er:rlen (T.drop i)=rlen (T.drop (i+1))+if(T.drop (i+1)).head?=some T[i] then 0 else 1:=by rw [ed];rfl
   have s24:=s3.trans s4;have s04:=s2.trans s24;refine⟨p,q,_,_,rfl,rfl,SqL.of (s4 _ _ h3p),SqL.of h4q,_,rfl,?_⟩;have hk:(((T.drop (i+1)).take 1).map (λ b:Nat=>(b:Int))=[((T[i]:Nat):Int)])<->(T.drop (i+1)).head?=some T[i]:=by
    cases T.drop (i+1) with
    |nil=>simp
    |cons b L=>
     simp;exact Int.ofNat_inj
   by_cases hh:(T.drop (i+1)).head?=some T[i]
   ·rw [zw (hk.mpr hh)];refine bz ⟨_,rfl,?_,by lia,s24 _ _ h2l,s04⟩;rw [zP hh] at er;lia
   ·rw [AC (λ z=>hh (hk.mp z))];refine iA ⟨_,rfl,s24 _ _ h2l,aX (by lia),_,rfl,?_,by rw [zv,Bv];lia,upd_same,λ c o e=>?_⟩
    ·rw [zK hh] at er;rw [zv,Bv];lia
    ·rw [upd_ne (ag e nl)];exact s04 _ _ e
  rotate_left
  ·exact λ x σ H A B h z=>h _ _ z
  ·rintro σ H A B h ⟨v1,e1,v2,e2,i2,j2,e3,e4,v5,e5,v6,e6,i7,j7,e7,e8,v9,e9,a1,xs1,e10,e11,z⟩;refine⟨v1,e1,v2,e2,i2,j2,e3,e4,v5,e5,v6,e6,i7,j7,e7,e8,v9,e9,a1,xs1,e10,e11,λ p np=>?_⟩;obtain⟨v1,e1,v2,e2,p1,xs1,i1,v3,e3,e4,e5,e6,e7,z⟩:=z p np;refine⟨v1,e1,v2,e2,p1,xs1,i1,v3,e3,e4,e5,e6,e7,λ q nq=>?_⟩;obtain⟨p,q,ns,ms,e1,e2,e3,e4,c,e5,z⟩:=z q nq;exact⟨p,q,ns,ms,e1,e2,e3,e4,c,e5,h _ _ z⟩
  ·exact λ σ H A B h ⟨v,e,z⟩=>⟨v,e,h _ _ z⟩
  ·rintro ys σ H2 ⟨v0,rfl,hlen,_,h2l,s2⟩;rw [zV,Dx] at hlen;have hl:ys.length=(rl T).length:=by rw [sR T.length T (zy _),<-hlen];rfl
   refine⟨l,_,rfl,.inl (SqL.of h2l),_,_,rfl,rfl,.inl ⟨by decide,by decide⟩,?_⟩;show Q (.int ((14:Int)*((ys.length:Nat):Int))) H2;rw [hl,show(14:Int)*(((rl T).length:Nat):Int)=((14*(rl T).length:Nat):Int) by lia];exact k _ s2
def zf (C:Nat->Addr):Sp:=λ vs H Q _=>∃(o dx lt lb:Addr) (T W:List Nat) (i:Nat) (ps:List (Nat×Nat)),vs=[.ref o,.ref lt,.ref lb,vN (tots ps)]/\i<4/\H o=some (.ins (C i) dx [])/\H lt=some (.lst (T.map vN))/\H lb=some (.lst (W.map vN))/\TW T W/\PtOf i W T ps/\∀H',Same H H'->Q (.bl true) H'
abbrev nRB:List Str:=["_law_way","_law_text","_law_before","_law_cost","_law_bits","_law_reader"]
theorem scRB:FnScope nRB ["_law_way","_law_text","_law_before","_law_cost"] (defScope dM):=scK (by decide+kernel)
theorem kz (F:Fn K mg "_law_read_back" dM ["_law_way","_law_text","_law_before","_law_cost"] f fd)(O:Own K mg B D G CW C0 C1 C2 C3):FnOk P w K mg base CX0 38 f fd ["_law_way","_law_text","_law_before","_law_cost"] (zf (cs C0 C1 C2 C3)):=by
 have Zb:=O.Z.S0.Zb;have Zr:=O.Z.S0.Cd.Z;have X:=Zb.R.X;obtain⟨_,_,FI,bI,MI⟩:=Zb.init;obtain⟨_,_,Ma⟩:=Zb.many;obtain⟨_,_,Ou⟩:=Zb.row;have TB:=Zb.T;have GI:=kb (P:=P) (w:=w) (base:=base) FI TB;have GM:=nQ (P:=P) (w:=w) (base:=base) Ma.F TB X;have GOu:=qi (P:=P) (w:=w) (base:=base) Ou.F TB X;obtain⟨_,_,Nr⟩:=Zr.needrow;obtain⟨_,_,On⟩:=Zr.ones;obtain⟨_,_,Ba⟩:=Zr.bitsat;obtain⟨_,_,L⟩:=Zr.left;obtain⟨_,_,Pl⟩:=Zr.place;obtain⟨_,_,Ae⟩:=O.atend;obtain⟨_,_,FR,bR,MR⟩:=Zr.init;have TR:=Zr.T;have GRi:=sk (P:=P) (w:=w) (base:=base) FR Nr Zr.R TR;have GPl:=gQ (P:=P) (w:=w) (base:=base) Pl.F TR;have GAe:=qW (P:=P) (w:=w) (base:=base) Ae.F Ba On L TR X;refine F.F.ok scRB (λ vs H Q E h=>?_) (λ cdv A outer st H vs Q E hr h=>?_)
 ·obtain⟨o,dx,lt,lb,T,W,i,ps,rfl,_⟩:=h;rfl
 ·obtain⟨o,dx,lt,lb,T,W,i,ps,rfl,hi,ho,hlt,hlb,tw,hps,k⟩:=h;have hr1:Room 1 _:=hr.mono (by decide);have hr2:Room 2 _:=hr.mono (by decide);have hr3:Room 3 _:=hr.mono (by decide);have hr6:Room 6 _:=hr.mono (by decide);have hr35:Room 35 _:=hr.mono (by decide);have hu:=hr.units;have WO:=O.Z.ok (P:=P) (w:=w) (base:=base) hi;obtain⟨_,_,t0,bt,GT⟩:=WO.tell;obtain⟨_,_,r0,br,GR⟩:=WO.read;refine⟨_,ac (ak (i:=4) scRB.nd rfl (Or.inl rfl) (kO MI GI hr2 (by rfl) Zb.m bI .nil ao))
   (ac (aA (aI (pv 0) WO.cl t0 GT hr35 bt .nil ao (aa (pv 4) (aa (aU aN (by rfl) X.list Aq (aa (pv 1) ad)) (aa (aU aN (by rfl) X.list Aq (aa (pv 2) ad)) ad)))))
   (ac (ak (i:=5) scRB.nd rfl (Or.inl rfl) (nJ MR GRi hr6 (by rfl) Zr.m bR .nil ao (aa (bh (pv 4) TB.cl Ou.m GOu hr1 Ou.b .nil ao) ad)))
   (ac (aK (PW.pt (eT (ar oN (bh (pv 4) TB.cl Ma.m GM hr1 Ma.b .nil ao) (pv 3) (ax _)) (dn (ar (jC hu) (aI (pv 0) WO.cl r0 GR hr br .nil ao (aa (pv 5) (aa (aq ap (by rfl) X.len zO (aa (pv 1) ad)) (aa (aU aN (by rfl) X.list Aq (aa (pv 2) ad)) ad)))) (pv 1) (ax _))))) (af (az dl)) aC)
   (af (az (eC (cQ bj (bh (pv 5) TR.cl Pl.m GPl hr1 Pl.b .nil ao) (pv 3) (ax _)) (fF (cQ tK (bh (pv 5) TR.cl Ae.m GAe hr3 Ae.b .nil ao) dl (ax _))))))))),?_⟩
  obtain⟨hgood,htot⟩:=hps.good tw;refine seq_g λ R1 g1=>?_
  intro p dp np ndp nep;have hp0:(upd (upd H dp (.own p)) p (.ins B dp [])) p=some (.ins B dp []):=upd_same;have s0:=dR (C:=B) np ndp;refine⟨p,dp,rfl,hp0,λ d H1 nd hB kp=>⟨rfl,g1 _ _ ?_⟩⟩;clear g1;have nd0:H d=none:=none_of s0 nd;have s1:Same H H1:=λ c o e=>kp _ _ (s0 _ _ e) (ag e np)
  clear s0 hp0 kp;refine seq_g λ R1 g1=>?_
  refine⟨_,rfl,o,dx,_,rfl,s1 _ _ ho,rfl,_,rfl,_,rfl,lt,_,rfl,.inl (SqL.of (s1 _ _ hlt)),λ l1 n1=>?_⟩;have s2:=ai (o:=.lst (T.map vN)) n1;have h21:(upd H1 l1 (.lst (T.map vN))) l1=_:=upd_same;have s02:=s1.trans s2;have hB2:=hB.keep λ c o e _=>s2 _ _ e
  generalize upd H1 l1 (.lst (T.map vN))=H2 at*;refine⟨_,rfl,lb,_,rfl,.inl (SqL.of (s02 _ _ hlb)),λ l2 n2=>?_⟩;have s3:=ai (o:=.lst (W.map vN)) n2;have h32:(upd H2 l2 (.lst (W.map vN))) l2=_:=upd_same;have s03:=s02.trans s3;have hB3:=hB2.keep λ c o e _=>s3 _ _ e
  have h31:=s3 _ _ h21;generalize upd H2 l2 (.lst (W.map vN))=H3 at*;refine⟨o,p,d,l1,.ref l2,T,W,0,0,rfl,hB3,by decide,h31,.inr ⟨l2,rfl,h32⟩,tw,λ ps' H4 hps' hB4 kp4=>g1 _ _ ?_⟩;clear g1;obtain rfl:=hps.uniq hps';rw [A9] at hB4;have s04:Same H H4:=λ c o e=>kp4 _ _ (s03 _ _ e) (ag e np) (ag e nd0)
  obtain⟨dx4,r4,k4,hp4⟩:=hB4.ob;refine seq_g λ R1 g1=>?_
  refine⟨_,rfl,p,dx4,_,rfl,hp4,cA _ _ _ (by decide+kernel) (by decide+kernel) (by decide+kernel),p,d,_,_,rfl,hB4,by lia,λ l5 R H5 n5 h55 row s5=>?_⟩;have hrd:=RdOf.mk0 row hgood;have hrb:=hrd.byt;have hRl:=row.len;intro r dr nr ndr ner;have hr0:(upd (upd H5 dr (.own r)) r (.ins D dr [])) r=some (.ins D dr []):=upd_same;have s6:=dR (C:=D) nr ndr;refine⟨r,dr,l5,R,rfl,hr0,s6 _ _ h55,hrb,λ d6 H6 nd6 hR6 kp6=>⟨rfl,g1 _ _ ?_⟩⟩;clear g1;have s05:=s04.trans s5;have s56:Same H5 H6:=λ c o e=>kp6 _ _ (s6 _ _ e) (ag e nr)
  have s46:=s5.trans s56;have s06:=s05.trans s56;have nr0:H r=none:=none_of s05 nr;have hB6:=hB4.keep λ c o e _=>s46 _ _ e
  clear kp6 s6 hr0;obtain⟨dx6,r6,k6,hp6⟩:=hB6.ob;have elen:(((T.map vN).length:Nat):Int)=((T.length:Nat):Int):=by rw [zr]
  refine seq_g λ R1 g1=>?_
  refine⟨_,rfl,p,dx6,_,rfl,hp6,cA _ _ _ (by decide+kernel) (by decide+kernel) (by decide+kernel),p,d,_,_,rfl,hB6,_,rfl,rfl,_,rfl,aL (λ h=>by simp at h) (λ _=>?_)⟩;refine⟨_,rfl,o,dx,_,rfl,s06 _ _ ho,rfl,_,rfl,_,rfl,lt,_,rfl,.inl (SqL.of (s06 _ _ hlt)),?_⟩
  try dsimp only
  rw [elen];refine⟨_,rfl,lb,_,rfl,.inl (SqL.of (s06 _ _ hlb)),λ l7 n7=>?_⟩;have s7:=ai (o:=.lst (W.map vN)) n7;have h77:(upd H6 l7 (.lst (W.map vN))) l7=_:=upd_same;have s07:=s06.trans s7;have hR7:=hR6.keep λ c o e _=>s7 _ _ e
  generalize upd H6 l7 (.lst (W.map vN))=H7 at*;refine⟨o,r,d6,.ref l7,R,[],[(0,8*R.length-tots ps)],ps,W,T,rfl,.inr ⟨l7,rfl,h77⟩,hR7,hrd,hps,tw,λ l8 H8 n8 h88 hR8 kp8=>?_⟩;have s08:Same H H8:=λ c o e=>kp8 _ _ (s07 _ _ e) (ag e nr0)
  refine⟨_,rfl,l8,lt,T.map (λ b=>((b:Nat):Int)),T.map (λ b=>((b:Nat):Int)),rfl,rfl,by rw [<-di];exact SqL.of h88,by rw [<-di];exact SqL.of (s08 _ _ hlt),_,rfl,aL (λ h=>by simp at h) (λ _=>g1 _ _ ?_)⟩;clear g1;have hR8':ReadAt D H8 r d6 R (tots ps):=hR8;obtain⟨⟨dx8,hr8⟩,_,_,_⟩:=id hR8';refine⟨_,rfl,r,dx8,_,rfl,hr8,cJ _ _ (by decide+kernel) (by decide+kernel),r,d6,R,_,rfl,hR8',_,rfl,rfl,_,rfl,aL (λ _=>?_) (λ h=>absurd (zw rfl) h)⟩;refine⟨_,rfl,r,dx8,_,rfl,hr8,cJ _ _ (by decide+kernel) (by decide+kernel),r,d6,R,_,rfl,hR8',λ H9 s9=>?_⟩;have e1:8*R.length-tots ps<8:=by lia
  have e2:val R%2^(8*R.length-tots ps)=0:=by rw [row.num];exact Nat.mul_mod_left _ _
  rw [zw e1,zw e2];exact⟨_,_,rfl,rfl,k _ (s08.trans s9)⟩
end
end K20
set_option maxHeartbeats 4000000
namespace L2
open PySem PySem.Spec PyProof.Rows QQ
section
variable {X : Cx}
end
end L2
set_option maxHeartbeats 1000000
namespace K20
open PySem L2 QQ W17 W16 BP
seal PE PA PS PSs PT PW PG PI
variable {H H' : Hp} {a f : Addr} {K : PySem.W.Frag} {xs : List V} {fd : FuncData}
theorem iw {X:Cx}(hK:X.K=K):CallR X (.type "list") (λ xs H Q=>∃p ys,xs=[.ref p]/\(SqL K H p ys\/SqT K H p ys)/\∀l,H l=none->Q (.ref l) (upd H l (.lst ys))):=by
 subst hK;exact aN
theorem pT {l:Addr}{σ0:St}{g:TG}{te:TE}{R:Hp->Prop}{H1:Hp}(Pv:Nat->List V->St->Hp->Prop)(h0:Pv 0 [] σ0 (upd H1 l (.lst [])))(hl:∀i ys σ H,i≤xs.length->Pv i ys σ H->SqL K H a xs)
  (hs:∀i x ys σ H (Qc:St->VK),xs[i]?=some x->Pv i ys σ H->(∀σ3 y H4,H4 l=some (.lst ys)->ys.length<sizeLine->Pv (i+1) (ys++[y]) σ3 (upd H4 l (.lst (ys++[y])))->Qc σ3 y H4)->g x σ H λ σ3 H3=>te σ3 H3 (Qc σ3))
  (hd:∀ys σ H,Pv xs.length ys σ H->R H):
  ∃W:Nat->Nat->List V->St->Hp->Prop,(∃m,W 0 m [] σ0 (upd H1 l (.lst [])))/\∀i m ys σ' H',W i m ys σ' H'->
   ((Itl K a).stop i H'/\R H')\/((Itl K a).go i H'/\∀x H2,(Itl K a).yld i H' x H2->g x σ' H2 λ σ3 H3=>te σ3 H3 λ y H4=>
    H4 l=some (.lst ys)/\ys.length<sizeLine/\∃m',m'<m/\W (i+1) m' (ys++[y]) σ3 (upd H4 l (.lst (ys++[y])))):=by
 refine⟨λ i m ys σ H=>m=xs.length-i/\i≤xs.length/\Pv i ys σ H,⟨xs.length,by simp,Ap _,h0⟩,?_⟩;rintro i m ys σ H ⟨rfl,hi,p⟩;have q:=hl i ys σ H hi p;by_cases hlt:i<xs.length
 ·refine .inr ⟨⟨xs,xs[i],q,by simp [hlt]⟩,λ x H' y=>?_⟩;obtain⟨e,y⟩:=y;subst e;exact hs i x ys σ _ (λ σ3 y H4=>_) (y xs q) p λ σ3 y H4 z1 z2 z4=>⟨z1,z2,xs.length-(i+1),by lia,rfl,hlt,z4⟩
 ·have e:i=xs.length:=by lia
  subst e;exact .inl ⟨⟨xs,q,zy _⟩,hd ys σ H p⟩
theorem yc:(["_law_one","_law_text","_law_before"]:List Str).Nodup:=by decide+kernel
def Lst (i:Nat)(W T:List Nat):Prop:=∀j,j<4->cst i W T≤cst j W T/\(j<i->cst i W T<cst j W T)
section
variable {P : Program} {w : World} {K : PySem.W.Frag} {mg : Str -> Option Value} {base : Heap} {B D G CW C0 C1 C2 C3 : Addr}
def ua (C:Nat->Addr):Sp:=λ vs H Q _=>∃(lt lb o dx:Addr) (T W:List Nat) (i:Nat),vs=[.ref lt,.ref lb,.ref o]/\i<4/\H o=some (.ins (C i) dx [])/\H lt=some (.lst (T.map vN))/\H lb=some (.lst (W.map vN))/\TW T W/\Lst i W T/\∀H',Same H H'->Q (.bl true) H'
abbrev wH:List Str:=["_law_text","_law_before","_law_way","_law_costs","_law_least"]
theorem scRight:FnScope wH ["_law_text","_law_before","_law_way"] (defScope jT):=scK (by decide+kernel)
theorem rq (F:Fn K mg "_law_right" jT ["_law_text","_law_before","_law_way"] f fd)(O:Own K mg B D G CW C0 C1 C2 C3)(hm:mg "min"=none):FnOk P w K mg base CX0 39 f fd ["_law_text","_law_before","_law_way"] (ua (cs C0 C1 C2 C3)):=by
 have X:=O.Z.S0.Zb.R.X;obtain⟨_,_,Wy⟩:=O.Z.ways;have GW:=jJ (P:=P) (w:=w) (base:=base) Wy.F O.Z;obtain⟨_,_,Rb⟩:=O.runbits;have GB:=mh (P:=P) (w:=w) (base:=base) Rb X;obtain⟨_,_,Io⟩:=O.isof;have GI:=oS (P:=P) (w:=w) (base:=base) Io O;obtain⟨_,_,Re⟩:=O.readback;have GR:=kz (P:=P) (w:=w) (base:=base) Re O;refine F.F.ok scRight (λ vs H Q E h=>?_) (λ cdv A outer st H vs Q E hr h=>?_)
 ·obtain⟨lt,lb,o,dx,T,W,i,rfl,_⟩:=h;rfl
 ·obtain⟨lt,lb,o,dx,T,W,i,rfl,hi,ho,hlt,hlb,tw,hle,k⟩:=h;have hr1:Room 1 _:=hr.mono (by decide);have hr2:Room 2 _:=hr.mono (by decide);have hr36:Room 36 _:=hr.mono (by decide);have hn:=hr.hd (by decide);refine⟨_,ac (kP (N:=["_law_one","_law_text","_law_before"]) (js:=[none,some 0,some 1]) (cl:=[("_law_text",st.heap.objs.size+1),("_law_before",st.heap.objs.size+1+1)]) (g:=bf 0) (i:=3) scRight.nd rfl (Or.inl rfl) rfl ⟨rfl,by decide+kernel,by decide+kernel,by rfl,λ x c h=>?c0,λ x hx=>?c1,rfl,λ i x j h1 h2=>?c2⟩ (bu (im GW hr1 (by rfl) Wy.m Wy.F.kp Wy.b .nil ao)) (λ fp s H=>aH (i:=0) yc rfl (Or.inl rfl)) (λ fp s H=>kS (P:=P) (w:=w) (K:=K) (mg:=mg) (base:=base) (k:=36) rfl rfl rfl rfl rfl (pv 0) hr36 (aa (aU (iw (K:=K) rfl) (by rfl) X.list Aq (aa (pv 1) ad)) (aa (aU (iw (K:=K) rfl) (by rfl) X.list Aq (aa (pv 2) ad)) ad))) (by rfl))
   (ac (ak (i:=4) scRight.nd rfl (Or.inl rfl) (aq (p4 hn) (by rfl) hm Cv (aa (pv 3) ad)))
   (ac (aK (PW.pt (eT (ar bQ (pv 4) (aj cf ae (aq ap (by rfl) X.len zO (aa (pv 0) ad))) (ax _)) (eT (ar bQ (pv 4) (am GB hr1 (by rfl) Rb.m Rb.F.kp Rb.b .nil ao (aa (pv 0) ad)) (ax _)) (dn (bF (bG (am GI hr2 (by rfl) Io.m Io.F.kp Io.b .nil ao (aa (pv 2) (aa (cH Af PySem.F.slot_list_index PySem.F.type_list_index tp (pv 3) (aa (pv 4) ad)) ad))))))))) (af (az dl)) aC)
   (af (az (am GR hr (by rfl) Re.m Re.F.kp Re.b .nil ao (aa (pv 2) (aa (pv 0) (aa (pv 1) (aa (pv 4) ad))))))))),?_⟩
  case c0=>
   rcases lookup_two h with⟨rfl,rfl⟩|⟨rfl,rfl⟩<;>rfl
  case c1=>
   rcases hx with hx|hx
   ·have m':(x,NameKind.cell)∈([(".0",.local),("_law_one",.local),("list",.globalImplicit),("_law_before",.cell),("_law_text",.cell)]:List (Str×NameKind)):=Ar hx;have e:x="_law_before"\/x="_law_text":=by simpa using m'
    rcases e with rfl|rfl<;>exact⟨_,rfl⟩
   ·have m':(x,NameKind.free)∈([(".0",.local),("_law_one",.local),("list",.globalImplicit),("_law_before",.cell),("_law_text",.cell)]:List (Str×NameKind)):=Ar hx;simp at m'
  case c2=>rcases slots3 h1 h2 with⟨rfl,rfl⟩|⟨rfl,rfl⟩<;>exact⟨rfl,rfl,rfl,λ c h=>h⟩
  refine seq_g λ R1 g1=>?_
  refine⟨rfl,λ l os ds H1 nl no hl hos s1=>⟨l,rfl,⟨_,SqL.of hl⟩,λ lc nc=>?_⟩⟩;have hlt1:=s1 _ _ hlt;have hlb1:=s1 _ _ hlb;refine pT (K:=K) (a:=l) (l:=lc) (xs:=[.ref (os 0),.ref (os 1),.ref (os 2),.ref (os 3)]) (g:=bf 0)
   (λ p ys σ H2=>∃v0:Option V,σ=[v0,some (.ref lt),some (.ref lb)]/\ys=((List.range p).map λ n=>cst n W T).map vN/\(∀n,n<p->∃ps,PtOf n W T ps)/\H2 lc=some (.lst ys)/\Same H1 H2)
   ⟨none,rfl,rfl,λ n hn=>absurd hn (Ec _),upd_same,ai nc⟩ (λ p ys σ H2 _ z9=>by obtain⟨_,_,_,_,_,s2⟩:=z9;exact SqL.of (s2 _ _ hl)) ?_ ?_
  ·rintro p x ys σ H2 Qc hx ⟨v0,rfl,rfl,hps,h2c,s2⟩ kq;obtain⟨hp,rfl⟩:=ix4 hx;have WK:=O.Z.ok (P:=P) (w:=w) (base:=base) hp;obtain⟨fc,fdc,mc,bc,Gc⟩:=WK.cost;have ho2:=s2 _ _ (hos p hp);refine⟨_,rfl,os p,_,ds p,[],fc,fdc,_,_,rfl,ho2,rfl,WK.cl,mc,Gc,bc,_,rfl,lt,_,rfl,.inl (SqL.of (s2 _ _ hlt1)),λ l1 n1=>?_⟩;have s3:=ai (o:=.lst (T.map vN)) n1;have h31:(upd H2 l1 (.lst (T.map vN))) l1=_:=upd_same;generalize upd H2 l1 (.lst (T.map vN))=H3 at*;refine⟨_,rfl,lb,_,rfl,.inl (SqL.of (s3 _ _ (s2 _ _ hlb1))),λ l2 n2=>?_⟩;have s4:=ai (o:=.lst (W.map vN)) n2;have h42:(upd H3 l2 (.lst (W.map vN))) l2=_:=upd_same;generalize upd H3 l2 (.lst (W.map vN))=H4 at*;have s24:=s3.trans s4;refine⟨os p,ds p,l1,.ref l2,T,W,rfl,s24 _ _ ho2,s4 _ _ h31,.inr ⟨l2,rfl,h42⟩,tw,λ ps H5 hpt s5=>?_⟩;have s25:=s24.trans s5;refine kq _ _ _ (s25 _ _ h2c) (aX (by rw [zr,zr,BG];lia)) ⟨_,rfl,?_,λ n hn=>?_,upd_same,λ c o e=>?_⟩
   ·rw [C6,zG,zG,<-ij hpt];rfl
   ·rcases Nat.lt_succ_iff_lt_or_eq.mp hn with hn|rfl
    ·exact hps n hn
    ·exact⟨ps,hpt⟩
   ·rw [upd_ne (ag e nc)];exact s25 _ _ (s2 _ _ e)
  ·rintro ys σ H2 ⟨v0,rfl,rfl,hps,h2c,s2⟩;refine g1 _ _ ?_;clear g1;have s02:=s1.trans s2;obtain⟨ps,hpt⟩:=hps i hi;have hci:=ij hpt;have hc0:cst 0 W T=8*T.length:=by rw [ij (show PtOf 0 W T (pf false T) from rfl),eW]
   have hc1:cst 1 W T=14*(rl T).length:=by rw [ij (show PtOf 1 W T (pf true T) from rfl)];exact dg _
   have h2c':H2 lc=some (.lst ((([0,1,2,3].map λ n=>cst n W T).map λ b=>((b:Nat):Int)).map V.int)):=by
    rw [<-di];exact h2c
   have hget:∀j,j<4->(([0,1,2,3].map λ n=>cst n W T).map λ b=>((b:Nat):Int))[j]?=some ((cst j W T:Nat):Int):=by
    intro j hj
    match j,hj with
    |0,_=>rfl
    |1,_=>rfl
    |2,_=>rfl
    |3,_=>rfl
   refine seq_g λ R1 g1=>?_
   refine⟨_,rfl,lc,_,rfl,SqL.of h2c',by show(0:Nat)<4;decide,λ n hn hmin=>?_⟩;have hnm:n=((cst i W T:Nat):Int):=by
    have h1:=hmin _ (AK (hget i hi));obtain⟨j,hj,ej⟩:=DH hn;have hj4:j<4:=hj;have e2:=hget j hj4;rw [zu hj,ej] at e2;obtain rfl:=zS e2;have:=(hle j hj4).1;lia
   subst hnm;refine g1 _ _ ?_;clear g1;have el:(((T.map vN).length:Nat):Int)=((T.length:Nat):Int):=by rw [zr]
   have hl0:=(hle 0 (by decide)).1;have hl1:=(hle 1 (by decide)).1;refine seq_g λ R1 g1=>?_
   refine⟨_,rfl,_,rfl,lt,_,rfl,.inl (SqL.of (s02 _ _ hlt)),?_⟩
   try dsimp only
   rw [el];refine⟨_,_,rfl,rfl,.inl ⟨by decide,by decide⟩,_,_,rfl,rfl,_,rfl,aL (λ h=>by simp at h;lia) (λ _=>?_)⟩;refine⟨_,rfl,_,rfl,lt,T,rfl,s02 _ _ hlt,tw.le,λ H3 s3=>?_⟩;refine⟨_,_,rfl,rfl,_,rfl,aL (λ h=>by simp at h;lia) (λ _=>?_)⟩;have s03:=s02.trans s3;refine⟨_,rfl,_,rfl,.inl ⟨rfl,_,SqL.of (s3 _ _ h2c')⟩,_,rfl,lc,_,_,i,rfl,rfl,s3 _ _ h2c',hget i hi,λ j hj z=>?_,?_⟩
   ·rw [hget j (Nat.lt_trans hj hi)] at z;have:=(hle j (Nat.lt_trans hj hi)).2 hj;have:=zS z;lia
   refine⟨o,dx,i,rfl,hi,s03 _ _ ho,λ H4 s4=>⟨true,rfl,bz (g1 _ _ ?_)⟩⟩;clear g1;have s04:=s03.trans s4;refine⟨_,rfl,_,rfl,_,rfl,_,rfl,o,dx,lt,lb,T,W,i,ps,by rw [hci];rfl,hi,s04 _ _ ho,s04 _ _ hlt,s04 _ _ hlb,tw,hpt,λ H5 s5=>k _ (s04.trans s5)⟩
end
abbrev sLaw:Stmt:=top 89
theorem oa (h:SqL K H a xs)(s:∀o,H a=some o->H' a=some o):SqL K H' a xs:=by
 rcases h with(e|⟨o,e⟩)|h
 ·exact .inl (.inl (s _ e))
 ·exact .inl (.inr ⟨o,s _ e⟩)
 ·exact .inr h
theorem Lst.of {i:Nat}{W T:List Nat}(h:∀j,j<4->cst i W T≤cst j W T/\(j<i->cst i W T<cst j W T)):Lst i W T:=h
structure All (K:PySem.W.Frag)(mg:Str->Option Value)(B D C CW C0 C1 C2 C3 c:Addr):Prop where
 O:Own K mg B D C CW C0 C1 C2 C3
 min:mg "min"=none
 right:∃f fd,Fn K mg "_law_right" jT ["_law_text","_law_before","_law_way"] f fd
 cell:∃f fd,Fn K mg "_law_cell_at" eI ["_law_script","_law_k"] f fd
 drawn:∃f fd,Fn K mg "_law_drawn" fJ ["_law_seed","_law_k"] f fd
 signs:∃f fd,Fn K mg "_law_signs" gY ["_law_cell","_law_size","_law_ahead"] f fd
 textby:∃f fd,Fn K mg "_law_text_by" gG ["_law_script","_law_first"] f fd
 best:∃f fd dV,FunC K "best_way" "best_way" sBestWay dV c f fd/\mg "best_way"=some (.ref f)/\Binds K fd ["text","before"] []/\Binds K fd ["text","before"] [.none]
theorem oJ {Tb:Addr}(h:TbB Tb H)(s:∀c o,H c=some o->(∀xs,o≠ .lst xs)->H' c=some o):TbB Tb H':=by
 obtain⟨ps,e,h⟩:=h;refine⟨ps,s _ _ e (by intro xs z;cases z),?_⟩;rcases h with h|⟨c',oc,vs,t,a,b,r⟩
 ·exact .inl h
 ·exact .inr ⟨c',oc,vs,t,a,s _ _ b (by intro xs z;cases z),r⟩
theorem sH {p:Addr}{ys:List V}(h:H p=some (.lst xs)):∀c o,H c=some o->(∀xs,o≠ .lst xs)->(upd H p (.lst ys)) c=some o:=λ c o e n=>by
 rw [upd_ne (λ z=>by rw [z,h] at e;exact n xs (zS e).symm)];exact e
theorem wR {R:V->V->Prop}{x0 x1 y0 y1:V}(h0:R x0 y0)(h1:R x1 y1){i:Nat}{x y:V}(hx: [x0,x1][i]?=some x)(hy: [y0,y1][i]?=some y):R x y:=by
 rcases i with _|_|i
 ·cases hx;cases hy;exact h0
 ·cases hx;cases hy;exact h1
 ·cases hx
theorem yT:(["_law_k","_law_found"]:List Str).Nodup:=by decide+kernel
theorem vp {k y z x:Str}(hx:List.lookup x ([(".0",.local),(k,.local),(z,.globalImplicit),(y,.cell)]:List (Str×NameKind))=some .cell\/List.lookup x ([(".0",.local),(k,.local),(z,.globalImplicit),(y,.cell)]:List (Str×NameKind))=some .free):x=y:=by
 rcases hx with hx|hx
 ·have m':=Ar hx;simpa using m'
 ·have m':=Ar hx;simp at m'
section
variable {P : Program} {w : World} {K : PySem.W.Frag} {mg : Str -> Option Value} {base : Heap} {B D G CW C0 C1 C2 C3 c Tb : Addr}
def oi (K:PySem.W.Frag)(Tb:Addr):Sp:=λ vs H Q _=>∃(a:Addr) (ns:List Int),vs=[.ref a]/\SqL K H a (ns.map V.int)/\H Tb=some (.tbl #[])/\a≠Tb/\∀H',Q (.bl true) H'
abbrev yX:List Str:=["_law_script","_law_text","_law_before","_law_found","_law_handed","_law_way","_law_other","_law_last"]
theorem scLaw:FnScope yX ["_law_script"] (defScope sLaw):=scK (by decide+kernel)
theorem xG (F:Fun K "law" "law" sLaw f fd)(Z:All K mg B D G CW C0 C1 C2 C3 c)(hC:PySem.W.CodeHd base c Tb)(hB:BmAt mg base)(hK:K.lookup Tb=none):FnOk P w K mg base CX0 40 f fd ["_law_script"] (oi K Tb):=by
 have O:=Z.O;have X:=O.Z.S0.Zb.R.X;obtain⟨_,_,Wy⟩:=O.Z.ways;have GW:=jJ (P:=P) (w:=w) (base:=base) Wy.F O.Z;obtain⟨_,_,Io⟩:=O.isof;have GI:=oS (P:=P) (w:=w) (base:=base) Io O;obtain⟨_,_,Ri⟩:=Z.right;have GR:=rq (P:=P) (w:=w) (base:=base) Ri O Z.min;obtain⟨_,_,Ce⟩:=Z.cell;obtain⟨_,_,Dr⟩:=Z.drawn;obtain⟨_,_,Si⟩:=Z.signs;obtain⟨_,_,Tx⟩:=Z.textby;obtain⟨_,_,_,FB,mB,bB,dB⟩:=Z.best;have GC:=oW (P:=P) (w:=w) (base:=base) Ce X;have GS:=kQ (P:=P) (w:=w) (base:=base) Si Dr X;have GT:=ql (P:=P) (w:=w) (base:=base) Tx Ce Si Dr X;have GB:=ur (P:=P) (w:=w) FB O.Z Z.min hC hB hK;refine F.ok scLaw (λ vs H Q E h=>?_) (λ cdv A outer st H vs Q E hr h=>?_)
 ·obtain⟨a,ns,rfl,_⟩:=h;rfl
 ·obtain⟨a,ns,rfl,hS,hT0,na,k⟩:=h;have hr1:Room 1 _:=hr.mono (by decide);have hr2:Room 2 _:=hr.mono (by decide);have hr31:Room 31 _:=hr.mono (by decide);have hr32:Room 32 _:=hr.mono (by decide);have hu:=hr.units;refine⟨_,ac (jU (am GT hr32 (by rfl) Tx.m Tx.F.kp Tx.b .nil ao (aa (pv 0) (aa ae ad))) (iE rfl (bA (aH (i:=1) scLaw.nd rfl (Or.inl rfl)) (bA (aH (i:=2) scLaw.nd rfl (Or.inl rfl)) eN))))
   (ac (ak (i:=3) scLaw.nd rfl (Or.inr rfl) (im GW hr1 (by rfl) Wy.m Wy.F.kp Wy.b .nil ao))
   (ac (aK (PW.pt (eT (bF (bG (aq fm (by rfl) X.isi AN (aa (pv 3) (aa (gw (v:=.ty "list") (by rfl) X.list Aq rfl) ad))))) (dn (ar oN (aq ap (by rfl) X.len zO (aa (pv 3) ad)) ae (ax _))))) (af (az dl)) aC)
   (ac (aK (ar (jC hu) (iW (N:=["_law_k","_law_found"]) (js:=[none,some 3]) (cl:=[("_law_found",st.heap.objs.size+1)]) (g:=bf 0) rfl ⟨rfl,by decide+kernel,by decide+kernel,by rfl,λ x c h=>(by obtain⟨rfl,rfl⟩:=cy h;rfl),λ x hx=>(by obtain rfl:=vp hx;exact⟨_,rfl⟩),rfl,λ i x j h1 h2=>?c2⟩ (bq (by rfl) X.range (aa ae ad)) (λ fp s H=>aH (i:=0) yT rfl (Or.inl rfl)) (λ fp s H=>bF (bG (am GI hr2 (by rfl) Io.m Io.F.kp Io.b .nil ao (aa (aM (lB (K:=K) rfl) (pv 1) (pv 0) (λ _ _=>rfl)) (aa (pv 0) ad))))) (λ fp s H=>pv 0)) (aW ad) (ax _)) (af (az dl)) aC)
   (ac (aA (mZ Af Cr C8 iq (pv 3)))
   (ac (ak (i:=4) scLaw.nd rfl (Or.inl rfl) (aW (aa (aU aN (by rfl) X.list Aq (aa (pv 1) ad)) (aa (aU aN (by rfl) X.list Aq (aa (pv 2) ad)) ad))))
   (ac (ak (i:=5) scLaw.nd rfl (Or.inl rfl) (am GB hr (by rfl) mB FB.kp bB .nil ao (aa (aM aP (pv 4) ae (λ _ _=>rfl)) (aa (aM aP (pv 4) ae (λ _ _=>rfl)) ad))))
   (ac (aK (PW.pt (eT (bF (bG (am GR hr (by rfl) Ri.m Ri.F.kp Ri.b .nil ao (aa (pv 1) (aa (pv 2) (aa (pv 5) ad)))))) (dn (ar (vD hu) (pv 4) (aW (aa (pv 1) (aa (pv 2) ad))) (ax _))))) (af (az dl)) aC)
   (ac (aA (mZ Af Cr C8 iq (aM aP (pv 4) ae (λ _ _=>rfl))))
   (ac (aA (mZ Af Cr C8 iq (aM aP (pv 4) ae (λ _ _=>rfl))))
   (ac (ak (i:=6) scLaw.nd rfl (Or.inl rfl) (am GS hr31 (by rfl) Si.m Si.F.kp Si.b .nil ao (aa (am GC hr1 (by rfl) Ce.m Ce.F.kp Ce.b .nil ao (aa (pv 0) (aa ae ad))) (aa (aj aE ae (aj aZ (am GC hr1 (by rfl) Ce.m Ce.F.kp Ce.b .nil ao (aa (pv 0) (aa ae ad))) ae)) (aa (aW ad) ad)))))
   (ac (aK (ar bj (aj aZ (aj a9 (am GC hr1 (by rfl) Ce.m Ce.F.kp Ce.b .nil ao (aa (pv 0) (aa ae ad))) ae) ae) ae (ax _)) (af (ak (i:=7) scLaw.nd rfl (Or.inl rfl) (am GB hr (by rfl) mB FB.kp dB (dvs:=[.non]) (.cons rfl .nil) ao (aa (aU aN (by rfl) X.list Aq (aa (pv 6) ad)) ad)))) (af (ak (i:=7) scLaw.nd rfl (Or.inl rfl) (am GB hr (by rfl) mB FB.kp bB .nil ao (aa (aU aN (by rfl) X.list Aq (aa (pv 6) ad)) (aa jH ad))))))
   (af (az (am GR hr (by rfl) Ri.m Ri.F.kp Ri.b .nil ao (aa (pv 6) (aa (aW ad) (aa (pv 7) ad))))))))))))))))),?_⟩
  case c2=>obtain⟨rfl,rfl⟩:=iy h1 h2;exact⟨rfl,rfl,rfl,λ c h=>h⟩
  have tb0:TbB Tb H:=⟨_,hT0,.inl rfl⟩;refine seq_g λ R1 g1=>?_
  refine⟨_,rfl,a,ns,1,rfl,hS,λ tt lt lb T W H1 s1 ht0 hlt hlb h1 h64 hWl hTb hWb=>⟨tt,_,rfl,SqT.of ht0,rfl,_,_,rfl,_,_,rfl,rfl,g1 _ _ ?_⟩⟩;clear g1 ht0;have tw:TW T W:=⟨hTb,h1,h64,hWb,hWl⟩;have hS1:SqL K H1 a (ns.map V.int):=oa hS λ o e=>s1 _ _ e
  have tb1:=tb0.same s1;refine seq_g λ R1 g1=>?_
  refine⟨rfl,λ l os ds H2 nl no hl hos s2=>g1 _ _ ?_⟩;clear g1;refine seq_g λ R1 g1=>?_
  refine⟨_,rfl,_,_,_,_,rfl,.lst hl,qZ K,_,rfl,bz ?_⟩;refine⟨_,rfl,l,_,rfl,.inl (SqL.of hl),rfl,_,rfl,aL (λ h=>by simp at h) (λ _=>g1 _ _ ?_)⟩;clear g1;refine seq_g λ R1 g1=>?_
  refine⟨4,rfl,by decide,by decide,λ lc nc=>?_⟩;refine ip (g:=bf 0) (lo:=0) (l:=lc) (k:=4) (λ i ys σ H3=>∃v0:Option V,σ=[v0,some (.ref l)]/\ys=[]/\H3 lc=some (.lst [])/\Same H2 H3) ⟨none,rfl,rfl,upd_same,ai nc⟩ ?_ ?_ ?_ ?_ ?_
  ·rintro i ys σ H3 hi ⟨v0,rfl,rfl,h3c,s3⟩;rw [Int.zero_add];refine⟨_,rfl,_,rfl,l,_,_,_,rfl,rfl,SqL.of (s3 _ _ hl),ay (gx4 hi),_,rfl,os i,ds i,i,rfl,hi,s3 _ _ (hos i hi),λ H4 s4=>⟨true,rfl,bz ⟨_,rfl,rfl,s4 _ _ h3c,s3.trans s4⟩⟩⟩
  rotate_left
  ·exact λ x σ H A B h z=>h _ _ z
  ·rintro σ H A B h ⟨v1,e1,v2,e2,p,xs,i,v,e3,e4,e5,e6,v3,e7,o,dx,i2,e8,e9,e10,z⟩;refine⟨v1,e1,v2,e2,p,xs,i,v,e3,e4,e5,e6,v3,e7,o,dx,i2,e8,e9,e10,λ H' s=>?_⟩;obtain⟨c,e,z⟩:=z H' s;exact⟨c,e,h _ _ z⟩
  ·exact λ σ H A B h ⟨v,e,z⟩=>⟨v,e,h _ _ z⟩
  rintro ys σ H3 ⟨v0,rfl,rfl,h3c,s3⟩;refine⟨by decide,λ q nq=>⟨lc,q,[],[],rfl,rfl,SqL.of (ai nq _ _ h3c),SqL.of upd_same,_,rfl,aL (λ h=>by simp at h) (λ _=>g1 _ _ ?_)⟩⟩;clear g1;have s24:=s3.trans (ai (o:=.lst []) nq);clear s3 h3c nc;generalize upd H3 q (.lst [])=H4 at*;refine seq_g λ R1 g1=>?_
  refine⟨_,rfl,.inl ⟨rfl,_,SqL.of (s24 _ _ hl)⟩,l,_,rfl,rfl,s24 _ _ hl,g1 _ _ ?_⟩;clear g1;have s15:Same H1 (upd H4 l (.lst [])):=λ c o e=>by
   rw [upd_ne (ag e nl)];exact s24 _ _ (s2 _ _ e)
  generalize upd H4 l (.lst [])=H5 at*;refine seq_g λ R1 g1=>?_
  refine⟨_,rfl,lt,_,rfl,.inl (SqL.of (s15 _ _ hlt)),λ a1 n1=>?_⟩;have s56:=ai (o:=.lst (T.map vN)) n1;have h61:(upd H5 a1 (.lst (T.map vN))) a1=_:=upd_same;have s16:=s15.trans s56;have na1:H1 a1=none:=none_of s15 n1;generalize upd H5 a1 (.lst (T.map vN))=H6 at*;refine⟨_,rfl,lb,_,rfl,.inl (SqL.of (s16 _ _ hlb)),λ a2 n2=>?_⟩;have s67:=ai (o:=.lst (W.map vN)) n2;have h72:(upd H6 a2 (.lst (W.map vN))) a2=_:=upd_same;have s17:=s16.trans s67;have na2:H1 a2=none:=none_of s16 n2;have n12:a1≠a2:=ag h61 n2;have h71:=s67 _ _ h61;generalize upd H6 a2 (.lst (W.map vN))=H7 at*;refine⟨by show(2:Nat)≤sizeLine;decide,λ lh nh=>g1 _ _ ?_⟩;clear g1;have s78:=ai (o:=.lst [.ref a1,.ref a2]) nh;have h8h:(upd H7 lh (.lst [.ref a1,.ref a2])) lh=_:=upd_same;have s18:=s17.trans s78;have h81:=s78 _ _ h71;have h82:=s78 _ _ h72;have nh1:a1≠lh:=ag h71 nh;have nh2:a2≠lh:=ag h72 nh;generalize upd H7 lh (.lst [.ref a1,.ref a2])=H8 at*;have tb8:=tb1.same s18;have hlt8:=s18 _ _ hlt;have hlb8:=s18 _ _ hlb;clear s15 s16 s17 s56 s67 s78 h61 h71 h72 n1 n2 nh s24 s2 hl hos no nl;refine seq_g λ R1 g1=>?_
  refine⟨_,rfl,lh,_,_,_,rfl,rfl,SqL.of h8h,ay (j:=0) rfl,_,rfl,lh,_,_,_,rfl,rfl,SqL.of h8h,ay (j:=1) rfl,a1,.ref a2,T,W,rfl,h81,.inr ⟨a2,rfl,h82⟩,tw,tb8,λ i o dx H9 hi no ho hmin sT tb9=>g1 _ _ ?_⟩;clear g1;have kl:∀{p:Addr} {xs:List V},H8 p=some (.lst xs)->H9 p=some (.lst xs):=λ e=>sT _ _ (tb8.ne e (by intro ps z;cases z)) e
  refine seq_g λ R1 g1=>?_
  refine⟨_,rfl,_,rfl,_,rfl,lt,lb,o,dx,T,W,i,rfl,hi,ho,kl hlt8,kl hlb8,tw,hmin,λ H10 s10=>⟨true,rfl,bz ?_⟩⟩;refine⟨_,rfl,_,rfl,_,rfl,by show(2:Nat)≤sizeLine;decide,λ lx nx=>?_⟩;have sx:=s10.trans (ai (o:=.lst [.ref lt,.ref lb]) nx);have hxx:(upd H10 lx (.lst [.ref lt,.ref lb])) lx=_:=upd_same;generalize upd H10 lx (.lst [.ref lt,.ref lb])=H11 at*;have h11h:=sx _ _ (kl h8h);have h11a:=sx _ _ (kl h81);have h11b:=sx _ _ (kl h82);refine⟨lh,lx,rfl,rfl,⟨_,_,SqL.of h11h,SqL.of hxx,rfl,λ i x y hx hy=>.inr ?_⟩,_,rfl,aL (λ h=>by simp at h) (λ _=>g1 _ _ ?_)⟩
  ·exact wR (R:=λ x y=>∃(a b:Addr) (ns:List Int),x=.ref a/\y=.ref b/\SqL K H11 a (ns.map V.int)/\SqL K H11 b (ns.map V.int))
    ⟨a1,lt,T.map (λ b=>((b:Nat):Int)),rfl,rfl,by rw [<-di];exact SqL.of h11a,by rw [<-di];exact SqL.of (sx _ _ (kl hlt8))⟩
    ⟨a2,lb,W.map (λ b=>((b:Nat):Int)),rfl,rfl,by rw [<-di];exact SqL.of h11b,by rw [<-di];exact SqL.of (sx _ _ (kl hlb8))⟩ hx hy
  clear g1;have tb11:=tb9.same sx;have z11:SameT Tb H1 H11:=λ c o n e=>sx _ _ (sT _ _ n (s18 _ _ e))
  clear sx hxx s10 nx kl sT tb8 tb9 s18 h8h h81 h82 hlt8 hlb8 ho no;refine seq_g λ R1 g1=>?_
  refine⟨_,rfl,lh,_,_,_,rfl,rfl,SqL.of h11h,ay (j:=0) rfl,.inl ⟨rfl,_,SqL.of h11a⟩,a1,_,rfl,rfl,h11a,g1 _ _ ?_⟩;clear g1;have h12h:(upd H11 a1 (.lst [])) lh=_:=(upd_ne nh1.symm).trans h11h;have h12b:(upd H11 a1 (.lst [])) a2=_:=(upd_ne n12.symm).trans h11b;have tb12:=oJ tb11 (sH (ys:=[]) h11a);have z12:SameT Tb H1 (upd H11 a1 (.lst [])):=λ c o n e=>(upd_ne (ag e na1)).trans (z11 _ _ n e)
  generalize upd H11 a1 (.lst [])=H12 at*;refine seq_g λ R1 g1=>?_
  refine⟨_,rfl,lh,_,_,_,rfl,rfl,SqL.of h12h,ay (j:=1) rfl,.inl ⟨rfl,_,SqL.of h12b⟩,a2,_,rfl,rfl,h12b,g1 _ _ ?_⟩;clear g1;have tb13:=oJ tb12 (sH (ys:=[]) h12b);have z13:SameT Tb H1 (upd H12 a2 (.lst [])):=λ c o n e=>(upd_ne (ag e na2)).trans (z12 _ _ n e)
  generalize upd H12 a2 (.lst [])=H13 at*;have hS13:SqL K H13 a (ns.map V.int):=oa hS1 λ o e=>z13 _ _ na e
  clear z13 z12 z11 tb12 tb11 h12h h12b h11h h11a h11b;obtain⟨m,hm,hm1,hm2⟩:∃m:Nat,1+ns.getD 0 0%12=((m:Nat):Int)/\1≤m/\m≤12:=⟨(1+ns.getD 0 0%12).toNat,by lia,by lia,by lia⟩;refine seq_g λ R1 g1=>?_
  refine⟨_,rfl,a,ns,4,rfl,hS13,_,rfl,a,ns,0,rfl,hS13,_,_,rfl,rfl,(by show(0:Int)<12;decide),_,_,rfl,rfl,?_⟩
  try dsimp only
  rw [hm];refine⟨by decide,λ le ne=>⟨_,m,le,[],rfl,upd_same,(by intro b hb;cases hb),by decide,by lia,λ lo To H14 s14 nlo hlo hTl hTo=>g1 _ _ ?_⟩⟩;clear g1;have s13:=(ai ne).trans s14;have tw2:TW To []:=⟨hTo,by lia,by lia,(by intro b hb;cases hb),by decide⟩;have tb14:=tb13.same s13;refine seq_g λ R1 g1=>?_
  have J:∀(i:Nat) (o2 dx2:Addr) (H15:Hp),i<4->H15 o2=some (.ins (cs C0 C1 C2 C3 i) dx2 [])->Lst i [] To->H15 lo=some (.lst (To.map vN))->R1 [some (.ref a),some (.ref lt),some (.ref lb),some (.ref l),some (.ref lh),some (.ref o),some (.ref lo),some (.ref o2)] H15:=by
   intro i o2 dx2 H15 hi ho hmin hlo;refine g1 _ _ ?_;refine⟨_,rfl,by decide,λ lz nz=>⟨_,rfl,lo,lz,o2,dx2,To,[],i,rfl,hi,ai nz _ _ ho,ai nz _ _ hlo,upd_same,tw2,hmin,λ H16 s16=>k _⟩⟩
  clear g1;have hS14:SqL K H14 a (ns.map V.int):=s13.seq hS13;have JB:∀(l2:Addr),H14 l2=none->qG Tb (cs C0 C1 C2 C3) [.ref l2,.non] (upd H14 l2 (.lst (To.map vN))) (λ v H'=>bf 7 v [some (.ref a),some (.ref lt),some (.ref lb),some (.ref l),some (.ref lh),some (.ref o),some (.ref lo),none] H' R1) E0:=by
   intro l2 nl2;have s15:=ai (o:=.lst (To.map vN)) nl2;have tb15:=tb14.same s15;exact⟨l2,.non,To,[],rfl,upd_same,.inl ⟨rfl,rfl⟩,tw2,tb15,λ i o dx H16 hi no ho hmin sT tb16=>J i o dx H16 hi ho hmin (sT _ _ (tb15.ne (s15 _ _ hlo) (by intro ps z;cases z)) (s15 _ _ hlo))⟩
  refine⟨_,rfl,a,ns,0,rfl,hS14,_,_,rfl,rfl,⟨by decide,by decide⟩,_,_,rfl,rfl,(by show(0:Int)<2;decide),rfl,_,rfl,aL (λ _=>?_) (λ _=>?_)⟩
  ·exact⟨_,rfl,lo,_,rfl,.inl (SqL.of hlo),JB⟩
  ·exact⟨_,rfl,lo,_,rfl,.inl (SqL.of hlo),JB⟩
end
end K20
set_option maxHeartbeats 8000000
namespace K20
open PySem L2 QQ
variable {C Tb c f : Addr} {qu x : Str} {cd ct dc oc pm : Value} {sl : Array (Option Value)} {ps : List Str} {us : List Value} {P : List Value->Prop} {st : Stmt} {an od : Option Addr}
section
variable {K : PySem.W.Frag} {mg : Str -> Option Value} {h : Heap}
abbrev Bn (x qu:Str)(st:Stmt)(ps:List Str):Prop:=∀(us:List Value),us.length=ps.length->∀(kV dc pm:Value) (an:Option Addr) (cd ct:Value),bindArgs (PySem.W.fnOf x qu (defArgs st) (defBody st) (defScope st) .none kV dc pm an cd ct) ⟨us,[]⟩=pure (ps.zip us)
def TD (K:PySem.W.Frag)(x:Str)(st:Stmt):Prop:=∃(f:Addr) (oc:Value) (od an:Option Addr) (sl:Array (Option Value)) (kV dc pm cd ct:Value),PySem.W.nsIn K mainGlobals x=some (some (.ref f))/\K.lookup f=some ⟨oc,od,.func (PySem.W.fnOf x x (defArgs st) (defBody st) (defScope st) .none kV dc pm an cd ct),sl⟩/\PySem.W.codeIn K cd x=true/\PySem.W.keepIn K (.ref f)=true
theorem TD.i {kV:Value}(a:PySem.W.nsIn K mainGlobals x=some (some (.ref f)))(l:K.lookup f=some ⟨oc,od,.func (PySem.W.fnOf x x (defArgs st) (defBody st) (defScope st) .none kV dc pm an cd ct),sl⟩)(c:PySem.W.codeIn K cd x=true)(k:PySem.W.keepIn K (.ref f)=true):TD K x st:=⟨f,oc,od,an,sl,kV,dc,pm,cd,ct,a,l,c,k⟩
theorem TD.fu (d:TD K x st)(X:K.In h)(G:h.Ns mainGlobals mg)(b:Bn x x st ps):∃(f:Addr) (fd:FuncData),Fun K x x st f fd/\mg x=some (.ref f)/\Binds K fd ps []:=by
 obtain⟨f,oc,od,an,sl,kV,dc,pm,cd,ct,a,l,c,k⟩:=d;have F:=jV l c k;exact⟨_,_,F,Av X G a,.all λ us hl=>b us hl _ _ _ _ _ _⟩
theorem TD.fn (d:TD K x st)(X:K.In h)(G:h.Ns mainGlobals mg)(b:Bn x x st ps):∃f fd,Fn K mg x st ps f fd:=by
 obtain⟨f,fd,F,m,b⟩:=d.fu X G b;exact⟨f,fd,F,m,b⟩
def MD (K:PySem.W.Frag)(C:Addr)(x qu:Str)(st:Stmt):Prop:=∃(f:Addr) (oc:Value) (od an:Option Addr) (sl:Array (Option Value)) (kV dc pm cd ct:Value),PySem.W.findIn K (.ref C) x=some (some (.ref f))/\PySem.W.isFn K (.ref f)=true/\K.lookup f=some ⟨oc,od,.func (PySem.W.fnOf x qu (defArgs st) (defBody st) (defScope st) .none kV dc pm an cd ct),sl⟩/\PySem.W.codeIn K cd qu=true/\PySem.W.keepIn K (.ref f)=true
theorem MD.i {kV:Value}(a:PySem.W.findIn K (.ref C) x=some (some (.ref f)))(i:PySem.W.isFn K (.ref f)=true)(l:K.lookup f=some ⟨oc,od,.func (PySem.W.fnOf x qu (defArgs st) (defBody st) (defScope st) .none kV dc pm an cd ct),sl⟩)(c:PySem.W.codeIn K cd qu=true)(k:PySem.W.keepIn K (.ref f)=true):MD K C x qu st:=⟨f,oc,od,an,sl,kV,dc,pm,cd,ct,a,i,l,c,k⟩
theorem MD.me (d:MD K C x qu st)(b:Bn x qu st ps):∃f fd,Me K C x qu st ps f fd:=by
 obtain⟨f,oc,od,an,sl,kV,dc,pm,cd,ct,a,i,l,c,k⟩:=d;exact⟨_,_,jV l c k,⟨a,i,k⟩,.all λ us hl=>b us hl _ _ _ _ _ _⟩
theorem MD.ini (d:MD K C "__init__" qu st)(mk:PySem.W.makesIn K C=true)(kc:PySem.W.keepIn K (.ref C)=true)(b:Bn "__init__" qu st ps):∃f fd,Fun K "__init__" qu st f fd/\Binds K fd ps []/\Mk K C f:=by
 obtain⟨f,oc,od,an,sl,kV,dc,pm,cd,ct,a,i,l,c,k⟩:=d;exact⟨_,_,jV l c k,.all λ us hl=>b us hl _ _ _ _ _ _,⟨mk,a,i,kc⟩⟩
theorem m0 (h:P []):∀us:List Value,us.length=0->P us:=λ us hl=>by
 cases us with
 |nil=>exact h
 |cons a us=>cases hl
theorem mS {n:Nat}(h:∀a (us:List Value),us.length=n->P (a::us)):∀us:List Value,us.length=n+1->P us:=λ us hl=>by
 cases us with
 |nil=>cases hl
 |cons a us=>exact h a us (Nat.succ.inj hl)
theorem m1 (h:∀a,P [a]):∀us:List Value,us.length=1->P us:=mS λ a=>m0 (h a)
theorem m2 (h:∀a b,P [a,b]):∀us:List Value,us.length=2->P us:=mS λ a=>m1 (h a)
theorem m3 (h:∀a b c,P [a,b,c]):∀us:List Value,us.length=3->P us:=mS λ a=>m2 (h a)
theorem m4 (h:∀a b c d,P [a,b,c,d]):∀us:List Value,us.length=4->P us:=mS λ a=>m3 (h a)
theorem e1 (h:us.length=1):∃a,us=[a]:=m1 (P:=λ us=>∃a,us=[a]) (λ a=>⟨a,rfl⟩) us h
theorem e2 (h:us.length=2):∃a b,us=[a,b]:=m2 (P:=λ us=>∃a b,us=[a,b]) (λ a b=>⟨a,b,rfl⟩) us h
theorem e3 (h:us.length=3):∃a b c,us=[a,b,c]:=m3 (P:=λ us=>∃a b c,us=[a,b,c]) (λ a b c=>⟨a,b,c,rfl⟩) us h
end
theorem all_mk {l:PySem.W.OpenLaw}{w:World}{K:PySem.W.Frag}{h:Heap}{mg:Str->Option Value}{fa B D E CW C0 C1 C2 C3:Addr}(hKT:K.lookup Tb=none)(X:K.In h)(G:h.Ns mainGlobals mg)(hfa:mg "law"=some (.ref fa))
  {f1:Addr} {od1 an1:Option Addr} {sl1:Array (Option Value)} {oc1 kV1 dc1 pm1 cd1 ct1:Value}
  {t1000:Tok}
  {t1001:Tok}
  {t1002:Tok}
  {t1003:Tok}
  {t1004:Tok}
  {t1005:Tok}
  {t1006:Tok}
  {t1007:Tok}
  {t1008:Tok}
  {t1009:Tok}
  {t1010:Tok}
  {t1011:Tok}
  {t1012:Tok}
  {t1013:Tok}
  {t1014:Tok}
  {t1015:Tok}
  {f10:Addr} {od10 an10:Option Addr} {sl10:Array (Option Value)} {oc10 kV10 dc10 pm10 cd10 ct10:Value}
  {dT10:Addr} {ocT10:Value} {odT10:Option Addr} {nT10:Nat} {slT10:Array (Option Value)}
  {f29:Addr} {od29 an29:Option Addr} {sl29:Array (Option Value)} {oc29 kV29 dc29 pm29 cd29 ct29:Value}
  {dT29:Addr} {ocT29:Value} {odT29:Option Addr} {nT29:Nat} {slT29:Array (Option Value)} {tT29:Tok}
  {f78:Addr} {od78 an78:Option Addr} {sl78:Array (Option Value)} {oc78 kV78 dc78 pm78 ct78:Value}
  {dT78:Addr} {ocT78:Value} {odT78:Option Addr} {nT78:Nat} {slT78:Array (Option Value)}
  (a1:PySem.W.nsIn K mainGlobals "law"=some (some (.ref f1)))
  (l1:K.lookup f1=some ⟨oc1,od1,.func (PySem.W.fnOf "law" "law" (defArgs sLaw) (defBody sLaw) (defScope sLaw) .none kV1 dc1 pm1 an1 cd1 ct1),sl1⟩)
  (c1:PySem.W.codeIn K cd1 "law"=true)
  (k1:PySem.W.keepIn K (.ref f1)=true)
  (z_isinstance:PySem.W.nsIn K mainGlobals "isinstance"=some none)
  (z_bool:PySem.W.nsIn K mainGlobals "bool"=some none)
  (z_int:PySem.W.nsIn K mainGlobals "int"=some none)
  (z_list:PySem.W.nsIn K mainGlobals "list"=some none)
  (z_len:PySem.W.nsIn K mainGlobals "len"=some none)
  (z_range:PySem.W.nsIn K mainGlobals "range"=some none)
  (z_max:PySem.W.nsIn K mainGlobals "max"=some none)
  (z_min:PySem.W.nsIn K mainGlobals "min"=some none)
  (gv0:PySem.W.nsIn K mainGlobals "GREATEST"=some (some (.int 255 t1000)))
  (gv1:PySem.W.nsIn K mainGlobals "MOST_SIZE"=some (some (.int 24 t1001)))
  (gv2:PySem.W.nsIn K mainGlobals "MOST_SIGNS"=some (some (.int 64 t1002)))
  (gv3:PySem.W.nsIn K mainGlobals "MOST_AHEAD"=some (some (.int 192 t1003)))
  (gv4:PySem.W.nsIn K mainGlobals "FARTHEST"=some (some (.int 255 t1004)))
  (gv5:PySem.W.nsIn K mainGlobals "LEAST_COPIED"=some (some (.int 3 t1005)))
  (gv6:PySem.W.nsIn K mainGlobals "MOST_COPIED"=some (some (.int 18 t1006)))
  (z_sum:PySem.W.nsIn K mainGlobals "sum"=some none)
  (z_enumerate:PySem.W.nsIn K mainGlobals "enumerate"=some none)
  (z_sorted:PySem.W.nsIn K mainGlobals "sorted"=some none)
  (gv7:PySem.W.nsIn K mainGlobals "MOST_BITS"=some (some (.int 6 t1007)))
  (gv8:PySem.W.nsIn K mainGlobals "MOST_LENGTH"=some (some (.int 12 t1008)))
  (gv9:PySem.W.nsIn K mainGlobals "MOST_THINGS"=some (some (.int 300 t1009)))
  (gv10:PySem.W.nsIn K mainGlobals "MOST_COUNT"=some (some (.int 1000000 t1010)))
  (gv11:PySem.W.nsIn K mainGlobals "MANY"=some (some (.int 272 t1011)))
  (gv12:PySem.W.nsIn K mainGlobals "AGAIN"=some (some (.int 7 t1012)))
  (gv13:PySem.W.nsIn K mainGlobals "LEAST_AGAIN"=some (some (.int 3 t1013)))
  (gv14:PySem.W.nsIn K mainGlobals "MOST_AGAIN"=some (some (.int 66 t1014)))
  (gv15:PySem.W.nsIn K mainGlobals "FIRST_COPY"=some (some (.int 256 t1015)))
  (d2:TD K "is_number" gy)
  (d3:TD K "is_whole" bJ)
  (d4:TD K "are_whole" bv)
  (d5:TD K "is_row" jo)
  (d6:TD K "need_row" bO)
  (d7:TD K "need_window" cT)
  (d8:TD K "alike_from" gN)
  (d9:TD K "longest_copy" eQ)
  (a10:PySem.W.nsIn K mainGlobals "pieces_of"=some (some (.ref f10)))
  (l10:K.lookup f10=some ⟨oc10,od10,.func (PySem.W.fnOf "pieces_of" "pieces_of" (defArgs sPiecesOf) (defBody sPiecesOf) (defScope sPiecesOf) (.ref dT10) kV10 dc10 pm10 an10 cd10 ct10),sl10⟩)
  (c10:PySem.W.codeIn K cd10 "pieces_of"=true)
  (k10:PySem.W.keepIn K (.ref f10)=true)
  (t10:K.lookup dT10=some ⟨ocT10,odT10,.seq #[.none] nT10,slT10⟩)
  (d11:TD K "add_copy" dt)
  (d12:TD K "need_ahead" cE)
  (d13:TD K "need_signs" db)
  (d14:TD K "signs_ahead" eS)
  (d15:TD K "need_room" cX)
  (d16:TD K "lay_copy" fq)
  (pgB:PySem.W.plainGet K B Str.empty=true)
  (hdB:PySem.W.hasDictIn K B=true)
  (poB:PySem.W.plainOver K B=true)
  (saB:PySem.W.findIn K (.ref B) "__setattr__"=some (some (.builtin "object.__setattr__")))
  (nB_whole_bytes:PySem.W.findIn K (.ref B) "whole_bytes"=some none)
  (nB_rest:PySem.W.findIn K (.ref B) "rest"=some none)
  (nB_rest_size:PySem.W.findIn K (.ref B) "rest_size"=some none)
  (gB:PySem.W.nsIn K mainGlobals "BitRow"=some (some (.ref B)))
  (d17:TD K "need_size" bK)
  (d18:TD K "ones" dC)
  (d19:MD K B "__init__" "BitRow.__init__" jY)
  (mkB:PySem.W.makesIn K B=true)
  (kcB:PySem.W.keepIn K (.ref B)=true)
  (d20:MD K B "put" "BitRow.put" uf)
  (d21:MD K B "move_byte" "BitRow.move_byte" lI)
  (d22:MD K B "many" "BitRow.many" ow)
  (d23:MD K B "row" "BitRow.row" gu)
  (d24:TD K "are_of_things" c4)
  (d25:TD K "need_shares" lj)
  (d26:TD K "weight_of" dW)
  (d27:TD K "in_pairs" fX)
  (d28:TD K "lightest_bundles" gW)
  (a29:PySem.W.nsIn K mainGlobals "lengths_of"=some (some (.ref f29)))
  (l29:K.lookup f29=some ⟨oc29,od29,.func (PySem.W.fnOf "lengths_of" "lengths_of" (defArgs sLengths) (defBody sLengths) (defScope sLengths) (.ref dT29) kV29 dc29 pm29 an29 cd29 ct29),sl29⟩)
  (c29:PySem.W.codeIn K cd29 "lengths_of"=true)
  (k29:PySem.W.keepIn K (.ref f29)=true)
  (t29:K.lookup dT29=some ⟨ocT29,odT29,.seq #[.int 6 tT29] nT29,slT29⟩)
  (d30:TD K "room_taken" oF)
  (d31:TD K "need_lengths" dz)
  (d32:TD K "codes_of" fj)
  (d33:MD K E "keep_beginnings" "CodeReader.keep_beginnings" on)
  (pgE:PySem.W.plainGet K E Str.empty=true)
  (hdE:PySem.W.hasDictIn K E=true)
  (poE:PySem.W.plainOver K E=true)
  (saE:PySem.W.findIn K (.ref E) "__setattr__"=some (some (.builtin "object.__setattr__")))
  (nE_things:PySem.W.findIn K (.ref E) "things"=some none)
  (nE_beginnings:PySem.W.findIn K (.ref E) "beginnings"=some none)
  (pgD:PySem.W.plainGet K D Str.empty=true)
  (hdD:PySem.W.hasDictIn K D=true)
  (poD:PySem.W.plainOver K D=true)
  (saD:PySem.W.findIn K (.ref D) "__setattr__"=some (some (.builtin "object.__setattr__")))
  (nD_held:PySem.W.findIn K (.ref D) "held"=some none)
  (nD_taken:PySem.W.findIn K (.ref D) "taken"=some none)
  (gD:PySem.W.nsIn K mainGlobals "BitReader"=some (some (.ref D)))
  (d34:TD K "bits_at" c6)
  (d35:MD K D "__init__" "BitReader.__init__" jP)
  (mkD:PySem.W.makesIn K D=true)
  (kcD:PySem.W.keepIn K (.ref D)=true)
  (d36:MD K D "take" "BitReader.take" lP)
  (d37:MD K D "left" "BitReader.left" ig)
  (d38:MD K D "place" "BitReader.place" gP)
  (d39:MD K D "go" "BitReader.go" sGo)
  (gE:PySem.W.nsIn K mainGlobals "CodeReader"=some (some (.ref E)))
  (d40:MD K E "__init__" "CodeReader.__init__" jG)
  (mkE:PySem.W.makesIn K E=true)
  (kcE:PySem.W.keepIn K (.ref E)=true)
  (d41:MD K E "thing" "CodeReader.thing" jE)
  (d42:TD K "lengths_in_items" ie)
  (d43:TD K "take_table" de)
  (d44:TD K "thing_of" eM)
  (d45:TD K "shares_of" dQ)
  (d46:TD K "need_table" cu)
  (d47:TD K "again_from" gJ)
  (d48:TD K "put_table" dL)
  (d49:TD K "codes_in" fh)
  (d50:TD K "thing_in" fz)
  (d51:TD K "runs_of" dJ)
  (pgC0:PySem.W.plainGet K C0 Str.empty=true)
  (hdC0:PySem.W.hasDictIn K C0=true)
  (poC0:PySem.W.plainOver K C0=true)
  (saC0:PySem.W.findIn K (.ref C0) "__setattr__"=some (some (.builtin "object.__setattr__")))
  (mkC0:PySem.W.makesIn K C0=true)
  (kcC0:PySem.W.keepIn K (.ref C0)=true)
  (inC0:PySem.W.findIn K (.ref C0) "__init__"=some (some (.builtin "object.__init__")))
  (r_PySem_W_findIn_K_ref_C0___class___some_some_builtin_object__:PySem.W.findIn K (.ref C0) "__class__"=some (some (.builtin "object.__class__")))
  (r_PySem_W_mroIn_K_C0_type_object_some_true:PySem.W.mroIn K C0 (.type "object")=some true)
  (d52:MD K C0 "cost" "Way.cost" g7)
  (r_PySem_W_kitOne_K_ref_C0_ref_CW_some_true:PySem.W.kitOne K (.ref C0) (.ref CW)=some true)
  (gC0:PySem.W.nsIn K mainGlobals "RawWay"=some (some (.ref C0)))
  (d53:MD K C0 "number" "RawWay.number" df)
  (d54:MD K C0 "tell" "RawWay.tell" fg)
  (d55:MD K C0 "read" "RawWay.read" fb)
  (pgC1:PySem.W.plainGet K C1 Str.empty=true)
  (hdC1:PySem.W.hasDictIn K C1=true)
  (poC1:PySem.W.plainOver K C1=true)
  (saC1:PySem.W.findIn K (.ref C1) "__setattr__"=some (some (.builtin "object.__setattr__")))
  (mkC1:PySem.W.makesIn K C1=true)
  (kcC1:PySem.W.keepIn K (.ref C1)=true)
  (inC1:PySem.W.findIn K (.ref C1) "__init__"=some (some (.builtin "object.__init__")))
  (r_PySem_W_findIn_K_ref_C1___class___some_some_builtin_object__:PySem.W.findIn K (.ref C1) "__class__"=some (some (.builtin "object.__class__")))
  (r_PySem_W_mroIn_K_C1_type_object_some_true:PySem.W.mroIn K C1 (.type "object")=some true)
  (d56:MD K C1 "cost" "Way.cost" g7)
  (r_PySem_W_kitOne_K_ref_C1_ref_CW_some_true:PySem.W.kitOne K (.ref C1) (.ref CW)=some true)
  (gC1:PySem.W.nsIn K mainGlobals "RunWay"=some (some (.ref C1)))
  (d57:MD K C1 "number" "RunWay.number" c9)
  (d58:MD K C1 "tell" "RunWay.tell" eJ)
  (d59:MD K C1 "read" "RunWay.read" fE)
  (pgC2:PySem.W.plainGet K C2 Str.empty=true)
  (hdC2:PySem.W.hasDictIn K C2=true)
  (poC2:PySem.W.plainOver K C2=true)
  (saC2:PySem.W.findIn K (.ref C2) "__setattr__"=some (some (.builtin "object.__setattr__")))
  (mkC2:PySem.W.makesIn K C2=true)
  (kcC2:PySem.W.keepIn K (.ref C2)=true)
  (inC2:PySem.W.findIn K (.ref C2) "__init__"=some (some (.builtin "object.__init__")))
  (r_PySem_W_findIn_K_ref_C2___class___some_some_builtin_object__:PySem.W.findIn K (.ref C2) "__class__"=some (some (.builtin "object.__class__")))
  (r_PySem_W_mroIn_K_C2_type_object_some_true:PySem.W.mroIn K C2 (.type "object")=some true)
  (d60:MD K C2 "cost" "Way.cost" g7)
  (r_PySem_W_kitOne_K_ref_C2_ref_CW_some_true:PySem.W.kitOne K (.ref C2) (.ref CW)=some true)
  (gC2:PySem.W.nsIn K mainGlobals "CopyWay"=some (some (.ref C2)))
  (d61:MD K C2 "number" "CopyWay.number" cI)
  (d62:MD K C2 "tell" "CopyWay.tell" dG)
  (d63:MD K C2 "read" "CopyWay.read" dF)
  (pgC3:PySem.W.plainGet K C3 Str.empty=true)
  (hdC3:PySem.W.hasDictIn K C3=true)
  (poC3:PySem.W.plainOver K C3=true)
  (saC3:PySem.W.findIn K (.ref C3) "__setattr__"=some (some (.builtin "object.__setattr__")))
  (mkC3:PySem.W.makesIn K C3=true)
  (kcC3:PySem.W.keepIn K (.ref C3)=true)
  (inC3:PySem.W.findIn K (.ref C3) "__init__"=some (some (.builtin "object.__init__")))
  (r_PySem_W_findIn_K_ref_C3___class___some_some_builtin_object__:PySem.W.findIn K (.ref C3) "__class__"=some (some (.builtin "object.__class__")))
  (r_PySem_W_mroIn_K_C3_type_object_some_true:PySem.W.mroIn K C3 (.type "object")=some true)
  (d64:MD K C3 "cost" "Way.cost" g7)
  (r_PySem_W_kitOne_K_ref_C3_ref_CW_some_true:PySem.W.kitOne K (.ref C3) (.ref CW)=some true)
  (gC3:PySem.W.nsIn K mainGlobals "ShareWay"=some (some (.ref C3)))
  (d65:MD K C3 "number" "ShareWay.number" dS)
  (d66:MD K C3 "tell" "ShareWay.tell" gm)
  (d67:MD K C3 "read" "ShareWay.read" gz)
  (d68:TD K "ways" o7)
  (gCW:PySem.W.nsIn K mainGlobals "Way"=some (some (.ref CW)))
  (isi:((List.range 4).all λ i=>(List.range 4).all λ j=>decide (PySem.W.kitOne K (.ref (cs C0 C1 C2 C3 i)) (.ref (cs C0 C1 C2 C3 j))=some (decide (j=i))))=true)
  (r_PySem_W_specialIn_K_builtin_object___class_____get___some_so:PySem.W.specialIn K (.builtin "object.__class__") "__get__"=some (some (.builtin "getset_descriptor.__get__")))
  (r_PySem_W_takesIn_K_builtin_object___class___some_true:PySem.W.takesIn K (.builtin "object.__class__")=some true)
  (d69:MD K D "at_end" "BitReader.at_end" jW)
  (d70:TD K "_law_is_of" oK)
  (d71:TD K "_law_run_bits" fk)
  (d72:TD K "_law_read_back" dM)
  (d73:TD K "_law_right" jT)
  (d74:TD K "_law_cell_at" eI)
  (d75:TD K "_law_drawn" fJ)
  (d76:TD K "_law_signs" gY)
  (d77:TD K "_law_text_by" gG)
  (a78:PySem.W.nsIn K mainGlobals "best_way"=some (some (.ref f78)))
  (l78:K.lookup f78=some ⟨oc78,od78,.func (PySem.W.fnOf "best_way" "best_way" (defArgs sBestWay) (defBody sBestWay) (defScope sBestWay) (.ref dT78) kV78 dc78 pm78 an78 (.ref c) ct78),sl78⟩)
  (c78:PySem.W.codeIn K (.ref c) "best_way"=true)
  (k78:PySem.W.keepIn K (.ref f78)=true)
  (t78:K.lookup dT78=some ⟨ocT78,odT78,.seq #[.none] nT78,slT78⟩):
  ∃fd:FuncData,(∀(s:Shared) (v:Value),BindsTo s fd ⟨[v],[]⟩ [("_law_script",v)])/\∀base:Heap,K.In base->base.Ns mainGlobals mg->PySem.W.CodeHd base c Tb->BmAt mg base->FnOk l.prog w K mg base CX0 40 fa fd ["_law_script"] (oi K Tb):=by
 have e:=hfa.symm.trans (Av X G a1);cases e;have F1:=jV (st:=sLaw) l1 c1 k1;have R0:K20.Txt K mg:=⟨A2 X G z_isinstance,A2 X G z_bool,A2 X G z_int,A2 X G z_list,A2 X G z_len,A2 X G z_range,A2 X G z_max,A2 X G z_min,⟨t1000,Av X G gv0⟩,⟨t1001,Av X G gv1⟩,⟨t1002,Av X G gv2⟩,⟨t1003,Av X G gv3⟩,⟨t1004,Av X G gv4⟩,⟨t1005,Av X G gv5⟩,⟨t1006,Av X G gv6⟩,A2 X G z_sum,A2 X G z_enumerate,A2 X G z_sorted,⟨t1007,Av X G gv7⟩,⟨t1008,Av X G gv8⟩,⟨t1009,Av X G gv9⟩,⟨t1010,Av X G gv10⟩,⟨t1011,Av X G gv11⟩,⟨t1012,Av X G gv12⟩,⟨t1013,Av X G gv13⟩,⟨t1014,Av X G gv14⟩,⟨t1015,Av X G gv15⟩,d2.fu X G (m1 λ _ _ _ _ _ _ _=>rfl)⟩;have R1:K20.Rows K mg:=⟨R0,d3.fn X G (m3 λ _ _ _ _ _ _ _ _ _=>rfl),d4.fn X G (m3 λ _ _ _ _ _ _ _ _ _=>rfl),d5.fn X G (m1 λ _ _ _ _ _ _ _=>rfl)⟩;have R2:K20.Wins K mg:=⟨R1,d6.fn X G (m1 λ _ _ _ _ _ _ _=>rfl),d7.fn X G (m2 λ _ _ _ _ _ _ _ _=>rfl),d8.fn X G (m4 λ _ _ _ _ _ _ _ _ _ _=>rfl),d9.fn X G (m2 λ _ _ _ _ _ _ _ _=>rfl)⟩;have F10:FunD K "pieces_of" "pieces_of" sPiecesOf (.ref dT10) f10 _:=⟨⟨oc10,od10,kV10,dc10,pm10,an10,cd10,ct10,sl10,rfl,l10,c10⟩,k10⟩;have b10:Binds K (PySem.W.fnOf "pieces_of" "pieces_of" (defArgs sPiecesOf) (defBody sPiecesOf) (defScope sPiecesOf) (.ref dT10) kV10 dc10 pm10 an10 cd10 ct10) ["text","before"] []:=λ s us hX hl=>by
  obtain⟨_,_,rfl⟩:=e2 (show us.length=2 by simpa using hl);exact Cu hX rfl t10 rfl rfl rfl
 have d10:Binds K (PySem.W.fnOf "pieces_of" "pieces_of" (defArgs sPiecesOf) (defBody sPiecesOf) (defScope sPiecesOf) (.ref dT10) kV10 dc10 pm10 an10 cd10 ct10) ["text","before"] [.none]:=λ s us hX hl=>by
  obtain⟨_,rfl⟩:=e1 (show us.length=1 by simpa using hl);exact Cu hX rfl t10 rfl rfl rfl
 have R3:K20.Wys K mg:=⟨R2,⟨_,_,⟨_,F10⟩,Av X G a10,b10,d10⟩,d11.fn X G (m3 λ _ _ _ _ _ _ _ _ _=>rfl),d12.fn X G (m1 λ _ _ _ _ _ _ _=>rfl),d13.fn X G (m2 λ _ _ _ _ _ _ _ _=>rfl),d14.fn X G (m1 λ _ _ _ _ _ _ _=>rfl),d15.fn X G (m3 λ _ _ _ _ _ _ _ _ _=>rfl),d16.fn X G (m4 λ _ _ _ _ _ _ _ _ _ _=>rfl)⟩;have R4:K20.CB K mg B:=⟨⟨pgB,hdB,poB,saB⟩,nB_whole_bytes,nB_rest,nB_rest_size⟩;have R5:K20.Bts K mg B:=⟨R1,R4,Av X G gB,d17.fn X G (m1 λ _ _ _ _ _ _ _=>rfl),d18.fn X G (m1 λ _ _ _ _ _ _ _=>rfl),d19.ini mkB kcB (m1 λ _ _ _ _ _ _ _=>rfl),d20.me (m3 λ _ _ _ _ _ _ _ _ _=>rfl),d21.me (m1 λ _ _ _ _ _ _ _=>rfl),d22.me (m1 λ _ _ _ _ _ _ _=>rfl),d23.me (m1 λ _ _ _ _ _ _ _=>rfl)⟩;have F29:FunD K "lengths_of" "lengths_of" sLengths (.ref dT29) f29 _:=⟨⟨oc29,od29,kV29,dc29,pm29,an29,cd29,ct29,sl29,rfl,l29,c29⟩,k29⟩;have b29:Binds K (PySem.W.fnOf "lengths_of" "lengths_of" (defArgs sLengths) (defBody sLengths) (defScope sLengths) (.ref dT29) kV29 dc29 pm29 an29 cd29 ct29) ["counts","most"] []:=λ s us hX hl=>by
  obtain⟨_,_,rfl⟩:=e2 (show us.length=2 by simpa using hl);exact Cu hX rfl t29 rfl rfl rfl
 have d29:Binds K (PySem.W.fnOf "lengths_of" "lengths_of" (defArgs sLengths) (defBody sLengths) (defScope sLengths) (.ref dT29) kV29 dc29 pm29 an29 cd29 ct29) ["counts","most"] [.int 6 tT29]:=λ s us hX hl=>by
  obtain⟨_,rfl⟩:=e1 (show us.length=1 by simpa using hl);exact Cu hX rfl t29 rfl rfl rfl
 have R6:K20.Shs K mg:=⟨R0,d3.fn X G (m3 λ _ _ _ _ _ _ _ _ _=>rfl),d4.fn X G (m3 λ _ _ _ _ _ _ _ _ _=>rfl),d24.fn X G (m2 λ _ _ _ _ _ _ _ _=>rfl),d25.fn X G (m2 λ _ _ _ _ _ _ _ _=>rfl),d26.fn X G (m1 λ _ _ _ _ _ _ _=>rfl),d27.fn X G (m1 λ _ _ _ _ _ _ _=>rfl),d28.fn X G (m2 λ _ _ _ _ _ _ _ _=>rfl),⟨_,_,⟨_,F29⟩,Av X G a29,b29,⟨_,d29⟩⟩⟩;have R7:K20.C.Lns K mg:=⟨R0,d3.fn X G (m3 λ _ _ _ _ _ _ _ _ _=>rfl),d4.fn X G (m3 λ _ _ _ _ _ _ _ _ _=>rfl),d24.fn X G (m2 λ _ _ _ _ _ _ _ _=>rfl),d30.fn X G (m1 λ _ _ _ _ _ _ _=>rfl)⟩;have R8:K20.C.CRc K mg E:=⟨⟨pgE,hdE,poE,saE⟩,nE_things,nE_beginnings⟩;have R9:K20.C.Mks K mg E:=⟨R0,R7,d31.fn X G (m1 λ _ _ _ _ _ _ _=>rfl),d32.fn X G (m1 λ _ _ _ _ _ _ _=>rfl),d33.me (m3 λ _ _ _ _ _ _ _ _ _=>rfl),R8⟩;have R10:K20.CRd K mg D:=⟨⟨pgD,hdD,poD,saD⟩,nD_held,nD_taken⟩;have R11:K20.Rdr K mg D:=⟨R1,R10,Av X G gD,d6.fn X G (m1 λ _ _ _ _ _ _ _=>rfl),d17.fn X G (m1 λ _ _ _ _ _ _ _=>rfl),d18.fn X G (m1 λ _ _ _ _ _ _ _=>rfl),d34.fn X G (m3 λ _ _ _ _ _ _ _ _ _=>rfl),d35.ini mkD kcD (m2 λ _ _ _ _ _ _ _ _=>rfl),d36.me (m2 λ _ _ _ _ _ _ _ _=>rfl),d37.me (m1 λ _ _ _ _ _ _ _=>rfl),d38.me (m1 λ _ _ _ _ _ _ _=>rfl)⟩;have R12:K20.Cds K mg D E:=⟨R9,R11,d39.me (m2 λ _ _ _ _ _ _ _ _=>rfl),Av X G gE,d40.ini mkE kcE (m2 λ _ _ _ _ _ _ _ _=>rfl),d41.me (m2 λ _ _ _ _ _ _ _ _=>rfl),d42.fn X G (m1 λ _ _ _ _ _ _ _=>rfl),d43.fn X G (m1 λ _ _ _ _ _ _ _=>rfl)⟩;have R13:K20.Shw K mg B D E:=⟨R3,R5,R6,R12,d44.fn X G (m1 λ _ _ _ _ _ _ _=>rfl),d45.fn X G (m1 λ _ _ _ _ _ _ _=>rfl),d46.fn X G (m1 λ _ _ _ _ _ _ _=>rfl),d47.fn X G (m3 λ _ _ _ _ _ _ _ _ _=>rfl),d48.fn X G (m2 λ _ _ _ _ _ _ _ _=>rfl),d49.fn X G (m1 λ _ _ _ _ _ _ _=>rfl),d50.fn X G (m2 λ _ _ _ _ _ _ _ _=>rfl)⟩;have R14:K20.WC K mg C0 CW:=⟨⟨pgC0,hdC0,poC0,saC0⟩,⟨mkC0,inC0,kcC0⟩,r_PySem_W_findIn_K_ref_C0___class___some_some_builtin_object__,r_PySem_W_mroIn_K_C0_type_object_some_true,d52.me (m3 λ _ _ _ _ _ _ _ _ _=>rfl),r_PySem_W_kitOne_K_ref_C0_ref_CW_some_true⟩;have R15:K20.Raw K mg C0 CW:=⟨R14,Av X G gC0,d53.me (m1 λ _ _ _ _ _ _ _=>rfl),d54.me (m4 λ _ _ _ _ _ _ _ _ _ _=>rfl),d55.me (m4 λ _ _ _ _ _ _ _ _ _ _=>rfl)⟩;have R16:K20.WC K mg C1 CW:=⟨⟨pgC1,hdC1,poC1,saC1⟩,⟨mkC1,inC1,kcC1⟩,r_PySem_W_findIn_K_ref_C1___class___some_some_builtin_object__,r_PySem_W_mroIn_K_C1_type_object_some_true,d56.me (m3 λ _ _ _ _ _ _ _ _ _=>rfl),r_PySem_W_kitOne_K_ref_C1_ref_CW_some_true⟩;have R17:K20.Run K mg C1 CW:=⟨R16,Av X G gC1,d57.me (m1 λ _ _ _ _ _ _ _=>rfl),d58.me (m4 λ _ _ _ _ _ _ _ _ _ _=>rfl),d59.me (m4 λ _ _ _ _ _ _ _ _ _ _=>rfl)⟩;have R18:K20.WC K mg C2 CW:=⟨⟨pgC2,hdC2,poC2,saC2⟩,⟨mkC2,inC2,kcC2⟩,r_PySem_W_findIn_K_ref_C2___class___some_some_builtin_object__,r_PySem_W_mroIn_K_C2_type_object_some_true,d60.me (m3 λ _ _ _ _ _ _ _ _ _=>rfl),r_PySem_W_kitOne_K_ref_C2_ref_CW_some_true⟩;have R19:K20.Cpy K mg C2 CW:=⟨R18,Av X G gC2,d61.me (m1 λ _ _ _ _ _ _ _=>rfl),d62.me (m4 λ _ _ _ _ _ _ _ _ _ _=>rfl),d63.me (m4 λ _ _ _ _ _ _ _ _ _ _=>rfl)⟩;have R20:K20.WC K mg C3 CW:=⟨⟨pgC3,hdC3,poC3,saC3⟩,⟨mkC3,inC3,kcC3⟩,r_PySem_W_findIn_K_ref_C3___class___some_some_builtin_object__,r_PySem_W_mroIn_K_C3_type_object_some_true,d64.me (m3 λ _ _ _ _ _ _ _ _ _=>rfl),r_PySem_W_kitOne_K_ref_C3_ref_CW_some_true⟩;have R21:K20.Shr K mg C3 CW:=⟨R20,Av X G gC3,d65.me (m1 λ _ _ _ _ _ _ _=>rfl),d66.me (m4 λ _ _ _ _ _ _ _ _ _ _=>rfl),d67.me (m4 λ _ _ _ _ _ _ _ _ _ _=>rfl)⟩;have R22:K20.Wal K mg B D E CW C0 C1 C2 C3:=⟨R13,d51.fn X G (m1 λ _ _ _ _ _ _ _=>rfl),R15,R17,R19,R21,d68.fn X G (m0 λ _ _ _ _ _ _=>rfl)⟩;have R23:K20.Own K mg B D E CW C0 C1 C2 C3:=⟨R22,Av X G gCW,isi,r_PySem_W_specialIn_K_builtin_object___class_____get___some_so,r_PySem_W_takesIn_K_builtin_object___class___some_true,d69.me (m1 λ _ _ _ _ _ _ _=>rfl),d70.fn X G (m2 λ _ _ _ _ _ _ _ _=>rfl),d71.fn X G (m1 λ _ _ _ _ _ _ _=>rfl),d72.fn X G (m4 λ _ _ _ _ _ _ _ _ _ _=>rfl)⟩;have F78:FunC K "best_way" "best_way" sBestWay (.ref dT78) c f78 _:=⟨⟨oc78,od78,kV78,dc78,pm78,an78,ct78,sl78,rfl,l78,c78⟩,k78⟩;have b78:Binds K (PySem.W.fnOf "best_way" "best_way" (defArgs sBestWay) (defBody sBestWay) (defScope sBestWay) (.ref dT78) kV78 dc78 pm78 an78 (.ref c) ct78) ["text","before"] []:=λ s us hX hl=>by
  obtain⟨_,_,rfl⟩:=e2 (show us.length=2 by simpa using hl);exact Cu hX rfl t78 rfl rfl rfl
 have d78:Binds K (PySem.W.fnOf "best_way" "best_way" (defArgs sBestWay) (defBody sBestWay) (defScope sBestWay) (.ref dT78) kV78 dc78 pm78 an78 (.ref c) ct78) ["text","before"] [.none]:=λ s us hX hl=>by
  obtain⟨_,rfl⟩:=e1 (show us.length=1 by simpa using hl);exact Cu hX rfl t78 rfl rfl rfl
 have R24:K20.All K mg B D E CW C0 C1 C2 C3 c:=⟨R23,A2 X G z_min,d73.fn X G (m3 λ _ _ _ _ _ _ _ _ _=>rfl),d74.fn X G (m2 λ _ _ _ _ _ _ _ _=>rfl),d75.fn X G (m2 λ _ _ _ _ _ _ _ _=>rfl),d76.fn X G (m3 λ _ _ _ _ _ _ _ _ _=>rfl),d77.fn X G (m2 λ _ _ _ _ _ _ _ _=>rfl),⟨_,_,_,F78,Av X G a78,b78,d78⟩⟩;exact⟨PySem.W.fnOf "law" "law" (defArgs sLaw) (defBody sLaw) (defScope sLaw) .none kV1 dc1 pm1 an1 cd1 ct1,λ s v=>.of_eq rfl,λ base _ _ hC hB=>xG F1 R24 hC hB hKT⟩
theorem walk {l:PySem.W.OpenLaw}{q:Program}{loose:List Str}{XP:(Str->Option Value)->Heap->Prop}{YP:World->Heap->Prop}{d:DefRec}{K:Params->PySem.W.Frag}(hn:l.most=some 63)(hdf:d.params.defaults=[])
  (hY:∀(w:World) (h:Heap),YP w h->(K w.params).In h/\h.get? Tb=some (PySem.W.tabObj #[])) (hKT:∀w:World,(K w.params).lookup Tb=none)
  (F:∀(w:World) (mg:Str->Option Value) (fa:Addr) (h:Heap),(K w.params).In h->h.Ns mainGlobals mg->mg d.name=some (.ref fa)->
   ∃fd:FuncData,(∀(s:Shared) (u:Value),BindsTo s fd ⟨[u],[]⟩ [("_law_script",u)])/\∀base:Heap,(K w.params).In base->base.Ns mainGlobals mg->PySem.W.CodeHd base c Tb->BmAt mg base->FnOk l.prog w (K w.params) mg base CX0 40 fa fd ["_law_script"] (oi (K w.params) Tb))
  (hC:∀w:World,PySem.W.codeHdIn (K w.params) c Tb=true):
  PySem.W.WalkO q loose XP YP l.row.toRowW d [] (λ f vs=>PySem.call f vs):=
 L2.walk_ofT (n:=63) (k:=40) (x:="_law_script") (sp:=λ w=>oi (K w.params) Tb) hn (by decide) hdf ⟨λ _=>rfl,by decide,by decide⟩ hY hC hKT F λ _ H a ns hl hS hT na=>⟨a,ns,rfl,hS,hT,na,λ _=>rfl⟩
end K20
open PySem PySem.W PyProof.Rows
namespace PySem.W.Fast
def tw205005249223481161:=0
def tw4414901281669996776:=0
def tw13133824579057746341:=0
def tw1120576965656942408:=0
def tw639581244466140060:=0
def tw872390362441457631:=0
def tw6568893926231859875:=0
def tw5604116326143381329:=0
def tw6430627429498836895:=0
def tw8374330472255696942:=0
def tw11962311855725533837:=0
def tw12324710482352630043:=0
def tw2691406229599281305:=0
def tw7199880479844496893:=0
def tw6565887631074472416:=0
def tw39689175561003426:=0
def tw1092539717319865815:=0
def tw5887759398912788002:=0
def tw8490109732965251528:=0
def tw2752846351592087069:=0
def tw14437951769386711186:=0
def tw16469853195861311993:=0
def tw322162337946972020:=0
def tw5981586673044860074:=0
def tw2913143229123883483:=0
def tw9467370553950281858:=0
def tw12972731091255633971:=0
def tw14744335597145663830:=0
def tw9020538569253884273:=0
def tw2520561848418221042:=0
def tw12239982513198399299:=0
def tw28007366626723845:=0
def tw359474686977145190:=0
def tw2105466134279251782:=0
def tw8315496906991081911:=0
def tw17626625881623850934:=0
def tw10458449208129053035:=0
def tw13111791539289960345:=0
def tw3330849878279681959:=0
def tw3699040678958777879:=0
def tw16429786737555966328:=0
def tw1996623845153016100:=0
def tw4246761236517175894:=0
def tw12071973489056725103:=0
def tw16322232687858381292:=0
def tw17674643426107369204:=0
def tw4431633741141837995:=0
def tw8710522494750072156:=0
def tw7293736942574079239:=0
def tw2289465789024703100:=0
def tw7054166050130842735:=0
def tw11259353112758438000:=0
def tw13195427643927101816:=0
def tw8995309074538956634:=0
def tw4683776756040039387:=0
def tw138867026305929389:=0
def tw12011849367903267272:=0
def tw13145724803226773487:=0
def tw7438135419554477709:=0
def tw16608406777479786785:=0
def tw12976929302013912499:=0
def tw897549715929057488:=0
def tw1291659782386298921:=0
def tw8666881252506077487:=0
def tw305152170271299239:=0
def tw16428824575155829846:=0
def tw4592483959369330432:=0
def tw4897156228735175613:=0
def tw1346343434418568262:=0
def tw3860442282145578697:=0
def tw5082034849358673088:=0
def tw11376012556378434486:=0
def tw12009369435257425358:=0
def tw2217991272415888538:=0
def tw7080337886186656835:=0
def tw8467235481199015395:=0
def tw5665872002556830728:=0
def tw16619838288226313880:=0
def tw8424026983121139595:=0
def tw8193848833558168127:=0
def tw6646488278756515650:=0
def tw12713856935704952162:=0
def tw10461377778698940829:=0
def tw14457386161101460935:=0
def tw15356558484324205149:=0
def tw3018300036010526466:=0
def tw155549283354168717:=0
def tw9933498882721415764:=0
def tw742127274913173249:=0
def tw69326867267028165:=0
def tw3751138277234924994:=0
def tw6522815549698024263:=0
def tw105111027084141220:=0
def tw8087335742202637070:=0
def tw4666751216885755145:=0
def tw960985844655719264:=0
def tw16305297299982280202:=0
def tw16569065082747755662:=0
def tw6608246735776006105:=0
def tw259910486274560106:=0
def tw15281179840045285304:=0
def tw4694841650310109732:=0
def tw11568015838296350001:=0
def tw16897730750194925062:=0
def tw16630276995439346597:=0
def tw6667511175917895330:=0
def tw9470894591556300269:=0
def tw8151481668204158445:=0
def tw1002815850694488963:=0
def tw388597506285496453:=0
def tw4528059803770418665:=0
def tw17856273495324445486:=0
def tw15426159438128917007:=0
def tw10486694874941894875:=0
def tw17938460221151681896:=0
def tw17704398213703797335:=0
def tw8897052700920911487:=0
def tw448132863267986301:=0
def tw7738512415335349050:=0
def tw9507481449317470097:=0
def tw15590965075672814511:=0
def tw13470451830011839056:=0
def tw12354924608665506417:=0
def tw4081036582983901568:=0
def tw1103287386191438310:=0
def tw11984576204834120902:=0
def tw6009940282486702005:=0
def tw6635976066744565187:=0
def tw462793973664868714:=0
def tw9286608777434799066:=0
def tw16609333966450092114:=0
def tw17225636518478587573:=0
def tw11386082451564310367:=0
def tw16918360265672695883:=0
def tw5715161882283559546:=0
def tw2758680647918088622:=0
def tw4493961882707966699:=0
def tw474529168285361960:=0
def tw1143597404154780682:=0
def tw17379490305107921602:=0
def tw1503910500359453285:=0
def tw8430675301044118265:=0
def tw13530111641015046801:=0
def tw17607178725624549942:=0
def tw904424870073966699:=0
def tw13520377533078201216:=0
def tw17338129455648518737:=0
def tw11602127200889049564:=0
def tw2987454836378903211:=0
def tw3091255324459177107:=0
def tw14830784820712427508:=0
def tw3480054903827703382:=0
def tw2465805016199138466:=0
def tw17341566131976054704:=0
def tw7257520066672447236:=0
def tw3013453260318975796:=0
def tw16243977324179556136:=0
def tw18039474864376642156:=0
def tw16958840405256549621:=0
def tw6645363334400622373:=0
def tw6098266487489076196:=0
def tw4250405296778032387:=0
def tw18337665090028016846:=0
def tw638248446409486385:=0
def tw4489250286327825431:=0
def tw13581400273607972410:=0
def tw15935946492662343757:=0
def tw8913594958759051033:=0
def tw1259597511369194172:=0
def tw10991296529811713664:=0
def tw14791353395340421796:=0
def tw7442674182755037238:=0
def tw12116248628963944472:=0
def tw7582810495576309877:=0
def tw9137884923377573652:=0
def tw10331784022091371461:=0
def tw15822291882070850286:=0
def tw12963050228627556200:=0
def tw14738792902342169456:=0
def tw14013154837506993746:=0
def tw6804802206961187847:=0
def tw1904793930265964594:=0
def tw18090178479125396391:=0
def tw15279324971941226343:=0
def tw11760857088207606623:=0
def tw13293695491946791825:=0
def tw5718949430966684395:=0
def tw13736754019315866626:=0
def tw15074993145323224688:=0
def tw1308340039486504867:=0
def tw718236065468692949:=0
def tw13034878632328228920:=0
def tw15857334841274523725:=0
def tw4982011152632930648:=0
def tw9444209598611284399:=0
def tw3922644667787411140:=0
def tw626517323534270311:=0
def tw14301170260560111439:=0
def tw11278386760675386111:=0
def tw8321546818736781879:=0
def tw100571815849673671:=0
def tw15928519784541303892:=0
def tw4157878744203778109:=0
def tw4782178695656667583:=0
def tw6740982786689098350:=0
def tw12158320796534205900:=0
def tw12274341481981580039:=0
def tw14478293422460311161:=0
def tw4507015906948860028:=0
def tw17702777075231598760:=0
def tw10425394078814039221:=0
def tw6222555247575375918:=0
def tw9907559781549405846:=0
def tw15404662339907291592:=0
def tw13792168412321403306:=0
def tw4877976381494631019:=0
def tw13361885553216884334:=0
def tw11518262815931921646:=0
def tw13324063736163872501:=0
def tw10708138788312156294:=0
def tw14985201421825239628:=0
def tw3496992839767180060:=0
def tw16797095293410401189:=0
def tw12222782556384705454:=0
def tw2963377558699695639:=0
def tw16971721472498468175:=0
def tw10276154900343975992:=0
def tw8114839321971558240:=0
def tw1592281989530986156:=0
def tw6740078537298246508:=0
def tw14866096640711400124:=0
def tw3482066068382994049:=0
def tw6515098669516154574:=0
def tw3556317953655240680:=0
def tw10358617007068059426:=0
def tw18349298530135347691:=0
def tw13136927124097160372:=0
def tw4387579532201589306:=0
def tw16624201438838561140:=0
def tw3648176125721169934:=0
def tw4437272085402460920:=0
def tw13416762128541432107:=0
def tw12184598768082932018:=0
def tw14910754512358621565:=0
def tw10194664078589866203:=0
def tw2394883666481395949:=0
def tw8859168611186571636:=0
def tw8591046815483973071:=0
def tw7474798989031674597:=0
def tw13470084092024319588:=0
def tw1675505292732221897:=0
def tw10216262207315541559:=0
def tw13617232316455153751:=0
def tw17477172929365873899:=0
def tw301372271563991486:=0
def tw9173699183862954662:=0
def tw5735050994659654269:=0
def tw477264648075187721:=0
def tw6554041766947254537:=0
def tw18436980856283740221:=0
def tw7961547276695132185:=0
def tw376919903407278970:=0
def tw11228462895431515981:=0
def tw14698283094354250285:=0
def tw4943368466723250868:=0
def tw12690366058919310989:=0
def tw10181170955359970177:=0
def tw2111645638205162520:=0
def tw15995355676659566174:=0
def tw15565768553946477211:=0
def tw10732588459049369041:=0
def tw4575611535692650960:=0
def tw17788360488219746282:=0
def tw6099449546898853882:=0
def tw12793227228551162908:=0
def tw7529928239817602940:=0
def tw2345044412589716516:=0
def tw7367507584000411988:=0
def tw8216057084600625201:=0
def tw1732130839611601757:=0
def tw15876126736192653007:=0
def tw12500625371719875542:=0
def tw6519520249884219108:=0
def tw7316848942050243608:=0
def tw7369427209828265086:=0
def tw10817452080104430297:=0
def tw899490692771636939:=0
def tw8359695176452521693:=0
def tw11969685193808802161:=0
def tw9885277893058639229:=0
def tw17666161563762610204:=0
def tw8482022769383211003:=0
def tw10252519173812813337:=0
def tw9516426273610041573:=0
def tw1775205644251065260:=0
def tw5948190106367785005:=0
def tw8095062185888315650:=0
def tw13067114334295394424:=0
def tw17779748248760403737:=0
def tw14484162705910754604:=0
def tw17573142383841337334:=0
def tw9020900423707518269:=0
def tw16476179788134477813:=0
def tw68800254445167134:=0
def tw17245273600445227915:=0
def tw2443978313732806671:=0
def tw12745060415629487679:=0
def tw3679294760404709202:=0
def tw15704077235182282587:=0
def tw181610781402061301:=0
def tw17354389641864421164:=0
def tw15158686500275180176:=0
def tw16723925622075343216:=0
def tw14346933374009974461:=0
def tw9642517644390963927:=0
def tw13010181180297649208:=0
def tw11178096309388121351:=0
def tw5540498918528821080:=0
def tw1986696724880966570:=0
def tw338743842580417971:=0
def tw11000612491836877279:=0
def tw16410575517497533010:=0
def tw12722078428253303523:=0
def tw13703793541871226102:=0
def tw8201811484578119220:=0
def tw5574915047852523443:=0
def tw8295535409246996913:=0
def tw6885256702112550939:=0
def tw3836281269742884721:=0
def tw4504882818835746363:=0
def tw10895008683015530909:=0
def tw11179638048084957952:=0
def tw15686742860861083042:=0
def tw5170325245815973853:=0
def tw2761965791610871061:=0
def tw13009475197868526338:=0
def tw2120155118383347563:=0
def tw326856985827461721:=0
def tw18216820769296950759:=0
def tw11689263356007317191:=0
def tw9557749797338271676:=0
def tw10087685261608533104:=0
def tw11907236925989793784:=0
def tw5478776358260400713:=0
def tw17209871098803605514:=0
def tw10953827187299596199:=0
def tw11133171147758550474:=0
def tw3760652405510303163:=0
def tw17969435886006876879:=0
def tw17322454145528804053:=0
def tw7692762248906258216:=0
def tw1364457240396584433:=0
def tw11002508549464080408:=0
def tw4432354582956436854:=0
def tw11499591316787578826:=0
def tw2946167260676345367:=0
def tw14854612644829259754:=0
def tw2695813774264004485:=0
def tw2214381225576374609:=0
def tw15922037092943569161:=0
def tw17938914765265295251:=0
def tw766862080338473031:=0
def tw3190741634443704216:=0
def tw4288155294933099847:=0
def tw944712687022973306:=0
def tw14811302604556295168:=0
def tw12305994812911314341:=0
def tw13383610386163551903:=0
def tw3252146722698340240:=0
def tw14688125212433968702:=0
def tw16258458112588937359:=0
def tw3860049034708017531:=0
def tw9476212554683154395:=0
def tw1375064750137713128:=0
def tw17445563735252690781:=0
def tw8254532592229094050:=0
def tw8271520093849265498:=0
def tw17328548801260844465:=0
def tw12456660518656076258:=0
def tw7971695005709345935:=0
def tw4187449018288943803:=0
def tw5397575398800618960:=0
def tw4454971599929264936:=0
def tw8064818898095333388:=0
def tw4856773652784681599:=0
def tw9638920087034023571:=0
def tw10476410568545913044:=0
def tw17513632601585896966:=0
def tw16541160884346286306:=0
def tw9025795622733846636:=0
def tw9733174077636907830:=0
def tw17672391012802337893:=0
def tw9000336067411806252:=0
def tw5864557178606695770:=0
def tw13109995434491628152:=0
def tw16816533194020905166:=0
def tw13213990640922968569:=0
def tw3255512253837396355:=0
def tw13760401542200069746:=0
def tw2947018887537689080:=0
def tw15062596892919749040:=0
def tw13024232750653800860:=0
def tw3936994013879930909:=0
def tw11947685492749572617:=0
def tw7270174412109600863:=0
def tw17354013747359892246:=0
def tw6928980951375911938:=0
def tw9577155761242369161:=0
def tw12027461672778985129:=0
def tw92499369016530262:=0
def tw14914311747746527947:=0
def tw12246766891136478615:=0
def tw6152649341213093894:=0
def tw8104180657376030963:=0
def tw17535963294258671982:=0
def tw2011291738056252274:=0
def tw12464886780966084395:=0
def tw6513270650439457895:=0
def tw15218229222200085189:=0
def tw15598966034858478963:=0
def tw10640388890630971184:=0
def tw17726438982282890936:=0
def tw17354059570793318731:=0
def tw7462806897667880601:=0
def tw8919484664589958387:=0
def tw4915076034903896168:=0
def tw208836661366466390:=0
def tw1502660530691401201:=0
def tw11418897713131728462:=0
def tw6748013611924005135:=0
def tw7730569640456146900:=0
def tw14079290126383661227:=0
def tw1051017569471742261:=0
def tw9182303251785830575:=0
def tw8309378661777477642:=0
def tw1405575404852613371:=0
def tw1314076396359750941:=0
def tw12133663277115728027:=0
def tw13217146396206374686:=0
def tw11192787072607168441:=0
def tw18030832567497446468:=0
def tw4352624003231422939:=0
def tw8882547257264580018:=0
def tw16072596420193386208:=0
def tw18384481122252189910:=0
def tw16729433714274733823:=0
def tw8645961163381720389:=0
def tw419579330702243790:=0
def tw10464167985126435715:=0
def tw4796426247885974519:=0
def tw8943232018069610755:=0
def tw13454547657983907043:=0
def tw16044262021147702367:=0
def tw3790049496106740202:=0
def tw8637175027405705562:=0
def tw2184544156581711094:=0
def tw6428401977599983:=0
def tw5926826420221517832:=0
def tw6196782897050365720:=0
def tw9352495151050237950:=0
def tw1401131822728902088:=0
def tw16869455636850003645:=0
def tw9103034216580926792:=0
def tw7179129601125190546:=0
def tw10832139280770586124:=0
def tw7929495736885864685:=0
def tw1949855976260248557:=0
def tw1164981053112201452:=0
def tw13946195380122358074:=0
def tw1729887712797392294:=0
def tw148561083978734331:=0
def tw17503437325774327602:=0
def tw9475939656613072926:=0
def tw476648616574093199:=0
def tw11914229458702411994:=0
def tw5805481623115140742:=0
def tw13359353076660709781:=0
def tw7728374152632065797:=0
def tw5769668475771890982:=0
def tw12691425946566691695:=0
def tw6924861932983447672:=0
def tw7604438521630987751:=0
def tw229535236274869841:=0
def tw8575327748731597647:=0
def tw7022658684997613287:=0
def tw756923943577604546:=0
def tw11449553610783779486:=0
def tw14868023756583629718:=0
def tw2126929139480056803:=0
def tw17252377912492283446:=0
def tw8944587240735666309:=0
def tw11157410796710601335:=0
def tw11593220035898438403:=0
def tw9072754407857132444:=0
def tw3145705855761249084:=0
def tw6829379268511397508:=0
def tw5345368894697134442:=0
def tw7403176207079456698:=0
def tw17707890469020749696:=0
def tw563396843705370361:=0
def tw5643849893251516463:=0
def tw4470997843096011949:=0
def tw12342538650512642419:=0
def tw12906851770168111230:=0
def tw8381362884162904765:=0
def tw16325009912122157390:=0
def tw7128824645631974669:=0
def tw952574241756487927:=0
def tw5705563280359184620:=0
def tw5663144047878152579:=0
def tw9160285797267801057:=0
def tw2066707452404035545:=0
def tw956646760966665576:=0
def tw1620814363311556603:=0
def tw1749303819102469064:=0
def tw13535526544992154172:=0
def tw16771090915350818668:=0
def tw16258603854636630762:=0
def tw14611846420122091253:=0
def tw4585044967739957634:=0
def tw13438289666131621370:=0
def tw5600034712627900928:=0
def tw2572780480215613857:=0
def tw12753683554146299579:=0
def tw8635933317477332445:=0
def tw15620247718677368119:=0
def tw14541159217432679539:=0
def tw12676767133020529950:=0
def tw12125717229084781765:=0
def tw2418170715072241596:=0
def tw16096062146725167485:=0
def tw14667895208031525242:=0
def tw16365111672145512864:=0
def tw12925963028411660169:=0
def tw12198841678772005493:=0
def tw639394396284391530:=0
def tw16975574917316636572:=0
def tw17125172818387107516:=0
def tw4035086562583009882:=0
def tw7145289251016053235:=0
def tw6363574095428252166:=0
def tw11638049231161108377:=0
def tw11334417197720507252:=0
def tw13305005874951675404:=0
def tw17609264703927772848:=0
def tw15958218558348049444:=0
def tw15159452045047735236:=0
def tw14780132498959401270:=0
def tw5188259433682017189:=0
def tw13361993787615378108:=0
def tw15852470326906481894:=0
def tw5778244271754800812:=0
def tw11679595344150149448:=0
def tw17790307825735191499:=0
def tw9322450724329466690:=0
def tw14442839968848273963:=0
def tw11967810609511095701:=0
def tw356187468396405397:=0
def tw13518069733553421709:=0
def tw13876059377210946817:=0
def tw13820883616136676061:=0
def tw6866304281113354379:=0
def tw8526378017975917390:=0
def tw5580662722225419626:=0
def tw4673549241292101808:=0
def tw15572518611419220706:=0
def tw6951190310157720038:=0
def tw15674536947376943491:=0
def tw12099992508921614259:=0
def tw867043597865102524:=0
def tw1759078346044517112:=0
def tw8694446342994216532:=0
def tw16448254072187567789:=0
def tw15349907931055053292:=0
def tw1652155174017170724:=0
def tw11610442822561638743:=0
def tw9847608290361371203:=0
def tw12634991758830762898:=0
def tw10466810129652718020:=0
def tw4989729105053456001:=0
def tw7555042914221755658:=0
def tw16512417223462748227:=0
def tw17623911088464779130:=0
def tw11755109060032368829:=0
def tw6005446465114263455:=0
def tw7478182936621339458:=0
def tw11343294381760587920:=0
def tw15226945794251970155:=0
def tw14792928268444040740:=0
def tw11802252361051816705:=0
def tw13623692674860471944:=0
def tw14635762323283427818:=0
def tw16180579983178267560:=0
def tw17067249189446955339:=0
def tw7294185156631856989:=0
def tw13627456437163860237:=0
def tw2801525370454250091:=0
def tw15058517197851168883:=0
def tw2183468649039834786:=0
def tw11362275275462655034:=0
def tw11895549480588216572:=0
def tw16361917204697430109:=0
def tw8924442695071826869:=0
def tw9270999905937240271:=0
def tw14179305258083682468:=0
def tw16763011380668561806:=0
def tw16050978894353498883:=0
def tw13379457799622207955:=0
def tw11075518047942047195:=0
def tw12910839603036386738:=0
def tw6844735702193655077:=0
def tw18296705302255498077:=0
def tw10182808371007822371:=0
def tw7421595581068232303:=0
def tw7829462094085195402:=0
def tw17923214296037316210:=0
def tw6224557914788712145:=0
def tw652039535045589094:=0
def tw17904536022610448896:=0
def tw10815272822920284120:=0
def tw6352202690628148821:=0
def tw9049848367041043174:=0
def tw3415461437650445500:=0
def tw6400946350687273033:=0
def tw5954238084481185608:=0
def tw10277376852804527778:=0
def tw5582042133373073412:=0
def tw16639797686513038432:=0
def tw5384146430841070169:=0
def tw9979008335713408376:=0
def tw1477543427891872864:=0
def tw5780678171485773101:=0
def tw8109210058847430481:=0
def tw2318696093393558058:=0
def tw5256415229600464511:=0
def tw13617199404187389638:=0
def tw11268261477459614599:=0
def tw11366411366164220846:=0
def tw940311845055550173:=0
def tw10424850561746206447:=0
def tw16623966693646494297:=0
def tw9297625977237759977:=0
def tw482115541552033921:=0
def tw1532669773053954425:=0
def tw15255451284291374258:=0
def tw10915514712203316630:=0
def tw9824901971500924215:=0
def tw4524332712198890522:=0
def tw4727175647253530374:=0
def tw7842051685366779958:=0
def tw4017094025311413169:=0
def tw15800693221576313284:=0
def tw8219004771577241477:=0
def tw14236687156610401846:=0
def tw1361254084435691885:=0
def tw379038888928535692:=0
def tw16870086808657931370:=0
def tw18163802068265281641:=0
def tw9803496459790667196:=0
def tw17990364288446978202:=0
def tw4205617460809143894:=0
def tw16790533419682234959:=0
def tw15961455648146674387:=0
def tw4038564996852300920:=0
def tw17842858537326389127:=0
def tw17373971646941698189:=0
def tw12252472807784288932:=0
def tw16560386643926611357:=0
def tw15214846713848786318:=0
def tw8957421765346002489:=0
def tw17662852449783337949:=0
def tw7471667370465017548:=0
def tw18103214984528776627:=0
def tw5955211337554413943:=0
def tw16780143478414102656:=0
def tw5910243283566585861:=0
def tw6105370490163526949:=0
def tw15441753121863303923:=0
def tw597748550871216923:=0
def tw12371347883078734372:=0
def tw14634777946717392252:=0
def tw13878733718671963166:=0
def tw11447015939216075905:=0
def tw6310182121156634214:=0
def tw6895799339677841211:=0
def tw1223044914995150006:=0
def tw2501925145593585258:=0
def tw7824393204327091157:=0
def tw14346742227928514899:=0
def tw7064796915062374897:=0
def tw12076504555996359011:=0
def tw9217758880989767571:=0
def tw12087708000892573085:=0
def tw8205615955788345544:=0
def tw5958959228816068072:=0
def tw1684652026235082877:=0
def tw12127421376097548354:=0
def tw13289995159955013599:=0
def tw18429243124084080405:=0
def tw1327831887240860820:=0
def tw8581987359185211290:=0
def tw17777851525132982984:=0
def tw7547973086366617338:=0
def tw2980729135723490617:=0
def tw2373831292686588601:=0
def tw14284918964518871921:=0
def tw11306452016455532037:=0
def tw3470143139346464980:=0
def tw16887095844654823377:=0
def tw5963579813798905558:=0
def tw15364270317880597821:=0
def tw9928751560277672878:=0
def tw11100498022131995092:=0
def tw6487273404223866827:=0
def tw11658148573979701306:=0
def tw17060490382837181075:=0
def tw663690790508434116:=0
def tw16288377872471997788:=0
def tw2019006475199097221:=0
def tw15559303661652977669:=0
def tw16904921795561698475:=0
def tw18405756369324165848:=0
def tw764701367900814348:=0
def tw15147036477049636241:=0
def tw1328529804580010392:=0
def tw203534154504225148:=0
def tw9727303483872773699:=0
def tw1867658142742525311:=0
def tw2406279024491733609:=0
def tw14421790855660456445:=0
def tw16212324847915950018:=0
def tw7808985125902806136:=0
def tw12505643650036090140:=0
def tw9943437830216833219:=0
def tw17582515662260549345:=0
def tw14610217634618148536:=0
end PySem.W.Fast
set_option maxRecDepth 100000 in
set_option maxHeartbeats 0 in
theorem PySem.Challenge.cw_balepress_k20_whole_best_way_holds : PySem.Challenge.rw_balepress_k20_whole_best_way.Holds := by
 w_on;o_law;k_head;(case hw=>w_witness2)
 k_fill
 refine' K20.walk (l:=PySem.Challenge.rw_balepress_k20_whole_best_way) rfl rfl (λ w h Y=>⟨PySem.W.km_in_of Y,PySem.W.km_tabs_of Y _ List.mem_cons_self⟩) ?hKT ?F ?hC
 case hKT=>intro w;kernel_rfl
 case F=>
  intro w mg fa h KX G hmg
  refine' K20.all_mk (by kernel_rfl) KX G hmg ?a1 ?l1 ?c1 ?k1 ?z_isinstance ?z_bool ?z_int ?z_list ?z_len ?z_range ?z_max ?z_min ?gv0 ?gv1 ?gv2 ?gv3 ?gv4 ?gv5 ?gv6 ?z_sum ?z_enumerate ?z_sorted ?gv7 ?gv8 ?gv9 ?gv10 ?gv11 ?gv12 ?gv13 ?gv14 ?gv15 ?d2 ?d3 ?d4 ?d5 ?d6 ?d7 ?d8 ?d9 ?a10 ?l10 ?c10 ?k10 ?t10 ?d11 ?d12 ?d13 ?d14 ?d15 ?d16 ?pgB ?hdB ?poB ?saB ?nB_whole_bytes ?nB_rest ?nB_rest_size ?gB ?d17 ?d18 ?d19 ?mkB ?kcB ?d20 ?d21 ?d22 ?d23 ?d24 ?d25 ?d26 ?d27 ?d28 ?a29 ?l29 ?c29 ?k29 ?t29 ?d30 ?d31 ?d32 ?d33 ?pgE ?hdE ?poE ?saE ?nE_things ?nE_beginnings ?pgD ?hdD ?poD ?saD ?nD_held ?nD_taken ?gD ?d34 ?d35 ?mkD ?kcD ?d36 ?d37 ?d38 ?d39 ?gE ?d40 ?mkE ?kcE ?d41 ?d42 ?d43 ?d44 ?d45 ?d46 ?d47 ?d48 ?d49 ?d50 ?d51 ?pgC0 ?hdC0 ?poC0 ?saC0 ?mkC0 ?kcC0 ?inC0 ?r_PySem_W_findIn_K_ref_C0___class___some_some_builtin_object__ ?r_PySem_W_mroIn_K_C0_type_object_some_true ?d52 ?r_PySem_W_kitOne_K_ref_C0_ref_CW_some_true ?gC0 ?d53 ?d54 ?d55 ?pgC1 ?hdC1 ?poC1 ?saC1 ?mkC1 ?kcC1 ?inC1 ?r_PySem_W_findIn_K_ref_C1___class___some_some_builtin_object__ ?r_PySem_W_mroIn_K_C1_type_object_some_true ?d56 ?r_PySem_W_kitOne_K_ref_C1_ref_CW_some_true ?gC1 ?d57 ?d58 ?d59 ?pgC2 ?hdC2 ?poC2 ?saC2 ?mkC2 ?kcC2 ?inC2 ?r_PySem_W_findIn_K_ref_C2___class___some_some_builtin_object__ ?r_PySem_W_mroIn_K_C2_type_object_some_true ?d60 ?r_PySem_W_kitOne_K_ref_C2_ref_CW_some_true ?gC2 ?d61 ?d62 ?d63 ?pgC3 ?hdC3 ?poC3 ?saC3 ?mkC3 ?kcC3 ?inC3 ?r_PySem_W_findIn_K_ref_C3___class___some_some_builtin_object__ ?r_PySem_W_mroIn_K_C3_type_object_some_true ?d64 ?r_PySem_W_kitOne_K_ref_C3_ref_CW_some_true ?gC3 ?d65 ?d66 ?d67 ?d68 ?gCW ?isi ?r_PySem_W_specialIn_K_builtin_object___class_____get___some_so ?r_PySem_W_takesIn_K_builtin_object___class___some_true ?d69 ?d70 ?d71 ?d72 ?d73 ?d74 ?d75 ?d76 ?d77 ?a78 ?l78 ?c78 ?k78 ?t78
  case gB|gD|gE|gC0|gC1|gC2|gC3|gCW=>k_is
  case d2|d3|d4|d5|d6|d7|d8|d9|d11|d12|d13|d14|d15|d16|d17|d18|d24|d25|d26|d27|d28|d30|d31|d32|d34|d42|d43|d44|d45|d46|d47|d48|d49|d50|d51|d68|d70|d71|d72|d73|d74|d75|d76|d77=>refine' K20.TD.i ?a ?l ?c ?k;(case a=>k_is);(case l=>k_is);(case c=>k_is);(case k=>k_is)
  case d19|d20|d21|d22|d23|d33|d35|d36|d37|d38|d39|d40|d41|d52|d53|d54|d55|d56|d57|d58|d59|d60|d61|d62|d63|d64|d65|d66|d67|d69=>refine' K20.MD.i ?a ?i ?l ?c ?k;(case a=>k_is);(case i=>k_is);(case l=>k_is);(case c=>k_is);(case k=>k_is)
  case a1|l1|c1|k1|z_isinstance|z_bool|z_int|z_list|z_len|z_range|z_max|z_min|gv0|gv1|gv2|gv3|gv4|gv5|gv6|z_sum|z_enumerate|z_sorted|gv7|gv8|gv9|gv10|gv11|gv12|gv13|gv14|gv15|a10|l10|c10|k10|t10|pgB|hdB|poB|saB|nB_whole_bytes|nB_rest|nB_rest_size|mkB|kcB|a29|l29|c29|k29|t29|pgE|hdE|poE|saE|nE_things|nE_beginnings|pgD|hdD|poD|saD|nD_held|nD_taken|mkD|kcD|mkE|kcE|pgC0|hdC0|poC0|saC0|mkC0|kcC0|inC0|r_PySem_W_findIn_K_ref_C0___class___some_some_builtin_object__|r_PySem_W_mroIn_K_C0_type_object_some_true|pgC1|hdC1|poC1|saC1|mkC1|kcC1|inC1|r_PySem_W_findIn_K_ref_C1___class___some_some_builtin_object__|r_PySem_W_mroIn_K_C1_type_object_some_true|pgC2|hdC2|poC2|saC2|mkC2|kcC2|inC2|r_PySem_W_findIn_K_ref_C2___class___some_some_builtin_object__|r_PySem_W_mroIn_K_C2_type_object_some_true|pgC3|hdC3|poC3|saC3|mkC3|kcC3|inC3|r_PySem_W_findIn_K_ref_C3___class___some_some_builtin_object__|r_PySem_W_mroIn_K_C3_type_object_some_true|r_PySem_W_specialIn_K_builtin_object___class_____get___some_so|r_PySem_W_takesIn_K_builtin_object___class___some_true|a78|l78|c78|k78|t78=>k_is
  case r_PySem_W_kitOne_K_ref_C0_ref_CW_some_true|r_PySem_W_kitOne_K_ref_C1_ref_CW_some_true|r_PySem_W_kitOne_K_ref_C2_ref_CW_some_true|r_PySem_W_kitOne_K_ref_C3_ref_CW_some_true|isi=>kernel_rfl
 case hC=>intro w;kernel_rfl

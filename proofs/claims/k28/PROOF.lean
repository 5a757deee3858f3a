import PyProof.Rows.All
import Wide.FinOn
import Open.Pieces
import OpenK.KLine
import KE.KFromBytes
import KE.KIsAll
import PyProof.EqAt
import PyProof.EqKinds
import PyProof.TupleCall
import PyProof.Seq
import PyProof.RangeIter
import PyProof.TupleIter
import PyProof.Rows.TupIter
import PyProof.StationsW
import PyProof.ExcClass2
import PyProof.NeKinds
import PyProof.Rows.TupMore
import PyProof.AutoSeq1
import PyProof.ZipIter
import PyProof.StrWalks
import PyProof.StrBlock2
import PyProof.StrBlockI
import PyProof.StrLaws
import PyProof.SliceStr2
import PyProof.Rows.Range3
import PyProof.Rows.StrRev
import PyProof.ConsumeWalk
import PyProof.Rows.SortShellK
import PyProof.Rows.SortRev
import PyProof.SeqI3
import KE.KEqDict
import KE.KLam
import KE.KMinKey
import KE.KNestM
import PyProof.FString
import PyProof.DictWalks
import PyProof.DictTable
import PyProof.Rows.FactsN_divmod
import PyProof.ListRange
import Lean
import PySem.Challenge.RW_balepress_k28_ranges
noncomputable section
set_option bootstrap.genMatcherCode false
open PySem renaming Addr → EC, Value → ED, Shared → EE, Program → EF, World → EG, FuncData → EH, Around → EI, Heap → EJ, Expr → EK, Obj → EL, Stmt → EM
open PySem.W (mg_of Frag instObj methodObj lookIn InstAt plainGet hasDictIn findIn handedIn isFn plainOver takerIn makesIn typeIn InitBack emptyDict make_core Looks keepIn specialIn takesIn mroIn kitOne kitx_list kitx_dict fnOf codeIn codeRec_of excIn clsIn findObj KitX oi_run kitMeta nsIn kIn_of binds_K)
variable {P:EF}{w:EG}{K:Frag}{mg:PySem.Str->Option ED}{base:EJ}
theorem Z9 {p:Prop}(h:p:=by decide):p:=h
theorem Z8 {p:Prop}(h:p:=by decide+kernel):p:=h
theorem Z7 {p:Prop}(h:p:=by rfl):p:=h
theorem Z6 {p:Prop}(h:p:=by simp):p:=h
theorem Z5 {p:Prop}(h:p:=by lia):p:=h
theorem Z4 {p:Prop}(h:p:=by omega):p:=h
theorem Z3 {p:Prop}(h:p:=by intro _;rfl):p:=h
theorem Z2 {p:Prop}(h:p:=by first|exact .inl rfl|exact .inr rfl|assumption):p:=h
theorem Z1 {p:Prop}(h:p:=by intro _ _ _ _ h;(repeat obtain⟨_,h⟩:=h)<;>subst_vars<;>rfl):p:=h
theorem ZU {p:Prop}(h:p:=by first|exact .inl rfl|exact .inr (.inl rfl)|exact .inr (.inr rfl)):p:=h
def ZT:=ZU._auto_1
def Z0:=Z7._auto_1
def ZZ:=Z9._auto_1
def ZY:=Z8._auto_1
def ZX:=Z3._auto_1
def ZW:=Z2._auto_1
def ZV:=Z1._auto_1
set_option Elab.async false
set_option linter.all false
set_option maxRecDepth 100000
abbrev z0:=@List.length_append
abbrev z7:=@List.length_map
abbrev Aa:=@PySem.wpAny_bind
abbrev Ab:=@List.append_assoc
abbrev Af:=@List.getElem?_eq_getElem
abbrev Ag:=@PySem.Heap.get?_push_of_some
abbrev Ai:=@decide_eq_true
abbrev Aj:=@List.length_take
abbrev Ak:=@List.getElem?_eq_some_iff
abbrev Al:=@Nat.le_refl
abbrev Am:=@PySem.wpAny_pure
abbrev An:=@List.size_toArray
abbrev Ap:=@Nat.lt_of_lt_of_le
abbrev Aq:=@of_decide_eq_true
abbrev Ar:=@List.mem_append
abbrev As:=@PySem.boot_len
abbrev At:=@List.map_append
abbrev Au:=@List.getElem?_map
abbrev Av:=@Bool.false_ne_true
abbrev Aw:=@PySem.Heap.lt_size
abbrev Ax:=@List.length_drop
abbrev Ay:=@Int.toNat_natCast
abbrev Az:=@List.length_cons
abbrev AA:=@List.take_of_length_le
abbrev AB:=@congrArg
abbrev AC:=@List.mem_cons_of_mem
abbrev AD:=@List.mem_singleton
abbrev AE:=@List.mem_append_right
abbrev AF:=@PySem.Heap.get?_push_size
abbrev AG:=@List.mem_of_mem_take
abbrev AH:=@PyProof.Rows.boot_isinstance
abbrev AI:=@PySem.Heap.get?_update_other
abbrev AJ:=@List.map_cons
abbrev AK:=@Nat.mod_lt
abbrev AL:=@decide_eq_false
abbrev AM:=@Nat.min_eq_left
abbrev AN:=@Int.natCast_emod
abbrev AO:=@if_neg
abbrev AQ:=@List.append_nil
abbrev AR:=@List.length_replicate
abbrev AS:=@PySem.wpAny_field
abbrev AT:=@Nat.le_trans
abbrev AU:=@PySem.mem_of_lookup
abbrev AV:=@if_pos
abbrev AX:=@Array.getElem?_eq_some_iff
abbrev AY:=@Option.some.inj
abbrev AZ:=@Nat.zero_le
abbrev A0:=@List.mem_of_mem_drop
abbrev A1:=@List.take_append_drop
abbrev A2:=@Nat.ne_of_lt
abbrev A3:=@List.flatten_cons
abbrev A4:=@Nat.lt_or_ge
abbrev A5:=@PySem.F.plainAttrs_list
abbrev A6:=@List.mem_cons_self
abbrev A7:=@List.getD_eq_getElem?_getD
abbrev A8:=@PyProof.Rows.slot_tuple_getitem
abbrev A9:=@List.take_add_one
abbrev Bb:=@PySem.wpAny_mono
abbrev Bc:=@List.mem_cons
abbrev Bd:=@Int.natCast_nonneg
abbrev Bf:=@PySem.Heap.get?_update_self
abbrev Bg:=@PySem.wpAny_callSpecial?_slot
abbrev Bh:=@List.map_take
abbrev Bj:=@PySem.PassesOwn.never
abbrev Bm:=@PySem.wpAny_setField
abbrev Bn:=@List.mem_append_left
abbrev Bp:=@PyProof.Rows.boot_list
abbrev Bq:=@Option.map_eq_some_iff
abbrev Br:=@Nat.xor_assoc
abbrev Bt:=@PySem.Obj.data_mapFields
abbrev Bu:=@Nat.pow_succ
abbrev Bv:=@List.flatten_append
abbrev Bw:=@PySem.W.kia_one
abbrev Bx:=@List.take_length
abbrev Bz:=@Nat.le_add_right
abbrev BA:=@Nat.add_assoc
abbrev BB:=@List.map_drop
abbrev BC:=@List.mem_of_getElem?
abbrev BD:=@Nat.mul_comm
abbrev BE:=@List.getElem?_set_self
abbrev BF:=@List.drop_of_length_le
abbrev BG:=@Nat.le_add_left
abbrev BH:=@List.drop_eq_getElem_cons
abbrev BI:=@Int.natCast_ediv
abbrev BJ:=@Nat.lt_irrefl
abbrev BK:=@Nat.zero_add
abbrev BL:=@PySem.wpAny_newObj_type
abbrev BM:=@PyProof.Rows.boot_int
abbrev BN:=@PySem.Obj.isFreed_of_fields
abbrev BO:=@PySem.F.slot_list_append
abbrev BQ:=@PyProof.Rows.callWith_type1
abbrev BR:=@PySem.wpAny_Call_Name_kw
abbrev BS:=@Nat.min_eq_right
abbrev BU:=@List.replicate_succ
abbrev BV:=@Nat.pow_pos
abbrev BW:=@Nat.mul_assoc
abbrev BX:=@List.getElem?_append_left
abbrev BY:=@List.getElem?_eq_none
abbrev BZ:=@List.take_left'
abbrev B0:=@Ne.symm
abbrev B1:=@List.getElem?_take_of_lt
abbrev B2:=@PySem.F.type_list_append
abbrev B3:=@Nat.mod_eq_of_lt
abbrev B4:=@PySem.wpAny_call_entry
abbrev B5:=@List.take_append_of_le_length
abbrev B6:=@PySem.wpAny_holding
abbrev B7:=@List.cons.inj
abbrev B8:=@Nat.le_of_lt
abbrev B9:=@le_of_eq_of_le
abbrev Ca:=@List.getElem_of_mem
abbrev Cb:=@beq_eq_false_iff_ne
abbrev Cc:=@PySem.Heap.SameBut.update
abbrev Cd:=@Bool.and_eq_true
abbrev Cf:=@List.getElem?_set_ne
abbrev Cg:=@Nat.sub_succ_lt_self
abbrev Ci:=@Nat.le_antisymm
abbrev Cj:=@Bool.eq_iff_iff
abbrev Cm:=@Int.natCast_add
abbrev Cq:=@PySem.wpAny_passesOwn
abbrev Cr:=@Nat.and_two_pow_sub_one_eq_mod
abbrev Cs:=@Nat.pow_add
abbrev Ct:=@PySem.wpAny_attempt
abbrev Cu:=@Nat.shiftLeft_eq
abbrev Cv:=@List.mem_flatten
abbrev Cw:=@PySem.wpAny_isInstance
abbrev Cy:=@List.drop_take
abbrev Cz:=@PySem.Heap.size_push
abbrev CA:=@Nat.div_div_eq_div_mul
abbrev CB:=@PyProof.noPylong_small
abbrev CD:=@Nat.xor_lt_two_pow
abbrev CF:=@PySem.W.callWith_K
abbrev CG:=@Bool.false_eq_true
abbrev CI:=@List.length_singleton
abbrev CJ:=@Nat.le_of_eq
abbrev CL:=@List.length_set
abbrev CM:=@PySem.wpAny_execs_nil
abbrev CN:=@List.find?_cons
abbrev CO:=@List.foldl_append
abbrev CP:=@PySem.wpAny_truthy_bool
abbrev CQ:=@List.getElem?_append_right
abbrev CS:=@Int.fdiv_eq_ediv_of_nonneg
abbrev CT:=@PySem.W.looks_findIn
abbrev CU:=@PySem.isSubtype_stop
abbrev CV:=@Nat.div_eq_of_lt
abbrev CW:=@List.all_eq_true
abbrev CY:=@List.getElem_mem
abbrev CZ:=@Array.length_toList
abbrev C4:=@PySem.wpAny_isSubtype_exc
abbrev C5:=@Nat.add_zero
abbrev C6:=@List.mem_map
abbrev C7:=@PySem.wpAny_comprehension_free
abbrev C8:=@Nat.lt_of_le_of_lt
abbrev C9:=@mg_of
abbrev Da:=@List.length_nil
abbrev Db:=@List.map_inj_right
abbrev Dd:=@PyProof.Rows.boot_tuple
abbrev De:=@Nat.min_le_left
abbrev Df:=@Nat.add_sub_cancel_left
abbrev Dg:=@List.set_eq_take_append_cons_drop
abbrev Dh:=@List.nodup_cons
abbrev Di:=@Nat.testBit_eq_decide_div_mod_eq
abbrev Dj:=@PyProof.Rows.boot_bool
abbrev Dk:=@PyProof.Rows.bitAnd_pp
abbrev Dl:=@Nat.le_of_succ_le_succ
abbrev Dm:=@PySem.F.slot_list_extend
abbrev Dn:=@PySem.F.plainAttrs_str
abbrev Do:=@PySem.W.cellsFrom_some
abbrev Dp:=@Nat.le_add_right_of_le
abbrev Dq:=@PySem.Heap.size_after_update
abbrev Dr:=@PySem.wpAny_loadPart_at
abbrev Ds:=@Array.getElem?_setIfInBounds_ne
abbrev Dt:=@Bool.false_and
abbrev Du:=@List.drop_zero
abbrev Dv:=@Nat.ne_of_gt
abbrev Dw:=@List.map_map
abbrev Dy:=@PySem.F.slot_str_join
abbrev Dz:=@PySem.F.type_str_join
abbrev DA:=@PySem.W.methodCall_KW
abbrev DB:=@Nat.le_of_not_lt
abbrev DC:=@List.drop_append_of_le_length
abbrev DD:=@PyProof.Rows.joinOk_of_weight
abbrev DE:=@PySem.W.any_some
abbrev DF:=@Nat.le_of_not_ge
abbrev DG:=@Nat.pow_le_pow_right
abbrev DH:=@Nat.mul_lt_mul_right
abbrev DI:=@Nat.pow_lt_pow_right
abbrev DJ:=@List.range_eq_range'
abbrev DK:=@PySem.Paired.length
abbrev DL:=@List.sum_cons
abbrev DM:=@List.any_cons
abbrev DN:=@PySem.wpAny_rule
abbrev DO:=@PySem.call_meets
abbrev DP:=@Nat.mul_add_div
abbrev DQ:=@Nat.xor_mod_two_pow
abbrev DR:=@Int.natCast_mul
abbrev DS:=@Nat.div_add_mod
abbrev DT:=@List.nil_append
abbrev DU:=@List.drop_left'
abbrev DV:=@List.take_set_of_le
abbrev DW:=@List.of_mem_zip
abbrev DX:=@List.filterMap_cons
abbrev DY:=@PySem.W.plainGet_of
abbrev DZ:=@PySem.W.callWith_K0
abbrev D6:=@Nat.mod_two_eq_zero_or_one
abbrev D7:=@Int.fmod_eq_emod_of_nonneg
abbrev D8:=@Nat.zero_mul
abbrev D9:=@Nat.sub_self
abbrev Ea:=@PySem.Calls.Constant_str
abbrev Eb:=@PySem.Calls.spliced_cons
abbrev Ec:=@Nat.shiftLeft_xor_distrib
abbrev Ed:=@List.take_take
abbrev Ee:=@List.mem_or_eq_of_mem_set
abbrev Ef:=@PySem.PassesOwn.leaving
abbrev Eg:=@beq_iff_eq
abbrev Eh:=@PySem.Calls.spliced_nil
abbrev Ei:=@Nat.add_mul
abbrev Ej:=@Nat.le_succ
abbrev Ek:=@Int.ofNat.inj
abbrev El:=@Nat.mul_mod_left
abbrev Em:=@Nat.min_le_right
abbrev Eo:=@List.drop_length
abbrev Ep:=@List.drop_append
abbrev Er:=@List.range'_succ
abbrev Es:=@PySem.W.makes_of
abbrev Et:=@Nat.lt_succ_self
abbrev Eu:=@Int.lt_of_not_ge
abbrev Ew:=@Nat.testBit_xor
abbrev Ex:=@Nat.xor_comm
abbrev Ey:=@Nat.xor_self
abbrev Ez:=@Nat.pow_zero
abbrev EA:=@Nat.le_total
abbrev EB:=@List.take_zero
namespace QQ
open PySem PyProof.Rows
variable {env:Env}{L e it t:EC}{base h h':EJ}{Q:Unit->EE->Prop}{items vs:Array ED}{cls:ED}{outer:List Env}{fp:List EC}
def Cx2 (h:EJ)(a:EC)(vs:Array ED):Prop:=vs[2]?=some Value.none\/∃b ob us,vs[2]?=some (.ref b)/\b≠a/\h.get? b=some ob/\ob.data=.fields us/\6≤us.size/\us[2]?=some Value.none
def Hq (A:EI)(h:EJ):Prop:=A.handled=none\/∃a o vs,A.handled=some (.ref a)/\h.get? a=some o/\o.data=.fields vs/\6≤vs.size/\Cx2 h a vs
theorem Hq.keep {A:EI}(q:Hq A h)(k:∀a o vs,h.get? a=some o->o.data=.fields vs->6≤vs.size->h'.get? a=some o):Hq A h':=by
 rcases q with q|⟨a,o,vs,e,g,d,z,c⟩
 ·exact .inl q
 ·refine .inr ⟨a,o,vs,e,k a o vs g d z,d,z,?_⟩;rcases c with c|⟨b,ob,us,e1,n,e2,e3,e4,e5⟩
  ·exact .inl c
  ·exact .inr ⟨b,ob,us,e1,n,k b ob us e2 e3 e4,e3,e4,e5⟩
theorem iN:entryFor table "proto.unchain"=some Builtin.«proto.unchain»:=entryFor_of_fast (by kernel_rfl)
section
variable {prog:EF}{w:EG}{A:EI}{E:ED -> EE -> Prop}{s:EE}
theorem lV {α:Type}{oe:EL}{h0:EJ}{Q:α->EE->Prop}(hq:Hq A h0)(hk:∀b o,h0.get? b=some o->s.heap.get? b=some o/\b≠e)(he:s.heap.get? e=some oe)(hd:oe.data=.fields vs)(hz:2<vs.size)
  (h:∀h' o',h'.get? e=some o'->o'.cls=oe.cls->Heap.SameBut e s.heap h'->E (.ref e) {s with heap:=h'}):wpAny (model prog w) A (raiseNew (.ref e):Sem α) Q E s:=by
 unfold raiseNew;refine Aa (wpAny_handled ?_);rcases hq with q|⟨a,o,us,ea,ga,da,zz,za⟩
 ·rw [q];exact Aa (Am (wpAny_throw (h s.heap oe he rfl (Heap.SameBut.refl ..))))
 ·rw [ea];obtain⟨ga,nae⟩:=hk a o ga;have ne:(Value.ref a !=Value.ref e)=true:=by simp [bne,nae]
  show wpAny _ _ (if(Value.ref a !=Value.ref e)=true then _ else _) _ _ _;rw [AV ne];have fin:wpAny (model prog w) A (updateField e 2 (.ref a)>>= λ _=>throw (.ref e)) Q E s:=by
   refine Aa (Bm he hd hz ?_:wpAny _ _ (setField (.ref e) 2 (.ref a)) _ _ s);exact wpAny_throw (h _ _ (Bf _ he (BN (Bt hd _))) (Obj.cls_mapFields _ _) (Cc ..))
  refine Aa (B6 (wpAny_runValue (codeAny_builtin iN ?_)));show wpAny _ _ (field (.ref a) 2>>= _) _ _ s;rcases za with za|⟨b,ob,vb,eb,nb,gb,db,sz,zb⟩
  ·refine Aa (AS ga da za ?_);show wpAny _ _ (if(Value.none==Value.none)=true then _ else _) _ _ s;rw [AV Z7];refine Aa (Am (Am ?_));exact fin
  ·obtain⟨gb,nbe⟩:=hk b ob gb;refine Aa (AS ga da eb ?_);have n1:(Value.ref b==Value.none)=false:=rfl;have n2:(Value.ref b==Value.ref e)=false:=by simp [nbe]
   have n3:(Value.ref b==Value.ref a)=false:=by simp [nb]
   simp only [n1,n2,n3,CG,if_false];refine Aa (Am (Am ⟨Code.quiet_builtin _ Z8,codeAny_builtin iN ?_⟩));show wpAny _ _ (field (.ref b) 2>>= _) _ _ s;refine Aa (AS gb db zb ?_);show wpAny _ _ (if(Value.none==Value.none)=true then _ else _) _ _ s;rw [AV Z7];refine Aa (Am (Am ?_));exact fin
theorem cq {α:Type}{E':ED->EE->Prop}{R:α->EE->Prop}(hq:Hq A s.heap)
  (h:∀h' e,(∀b o,s.heap.get? b=some o->h'.get? b=some o)->(∃o,h'.get? e=some o/\o.cls=.type "StopIteration")->E' (.ref e) {s with heap:=h'}):
  wpAny (model prog w) A (newExc (.type "StopIteration") []>>= λ v=>(raiseNew v:Sem α)) R E' s:=by
 refine Aa ?_;simp only [newExc,newTuple];refine Aa (BL ?_ (by size_fits));refine Aa (m:=firstArgMember _ _) (wpAny_of_eq (a:=Value.none) (by first|rfl|(simp only [firstArgMember];rfl)) ?_);refine BL ?_ (by size_fits);have k2:∀b o,s.heap.get? b=some o->((s.heap.push {cls:=.type "tuple",data:=.seq ([]:List ED).toArray}).push {cls:=.type "StopIteration",data:=.fields (#[.ref s.heap.objs.size,.none,.none,.none,.bool false,.none]++ownMembersOf (.type "StopIteration") [])}).get? b=some o:=
  λ b o e=>Ag _ (Ag _ e)
 refine lV hq (λ b o e=>⟨k2 b o e,?_⟩) (AF _ rfl) rfl (by rw [Array.size_append];exact Ap (show 2<6 by decide) (Bz _ _)) λ h' o' ge ce sb=>?_
 ·intro z;have:=Aw e;rw [z,Cz] at this;exact absurd this (Nat.not_lt.mpr (Ej _))
 ·refine h h' _ (λ b o e=>sb.extBut b o (λ z=>?_) (k2 b o e)) ⟨o',ge,ce⟩;have:=Aw e;rw [z,Cz] at this;exact absurd this (Nat.not_lt.mpr (Ej _))
theorem iG {a:EC}{o o':EL}{us:Array ED}(g:h.get? it=some o)(d:o.data=.fields vs)(z:vs.size<6)(g':h.get? a=some o')(d':o'.data=.fields us)(z':6≤us.size):a≠it:=by
 rintro rfl;rw [g] at g';cases g';rw [d] at d';cases d';lia
theorem list_end_q {l:EC}{i:Nat}{items}{Q:Option ED->EE->Prop}(hq:Hq A s.heap)
  (hit:s.heap.IsListIter it l i) (hl:s.heap.IsList l items) (hx:items[i]?=none)
  (hQ:∀h',Heap.ExtBut it s.heap h'->Q none {s with heap:=h'}):wpAny (model prog w) A (pyNext (.ref it)) Q E s:=by
 obtain⟨o,ho,hc,hd⟩:=id hit;obtain⟨ol,hol,_,nl,hdl⟩:=hl;unfold pyNext;refine Aa (Ct (Bg (name:=Str.ofString "__next__") hit.typeIs slot_listiter_next (B4 slot_listiter_next hit.typeIs entry_listiter_next ?_ (args_listiter_next _))));show wpAny _ _ (field (.ref it) 0>>= _) _ _ s;refine Aa (AS ho hd (x:=.ref l) rfl ?_);show wpAny _ _ (if(Value.ref l==Value.none)=true then _ else _) _ _ s;rw [AO (show¬((Value.ref l==Value.none)=true) from Av)];show wpAny _ _ (field (.ref it) 1>>= _) _ _ s;refine Aa (AS ho hd (x:=.int i 0) rfl ?_);show wpAny _ _ (seqItems? (.ref l)>>= _) _ _ s;refine Aa (wpAny_seqItems hol hdl ?_);simp only [Ay,hx];refine Aa (DN (Aa (Bm ho hd Z6 ?_)));have sb1:=Cc (h:=s.heap) it (Obj.mapFields (·.setIfInBounds 0 Value.none));refine cq (A:=A.in1) (hq.keep λ a o' us e d' z'=>sb1.extBut a o' (iG ho hd Z6 e d' z') e) λ h' e k z9=>?_
 obtain⟨o',ge,ce⟩:=z9;refine Aa (Cw (T:="StopIteration") (b:=true) ⟨_,ge,ce⟩ CU ?_);exact Am (hQ _ λ b ob hb e1=>k b ob (sb1.extBut b ob hb e1))
theorem ml {i:Nat}{items}{Q:Option ED->EE->Prop}(hq:Hq A s.heap)
  (hit:s.heap.IsTupleIter it t i) (ht:s.heap.IsTuple t items) (hx:items[i]?=none)
  (hQ:∀h',Heap.ExtBut it s.heap h'->Q none {s with heap:=h'}):wpAny (model prog w) A (pyNext (.ref it)) Q E s:=by
 obtain⟨o,ho,hc,hd⟩:=id hit;obtain⟨ol,hol,_,nl,hdl⟩:=ht;unfold pyNext;refine Aa (Ct (Bg (name:=Str.ofString "__next__") hit.typeIs F.slot_tuple_iterator_next (B4 F.slot_tuple_iterator_next hit.typeIs F.entry_tuple_iterator_next ?_ (F.args_tuple_iterator_next_1 _))));show wpAny _ _ (field (.ref it) 0>>= _) _ _ s;refine Aa (AS ho hd (x:=.ref t) rfl ?_);show wpAny _ _ (if(Value.ref t==Value.none)=true then _ else _) _ _ s;rw [AO (show¬((Value.ref t==Value.none)=true) from Av)];show wpAny _ _ (field (.ref it) 1>>= _) _ _ s;refine Aa (AS ho hd (x:=.int i 0) rfl ?_);show wpAny _ _ (seqItems? (.ref t)>>= _) _ _ s;refine Aa (wpAny_seqItems hol hdl ?_);simp only [Ay,hx];refine Aa (DN (Aa (Bm ho hd Z6 ?_)));have sb1:=Cc (h:=s.heap) it (Obj.mapFields (·.setIfInBounds 0 Value.none));refine cq (A:=A.in1) (hq.keep λ a o' us e d' z'=>sb1.extBut a o' (iG ho hd Z6 e d' z') e) λ h' e k z9=>?_
 obtain⟨o',ge,ce⟩:=z9;refine Aa (Cw (T:="StopIteration") (b:=true) ⟨_,ge,ce⟩ CU ?_);exact Am (hQ _ λ b ob hb e1=>k b ob (sb1.extBut b ob hb e1))
theorem range_end_q {x left step:Int}{Q:Option ED->EE->Prop}(hq:Hq A s.heap)(hit:IsRangeIter s.heap it x left step)(hleft:left≤0)
  (hQ:∀h',Heap.ExtBut it s.heap h'->Q none {s with heap:=h'}):wpAny (model prog w) A (pyNext (.ref it)) Q E s:=by
 have hT:s.TypeIs (.ref it) "range_iterator":=⟨_,hit,rfl⟩;unfold pyNext;refine Aa (Ct (Bg (name:=Str.ofString "__next__") hT F.slot_range_iterator_next (B4 F.slot_range_iterator_next hT F.entry_range_iterator_next ?_ (F.args_range_iterator_next_1 _))));show wpAny _ _ (field (.ref it) 0>>= _) _ _ s;refine Aa (AS hit rfl (x:=rawInt x) rfl ?_);show wpAny _ _ (field (.ref it) 1>>= _) _ _ s;refine Aa (AS hit rfl (x:=rawInt left) rfl ?_);show wpAny _ _ (field (.ref it) 2>>= _) _ _ s;refine Aa (AS hit rfl (x:=rawInt step) rfl ?_);show wpAny _ _ (if left≤0 then _ else _) _ _ s;rw [AV hleft];refine Aa (DN (Aa ?_));refine cq (A:=A.in1) hq λ h' e k z9=>?_
 obtain⟨o',ge,ce⟩:=z9;refine Aa (Cw (T:="StopIteration") (b:=true) ⟨_,ge,ce⟩ CU ?_);exact Am (hQ _ λ b ob hb e1=>k b ob e1)
theorem unpackItems_q {Q:List ED->EE->Prop}(hq:Hq A s.heap)(ht:IsTup s.heap t items)
  (hQ:∀h',Heap.ExtBut s.heap.objs.size s.heap h'->Q items.toList {s with heap:=h'}):wpAny (model prog w) A (unpackItems (.ref t) items.size none) Q E s:=by
 have nt:t≠s.heap.objs.size:=by obtain⟨o,ho,_⟩:=ht;exact A2 (Aw ho)
 unfold unpackItems;refine Aa ?_;unfold notIterableAtAll;refine Aa (wpAny_specialOf ht.typeIs slot_tuple_iter.lookup (Am ?_));simp only [CG,if_false];refine Aa (B6 (iter_tuple ht (Aa (B6 (draw_tuple nt items.size 0 _ _ ⟨_,AF _ rfl,rfl,rfl⟩ (ht.push _) Z5 λ g1 i1 b1=>?_)))));rw [show List.take items.size (List.drop 0 items.toList)=items.toList by rw [Du];exact AA Z6,AO Z6];have k1:∀b o,b≠s.heap.objs.size->s.heap.get? b=some o->g1.get? b=some o:=λ b o hb e=>b1.extBut b o hb (Ag _ e)
 have q1:Hq A g1:=hq.keep λ a o _ e _ _=>k1 a o (A2 (Aw e)) e
 have t1:IsTup g1 t items:=(ht.push _).extBut b1.extBut nt;refine Aa (B6 (ml (s:={s with heap:=g1}) q1 (show g1.IsTupleIter _ t _ from i1) (show g1.IsTuple t items from t1) Z6 λ g2 x2=>?_));simp only [Option.isSome_none,CG,if_false];exact Am (hQ g2 λ b o hb e=>x2 b o hb (k1 b o hb e))
theorem assign_Tuple_q {elts:List EK}{x1}{pos:Pos}(hq:Hq A s.heap)(ht:IsTup s.heap t items)
  (hn:(assignEach elts env).length=items.size) (hstar:(assignEach elts env).findIdx? (·.1)=none)
  (h:∀h',Heap.ExtBut s.heap.objs.size s.heap h'->wpAny (model prog w) A (assignInOrder ((assignEach elts env).map (·.2)) items.toList) Q E {s with heap:=h'}):
  wpAny (model prog w) A (assign (.Tuple elts x1 pos) env (.ref t)) Q E s:=by
 rw [assign_Tuple];refine Aa (wpAny_standAt ?_);unfold unpack;rw [hn,hstar];exact Aa (B6 (unpackItems_q hq ht h))
end
noncomputable def exO (cls:ED) (vs:Array ED):EL:={cls:=cls,data:=.fields vs}
def Fly (h:EJ)(e:EC)(cls:ED)(fp:List EC)(c:ED):Prop:=
 ∃vs,h.get? e=some (exO cls vs)/\(vs[2]?=some c/\6≤vs.size)/\((vs[1]?=some Value.none/\fp=[e])\/
  ∃T oT ts,vs[1]?=some (.ref T)/\T≠e/\h.get? T=some oT/\oT.data=.fields ts/\ts[3]?=some Value.none/\fp=[e,T])
theorem Fly.here {c:ED}(F:Fly h e cls fp c):e∈fp:=by
 obtain⟨vs,_,_,⟨_,r⟩|⟨T,oT,ts,_,_,_,_,_,r⟩⟩:=F<;>simp [r]
theorem Fly.rec {c:ED}(F:Fly h e cls fp c):∀b∈fp,∃o vs,h.get? b=some o/\o.data=.fields vs:=by
 obtain⟨vs,g,z,⟨a,r⟩|⟨T,oT,ts,a,ne,gT,dT,zT,r⟩⟩:=F
 ·intro b hb;rw [r,AD] at hb;subst hb;exact⟨_,vs,g,rfl⟩
 ·intro b hb;rw [r] at hb;rcases Bc.mp hb with hb|hb
  ·subst hb;exact⟨_,vs,g,rfl⟩
  ·rw [AD] at hb;subst hb;exact⟨oT,ts,gT,dT⟩
theorem Fly.made {args:List ED}(m:Heap.MadeExcOf h h' e cls args):Fly h' e cls [e] .none:=by
 obtain⟨t,ht,_⟩:=m.there;exact⟨_,ht,⟨rfl,by show(6:Nat)≤6;decide⟩,.inl ⟨rfl,rfl⟩⟩
section
variable {M:Model}{A:EI}{E:ED -> EE -> Prop}{s:EE}
theorem gI {head c:ED}{had:Bool}
    (hfr:A.frames=some (env::outer)) (hl:s.heap.FunFrames base (env::outer)) (hf:env.frame=some L)
    (he:s.heap.get? e=some (exO cls vs)) (h1:1<vs.size) (h2:vs[2]?=some c/\6≤vs.size)
    (h:∀h' T,Fly h' e cls [e,T] c->s.heap.objs.size≤T->(∀b o,s.heap.get? b=some o->b≠e->b∉(env::outer).filterMap (·.frame)->h'.get? b=some o)->
      (∀b o,s.heap.get? b=some o->b≠e->∃sl,h'.get? b=some {o with slots:=sl})->Q () {s with heap:=h'}):
    wpAny M A (do let a<-frameOf env;let pl<-entryPlaceOf L had;let b<-EntryCells.newEntry head a .none (rawInt L) .none pl;setField (.ref e) 1 b) (λ _ s'=>wpAny M A (setFlight (.ref e) none) Q E s') E s:=by
  have ne:e∉(env::outer).filterMap (·.frame):=λ hm=>by
    obtain⟨_,o,ho,hnf⟩:=hl.mem hm
    rw [he] at ho;cases ho
    exact hnf vs rfl
  refine Aa (wpAny_frameOf_fun hfr hl hf λ g1 s1=>?_)
  refine Aa (wpAny_entryPlaceOf λ pl hpl=>?_)
  unfold EntryCells.newEntry newFields
  refine Aa (BL ?_ (hpl.sizeOk5 _ _ _ _ _))
  have hsz:g1.objs.size=s.heap.objs.size:=s1.1
  have he1:g1.get? e=some (exO cls vs):=(s1.2.1 e ne).trans he
  generalize hO:({cls:=.type "traceback",dict:=none,data:=.fields ([head,.ref L,.none,rawInt L,.none]++(if pl.isEmpty then List.replicate 6 Value.none else pl)).toArray}:EL)=oT
  have e3:∃ts,oT.data=.fields ts/\3<ts.size:=⟨_,by rw [<-hO],by simp only [An,z0,Az,Da];lia⟩
  have hfreed:oT.isFreed=false:=by rw [<-hO];rfl
  clear hO
  obtain⟨ts,hts,hz3⟩:=e3
  have he2:(g1.push oT).get? e=some (exO cls vs):=Ag _ he1
  have hT2:(g1.push oT).get? g1.objs.size=some oT:=AF g1 hfreed
  have hTe:g1.objs.size≠e:=Dv (Aw he1)
  refine Bm he2 rfl h1 ?_
  have he3:=Bf (Obj.mapFields (·.setIfInBounds 1 (Value.ref g1.objs.size))) he2 rfl
  have hT3:=(AI (g1.push oT) (Obj.mapFields (·.setIfInBounds 1 (Value.ref g1.objs.size))) (B0 hTe)).trans hT2
  have he3':((g1.push oT).update e (Obj.mapFields (·.setIfInBounds 1 (Value.ref g1.objs.size)))).get? e=some (exO cls (vs.setIfInBounds 1 (Value.ref g1.objs.size))):=he3
  unfold setFlight
  refine Aa (AS he3' rfl (x:=.ref g1.objs.size) (by simp [h1]) ?_)
  rw [AV (show(Value.ref g1.objs.size !=Value.none)=true from by simp)]
  refine Bm hT3 hts hz3 ?_
  have keep:∀b o,b≠e->g1.get? b=some o->(((g1.push oT).update e (Obj.mapFields (·.setIfInBounds 1 (Value.ref g1.objs.size)))).update g1.objs.size (Obj.mapFields (·.setIfInBounds 3 ((none:Option EC).elim Value.none λ f=>rawInt f)))).get? b=some o:=λ b o hb q=>by
    rw [AI _ _ (Dv (Aw q)),AI _ _ (B0 hb)]
    exact Ag _ q
  refine h _ g1.objs.size ⟨vs.setIfInBounds 1 (Value.ref g1.objs.size),?_,?_,.inr ⟨g1.objs.size,_,_,?_,hTe,Bf _ hT3 (BN (Bt hts _)),Bt hts _,?_,rfl⟩⟩ (CJ hsz.symm) (λ b o q hb hn=>?_) λ b o q hb=>?_
  · rw [AI _ _ hTe];exact he3'
  · rw [Ds (by decide),Array.size_setIfInBounds];exact h2
  · simp [h1]
  · simp [hz3]
  · exact keep b o hb ((s1.2.1 b hn).trans q)
  · obtain⟨sl,e'⟩:=s1.2.2 b o q
    exact⟨sl,keep b _ hb e'⟩
theorem yp {c:ED}
  (hfr:A.frames=some (env::outer)) (hl:s.heap.FunFrames base (env::outer)) (hf:env.frame=some L) (F:Fly s.heap e cls fp c)
  (h:∀h' T,Fly h' e cls [e,T] c->s.heap.objs.size≤T->(∀b o,s.heap.get? b=some o->b∉fp->b∉(env::outer).filterMap (·.frame)->h'.get? b=some o)->
   (∀b o,s.heap.get? b=some o->b∉fp->∃sl,h'.get? b=some {o with slots:=sl})->(∀b o,s.heap.get? b=some o->∃o',h'.get? b=some o')->Q () {s with heap:=h'}):
  wpAny M A (noteFrame (.ref e) env) (λ _ s'=>wpAny M A (setFlight (.ref e) none) Q E s') E s:=by
 obtain⟨vs,he,h2,⟨h1,r⟩|⟨T,oT,ts,h1,ne,gT,dT,zT,r⟩⟩:=F
 ·subst r;unfold noteFrame;simp only [hf];refine Aa (AS he rfl h1 ?_);rw [AO Z9];refine gI hfr hl hf he (AX.mp h1).1 h2 λ h' T' f1 f2 f3 f4=>h h' T' f1 f2 (λ b o q hb hn=>f3 b o q (λ z=>hb (by simp [z])) hn) (λ b o q hb=>f4 b o q λ z=>hb (by simp [z])) λ b o q=>?_
  by_cases hb:b=e
  ·obtain⟨vs',g',_⟩:=f1;subst hb;exact⟨_,g'⟩
  ·obtain⟨sl,e'⟩:=f4 b o q hb;exact⟨_,e'⟩
 ·subst r;unfold noteFrame;simp only [hf];refine Aa (AS he rfl h1 ?_);rw [AV (show(Value.ref T !=Value.none)=true from by simp)];refine Aa (AS gT dT zT ?_);rw [AO (show¬((Value.none==rawInt L)=true) from by simp [rawInt])];refine Aa (Bm gT dT (AX.mp zT).1 ?_);have oth:∀b,b≠T->(s.heap.update T (Obj.mapFields (·.setIfInBounds 3 Value.none))).get? b=s.heap.get? b:=λ b hb=>AI _ _ (B0 hb)
  have gT':=Bf (Obj.mapFields (·.setIfInBounds 3 Value.none)) gT (BN (Bt dT _));have nT:∀b o,s.heap.get? b=some o->(∀us,o.data≠ .fields us)->b≠T:=λ b o q nf z=>by
   rw [z,gT] at q;cases q;exact nf ts dT
  have sz:(s.heap.update T (Obj.mapFields (·.setIfInBounds 3 Value.none))).objs.size=s.heap.objs.size:=Dq ..;refine gI hfr (hl.of_keeps λ b o q nf=>⟨o,(oth b (nT b o q nf)).trans q,rfl⟩) hf ((oth e (B0 ne)).trans he) (AX.mp h1).1 h2
   λ h' T' f1 f2 f3 f4=>h h' T' f1 (by rw [sz] at f2;exact f2) (λ b o q hb hn=>?_) (λ b o q hb=>?_) λ b o q=>?_
  ·have b1:b≠e:=λ z=>hb (by simp [z])
   have b2:b≠T:=λ z=>hb (by simp [z])
   exact f3 b o ((oth b b2).trans q) b1 hn
  ·have b1:b≠e:=λ z=>hb (by simp [z])
   have b2:b≠T:=λ z=>hb (by simp [z])
   exact f4 b o ((oth b b2).trans q) b1
  ·by_cases hb:b=e
   ·obtain⟨vs',g',_⟩:=f1;subst hb;exact⟨_,g'⟩
   ·by_cases hT:b=T
    ·subst hT;obtain⟨sl,e'⟩:=f4 b _ gT' hb;exact⟨_,e'⟩
    ·obtain⟨sl,e'⟩:=f4 b o ((oth b hT).trans q) hb;exact⟨_,e'⟩
theorem ou {c:ED}{T:EC}(F:Fly s.heap e cls [e,T] c)
  (h:∀h',Fly h' e cls [e,T] c->(∀b o,s.heap.get? b=some o->b≠T->h'.get? b=some o)->Q () {s with heap:=h'}):wpAny M A (setFlight (.ref e) none) Q E s:=by
 obtain⟨vs,he,h2,⟨h1,r⟩|⟨T',oT,ts,h1,ne,gT,dT,zT,r⟩⟩:=F
 ·cases r
 ·cases r;unfold setFlight;refine Aa (AS he rfl h1 ?_);rw [AV (show(Value.ref T !=Value.none)=true from by simp)];have z3:=(AX.mp zT).1;refine Bm gT dT z3 (h _ ⟨vs,?_,h2,.inr ⟨T,_,_,h1,ne,Bf _ gT (BN (Bt dT _)),Bt dT _,by simp [z3],rfl⟩⟩ λ b o q hb=>?_)
  ·rw [AI _ _ ne];exact he
  ·rw [AI _ _ (B0 hb)];exact q
end
end QQ
namespace L2
open PySem PySem.Spec PyProof.Rows
variable {s s':EE}{A:EI}{Q:Unit->EE->Prop}{K:Frag}{r:R2}{CX:CXT}{j n t':Nat}{fp:List EC}{C a b dx f it:EC}{body:List EM}{v y:V}{o:HO}{base h:EJ}{tc:TT}{qual x:Str}{N ps:List Str}{vs xs ys:List V}{g:TG}{outer:List Env}{ta:TA}{scope:Scope}{tb:TS}{X:Cx}{e tg:EK}{t te:TE}{kindOf:Str->Option NameKind}{E:ED->EE->Prop}{H:Hp}{kw:List (Str×ED)}{es:List EK}{EN:List (EC×EL)}{σ:St}{mA mg:Str->Option ED}{u:ED}{us:List ED}{lo:Int}{w:EG}{P:EF}
abbrev Key:=Sum Int Str
def jA:Key->ED->Bool
 | .inl k,v=>Value.isInt k v
 | .inr x,v=>Value.isStrOf x v
def zY (w:EG):Key->Int
 | .inl k=>hashInt k
 | .inr x=>hashStr w x
theorem keyIs_shape:∀{k:Key} {v:ED},jA k v=true->(∃i t,k=Sum.inl i/\v=Value.int i t)\/(∃x t,k=Sum.inr x/\v=Value.str x t)
 | .inl i,v,h=>by
  obtain⟨t,e⟩:=Value.isInt_shape (k:=i) (v:=v) h;exact .inl ⟨i,t,rfl,e⟩
 | .inr x,v,h=>by
  obtain⟨t,e⟩:=Value.isStrOf_shape (x:=x) (v:=v) h;exact .inr ⟨x,t,rfl,e⟩
theorem qh (i:Int)(t:Tok):jA (.inl i) (.int i t)=true:=by simp [jA,Value.isInt]
theorem qP (x:Str)(t:Tok):jA (.inr x) (.str x t)=true:=by simp [jA,Value.isStrOf]
theorem yk (a b:Int):decide ((Sum.inl a:Key)=Sum.inl b)=(a==b):=by
 by_cases e:a=b
 ·subst e;simp
 ·have h:¬(Sum.inl a:Key)=Sum.inl b:=λ q=>e (Sum.inl.inj q)
  rw [AL h];exact(Cb.mpr e).symm
theorem yn (a b:Str):decide ((Sum.inr a:Key)=Sum.inr b)=decide (a=b):=by
 by_cases e:a=b
 ·subst e;simp
 ·have h:¬(Sum.inr a:Key)=Sum.inr b:=λ q=>e (Sum.inr.inj q)
  rw [AL h,AL e]
theorem xa (a:Int)(b:Str):decide ((Sum.inl a:Key)=Sum.inr b)=false:=AL (λ q=>nomatch q)
theorem xi (a:Str)(b:Int):decide ((Sum.inr a:Key)=Sum.inl b)=false:=AL (λ q=>nomatch q)
noncomputable def bu (prog:EF) (w:EG):PySem.KeyKind prog w Key where
 is:=jA
 hash:=zY w
 inj:=λ v a b ha hb=>by
  rcases keyIs_shape ha with⟨i,t,rfl,rfl⟩|⟨x,t,rfl,rfl⟩
  ·rcases keyIs_shape hb with⟨j,u,rfl,e⟩|⟨y,u,rfl,e⟩
   ·injection e with e1 _;rw [e1]
   ·exact nomatch e
  ·rcases keyIs_shape hb with⟨j,u,rfl,e⟩|⟨y,u,rfl,e⟩
   ·exact nomatch e
   ·injection e with e1 _;rw [e1]
 byValue:=λ k v h=>by
  rcases keyIs_shape h with⟨i,t,rfl,rfl⟩|⟨x,t,rfl,rfl⟩<;>rfl
 pyHash:=λ hv h=>by
  rcases keyIs_shape hv with⟨i,t,rfl,rfl⟩|⟨x,t,rfl,rfl⟩
  ·exact wpAny_pyHash_int h
  ·exact wpAny_pyHash_str h
 eqBool:=λ hu hv h=>by
  rcases keyIs_shape hu with⟨i,t,rfl,rfl⟩|⟨x,t,rfl,rfl⟩
  ·rcases keyIs_shape hv with⟨j,u,rfl,rfl⟩|⟨y,u,rfl,rfl⟩
   ·rw [yk] at h;exact wpAny_eqBool_int h
   ·rw [xa] at h;exact SeqAt.EqAt.int_str i t y u _ _ _ _ h
  ·rcases keyIs_shape hv with⟨j,u,rfl,rfl⟩|⟨y,u,rfl,rfl⟩
   ·rw [xi] at h;exact SeqAt.EqAt.str_int x t j u _ _ _ _ h
   ·rw [yn] at h;exact wpAny_eqBool_str h
 «strs»:=λ k x t v h=>by
  rcases keyIs_shape h with⟨i,u,rfl,e⟩|⟨y,u,rfl,e⟩
  ·exact nomatch e
  ·injection e with e1 _
   subst e1;cases v<;>rfl
theorem kU (prog:EF)(w:EG)(i:Int)(t:Tok):(bu prog w).is (.inl i) (.int i t)=true:=qh i t
theorem li (prog:EF)(w:EG)(x:Str)(t:Tok):(bu prog w).is (.inr x) (.str x t)=true:=qP x t
inductive V where
 |non|bl (b:Bool)|int (i:Int)|str (x:Str)|byt (b:Array UInt8)|flt (b:UInt64)|ref (a:EC)|ty (n:String)
 deriving DecidableEq
def RelV:V->ED->Prop
 | .non,u=>u=Value.none
 | .bl b,u=>u=Value.bool b
 | .int i,u=>∃t,u=Value.int i t
 | .str x,u=>∃t,u=Value.str x t
 | .byt b,u=>∃t,u=Value.bytes b t
 | .flt b,u=>∃t,u=Value.float b t
 | .ref a,u=>u=Value.ref a
 | .ty n,u=>u=Value.type n
abbrev Vals:List V->List ED->Prop:=Paired RelV
theorem Vals.length (r:Vals xs us):xs.length=us.length:=DK r
theorem Vals.get:∀{xs:List V} {us:List ED} {i:Nat} {x:V},Vals xs us->xs[i]?=some x->∃u,us[i]?=some u/\RelV x u
 |_,_,_,_,.nil,e=>by simp at e
 |_,_,0,_,.cons r _,e=>by simp at e;subst e;exact⟨_,rfl,r⟩
 |_,_,i+1,x,.cons _ t,e=>by
  obtain⟨u,h1,h2⟩:=Vals.get (i:=i) (x:=x) t (by simpa using e);exact⟨u,by simpa using h1,h2⟩
theorem Vals.append {ws:List ED}(h:Vals xs us)(s:Vals ys ws):Vals (xs++ys) (us++ws):=by
 induction h with
 |nil=>exact s
 |cons r _ ih=>exact .cons r ih
theorem Vals.take (n:Nat)(h:Vals xs us):Vals (xs.take n) (us.take n):=by
 induction h generalizing n with
 |nil=>cases n<;>exact .nil
 |cons r _ ih=>cases n with
  |zero=>exact .nil
  |succ n=>exact .cons r (ih n)
theorem Vals.drop:∀{xs:List V} {us:List ED} (n:Nat),Vals xs us->Vals (xs.drop n) (us.drop n)
 |_,_,0,r=>r
 |_,_,_+1,.nil=>.nil
 |_,_,n+1,.cons _ t=>Vals.drop n t
def RelO:Option V->Option ED->Prop
 |some v,some u=>RelV v u
 |none,none=>True
 |_,_=>False
def KV {κ:Type}:List (κ×V)->List (κ×ED)->Prop:=Paired λ(p:κ×V) (q:κ×ED)=>p.1=q.1/\RelV p.2 q.2
def kV:Key->V
 | .inl i=>.int i
 | .inr x=>.str x
inductive HO where
 |lst (xs:List V)
 |tup (xs:List V)
 |dK (kvs:List (Key×V))|dT (kvs:List (List Key×V))
 |set (S:Int->Bool) (n:Nat)
 |ins (C dx:EC) (fs:List (Str×V))
 |own (x:EC)
 |xd (fs:List (Str×V))
 |met (f x:EC)
 |rng (lo hi:Int)
 |frz (o:EL) (u:HO)
 |tbl (ps:Array ED)
 |ext (φ:EJ->Prop)
abbrev Hp:=EC->Option HO
noncomputable def upd (H:Hp) (a:EC) (o:HO):Hp:=λ b=>if b=a then some o else H b
theorem af:upd H a o a=some o:=by unfold upd;rw [AV rfl]
theorem av (h:b≠a):upd H a o b=H b:=by unfold upd;rw [AO h]
theorem uQ {u:HO}:upd (upd H a o) a u=upd H a u:=by
 funext b;unfold upd;split<;>rfl
theorem wo {u:HO}(h:H a=some o)(h':H b=some u)(d:o≠u):a≠b:=by
 intro e;subst e;rw [h] at h';exact d (AY h')
theorem au (h:H a=some o)(h':H b=none):a≠b:=by
 intro e;subst e;rw [h] at h';cases h'
section
variable (P:EF)(w:EG)
def ObjOk (H:Hp)(h:EJ)(a:EC):HO->Prop
 | .lst xs=>xs.length≤sizeLine/\∃(its:List ED) (n:Nat),Vals xs its/\h.get? a=some {cls:=.type "list",data:=.seq its.toArray n}
 | .tup xs=>xs.length≤sizeLine/\∃its:List ED,Vals xs its/\IsTup h a its.toArray
 | .dK kvs=>kvs.length≤sizeLine/\(a==sysModules)=false/\∃vs,KV kvs vs/\h.DictOf (bu P w) a vs
 | .dT kvs=>kvs.length≤sizeLine/\(a==sysModules)=false/\∃xs:List (List Key×EC×ED),
   Paired (λ(p:List Key×V) (q:List Key×EC×ED)=>p.1=q.1/\H q.2.1=some (.tup (p.1.map kV))/\RelV p.2 q.2.2) kvs xs/\
   ∃o es ep,h.get? a=some o/\o.ExactDict/\o.data=.dict es ep/\es.toList=xs.map (entryOfKey (tupleKind (bu P w)))/\(xs.map (·.1)).Nodup
 | .set S n=>h.SetOf (intKind P w) a S n
 | .ins C dx fs=>H dx=some (.own a)/\fs.length≤1000/\dx≠a/\h.get? a=some (instObj C dx)/\
   ∃mA,h.Ns1 dx mA/\(∀f,RelO (fs.lookup f) (mA f))/\PySem.Within mA (fs.map (·.1))
 | .own _=>∃o,h.get? a=some o
 | .xd fs=>∃mA,h.Ns1 a mA/\∀f,RelO (fs.lookup f) (mA f)
 | .rng lo hi=>∃t u v,h.get? a=some {cls:=.type "range",data:=.fields #[.int lo t,.int hi u,.int 1 v]}
 | .frz o u=>h.get? a=some o/\ObjOk H h a u
 | .tbl ps=>h.get? a=some {cls:=.none,data:=.fields ps}
 | .met f x=>h.get? a=some (methodObj (.ref f) (.ref x))
 | .ext φ=>φ h/\(∃o,h.get? a=some o)/\∀h1 h2:EJ,φ h1->(∀o,h1.get? a=some o->h2.get? a=some o)->φ h2
def HOk (H:Hp)(h:EJ):Prop:=∀a o,H a=some o->ObjOk P w H h a o
end
section
variable {P:EF}{w:EG}{H H':Hp}{h h':EJ}{a:EC}{o:HO}
theorem ObjOk.lt (x:ObjOk P w H h a o):a<h.objs.size:=by
 cases o with
 |lst xs=>obtain⟨_,_,_,_,e⟩:=x;exact Aw e
 |tup xs=>obtain⟨_,_,_,p⟩:=x;exact p.lt
 |dK kvs=>obtain⟨_,_,_,_,o,_,_,e,_⟩:=x;exact Aw e
 |dT kvs=>obtain⟨_,_,_,_,o,_,_,e,_⟩:=x;exact Aw e
 |set S n=>obtain⟨o,_,_,_,e,_⟩:=x;exact Aw e
 |ins C dx fs=>obtain⟨_,_,_,e,_⟩:=x;exact Aw e
 |own y=>obtain⟨_,e⟩:=x;exact Aw e
 |xd fs=>obtain⟨_,⟨_,_,_,e,_⟩,_⟩:=x;exact Aw e
 |rng lo hi=>obtain⟨_,_,_,e⟩:=x;exact Aw e
 |frz ob u=>obtain⟨e,_⟩:=x;exact Aw e
 |tbl ps=>exact Aw (show h.get? a=some _ from x)
 |met f y=>exact Aw (show h.get? a=some _ from x)
 |ext φ=>obtain⟨_,⟨_,e⟩,_⟩:=x;exact Aw e
theorem Paired.mapP {α β:Type}{F G:α->β->Prop}{l₁:List α}{l₂:List β}(h:Paired F l₁ l₂)(f:∀a b,F a b->G a b):Paired G l₁ l₂:=by
 induction h with
 |nil=>exact .nil
 |cons r _ ih=>exact .cons (f _ _ r) ih
theorem ObjOk.stay (x:ObjOk P w H h a o)(k:∀b u,(b=a\/H b=some (.own a))->h.get? b=some u->h'.get? b=some u)
  (ho:∀b,H b=some (.own a)->H' b=some (.own a)) (ht:∀b xs,H b=some (.tup xs)->H' b=some (.tup xs)):ObjOk P w H' h' a o:=by
 induction o with
 |lst xs=>obtain⟨z,its,n,r,e⟩:=x;exact⟨z,its,n,r,k _ _ (.inl rfl) e⟩
 |tup xs=>obtain⟨z,its,r,ob,e,c⟩:=x;exact⟨z,its,r,ob,k _ _ (.inl rfl) e,c⟩
 |dK kvs=>obtain⟨z,y,vs,r,ob,es,ep,e,c⟩:=x;exact⟨z,y,vs,r,ob,es,ep,k _ _ (.inl rfl) e,c⟩
 |dT kvs=>
  obtain⟨z,y,xs,r,ob,es,ep,e,c⟩:=x;exact⟨z,y,xs,Paired.mapP r λ p q z=>⟨z.1,ht _ _ z.2.1,z.2.2⟩,ob,es,ep,k _ _ (.inl rfl) e,c⟩
 |set S n=>obtain⟨ob,es,ep,t,e,c⟩:=x;exact⟨ob,es,ep,t,k _ _ (.inl rfl) e,c⟩
 |ins C dx fs=>
  obtain⟨d,z,ne,e,mA,⟨od,es,ep,e2,c⟩,r⟩:=x;exact⟨ho _ d,z,ne,k _ _ (.inl rfl) e,mA,⟨od,es,ep,k _ _ (.inr d) e2,c⟩,r⟩
 |own y=>obtain⟨ob,e⟩:=x;exact⟨ob,k _ _ (.inl rfl) e⟩
 |xd fs=>obtain⟨mA,⟨od,es,ep,e,c⟩,r⟩:=x;exact⟨mA,⟨od,es,ep,k _ _ (.inl rfl) e,c⟩,r⟩
 |rng lo hi=>obtain⟨t,u,v,e⟩:=x;exact⟨t,u,v,k _ _ (.inl rfl) e⟩
 |frz ob u ih=>obtain⟨e,q⟩:=x;exact⟨k _ _ (.inl rfl) e,ih q⟩
 |tbl ps=>
  have e:h.get? a=some {cls:=.none,data:=.fields ps}:=x;show h'.get? a=some {cls:=.none,data:=.fields ps};exact k a _ (.inl rfl) e
 |met f y=>
  have e:h.get? a=some (methodObj (.ref f) (.ref y)):=x;show h'.get? a=some (methodObj (.ref f) (.ref y));exact k a _ (.inl rfl) e
 |ext φ=>obtain⟨p,⟨o,e⟩,st⟩:=x;exact⟨st _ _ p λ o q=>k _ _ (.inl rfl) q,⟨o,k _ _ (.inl rfl) e⟩,st⟩
theorem HOk.lt (x:HOk P w H h)(e:H a=some o):a<h.objs.size:=(x a o e).lt
theorem HOk.fresh (x:HOk P w H h)(e:h.objs.size≤a):H a=none:=by
 cases q:H a with
 |none=>rfl
 |some u=>exact absurd (Ap (x.lt q) e) (BJ _)
theorem HOk.kept (x:HOk P w H h)(k:∀b u,h.get? b=some u->h'.get? b=some u):HOk P w H h':=λ a o e=>
 (x a o e).stay (λ b u _ q=>k b u q) (λ _ q=>q) λ _ _ q=>q
theorem HOk.laid (x:HOk P w H h)(k:∀b u,h.get? b=some u->h'.get? b=some u)(hp:h.objs.size≤a)(new:ObjOk P w (upd H a o) h' a o):HOk P w (upd H a o) h':=λ b u e=>by
 have hn:=x.fresh hp;by_cases hb:b=a
 ·subst hb;rw [af] at e;cases e;exact new
 ·rw [av hb] at e;exact(x b u e).stay (λ c v _ q=>k c v q) (λ c q=>by rw [av (au q hn)];exact q) λ c xs q=>by rw [av (au q hn)];exact q
end
def Rd (H:Hp)(a:EC)(u:HO):Prop:=H a=some u\/∃o,H a=some (.frz o u)
theorem Rd.ok {u:HO}(r:Rd H a u)(x:HOk P w H h):ObjOk P w H h a u:=by
 rcases r with r|⟨o,r⟩
 ·exact x a u r
 ·obtain⟨_,q⟩:=x a _ r;exact q
def Mut:Option HO->Prop
 |some (.lst _)=>True
 |some (.dK _)=>True
 |some (.dT _)=>True
 |some (.set _ _)=>True
 |some (.ins _ _ _)=>True
 |some (.ext _)=>True
 |_=>False
section
variable {P:EF}{w:EG}{H:Hp}{h h':EJ}{x e:EC}{o':HO}
theorem HOk.write (ok:HOk P w H h)(mu:Mut (H x))(he:e=x\/H e=some (.own x))(k:∀b u,b≠e->h.get? b=some u->h'.get? b=some u)(heo:∃u,h'.get? e=some u)
  (new:ObjOk P w (upd H x o') h' x o'):HOk P w (upd H x o') h':=λ b u q=>by
 have nown:∀c y,H c=some (.own y)->c≠x:=λ c y r z=>by subst z;rw [r] at mu;exact mu
 have ntup:∀c xs,H c=some (.tup xs)->c≠x:=λ c xs r z=>by subst z;rw [r] at mu;exact mu
 by_cases hb:b=x
 ·subst hb;rw [af] at q;cases q;exact new
 ·rw [av hb] at q;by_cases hbe:b=e
  ·have q':H b=some (.own x):=by
    rcases he with z|z
    ·exact absurd (hbe.trans z) hb
    ·rw [hbe];exact z
   rw [q] at q';cases q';obtain⟨v,hv⟩:=heo;exact⟨v,by rw [hbe];exact hv⟩
  ·refine(ok b u q).stay (λ c v hc r=>k c v ?_ r) (λ c r=>by rw [av (nown c b r)];exact r) λ c xs r=>by rw [av (ntup c xs r)];exact r
   rcases hc with rfl|hc
   ·exact hbe
   ·rintro rfl;rcases he with z|z
    ·exact nown c b hc z
    ·rw [hc] at z;cases z;exact hb rfl
end
structure Un (fs ex:List EC)(H H':Hp)(h h':EJ):Prop where
 keep:∀b o,h.get? b=some o->H b=none->b∉fs->b∉ex->h'.get? b=some o
 slot:∀b o,h.get? b=some o->H b=none->b∈fs->b∉ex->∃sl,h'.get? b=some {o with slots:=sl}
 free:∀b o,h.get? b=some o->H b=none->b∉ex->H' b=none
 there:∀b o,h.get? b=some o->b∉ex->∃o',h'.get? b=some o'
 tups:∀b xs,H b=some (.tup xs)->H' b=some (.tup xs)
 frzs:∀b o u,H b=some (.frz o u)->H' b=some (.frz o u)
 tbls:∀b ps,H b=some (.tbl ps)->∃more,H' b=some (.tbl (ps++more))
section
variable {fs fs' ex ex':List EC}{H H1 H2:Hp}{h h1 h2 h':EJ}{a x e:EC}{o:HO}
theorem Un.any (u:Un fs ex H H1 h h1){ob:EL}(q:h.get? b=some ob)(n:H b=none)(hx:b∉ex):∃sl,h1.get? b=some {ob with slots:=sl}:=by
 by_cases hb:b∈fs
 ·exact u.slot b ob q n hb hx
 ·exact⟨ob.slots,u.keep b ob q n hb hx⟩
theorem Un.kept (k:∀b u,h.get? b=some u->h'.get? b=some u):Un fs ex H H h h':=
 ⟨λ b ob q _ _ _=>k b ob q,λ b ob q _ _ _=>⟨ob.slots,k b ob q⟩,λ _ _ _ n _=>n,λ b ob q _=>⟨ob,k b ob q⟩,λ _ _ q=>q,λ _ _ _ q=>q,λ _ ps q=>⟨#[],by rw [q];simp⟩⟩
theorem Un.refl:Un fs ex H H h h:=Un.kept λ _ _ q=>q
theorem Un.laid (k:∀b u,h.get? b=some u->h'.get? b=some u)(hp:h.objs.size≤a)(hn:H a=none):Un fs ex H (upd H a o) h h' where
 keep:=λ b u q _ _ _=>k b u q
 slot:=λ b u q _ _ _=>⟨u.slots,k b u q⟩
 free:=λ b u q n _=>by rw [av (A2 (Ap (Aw q) hp))];exact n
 there:=λ b u q _=>⟨u,k b u q⟩
 tups:=λ b xs q=>by rw [av (au q hn)];exact q
 frzs:=λ b u xs q=>by rw [av (au q hn)];exact q
 tbls:=λ b ps q=>⟨#[],by rw [av (au q hn),q];simp⟩
theorem Un.write (mu:Mut (H x))(he:e=x\/H e=some (.own x))(k:∀b u,b≠e->h.get? b=some u->h'.get? b=some u)(heo:∃u,h'.get? e=some u):Un fs ex H (upd H x o) h h':=by
 have hx:∀b,H b=none->b≠x:=λ b n z=>by subst z;rw [n] at mu;exact mu
 have hb:∀b,H b=none->b≠e:=λ b n z=>by
  subst z;rcases he with r|r
  ·exact hx b n r
  ·rw [n] at r;cases r
 have hm:∀b u,H b=some u->¬Mut (some u)->b≠x:=λ b u q nm z=>by subst z;rw [q] at mu;exact nm mu
 refine⟨λ b u q n _ _=>k b u (hb b n) q,λ b u q n _ _=>⟨u.slots,k b u (hb b n) q⟩,λ b u q n _=>by rw [av (hx b n)];exact n,λ b u q _=>?_,
  λ b xs q=>by rw [av (hm b _ q λ z=>z)];exact q,λ b u xs q=>by rw [av (hm b _ q λ z=>z)];exact q,λ b ps q=>⟨#[],by rw [av (hm b _ q λ z=>z),q];simp⟩⟩
 by_cases hbe:b=e
 ·subst hbe;exact heo
 ·exact⟨u,k b u hbe q⟩
end
noncomputable def trk (h:EJ) (H:Hp):List EC:=(List.range h.objs.size).filter λ a=>(H a).isSome
def hidT (h:EJ)(H:Hp):EJ:=PySem.W.hideAll h (trk h H)
theorem qb (h:EJ)(H:Hp):(hidT h H).objs.size=h.objs.size:=PySem.W.hideAll_size _ _
theorem sx {o:EL}(e:h.get? b=some o)(n:H b=none):(hidT h H).get? b=some o:=
 PySem.W.hideAll_get _ e λ hm=>by
  have q:(H b).isSome=true:=(List.mem_filter.mp hm).2;rw [n] at q;simp at q
theorem wj {o:EL}(e:(hidT h H).get? b=some o):h.get? b=some o/\H b=none:=by
 have e':h.get? b=some o:=PySem.W.of_hideAll (trk h H) e;refine⟨e',?_⟩;cases q:H b with
 |none=>rfl
 |some x=>
  have hm:b∈trk h H:=List.mem_filter.mpr ⟨List.mem_range.mpr (Aw e'),by simp [q]⟩;have z:(hidT h H).get? b=none:=PySem.W.hideAll_none (trk h H) hm;rw [z] at e;cases e
structure Mod (K:Frag)(mg:Str->Option ED)(base:EJ):Prop where
 kin:K.In base
 glob:base.Ns mainGlobals mg
 blt:∃mb,base.Ns builtinsNs mb/\∀x:Str,x≠ "__name__"->mb x=bootBuiltins x
 nolimit:base.NoLimit
structure Cx where
 prog:EF
 w:EG
 K:Frag
 mg:Str->Option ED
 base:EJ
 A:EI
 N:List Str
 s₀:EE
 H₀:Hp
 env:Env
 outer:List Env
 stack:List Env
 ex:List EC
 fn:Str->Bool
 calm:Bool
 pn:List (EC×EL)
 xe:ED->EE->Prop
def BkH (H:Hp)(a:EC)(c:ED):Prop:=c=.none\/∃b ob us,c=.ref b/\b≠a/\H b=some (.frz ob (.own b))/\ob.data=.fields us/\6≤us.size/\us[2]?=some Value.none
def Qt (A:EI)(H:Hp):Prop:=A.handled=none\/∃a o vs c,A.handled=some (.ref a)/\H a=some (.frz o (.own a))/\o.data=.fields vs/\(vs[2]?=some c/\6≤vs.size)/\BkH H a c
def frs (l:List Env):List EC:=l.filterMap (·.frame)
abbrev Cx.fs (X:Cx):List EC:=frs X.outer
def Vis (sc:Scope)(x:Str):Prop:=sc.names.lookup x=some .local\/sc.names.lookup x=some .cell\/sc.names.lookup x=some .free
def Loc (sc:Scope)(x:Str):Prop:=sc.names.lookup x=some .local\/sc.names.lookup x=some .cell
def zK (env:Env)(h:EJ)(m:Str->Option ED)(x:Str)(u:ED):Prop:=
 (env.kindOf x=some .local/\m x=some u)\/((env.kindOf x=some .cell\/env.kindOf x=some .free)/\∃c,env.cells.lookup x=some c/\h.IsCell c (some u))
structure Cx.Ok (X:Cx):Prop where
 mod:Mod X.K X.mg X.base
 kind:X.env.scope.kind=.function
 glob:X.env.globals=mainGlobals
 blt:X.env.builtins=builtinsNs
 above:X.s₀.heap.objs.size≤X.env.locals
 inj:∀x y c,X.env.cells.lookup x=some c->X.env.cells.lookup y=some c->x=y
 has:∀x,(X.env.kindOf x=some .cell\/X.env.kindOf x=some .free)->∃c,X.env.cells.lookup x=some c
 cab:∀x c,X.fn x=true->X.env.cells.lookup x=some c->X.s₀.heap.objs.size≤c
 hd:Qt X.A X.H₀
 frames:X.A.frames=some X.stack
 stk:X.stack=X.outer\/(X.stack=X.env::X.outer/\X.env.frame=some X.env.locals)
 exf:∀b∈X.ex,b≠X.env.locals/\∀x c,X.env.cells.lookup x=some c->c≠b
 bs:∀b o,X.base.get? b=some o->X.s₀.heap.get? b=some o/\X.H₀ b=none
 bsz:X.base.objs.size≤X.s₀.heap.objs.size
 noex:∀b o,X.base.get? b=some o->b∉X.ex
 exfs:∀b∈X.ex,b∉X.fs
 funs:X.s₀.heap.FunFrames X.base X.outer
 frf:∀b∈X.fs,X.H₀ b=none
structure Inv (X:Cx)(EN:List (EC×EL))(σ:List (Option V))(H:Hp)(s:EE):Prop where
 ok:X.Ok
 os:s.os=X.s₀.os
 bare:AllBare s.gens
 base:Un X.fs X.ex X.H₀ H X.s₀.heap s.heap
 loc:∃m,s.heap.Ns X.env.locals m/\∀(i:Nat) (x:Str) (v:V),X.N[i]?=some x->σ[i]?=some (some v)->Vis X.env.scope x->∃u,RelV v u/\zK X.env s.heap m x u
 cell:∀x c,X.env.cells.lookup x=some c->∃v,s.heap.IsCell c v
 free:H X.env.locals=none
 freeC:∀x c,X.env.cells.lookup x=some c->H c=none
 pin:∀p∈X.pn++EN,s.heap.get? p.1=some p.2/\H p.1=none/\p.1≠X.env.locals/\p.1∉X.fs/\∀v,p.2.data≠ .cell v
 hok:HOk X.prog X.w H s.heap
 len:σ.length=X.N.length
section
variable {X:Cx}{EN:List (EC × EL)}{σ:List (Option V)}{H H':Hp}{s:EE}{h':EJ}
theorem Cx.Ok.nofr (ok:X.Ok){o:EL}(e:X.base.get? b=some o):b∉X.fs:=λ hb=>by
 have:=(ok.funs.mem hb).1;rw [e] at this;cases this
theorem Inv.bs (I:Inv X EN σ H s):∀b o,X.base.get? b=some o->s.heap.get? b=some o/\H b=none:=λ b o e=>
 ⟨I.base.keep b o (I.ok.bs b o e).1 (I.ok.bs b o e).2 (I.ok.nofr e) (I.ok.noex b o e),I.base.free b o (I.ok.bs b o e).1 (I.ok.bs b o e).2 (I.ok.noex b o e)⟩
theorem Inv.bk (I:Inv X EN σ H s):∀b o,X.base.get? b=some o->s.heap.get? b=some o:=λ b o e=>(I.bs b o e).1
theorem Inv.mod (I:Inv X EN σ H s):Mod X.K X.mg X.base:=I.ok.mod
theorem BkH.keep {c:ED}(h:BkH H a c)(k:∀b o u,H b=some (.frz o u)->H' b=some (.frz o u)):BkH H' a c:=by
 rcases h with h|⟨b,ob,us,e,n,g,r⟩
 ·exact .inl h
 ·exact .inr ⟨b,ob,us,e,n,k _ _ _ g,r⟩
theorem Inv.qt (I:Inv X EN σ H s):Qt X.A H:=by
 rcases I.ok.hd with q|⟨a,o,vs,c,e,f,d,z,b⟩
 ·exact .inl q
 ·exact .inr ⟨a,o,vs,c,e,I.base.frzs _ _ _ f,d,z,b.keep I.base.frzs⟩
theorem Inv.hq (I:Inv X EN σ H s):QQ.Hq X.A s.heap:=by
 rcases I.qt with q|⟨a,o,vs,c,e,f,d,z,b⟩
 ·exact .inl q
 ·obtain⟨g,_⟩:=I.hok a _ f;refine .inr ⟨a,o,vs,e,g,d,z.2,?_⟩;rcases b with b|⟨b,ob,us,e1,n,f1,r⟩
  ·exact .inl (z.1.trans (AB some b))
  ·obtain⟨g1,_⟩:=I.hok b _ f1;exact .inr ⟨b,ob,us,z.1.trans (AB some e1),n,g1,r⟩
theorem Inv.kIn (I:Inv X EN σ H s):X.K.In s.heap:=I.ok.mod.kin.keeps I.bk
theorem Inv.lt (I:Inv X EN σ H s):X.env.locals<s.heap.objs.size:=let⟨_,hn,_⟩:=I.loc;hn.lt
theorem Inv.sz (I:Inv X EN σ H s):X.s₀.heap.objs.size≤s.heap.objs.size:=AT I.ok.above (B8 I.lt)
theorem Inv.nofs (I:Inv X EN σ H s)(h:s.heap.objs.size≤a):a∉X.fs:=λ hb=>by
 obtain⟨_,o,ho,_⟩:=I.ok.funs.mem hb;exact absurd (Ap (Aw ho) (AT I.sz h)) (BJ _)
theorem Inv.cne (I:Inv X EN σ H s):∀x c,X.env.cells.lookup x=some c->c≠X.env.locals:=λ x c e z=>by
 obtain⟨v,o,ho,hd⟩:=I.cell x c e;obtain⟨m,⟨o',es,ep,ho',hd',_⟩,_⟩:=I.loc;rw [z,ho'] at ho;cases ho;rw [hd'] at hd;cases hd
theorem Inv.funs (I:Inv X EN σ H s):s.heap.FunFrames X.base X.outer:=by
 have all:∀(l:List Env),(∀b∈frs l,b∈X.fs)->X.s₀.heap.FunFrames X.base l->s.heap.FunFrames X.base l:=by
  intro l
  induction l with
  |nil=>intro _ _;trivial
  |cons env r ih=>
   intro hs hl;obtain⟨hk,⟨L,o,hf,hn,ho,hd⟩,hr⟩:=hl;have hL:L∈X.fs:=hs L (by unfold frs;rw [DX,hf];exact A6);obtain⟨sl,e⟩:=I.base.slot L o ho (I.ok.frf L hL) hL λ z=>I.ok.exfs L z hL
   exact⟨hk,⟨L,_,hf,hn,e,hd⟩,ih (λ b hb=>hs b (by unfold frs;rw [DX,hf];exact AC _ hb)) hr⟩
 exact all X.outer (λ _ hb=>hb) I.ok.funs
theorem Inv.stack (I:Inv X EN σ H s):s.heap.FunFrames X.base X.stack:=by
 rcases I.ok.stk with e|⟨e,hf⟩
 ·rw [e];exact I.funs
 ·rw [e];obtain⟨m,hn,_⟩:=I.loc;refine .cons (by rw [I.ok.kind];decide) hf hn ?_ I.funs;exact Heap.get?_none_of_le (AT I.ok.bsz I.ok.above)
theorem Inv.stkSub (I:Inv X EN σ H s):∀b∈frs X.stack,b∈X.env.locals::X.fs:=λ b hb=>by
 rcases I.ok.stk with e|⟨e,hf⟩
 ·rw [e] at hb;exact AC _ hb
 ·rw [e] at hb;unfold frs at hb;rw [DX,hf] at hb;exact hb
theorem Inv.stkFree (I:Inv X EN σ H s):∀b∈frs X.stack,H b=none:=λ b hb=>by
 rcases Bc.mp (I.stkSub b hb) with e|hb
 ·rw [e];exact I.free
 ·obtain⟨_,o,ho,_⟩:=I.ok.funs.mem hb;exact I.base.free b o ho (I.ok.frf b hb) λ z=>I.ok.exfs b z hb
theorem Inv.step {g':Array GenState}{d':Drawn}{ch:List EC}(I:Inv X EN σ H s)
  (hch:∀b∈ch,(b∈X.ex\/X.s₀.heap.objs.size≤b)/\b≠X.env.locals/\(∀x c,X.env.cells.lookup x=some c->c≠b)/\∀p∈X.pn++EN,p.1≠b)
  (keep:∀b o,b≠X.env.locals->b∉X.fs->b∉ch->s.heap.get? b=some o->H b=none->h'.get? b=some o)
  (slot:∀b o,b≠X.env.locals->b∈X.fs->b∉ch->s.heap.get? b=some o->H b=none->∃sl,h'.get? b=some {o with slots:=sl}) (free:∀b o,b∉ch->s.heap.get? b=some o->H b=none->H' b=none)
  (there:∀b o,b∉ch->s.heap.get? b=some o->∃o',h'.get? b=some o')
  (tups:∀b xs,H b=some (.tup xs)->H' b=some (.tup xs)) (frzs:∀b o u,H b=some (.frz o u)->H' b=some (.frz o u)) (tbls:∀b ps,H b=some (.tbl ps)->∃more,H' b=some (.tbl (ps++more)))
  (ns:∀m,s.heap.Ns X.env.locals m->h'.Ns X.env.locals m) (hok:HOk X.prog X.w H' h') (hg:AllBare g'):
  Inv X EN σ H' {s with heap:=h',gens:=g',drawn:=d',toks:=t'}:=by
 have neL:∀b o,X.s₀.heap.get? b=some o->b≠X.env.locals:=λ b o e=>A2 (Ap (Aw e) I.ok.above)
 have neC:∀b o,X.s₀.heap.get? b=some o->b∉X.ex->b∉ch:=λ b o e hx hb=>by
  rcases(hch b hb).1 with z|z
  ·exact hx z
  ·exact absurd (Ap (Aw e) z) (BJ _)
 have cellK:∀x c,X.env.cells.lookup x=some c->∀v,s.heap.IsCell c v->h'.IsCell c v:=λ x c e v ⟨o,ho,hd⟩=>by
  have nch:c∉ch:=λ z=>(hch c z).2.2.1 x c e rfl
  by_cases hc:c∈X.fs
  ·obtain⟨sl,q⟩:=slot c o (I.cne x c e) hc nch ho (I.freeC x c e);exact⟨_,q,hd⟩
  ·exact⟨o,keep c o (I.cne x c e) hc nch ho (I.freeC x c e),hd⟩
 refine⟨I.ok,I.os,hg,⟨λ b o e n hb hx=>?_,λ b o e n hb hx=>?_,λ b o e n hx=>?_,λ b o e hx=>?_,λ b xs e=>tups b xs (I.base.tups b xs e),λ b o xs e=>frzs b o xs (I.base.frzs b o xs e),λ b ps e=>?_⟩,?_,λ x c e=>?_,?_,λ x c e=>?_,λ p hp=>?_,hok,I.len⟩
 ·exact keep b o (neL b o e) hb (neC b o e hx) (I.base.keep b o e n hb hx) (I.base.free b o e n hx)
 ·obtain⟨sl,e1⟩:=I.base.slot b o e n hb hx;obtain⟨sl',e2⟩:=slot b _ (neL b o e) hb (neC b o e hx) e1 (I.base.free b o e n hx);exact⟨sl',e2⟩
 ·obtain⟨o',e1⟩:=I.base.there b o e hx;exact free b o' (neC b o e hx) e1 (I.base.free b o e n hx)
 ·obtain⟨o',e1⟩:=I.base.there b o e hx;exact there b o' (neC b o e hx) e1
 ·obtain⟨m1,e1⟩:=I.base.tbls b ps e;obtain⟨m2,e2⟩:=tbls b _ e1;exact⟨m1++m2,by rw [e2,Array.append_assoc]⟩
 ·obtain⟨m,hn,hl⟩:=I.loc;refine⟨m,ns m hn,λ i x v e1 e2 e3=>?_⟩;obtain⟨u,r,l⟩:=hl i x v e1 e2 e3;refine⟨u,r,?_⟩;rcases l with l|⟨k,c,e,z⟩
  ·exact .inl l
  ·exact .inr ⟨k,c,e,cellK x c e _ z⟩
 ·obtain⟨v,z⟩:=I.cell x c e;exact⟨v,cellK x c e v z⟩
 ·obtain⟨m,⟨o,_,_,ho,_⟩,_⟩:=I.loc;exact free _ o (λ z=>(hch _ z).2.1 rfl) ho I.free
 ·obtain⟨v,o,ho,hd⟩:=I.cell x c e;exact free c o (λ z=>(hch c z).2.2.1 x c e rfl) ho (I.freeC x c e)
 ·obtain⟨e,n,ne,nf,d⟩:=I.pin p hp;have nch:p.1∉ch:=λ z=>(hch p.1 z).2.2.2 p hp rfl
  exact⟨keep p.1 p.2 ne nf nch e n,free p.1 p.2 nch e n,ne,nf,d⟩
theorem Inv.step0 {g':Array GenState}{d':Drawn}{ch:List EC}(I:Inv X EN σ H s)
  (hch:∀b∈ch,(b∈X.ex\/X.s₀.heap.get? b=none)/\b≠X.env.locals/\(∀x c,X.env.cells.lookup x=some c->c≠b)/\∀p∈X.pn++EN,p.1≠b)
  (keep:∀b o,b≠X.env.locals->b∉X.fs->b∉ch->s.heap.get? b=some o->H b=none->h'.get? b=some o)
  (slot:∀b o,b≠X.env.locals->b∈X.fs->b∉ch->s.heap.get? b=some o->H b=none->∃sl,h'.get? b=some {o with slots:=sl}) (free:∀b o,b∉ch->s.heap.get? b=some o->H b=none->H' b=none)
  (there:∀b o,b∉ch->s.heap.get? b=some o->∃o',h'.get? b=some o')
  (tups:∀b xs,H b=some (.tup xs)->H' b=some (.tup xs)) (frzs:∀b o u,H b=some (.frz o u)->H' b=some (.frz o u)) (tbls:∀b ps,H b=some (.tbl ps)->∃more,H' b=some (.tbl (ps++more)))
  (ns:∀m,s.heap.Ns X.env.locals m->h'.Ns X.env.locals m) (hok:HOk X.prog X.w H' h') (hg:AllBare g'):
  Inv X EN σ H' {s with heap:=h',gens:=g',drawn:=d',toks:=t'}:=by
 have neL:∀b o,X.s₀.heap.get? b=some o->b≠X.env.locals:=λ b o e=>A2 (Ap (Aw e) I.ok.above)
 have neC:∀b o,X.s₀.heap.get? b=some o->b∉X.ex->b∉ch:=λ b o e hx hb=>by
  rcases(hch b hb).1 with z|z
  ·exact hx z
  ·rw [e] at z;cases z
 have cellK:∀x c,X.env.cells.lookup x=some c->∀v,s.heap.IsCell c v->h'.IsCell c v:=λ x c e v ⟨o,ho,hd⟩=>by
  have nch:c∉ch:=λ z=>(hch c z).2.2.1 x c e rfl
  by_cases hc:c∈X.fs
  ·obtain⟨sl,q⟩:=slot c o (I.cne x c e) hc nch ho (I.freeC x c e);exact⟨_,q,hd⟩
  ·exact⟨o,keep c o (I.cne x c e) hc nch ho (I.freeC x c e),hd⟩
 refine⟨I.ok,I.os,hg,⟨λ b o e n hb hx=>?_,λ b o e n hb hx=>?_,λ b o e n hx=>?_,λ b o e hx=>?_,λ b xs e=>tups b xs (I.base.tups b xs e),λ b o xs e=>frzs b o xs (I.base.frzs b o xs e),λ b ps e=>?_⟩,?_,λ x c e=>?_,?_,λ x c e=>?_,λ p hp=>?_,hok,I.len⟩
 ·exact keep b o (neL b o e) hb (neC b o e hx) (I.base.keep b o e n hb hx) (I.base.free b o e n hx)
 ·obtain⟨sl,e1⟩:=I.base.slot b o e n hb hx;obtain⟨sl',e2⟩:=slot b _ (neL b o e) hb (neC b o e hx) e1 (I.base.free b o e n hx);exact⟨sl',e2⟩
 ·obtain⟨o',e1⟩:=I.base.there b o e hx;exact free b o' (neC b o e hx) e1 (I.base.free b o e n hx)
 ·obtain⟨o',e1⟩:=I.base.there b o e hx;exact there b o' (neC b o e hx) e1
 ·obtain⟨m1,e1⟩:=I.base.tbls b ps e;obtain⟨m2,e2⟩:=tbls b _ e1;exact⟨m1++m2,by rw [e2,Array.append_assoc]⟩
 ·obtain⟨m,hn,hl⟩:=I.loc;refine⟨m,ns m hn,λ i x v e1 e2 e3=>?_⟩;obtain⟨u,r,l⟩:=hl i x v e1 e2 e3;refine⟨u,r,?_⟩;rcases l with l|⟨k,c,e,z⟩
  ·exact .inl l
  ·exact .inr ⟨k,c,e,cellK x c e _ z⟩
 ·obtain⟨v,z⟩:=I.cell x c e;exact⟨v,cellK x c e v z⟩
 ·obtain⟨m,⟨o,_,_,ho,_⟩,_⟩:=I.loc;exact free _ o (λ z=>(hch _ z).2.1 rfl) ho I.free
 ·obtain⟨v,o,ho,hd⟩:=I.cell x c e;exact free c o (λ z=>(hch c z).2.2.1 x c e rfl) ho (I.freeC x c e)
 ·obtain⟨e,n,ne,nf,d⟩:=I.pin p hp;have nch:p.1∉ch:=λ z=>(hch p.1 z).2.2.2 p hp rfl
  exact⟨keep p.1 p.2 ne nf nch e n,free p.1 p.2 nch e n,ne,nf,d⟩
theorem Inv.un (I:Inv X EN σ H s)(u:Un X.fs [] H H' s.heap h')(hok:HOk X.prog X.w H' h'):Inv X EN σ H' {s with heap:=h',toks:=t'}:=by
 obtain⟨m,⟨o,es,ep,ho,r⟩,_⟩:=id I.loc;obtain⟨sl,hL⟩:=u.any ho I.free Z6;exact I.step (g':=s.gens) (d':=s.drawn) (ch:=[]) (λ _ z=>nomatch z) (λ b o _ hb _ e n=>u.keep b o e n hb Z6) (λ b o _ hb _ e n=>u.slot b o e n hb Z6) (λ b o _ e n=>u.free b o e n Z6) (λ b o _ e=>u.there b o e Z6) u.tups u.frzs u.tbls (λ m' hm=>by
  obtain⟨o',es',ep',ho',r'⟩:=hm;rw [ho] at ho';cases ho';exact⟨_,es',ep',hL,r'⟩) hok I.bare
theorem Inv.call {g':Array GenState}{d':Drawn}{ch:List EC}(I:Inv X EN σ H s)(u:Un (frs X.stack) ch H H' s.heap h')(hok:HOk X.prog X.w H' h')(hg:AllBare g')
  (hch:∀b∈ch,(b∈X.ex\/X.s₀.heap.objs.size≤b)/\b≠X.env.locals/\(∀x c,X.env.cells.lookup x=some c->c≠b)/\∀p∈X.pn++EN,p.1≠b):
  Inv X EN σ H' {s with heap:=h',gens:=g',drawn:=d',toks:=t'}:=by
 obtain⟨m,⟨o,es,ep,ho,r⟩,_⟩:=id I.loc;obtain⟨sl,hL⟩:=u.any ho I.free λ z=>(hch _ z).2.1 rfl
 exact I.step (ch:=ch) hch (λ b o hL hb hc e n=>u.keep b o e n (λ z=>(Bc.mp (I.stkSub b z)).elim hL hb) hc) (λ b o _ _ hc e n=>u.any e n hc) (λ b o hc e n=>u.free b o e n hc) (λ b o hc e=>u.there b o e hc) u.tups u.frzs u.tbls (λ m' hm=>by
  obtain⟨o',es',ep',ho',r'⟩:=hm;rw [ho] at ho';cases ho';exact⟨_,es',ep',hL,r'⟩) hok hg
theorem Inv.turned (I:Inv X EN σ H s)(k:∀b o,b≠it->s.heap.get? b=some o->h'.get? b=some o)(hn:H it=none)(hL:it≠X.env.locals)
  (h1:it∈X.ex\/X.s₀.heap.objs.size≤it) (h2:∀x c,X.env.cells.lookup x=some c->c≠it) (h3:∀p∈X.pn++EN,p.1≠it):Inv X EN σ H {s with heap:=h',toks:=t'}:=by
 have nit:∀b u,H b=some u->b≠it:=λ b u e z=>by rw [z,hn] at e;cases e
 refine I.step (g':=s.gens) (d':=s.drawn) (ch:=[it]) (λ b hb=>?_) (λ b o _ _ hc e _=>k b o (λ z=>hc (by simp [z])) e) (λ b o _ _ hc e _=>⟨o.slots,k b o (λ z=>hc (by simp [z])) e⟩) (λ _ _ _ _ n=>n)
  (λ b o hc e=>⟨o,k b o (λ z=>hc (by simp [z])) e⟩) (λ _ _ e=>e) (λ _ _ _ e=>e) (λ b ps e=>⟨#[],by rw [e];simp⟩) (λ m hm=>?_) (λ b u e=>?_) I.bare
 ·have e:b=it:=by simpa using hb
  subst e;exact⟨h1,hL,h2,h3⟩
 ·obtain⟨o,es,ep,ho,r⟩:=hm;exact⟨o,es,ep,k _ o (B0 hL) ho,r⟩
 ·refine(I.hok b u e).stay (λ c v hc q=>k c v ?_ q) (λ _ q=>q) λ _ _ q=>q
  rcases hc with z|z
  ·rw [z];exact nit b u e
  ·exact nit c _ z
theorem Inv.tok (I:Inv X EN σ H s)(t:Nat):Inv X EN σ H {s with toks:=t}:=I.un (h':=s.heap) (t':=t) Un.refl I.hok
theorem Inv.kept (I:Inv X EN σ H s)(k:∀b u,s.heap.get? b=some u->h'.get? b=some u):Inv X EN σ H {s with heap:=h',toks:=t'}:=I.un (Un.kept k) (I.hok.kept k)
theorem Inv.laid (I:Inv X EN σ H s)(k:∀b u,s.heap.get? b=some u->h'.get? b=some u)(hp:s.heap.objs.size≤a)(new:ObjOk X.prog X.w (upd H a o) h' a o):
  Inv X EN σ (upd H a o) {s with heap:=h',toks:=t'}:=I.un (Un.laid k hp (I.hok.fresh hp)) (I.hok.laid k hp new)
theorem Inv.write {x e:EC}(I:Inv X EN σ H s)(mu:Mut (H x))(he:e=x\/H e=some (.own x))(k:∀b u,b≠e->s.heap.get? b=some u->h'.get? b=some u)(heo:∃u,h'.get? e=some u)
  (new:ObjOk X.prog X.w (upd H x o) h' x o):Inv X EN σ (upd H x o) {s with heap:=h',toks:=t'}:=I.un (Un.write mu he k heo) (I.hok.write mu he k heo new)
theorem Inv.pins_of {pins':List (EC×EL)}(I:Inv X EN σ H s)(h:∀p∈pins',s.heap.get? p.1=some p.2/\H p.1=none/\p.1≠X.env.locals/\p.1∉X.fs/\∀v,p.2.data≠ .cell v):Inv X pins' σ H s:=
 ⟨I.ok,I.os,I.bare,I.base,I.loc,I.cell,I.free,I.freeC,λ p hp=>(Ar.mp hp).elim (λ z=>I.pin p (Bn _ z)) (h p),I.hok,I.len⟩
theorem nodup_ix (hN:N.Nodup){i:Nat}(a:N[i]?=some x)(b:N[j]?=some x):i=j:=by
 obtain⟨h1,e1⟩:=Ak.mp a;obtain⟨h2,e2⟩:=Ak.mp b;exact(List.getElem_inj hN).mp (e1.trans e2.symm)
theorem jG {M:Model}{i:Nat}(I:Inv X EN σ H s)(hN:X.N.Nodup)(hi:X.N[i]?=some x)(hx:Loc X.env.scope x)(r:RelV v u)
  (h:∀s',Inv X EN (σ.set i (some v)) H s'->(∃a,Heap.SameBut a s.heap s'.heap/\(a=X.env.locals\/X.env.cells.lookup x=some a))->Q () s') (hf:autoParam (X.fn x=true\/X.env.scope.names.lookup x=some .local) ZW):wpAny M A (storeName X.env x u) Q E s:=by
 obtain⟨m,hn,hl⟩:=id I.loc;have hcls:(X.env.scope.kind== .class||(X.env.scope.kind== .module&&X.env.locals !=X.env.globals))=false:=by rw [I.ok.kind];rfl
 have hiσ:i<σ.length:=by rw [I.len];exact(Ak.mp hi).1
 have cne:=I.cne;have tracked:∀{a:EC} {h':EJ},(∃o,s.heap.get? a=some o/\H a=none)->Heap.SameBut a s.heap h'->HOk X.prog X.w H h':=λ {a h'} ha hs b ob e=>by
  obtain⟨_,_,hfree⟩:=ha;refine(I.hok b ob e).stay (λ c w' hc q=>(hs.2 c ?_).trans q) (λ _ q=>q) λ _ _ q=>q
  rintro rfl;rcases hc with rfl|hc
  ·rw [hfree] at e;cases e
  ·rw [hfree] at hc;cases hc
 rcases hx with hk|hk
 ·refine wpAny_storeName_local hk hn (λ h' hn' hs=>?_) hcls;obtain⟨oL,_,_,hoL,_⟩:=id hn;refine h _ ⟨I.ok,I.os,I.bare,⟨λ b o e n hb hx=>?_,λ b o e n hb hx=>?_,I.base.free,λ b o e hx=>?_,I.base.tups,I.base.frzs,I.base.tbls⟩,⟨_,hn',λ j y v' e1 e2 e3=>?_⟩,λ y c e=>?_,I.free,I.freeC,λ p hp=>?_,tracked ⟨oL,hoL,I.free⟩ hs,by simpa using I.len⟩ ⟨_,hs,.inl rfl⟩
  ·exact(hs.2 b (A2 (Ap (Aw e) I.ok.above))).trans (I.base.keep b o e n hb hx)
  ·obtain⟨sl,e1⟩:=I.base.slot b o e n hb hx;exact⟨sl,(hs.2 b (A2 (Ap (Aw e) I.ok.above))).trans e1⟩
  ·obtain⟨o',e1⟩:=I.base.there b o e hx;exact⟨o',(hs.2 b (A2 (Ap (Aw e) I.ok.above))).trans e1⟩
  ·by_cases hj:j=i
   ·subst hj;rw [hi] at e1;cases e1;rw [BE hiσ] at e2;cases e2;exact⟨u,r,.inl ⟨hk,Z6⟩⟩
   ·rw [Cf (B0 hj)] at e2;obtain⟨u',r',q⟩:=hl j y v' e1 e2 e3;refine⟨u',r',?_⟩;rcases q with⟨k,e⟩|⟨k,c,e,z⟩
    ·refine .inl ⟨k,?_⟩;have:y≠x:=λ e=>hj (nodup_ix hN e1 (e▸hi))
     simp [this,e]
    ·exact .inr ⟨k,c,e,z.sameBut hs (cne y c e)⟩
  ·obtain⟨w',z⟩:=I.cell y c e;exact⟨w',z.sameBut hs (cne y c e)⟩
  ·obtain⟨e,n,ne,nf,d⟩:=I.pin p hp;exact⟨(hs.2 p.1 ne).trans e,n,ne,nf,d⟩
 ·have hfn:X.fn x=true:=by
   rcases hf with z|z
   ·exact z
   ·rw [z] at hk;cases hk
  obtain⟨c,hc⟩:=I.ok.has x (.inl hk);obtain⟨w',z⟩:=I.cell x c hc;refine wpAny_storeName_cell I.ok.kind hk hc z (λ h' hc' hs=>?_);obtain⟨oc,hoc,hocd⟩:=id z;refine h {s with heap:=h'} ⟨I.ok,I.os,I.bare,⟨λ b o e n hb hx=>?_,λ b o e n hb hx=>?_,I.base.free,λ b o e hx=>?_,I.base.tups,I.base.frzs,I.base.tbls⟩,⟨m,hn.sameBut hs (B0 (cne x c hc)),λ j y v' e1 e2 e3=>?_⟩,λ y c' e=>?_,I.free,I.freeC,λ p hp=>?_,tracked ⟨oc,hoc,I.freeC x c hc⟩ hs,by simpa using I.len⟩ ⟨c,hs,.inr hc⟩
  ·exact(hs.2 b (A2 (Ap (Aw e) (I.ok.cab x c hfn hc)))).trans (I.base.keep b o e n hb hx)
  ·obtain⟨sl,e1⟩:=I.base.slot b o e n hb hx;exact⟨sl,(hs.2 b (A2 (Ap (Aw e) (I.ok.cab x c hfn hc)))).trans e1⟩
  ·obtain⟨o',e1⟩:=I.base.there b o e hx;exact⟨o',(hs.2 b (A2 (Ap (Aw e) (I.ok.cab x c hfn hc)))).trans e1⟩
  ·by_cases hj:j=i
   ·subst hj;rw [hi] at e1;cases e1;rw [BE hiσ] at e2;cases e2;exact⟨u,r,.inr ⟨.inl hk,c,hc,hc'⟩⟩
   ·rw [Cf (B0 hj)] at e2;obtain⟨u',r',q⟩:=hl j y v' e1 e2 e3;refine⟨u',r',?_⟩;rcases q with q|⟨k,c',e,z'⟩
    ·exact .inl q
    ·refine .inr ⟨k,c',e,z'.sameBut hs ?_⟩;rintro rfl;exact hj (nodup_ix hN e1 (I.ok.inj _ _ _ e hc▸hi))
  ·by_cases hcc:c'=c
   ·subst hcc;exact⟨_,hc'⟩
   ·obtain⟨w2,z2⟩:=I.cell y c' e;exact⟨w2,z2.sameBut hs hcc⟩
  ·obtain⟨e,n,ne,nf,d⟩:=I.pin p hp;refine⟨(hs.2 p.1 ?_).trans e,n,ne,nf,d⟩;intro q;rw [q,hoc] at e;have q':oc=p.2:=AY e;exact d w' (by rw [<-q'];exact hocd)
theorem store_ok {M:Model}{i:Nat}(I:Inv X EN σ H s)(hN:X.N.Nodup)(hi:X.N[i]?=some x)(hx:Loc X.env.scope x)(r:RelV v u)
  (h:∀s',Inv X EN (σ.set i (some v)) H s'->Q () s') (hf:autoParam (X.fn x=true\/X.env.scope.names.lookup x=some .local) ZW):wpAny M A (storeName X.env x u) Q E s:=
 jG I hN hi hx r (λ s' I' _=>h s' I') hf
theorem Inv.call' {ch:List EC}(I:Inv X EN σ H s)(ho:s'.os=s.os)(u:Un (frs X.stack) ch H H' s.heap s'.heap)(hok:HOk X.prog X.w H' s'.heap)(hg:AllBare s'.gens)
  (hch:∀b∈ch,(b∈X.ex\/X.s₀.heap.objs.size≤b)/\b≠X.env.locals/\(∀x c,X.env.cells.lookup x=some c->c≠b)/\∀p∈X.pn++EN,p.1≠b):Inv X EN σ H' s':=by
 obtain⟨h',g',d',t',o'⟩:=s';have e:o'=s.os:=ho;subst e;exact I.call (g':=g') (t':=t') (d':=d') u hok hg hch
end
abbrev XK:=ED->Option EC->Hp->Prop
abbrev St:=List (Option V)
abbrev VK:=V->Hp->Prop
abbrev TE:=St->Hp->VK->Prop
abbrev TT:=St->Hp->(Bool->Hp->Prop)->Prop
abbrev TA:=St->Hp->(List V->Hp->Prop)->Prop
structure Ends where
 nx:St->Hp->Prop
 rt:VK
 bk:St->Hp->Prop:=λ _ _=>False
 ct:St->Hp->Prop:=λ _ _=>False
abbrev TS:=Ends->St->Hp->Prop
def EP (X:Cx)(EN:List (EC×EL))(σ:St)(Q:VK)(u:ED)(s':EE):Prop:=∃v H',Inv X EN σ H' s'/\RelV v u/\Q v H'
def TP (X:Cx)(EN:List (EC×EL))(σ:St)(Q:Bool->Hp->Prop)(b:Bool)(s':EE):Prop:=∃H',Inv X EN σ H' s'/\Q b H'
def AP (X:Cx)(EN:List (EC×EL))(σ:St)(Q:List V->Hp->Prop)(us:List ED)(s':EE):Prop:=∃vs H',Inv X EN σ H' s'/\Vals vs us/\Q vs H'
def SP (X:Cx)(EN:List (EC×EL))(D:Ends)(f:Flow)(s':EE):Prop:=
 match f with
 | .next=>∃σ' H',Inv X EN σ' H' s'/\D.nx σ' H'
 | .brk=>∃σ' H',Inv X EN σ' H' s'/\D.bk σ' H'
 | .cont=>∃σ' H',Inv X EN σ' H' s'/\D.ct σ' H'
 | .ret u=>∃v σ' H',Inv X EN σ' H' s'/\RelV v u/\D.rt v H'
def PE (X:Cx)(e:EK)(t:TE):Prop:=
 ∀(EN:List (EC×EL)) (s:EE) (σ:St) (H:Hp) (Q:VK),Inv X EN σ H s->t σ H Q->wpAny (model X.prog X.w) X.A (eval e X.env) (EP X EN σ Q) X.xe s
def PT (X:Cx)(e:EK)(t:TT):Prop:=
 ∀(EN:List (EC×EL)) (s:EE) (σ:St) (H:Hp) (Q:Bool->Hp->Prop),Inv X EN σ H s->t σ H Q->wpAny (model X.prog X.w) X.A (isTrue e X.env (eval e X.env)) (TP X EN σ Q) X.xe s
def PW (X:Cx)(e:EK)(t:TT):Prop:=
 ∀(whole:Sem ED) (EN:List (EC×EL)) (s:EE) (σ:St) (H:Hp) (Q:Bool->Hp->Prop),Inv X EN σ H s->t σ H Q->wpAny (model X.prog X.w) X.A (isTrue e X.env whole) (TP X EN σ Q) X.xe s
theorem PW.pt {t:TT}(h:PW X e t):PT X e t:=h _
def PA (X:Cx)(es:List EK)(t:TA):Prop:=
 ∀(pos:Pos) (EN:List (EC×EL)) (s:EE) (σ:St) (H:Hp) (Q:List V->Hp->Prop),Inv X EN σ H s->t σ H Q->wpAny (model X.prog X.w) X.A (spliced (backTo pos (starEach es X.env))) (AP X EN σ Q) X.xe s
def PS (X:Cx)(st:EM)(t:TS):Prop:=
 ∀(EN:List (EC×EL)) (s:EE) (σ:St) (H:Hp) (D:Ends),Inv X EN σ H s->t D σ H->wpAny (model X.prog X.w) X.A (exec st X.env) (SP X EN D) X.xe s
def PSs (X:Cx)(st:List EM)(t:TS):Prop:=
 ∀(EN:List (EC×EL)) (s:EE) (σ:St) (H:Hp) (D:Ends),Inv X EN σ H s->t D σ H->wpAny (model X.prog X.w) X.A (execs st X.env) (SP X EN D) X.xe s
theorem thn {α:Type}{t:Sem α}{Q Q':α->EE->Prop}{M:Model}(h:wpAny M A t Q E s)(hQ:∀a s,Q a s->Q' a s):wpAny M A t Q' E s:=Bb h hQ λ _ _ x=>x
section
variable {X:Cx}
def tVar (i:Nat):TE:=λ σ H Q=>∃v,σ[i]?=some (some v)/\Q v H
def tC (v:V):TE:=λ _ H Q=>Q v H
theorem sj {i:Nat}{pos:Pos}(hN:X.N[i]?=some x)(hv:Vis X.env.scope x)(hd:autoParam ((x==("__debug__":Str))=false) ZZ)(hcd:autoParam ((x==("__classdict__":Str))=false) ZZ):PE X (.Name x pos) (tVar i):=by
 intro EN s σ H Q I h;obtain⟨v,e,h⟩:=h;obtain⟨m,hn,hl⟩:=I.loc;obtain⟨u,r,l⟩:=hl i x v hN e hv;have fin:EP X EN σ Q u s:=⟨v,H,I,r,h⟩;rcases l with⟨hk,hm⟩|⟨hk,c,hc,hcell⟩
 ·exact wpAny_Name (wpAny_loadName_local I.ok.kind hk hn hm fin) hd
 ·rcases hk with hk|hk
  ·exact wpAny_Name (wpAny_loadName_cell I.ok.kind hk hc hcell fin) hd
  ·exact wpAny_Name (wpAny_loadName_free I.ok.kind hk hc hcell fin hcd) hd
theorem ae {i j pos}:PE X (.Constant (.int i) j pos) (tC (.int i)):=λ _ _ _ H _ I h=>wpAny_Constant_int ⟨.int i,H,I.tok _,⟨_,rfl⟩,h⟩
theorem bo {b j pos}:PE X (.Constant (.bool b) j pos) (tC (.bl b)):=λ _ _ _ H _ I h=>Constant_bool ⟨.bl b,H,I,rfl,h⟩
theorem cF {j pos}:PE X (.Constant .none j pos) (tC .non):=λ _ _ _ H _ I h=>Constant_none ⟨.non,H,I,rfl,h⟩
theorem aB {x j pos}:PE X (.Constant (.str x) j pos) (tC (.str x)):=λ _ _ _ H _ I h=>Ea ⟨.str x,H,I.tok _,⟨_,rfl⟩,h⟩
def Gl (X:Cx)(x:Str):Prop:=X.env.kindOf x=some .globalImplicit
theorem ld_glob {pos:Pos}{Q:ED->EE->Prop}(I:Inv X EN σ H s)(hg:Gl X x)(hm:X.mg x=some u)(h:Q u s)
  (hd:autoParam ((x==("__debug__":Str))=false) ZZ):wpAny (model X.prog X.w) X.A (eval (.Name x pos) X.env) Q E s:=
 Calls.Name_function_global I.ok.kind hg (Calls.loadGlobal_global (by rw [I.ok.glob];exact I.mod.glob.keeps I.bk) hm h) hd
theorem ld_blt {pos:Pos}{Q:ED->EE->Prop}(I:Inv X EN σ H s)(hg:Gl X x)(hm:X.mg x=none)(hv:bootBuiltins x=some u)(h:Q u s)
  (hn:autoParam (x≠ "__name__") ZZ) (hd:autoParam ((x==("__debug__":Str))=false) ZZ):wpAny (model X.prog X.w) X.A (eval (.Name x pos) X.env) Q E s:=by
 obtain⟨mb,h1,h2⟩:=I.mod.blt;exact Calls.Name_function_global I.ok.kind hg (Calls.loadGlobal_builtin (by rw [I.ok.glob];exact I.mod.glob.keeps I.bk) hm (by rw [I.ok.blt];exact h1.keeps I.bk) ((h2 x hn).trans hv) h) hd
theorem aP {pos:Pos}(hg:Gl X x)(hm:X.mg x=some u)(r:RelV v u)(hd:autoParam ((x==("__debug__":Str))=false) ZZ):PE X (.Name x pos) (tC v):=
 λ _ _ _ H _ I h=>ld_glob I hg hm ⟨v,H,I,r,h⟩ hd
theorem b7 {pos:Pos}(hg:Gl X x)(hm:X.mg x=none)(hv:bootBuiltins x=some u)(r:RelV v u)(hn:autoParam (x≠ "__name__") ZZ)(hd:autoParam ((x==("__debug__":Str))=false) ZZ):PE X (.Name x pos) (tC v):=
 λ _ _ _ H _ I h=>ld_blt I hg hm hv ⟨v,H,I,r,h⟩ hn hd
variable {a b:EK}{ta tb:TE}{pos:Pos}
theorem ur (b:EK){op:CmpOp}(h:op≠ .In)(h2:op≠ .NotIn):behindInMarks op b=false:=by
 have e1:(op==CmpOp.In)=false:=by cases op<;>first|rfl|exact absurd rfl h
 have e2:(op==CmpOp.NotIn)=false:=by cases op<;>first|rfl|exact absurd rfl h2
 cases b
 case Set l k _=>show(k==0&&(op== .In||op== .NotIn)&&l.all (constantsAlone 8))=false;rw [e1,e2,Bool.or_self,Bool.and_false,Dt]
 all_goals rfl
def tB (t:TE):TT:=λ σ H Q=>t σ H λ x H1=>∃c,x=.bl c/\Q c H1
theorem bj (h:PE X e t)(he:autoParam (∀whole,isTrue e X.env whole=(do let v<-whole;standAt e.pos;holding [v] (truthy v))) ZX):PT X e (tB t):=by
  intro EN s σ H Q I hw
  refine isTrue_plain (thn (h EN s σ H _ I hw) λ v s1 z9=>?_) (he _)
  obtain⟨x,H1,I1,r1,q1⟩:=z9
  obtain⟨d,rfl,q⟩:=q1
  cases r1
  exact CP ⟨H1,I1,q⟩
variable {tA tB':TT}{rest:List EK}
def zy (t u:TT):TT:=λ σ H Q=>t σ H λ c H1=>if c=true then u σ H1 Q else Q false H1
def tOr (t u:TT):TT:=λ σ H Q=>t σ H λ c H1=>if c=true then Q true H1 else u σ H1 Q
def zu (t:TT):TT:=λ σ H Q=>t σ H λ c H1=>Q (!c) H1
theorem fb (ha:PT X a tA):PW X (.BoolOp .And [a] pos) tA:=by
 intro wh EN s σ H Q I h;refine isTrue_and (thn (ha EN s σ H Q I h) λ c s1 e=>?_);cases c with
 |true=>exact isTrue_and_nil e
 |false=>exact e
theorem dQ (ha:PT X a tA):PW X (.BoolOp .Or [a] pos) tA:=by
 intro wh EN s σ H Q I h;refine isTrue_or (thn (ha EN s σ H Q I h) λ c s1 e=>?_);cases c with
 |false=>exact isTrue_or_nil e
 |true=>exact e
theorem ft (ha:PT X a tA)(hb:PW X (.BoolOp .And (b::rest) pos) tB'):PW X (.BoolOp .And (a::b::rest) pos) (zy tA tB'):=by
 intro wh EN s σ H Q I h;refine isTrue_and (thn (ha EN s σ H _ I h) λ c s1 z9=>?_);obtain⟨H1,I1,q1⟩:=z9;cases c with
 |true=>exact hb wh EN s1 σ H1 Q I1 q1
 |false=>exact⟨H1,I1,q1⟩
theorem eI (ha:PT X a tA)(hb:PW X (.BoolOp .Or (b::rest) pos) tB'):PW X (.BoolOp .Or (a::b::rest) pos) (tOr tA tB'):=by
 intro wh EN s σ H Q I h;refine isTrue_or (thn (ha EN s σ H _ I h) λ c s1 z9=>?_);obtain⟨H1,I1,q1⟩:=z9;cases c with
 |true=>exact⟨H1,I1,q1⟩
 |false=>exact hb wh EN s1 σ H1 Q I1 q1
theorem bp (ha:PT X a tA):PT X (.UnaryOp .Not a pos) (zu tA):=by
 intro EN s σ H Q I h;exact isTrue_not (ha EN s σ H (λ c H1=>Q (!c) H1) I h)
def wr (ta tb:TE):TE:=λ σ H Q=>ta σ H λ x H1=>∃c,x=.bl c/\if c=true then tb σ H1 Q else Q (.bl false) H1
def y8 (ta:TE):TE:=λ σ H Q=>ta σ H λ x H1=>∃c,x=.bl c/\Q (.bl (!c)) H1
theorem dP {op}(h:PE X a t):PE X (.BoolOp op [a] pos) t:=λ EN s σ H Q I hw=>BoolOp_one (h EN s σ H Q I hw)
theorem dH (ha:PE X a ta)(hb:PE X (.BoolOp .And (b::rest) pos) tb):PE X (.BoolOp .And (a::b::rest) pos) (wr ta tb):=by
 intro EN s σ H Q I h;refine BoolOp_and (thn (ha EN s σ H _ I h) λ v s1 z9=>?_);obtain⟨x,H1,I1,r1,q1⟩:=z9;obtain⟨c,rfl,q1⟩:=q1;cases r1;refine CP ?_;cases c with
 |true=>exact hb EN s1 σ H1 Q I1 q1
 |false=>exact⟨.bl false,H1,I1,rfl,q1⟩
theorem oo (ha:PE X a ta):PE X (.UnaryOp .Not a pos) (y8 ta):=by
 intro EN s σ H Q I h;refine UnaryOp_ (thn (ha EN s σ H _ I h) λ v s1 z9=>?_);obtain⟨x,H1,I1,r1,q1⟩:=z9;obtain⟨c,rfl,q1⟩:=q1;cases r1;exact not_of (CP ⟨.bl (!c),H1,I1,rfl,q1⟩)
def tIf (t:TT)(ta tb:TE):TE:=λ σ H Q=>t σ H λ c H1=>if c=true then ta σ H1 Q else tb σ H1 Q
theorem lA {c:EK}(hc:PT X c tA)(ha:PE X a ta)(hb:PE X b tb):PE X (.IfExp c a b pos) (tIf tA ta tb):=by
 intro EN s σ H Q I h;refine wpAny_IfExp (thn (hc EN s σ H _ I h) λ d s1 z9=>?_);obtain⟨H1,I1,q1⟩:=z9;cases d with
 |true=>exact ha EN s1 σ H1 Q I1 q1
 |false=>exact hb EN s1 σ H1 Q I1 q1
end
def SqL (K:Frag)(H:Hp)(a:EC)(xs:List V):Prop:=
 Rd H a (.lst xs)\/
  ∃(o:EL) (its:Array ED) (n:Nat),K.lookup a=some o/\o.cls=.type "list"/\o.dict=none/\o.data=.seq its n/\its.size≤sizeLine/\Vals xs its.toList
def SqT (K:Frag)(H:Hp)(a:EC)(xs:List V):Prop:=
 Rd H a (.tup xs)\/
  ∃(o:EL) (its:Array ED) (n:Nat),K.lookup a=some o/\o.cls=.type "tuple"/\o.data=.seq its n/\its.size≤sizeLine/\Vals xs its.toList
noncomputable def zZ:ED->Option V
 | .none=>some .non
 | .bool b=>some (.bl b)
 | .int i _=>some (.int i)
 | .str x _=>some (.str x)
 | .bytes b _=>some (.byt b)
 | .float b _=>some (.flt b)
 | .ref a=>some (.ref a)
 | .type n=>some (.ty n)
 |_=>none
theorem RelV.abs {x:V}(r:RelV x u):zZ u=some x:=by
 cases x with
 |non=>cases r;rfl
 |bl _=>cases r;rfl
 |int _=>obtain⟨t,rfl⟩:=r;rfl
 |str _=>obtain⟨t,rfl⟩:=r;rfl
 |byt _=>obtain⟨t,rfl⟩:=r;rfl
 |flt _=>obtain⟨t,rfl⟩:=r;rfl
 |ref _=>cases r;rfl
 |ty _=>cases r;rfl
theorem RelV.inj {x:V}(r:RelV x u)(q:RelV y u):x=y:=AY (r.abs.symm.trans q.abs)
theorem Vals.inj (h:Vals xs us)(g:Vals ys us):xs=ys:=by
 induction h generalizing ys with
 |nil=>cases g;rfl
 |cons r _ ih=>cases g with
  |cons r' t'=>rw [r.inj r',ih t']
section
variable {X:Cx}{EN:List (EC × EL)}{σ:St}{H:Hp}{s:EE}{a:EC}{xs ys:List V}
theorem SqL.of (h:H a=some (.lst xs)):SqL K H a xs:=.inl (.inl h)
theorem SqT.of (h:H a=some (.tup xs)):SqT K H a xs:=.inl (.inl h)
theorem Inv.list (I:Inv X EN σ H s)(h:SqL X.K H a xs):∃its:List ED,Vals xs its/\PlainL s.heap a its.toArray/\xs.length≤sizeLine:=by
 rcases h with h|⟨o,its,n,hk,hc,hd,hs,hz,r⟩
 ·obtain⟨z,its,n,r,e⟩:=h.ok I.hok;exact⟨its,r,⟨_,n,e,rfl,rfl,rfl⟩,z⟩
 ·refine⟨its.toList,r,⟨o,n,I.kIn a o hk,hc,hd,by simpa using hs⟩,?_⟩;have e:=r.length;simp only [CZ] at e;exact B9 e hz
theorem Inv.tuple (I:Inv X EN σ H s)(h:SqT X.K H a xs):∃its:List ED,Vals xs its/\IsTup s.heap a its.toArray/\xs.length≤sizeLine:=by
 rcases h with h|⟨o,its,n,hk,hc,hs,hz,r⟩
 ·obtain⟨z,its,r,p⟩:=h.ok I.hok;exact⟨its,r,p,z⟩
 ·refine⟨its.toList,r,⟨o,I.kIn a o hk,hc,n,by simpa using hs⟩,?_⟩;have e:=r.length;simp only [CZ] at e;exact B9 e hz
theorem Inv.list_inj (I:Inv X EN σ H s)(h:SqL X.K H a xs)(h':SqL X.K H a ys):xs=ys:=by
 obtain⟨its,r,⟨o,n,e,_,_,d⟩,_⟩:=I.list h;obtain⟨its',r',⟨o',n',e',_,_,d'⟩,_⟩:=I.list h';rw [e] at e';cases e';rw [d] at d';injection d' with d1 _
 have:its=its':=by simpa using AB Array.toList d1
 subst this;exact r.inj r'
end
noncomputable abbrev Cx.wish (X:Cx) (E:ED->EE->Prop):Cx:={X with xe:=E}
noncomputable abbrev Cx.nox (X:Cx):Cx:=X.wish λ _ _=>False
theorem Cx.Ok.wish (ok:X.Ok)(E:ED->EE->Prop):(X.wish E).Ok:=
 ⟨ok.mod,ok.kind,ok.glob,ok.blt,ok.above,ok.inj,ok.has,ok.cab,ok.hd,ok.frames,ok.stk,ok.exf,ok.bs,ok.bsz,ok.noex,ok.exfs,ok.funs,ok.frf⟩
theorem Cx.Ok.unwish (ok:(X.wish E).Ok):X.Ok:=
 ⟨ok.mod,ok.kind,ok.glob,ok.blt,ok.above,ok.inj,ok.has,ok.cab,ok.hd,ok.frames,ok.stk,ok.exf,ok.bs,ok.bsz,ok.noex,ok.exfs,ok.funs,ok.frf⟩
section
variable {X:Cx}{EN:List (EC × EL)}{σ:St}{H:Hp}{s:EE}{E:ED -> EE -> Prop}
theorem Inv.wish (I:Inv X EN σ H s)(E:ED->EE->Prop):Inv (X.wish E) EN σ H s:=⟨I.ok.wish E,I.os,I.bare,I.base,I.loc,I.cell,I.free,I.freeC,I.pin,I.hok,I.len⟩
theorem Inv.unwish (I:Inv (X.wish E) EN σ H s):Inv X EN σ H s:=⟨I.ok.unwish,I.os,I.bare,I.base,I.loc,I.cell,I.free,I.freeC,I.pin,I.hok,I.len⟩
theorem SP.unwish {D:Ends}{f:Flow}(h:SP (X.wish E) EN D f s'):SP X EN D f s':=by
 cases f with
 |next=>obtain⟨σ',H',I,q⟩:=h;exact⟨σ',H',I.unwish,q⟩
 |brk=>obtain⟨σ',H',I,q⟩:=h;exact⟨σ',H',I.unwish,q⟩
 |cont=>obtain⟨σ',H',I,q⟩:=h;exact⟨σ',H',I.unwish,q⟩
 |ret u=>obtain⟨v,σ',H',I,r,q⟩:=h;exact⟨v,σ',H',I.unwish,r,q⟩
theorem PSs.nox {st:List EM}{t:TS}(h:PSs X.nox st t):PSs X st t:=λ EN s σ H D I hw=>
 Bb (h EN s σ H D (I.wish _) hw) (λ _ _ q=>q.unwish) λ _ _ z=>False.elim z
end
section
variable {X:Cx}{st:EM}{rest:List EM}{t u:TS}{e:EK}{te:TE}{pos:Pos}
def wu:TS:=λ D σ H=>D.nx σ H
def rN (t u:TS):TS:=λ D σ H=>t {D with nx:=u D} σ H
theorem ay:PSs X [] wu:=λ _ _ σ H _ I h=>CM ⟨σ,H,I,h⟩
theorem ad (h1:PS X st t)(h2:PSs X rest u):PSs X (st::rest) (rN t u):=by
 intro EN s σ H D I h;refine wpAny_execs_cons (thn (h1 EN s σ H {D with nx:=u D} I h) λ f s1 q=>?_);cases f with
 |next=>
  obtain⟨σ',H',I',q⟩:=q;exact h2 EN s1 σ' H' D I' q
 |ret v=>exact q
 |brk=>exact q
 |cont=>exact q
theorem ah (h1:PS X st t):PSs X [st] t:=by
 intro EN s σ H D I h;refine wpAny_execs_cons (thn (h1 EN s σ H D I h) λ f s1 q=>?_);cases f with
 |next=>exact CM q
 |ret v=>exact q
 |brk=>exact q
 |cont=>exact q
theorem Inv.quiet (I:Inv X EN σ H s):interactive X.env=false:=by simp [interactive,I.ok.kind]
def zd (te:TE):TS:=λ D σ H=>te σ H λ _ H1=>D.nx σ H1
theorem bf (he:PE X e te)(hs:autoParam (swapsWith e none pos.line X.env=pure false) Z0):PS X (.Expr e pos) (zd te):=by
 intro EN s σ H D I h;exact wpAny_Expr_any (thn (he EN s σ H _ I h) λ v s1 z9=>by obtain⟨x,H1,I1,r1,q1⟩:=z9;exact⟨σ,H1,I1,q1⟩) I.quiet hs
def vt (te:TE):TS:=λ D σ H=>te σ H D.rt
theorem ar (he:PE X e te):PS X (.Return (some e) pos) (vt te):=by
 intro EN s σ H D I h;exact wpAny_Return_some (thn (he EN s σ H _ I h) λ v s1 z9=>by obtain⟨x,H1,I1,r1,q1⟩:=z9;exact⟨x,σ,H1,I1,r1,q1⟩)
def yo (c:TT)(t u:TS):TS:=λ D σ H=>c σ H λ b H1=>if b=true then t D σ H1 else u D σ H1
theorem aK {c:EK}{a b:List EM}(hc:PT X c tc)(ha:PSs X a t)(hb:PSs X b u):PS X (.If c a b pos) (yo tc t u):=by
 intro EN s σ H D I h;refine wpAny_If (thn (hc EN s σ H _ I h) λ d s1 z9=>?_);obtain⟨H1,I1,q1⟩:=z9;cases d with
 |true=>exact ha EN s1 σ H1 D I1 q1
 |false=>exact hb EN s1 σ H1 D I1 q1
def wP:TS:=λ _ _ _=>False
theorem im:PS X st wP:=λ _ _ _ _ _ _ h=>h.elim
end
abbrev TG:=V->St->Hp->(St->Hp->Prop)->Prop
abbrev TGs:=List V->St->Hp->(St->Hp->Prop)->Prop
def PG (X:Cx)(ER:EK)(t:TG):Prop:=
 ∀(EN:List (EC×EL)) (s:EE) (σ:St) (H:Hp) (v:V) (u:ED) (Q:St->Hp->Prop),Inv X EN σ H s->RelV v u->t v σ H Q->
  wpAny (model X.prog X.w) X.A (assign ER X.env u) (λ _ s'=>∃σ' H',Inv X EN σ' H' s'/\Q σ' H') X.xe s
def PGs (X:Cx)(ts:List EK)(t:TGs):Prop:=
 ∀(EN:List (EC×EL)) (s:EE) (σ:St) (H:Hp) (vs:List V) (us:List ED) (Q:St->Hp->Prop),Inv X EN σ H s->Vals vs us->t vs σ H Q->
  wpAny (model X.prog X.w) X.A (assignInOrder ((assignEach ts X.env).map (·.2)) us) (λ _ s'=>∃σ' H',Inv X EN σ' H' s'/\Q σ' H') X.xe s
section
variable {X:Cx}{pos:Pos}
def bM (i:Nat):TG:=λ v σ H Q=>Q (σ.set i (some v)) H
theorem aG {i:Nat}(hN:X.N.Nodup)(hi:autoParam (X.N[i]?=some x) Z0)(hx:autoParam (Loc X.env.scope x) ZW)(hf:autoParam (X.fn x=true\/X.env.scope.names.lookup x=some .local) ZW):PG X (.Name x pos) (bM i):=by
 intro EN s σ H v u Q I r h;exact wpAny_assign_Name (store_ok I hN hi hx r (λ s' I'=>⟨_,H,I',h⟩) hf)
def xl:TGs:=λ vs σ H Q=>vs=[]/\Q σ H
def lE (t:TG)(u:TGs):TGs:=λ vs σ H Q=>∃v r,vs=v::r/\t v σ H λ σ' H'=>u r σ' H' Q
theorem bL:PGs X [] xl:=by
 intro EN s σ H vs us Q I r h;obtain⟨e,h⟩:=h;subst e;cases r;exact assignInOrder_nil ⟨σ,H,I,h⟩
theorem aM {t:TG}{u:TGs}(h1:PG X e t)(h2:PGs X es u)
  (hs:autoParam ((assignEach (e::es) X.env).map (·.2)=assign e X.env::(assignEach es X.env).map (·.2)) Z0):PGs X (e::es) (lE t u):=by
 intro EN s σ H vs us Q I r h;obtain⟨v,vr,e1,h⟩:=h;subst e1;cases r with
 |cons r rr=>
  rw [hs];refine assignInOrder_cons (thn (h1 EN s σ H _ _ _ I r h) λ _ s1 z9=>?_);obtain⟨σ1,H1,I1,q1⟩:=z9;exact h2 EN s1 σ1 H1 _ _ Q I1 rr q1
def tN (K:Frag)(n:Nat)(t:TGs):TG:=λ v σ H Q=>∃a xs,v=.ref a/\SqT K H a xs/\xs.length=n/\t xs σ H Q
theorem cb {k:Nat}{t:TGs}(hc:X.calm=true)(h:PGs X es t)
  (hn:autoParam ((assignEach es X.env).length=n) Z0) (hst:autoParam ((assignEach es X.env).findIdx? (·.1)=none) Z0):PG X (.Tuple es k pos) (tN X.K n t):=by
 intro EN s σ H v u Q I r hw;obtain⟨a,xs,e1,hq,hl,hw⟩:=hw;subst e1;cases r;obtain⟨its,rv,ht,hz⟩:=I.tuple hq;refine QQ.assign_Tuple_q I.hq ht (by simp [hn,<-hl,rv.length]) hst λ h' hx=>?_
 have I1:Inv X EN σ H {s with heap:=h'}:=I.kept (t':=s.toks) λ b o e=>hx b o (A2 (Aw e)) e
 exact h EN _ σ H xs _ Q I1 (by simpa using rv) hw
def jd (te:TE)(g:TG):TS:=λ D σ H=>te σ H λ x H1=>g x σ H1 D.nx
theorem cV (he:PE X e te)(hg:PG X tg g)(hs:autoParam (swapsWithSole [tg] e pos.line X.env=pure false) Z0)(hw:autoParam (swappedStores [tg] e X.env=pure none) Z0)
  (h1:autoParam ((assignEach [tg] X.env).map (·.2)=[assign tg X.env]) Z0):PS X (.Assign [tg] e pos) (jd te g):=by
 intro EN s σ H D I h;refine wpAny_Assign_stores (thn (he EN s σ H _ I h) λ v s1 z9=>?_) hs hw;obtain⟨x,H1,I1,r1,q1⟩:=z9;rw [h1];exact thn (hg EN s1 σ H1 x v _ I1 r1 q1) λ _ s2 q=>q
theorem ao {i:Nat}{pos':Pos}(hN:X.N.Nodup)(he:PE X e te)(hi:autoParam (X.N[i]?=some x) Z0)(hx:autoParam (Loc X.env.scope x) ZW)(hs:autoParam (swapsWith e (some (.Name x pos')) pos.line X.env=pure false) Z0)(hf:autoParam (X.fn x=true\/X.env.scope.names.lookup x=some .local) ZW):
  PS X (.Assign [.Name x pos'] e pos) (jd te (bM i)):=by
 intro EN s σ H D I h;refine wpAny_Assign_Name (thn (he EN s σ H _ I h) λ v s1 z9=>?_) hs;obtain⟨y,H1,I1,r1,q1⟩:=z9;exact store_ok I1 hN hi hx r1 (λ s2 I2=>⟨_,H1,I2,q1⟩) hf
def yJ (i j:Nat)(ta:TA):TS:=λ D σ H=>ta σ H λ vs H1=>∃v w,vs=[v,w]/\D.nx ((σ.set i (some v)).set j (some w)) H1
theorem xD {i:Nat}{y:Str}{a b:EK}{px py pt:Pos}{kt k2 pt2}(hc:X.calm=true)(hN:X.N.Nodup)(hi:X.N[i]?=some x)(hj:X.N[j]?=some y)(hij:i≠j)
    (hx:X.env.scope.names.lookup x=some .local) (hy:X.env.scope.names.lookup y=some .local) (ha:PA X [a,b] ta)
    (hw:swappedStores [.Tuple [.Name x px,.Name y py] kt pt] (.Tuple [a,b] k2 pt2) X.env=pure (some [x,y]))
    (hs:autoParam (swapsWithSole [.Tuple [.Name x px,.Name y py] kt pt] (.Tuple [a,b] k2 pt2) pos.line X.env=pure false) Z0):
    PS X (.Assign [.Tuple [.Name x px,.Name y py] kt pt] (.Tuple [a,b] k2 pt2) pos) (yJ i j ta):=by
  intro EN s σ H D I h
  rw [exec_Assign_arm]
  refine Aa (wpAny_standAt ?_)
  rw [hs]
  refine Aa (Am ?_)
  rw [AO Z9]
  refine Aa (Tuple_ (thn (ha _ EN s σ H _ I h) λ us s1 z9=>?_))
  obtain⟨vs,H1,I1,r1,q1⟩:=z9
  obtain⟨v,w,e1,q1⟩:=q1
  subst e1
  obtain⟨u1,u2,rfl,rv,rw'⟩:∃u1 u2,us=[u1,u2]/\RelV v u1/\RelV w u2:=by
    cases r1 with
    |cons p q=>
      cases q with
      |cons p' q'=>
        cases q'
        exact⟨_,_,rfl,p,p'⟩
  refine BL ?_ (by show 2≤sizeLine;decide)
  have I2:Inv X EN σ H1 {s1 with heap:=s1.heap.push {cls:=.type "tuple",data:=.seq [u1,u2].toArray}}:=I1.kept (t':=s1.toks) λ b o e=>Ag _ e
  rw [hw]
  refine Aa (Am ?_)
  show wpAny (model X.prog X.w) X.A (do rule "assign.swapped-stores";let items<-unpackItems (.ref s1.heap.objs.size) 2 none;assignInOrder [λ v=>bindName X.env y v,λ v=>bindName X.env x v] items.reverse;pure Flow.next) _ _ _
  refine Aa (DN (Aa (QQ.unpackItems_q (items:=#[u1,u2]) I2.hq (IsTup.new s1.heap _) λ h' hx'=>?_)))
  have I3:=I2.kept (h':=h') (t':=s1.toks) λ b o e=>hx' b o (A2 (Aw e)) e
  show wpAny _ _ (assignInOrder [λ v=>bindName X.env y v,λ v=>bindName X.env x v] [u2,u1]>>= λ _=>pure Flow.next) _ _ _
  refine Aa (assignInOrder_cons (wpAny_bindName (store_ok I3 hN hj (.inl hy) rw' (λ s2 I4=>?_) (.inr hy))))
  refine assignInOrder_cons (wpAny_bindName (store_ok I4 hN hi (.inl hx) rv (λ s3 I5=>assignInOrder_nil (Am ?_)) (.inr hx)))
  rw [List.set_comm _ _ (B0 hij)] at I5
  exact⟨_,H1,I5,q1⟩
def xg (c:TT)(tb:TS):TS:=λ D σ H=>∃W:Nat->St->Hp->Prop,(∃m,W m σ H)/\∀m σ H,W m σ H->
 c σ H λ b H1=>if b=true then∃N:St->Hp->Prop,(∀σ' H',N σ' H'->∃m',m'<m/\W m' σ' H')/\tb {D with nx:=N,ct:=N,bk:=D.nx} σ H1 else D.nx σ H1
theorem iS {c:EK}(hp:PassesOwn (model X.prog X.w) X.A X.env X.xe)(hc:PT X c tc)(hb:PSs X body tb):PS X (.While c body [] pos) (xg tc tb):=by
 intro EN s σ H D I h;obtain⟨W,⟨m0,w0⟩,turn⟩:=h;refine wpAny_While (codeAny_whileLoop (λ n s'=>∃σ' H',Inv X EN σ' H' s'/\W n σ' H') ?_ m0 ⟨σ,H,I,w0⟩);rintro n s1 ⟨σ1,H1,I1,w1⟩;refine Cq hp (thn (hc EN s1 σ1 H1 _ I1 (turn n σ1 H1 w1)) λ b s2 z9=>?_);obtain⟨H2,I2,q2⟩:=z9;cases b with
 |true=>
  obtain⟨N,hN,q2⟩:=q2;rw [AV rfl];refine Cq hp (thn (hb EN s2 σ1 H2 _ I2 q2) λ f s3 q3=>?_);cases f with
  |next=>
   obtain⟨σ3,H3,I3,n3⟩:=q3;obtain⟨m',hm,w3⟩:=hN σ3 H3 n3;exact⟨m',hm,σ3,H3,I3,w3⟩
  |cont=>
   obtain⟨σ3,H3,I3,n3⟩:=q3;obtain⟨m',hm,w3⟩:=hN σ3 H3 n3;exact⟨m',hm,σ3,H3,I3,w3⟩
  |brk=>exact q3
  |ret v=>exact q3
 |false=>
  rw [AO Av];exact CM ⟨σ1,H2,I2,q2⟩
end
structure It where
 go:Nat->Hp->Prop
 yld:Nat->Hp->V->Hp->Prop
 stop:Nat->Hp->Prop
def fD (X:Cx)(EN:List (EC×EL))(H:Hp)(b:EC):Prop:=
 H b=none/\b≠X.env.locals/\b∉X.fs/\(b∈X.ex\/X.s₀.heap.objs.size≤b)/\(∀x c,X.env.cells.lookup x=some c->c≠b)/\∀p∈X.pn++EN,p.1≠b
theorem Inv.fpOk {H':Hp}(I:Inv X EN σ H s)(hb:s.heap.objs.size≤b)(hn:H' b=none):fD X EN H' b:=by
 refine⟨hn,Dv (Ap I.lt hb),I.nofs hb,.inr (AT I.sz hb),λ x c e z=>?_,λ p hp z=>?_⟩
 ·obtain⟨v,q⟩:=I.cell x c e;exact absurd (Ap q.lt (by rw [z];exact hb)) (BJ _)
 ·exact absurd (Ap (Aw (I.pin p hp).1) (by rw [z];exact hb)) (BJ _)
structure Turn (P:EF)(w:EG)(K:Frag)(tg:EK)(J:It)(fp:List EC)(it:EC)(tn:Nat->EJ->Prop):Prop where
 mem:it∈fp
 obj:∀i h,tn i h->∀b∈fp,∃o,h.get? b=some o/\∀v,o.data≠ .cell v
 keep:∀i h h',tn i h->(∀b∈fp,∀o,h.get? b=some o->h'.get? b=some o)->tn i h'
 item:∀(X:Cx),X.prog=P->X.w=w->X.K=K->X.calm=true->∀(i:Nat) (EN:List (EC×EL)) (s:EE) (σ:St) (H:Hp) (E:ED->EE->Prop),Inv X EN σ H s->(∀b∈fp,fD X EN H b)->tn i s.heap->J.go i H->
  wpAny (model P w) X.A (pyNext (.ref it)) (λ r s1=>∃u,r=some u/\
   wpAny (model P w) X.A (letOwnedTupleGo tg (.ref it) u) (λ _ s2=>∃x H',Inv X EN σ H' s2/\RelV x u/\J.yld i H x H'/\tn (i+1) s2.heap/\∀b∈fp,H' b=none) E s1) E s
 done:∀(X:Cx),X.prog=P->X.w=w->X.K=K->X.calm=true->∀(i:Nat) (EN:List (EC×EL)) (s:EE) (σ:St) (H:Hp) (E:ED->EE->Prop),Inv X EN σ H s->(∀b∈fp,fD X EN H b)->tn i s.heap->J.stop i H->
  wpAny (model P w) X.A (pyNext (.ref it)) (λ r s1=>r=none/\Inv X EN σ H s1) E s
 self:∀(A:EI) (i:Nat) (s:EE) (Q:ED->EE->Prop) (E:ED->EE->Prop),tn i s.heap->Q (.ref it) s->wpAny (model P w) A (pyIter (.ref it)) Q E s
abbrev TI:=St->Hp->(It->Hp->Prop)->Prop
def PIE (X:Cx)(EN:List (EC×EL))(σ:St)(tg:EK)(R:It->Hp->Prop)(itv:ED)(s2:EE):Prop:=
 ∃(it:EC) (fp:List EC) (tn:Nat->EJ->Prop) (J:It) (H':Hp),itv=.ref it/\Inv X EN σ H' s2/\Turn X.prog X.w X.K tg J fp it tn/\tn 0 s2.heap/\(∀b∈fp,fD X EN H' b)/\R J H'
def PI (X:Cx)(tg iter:EK)(wi:TI):Prop:=
 ∀(EN:List (EC×EL)) (s:EE) (σ:St) (H:Hp) (R:It->Hp->Prop),Inv X EN σ H s->wi σ H R->
  wpAny (model X.prog X.w) X.A (eval iter X.env) (λ v s1=>wpAny (model X.prog X.w) X.A (pyIter v) (PIE X EN σ tg R) X.xe s1) X.xe s
theorem jk {M:Model}{o:EL}{n:String}{vs:Array ED}(ho:s.heap.get? it=some o)(hc:o.cls=.type n)(hd:o.data=.fields vs)
  (hn: ["enumerate","zip","dict_itemiterator","dict_reverseitemiterator","odict_iterator","itertools.zip_longest","itertools.pairwise"].contains n=false) (hQ:Q () s):wpAny M A (letOwnedTupleGo tg (.ref it) u) Q E s:=by
 unfold letOwnedTupleGo;cases tg<;>first
  |exact Am hQ
  |(cases u<;>first
    |exact Am hQ
    |(refine Aa (wpAny_load ho ?_)
      rw [hc,hd];show wpAny M A (if(["enumerate","zip","dict_itemiterator","dict_reverseitemiterator","odict_iterator","itertools.zip_longest","itertools.pairwise"].contains n&&vs[0]?==some (rawInt _))=true then _ else _) Q E s;rw [AO (by intro h;rw [hn,Dt] at h;cases h)];exact Am hQ))
def Itl (K:Frag)(a:EC):It:=
 ⟨λ i H=>∃xs x,SqL K H a xs/\xs[i]?=some x,λ i H x H'=>H'=H/\∀xs,SqL K H a xs->xs[i]?=some x,λ i H=>∃xs,SqL K H a xs/\xs.length≤i⟩
def Itr (lo:Int)(n:Nat):It:=⟨λ i _=>i<n,λ i H x H'=>H'=H/\x=.int (lo+i),λ i _=>n≤i⟩
theorem qI (a it:EC):Turn P w K tg (Itl K a) [it] it (λ i h=>h.IsListIter it a i) where
 mem:=Z6
 obj:=λ i h st b hb=>by
  have e:b=it:=by simpa using hb
  subst e;obtain⟨o,e,c,d⟩:=st;exact⟨o,e,λ v z=>by rw [d] at z;cases z⟩
 keep:=λ i h h' st k=>st.at λ o e=>k it Z6 o e
 item:=by
  intro X hP hw hK hc i EN s σ H E I hf st hg;subst hP hw hK;obtain⟨xs,x,hq,hx⟩:=hg;obtain⟨its,rv,p,hz⟩:=I.list hq;obtain⟨u,hu,ru⟩:=rv.get hx;obtain⟨f0,f1,f2,f3,f4,f5⟩:=hf it Z6;refine wpAny_pyNext_list_item st p.isList (x:=u) (by simpa using hu) λ h' st' sb=>?_
  have I1:Inv X EN σ H {s with heap:=h'}:=I.turned (t':=s.toks) (λ b o hb e=>(sb.2 b hb).trans e) f0 f1 f3 f4 f5;obtain⟨o,e,c,d⟩:=id st';exact⟨u,rfl,jk (s:={s with heap:=h'}) e c d Z9 ⟨x,H,I1,ru,⟨rfl,λ ys hy=>by rw [I.list_inj hy hq];exact hx⟩,st',λ b hb=>(hf b hb).1⟩⟩
 done:=by
  intro X hP hw hK hc i EN s σ H E I hf st hg;subst hP hw hK;obtain⟨xs,hq,hx⟩:=hg;obtain⟨its,rv,p,hz⟩:=I.list hq;obtain⟨f0,f1,f2,f3,f4,f5⟩:=hf it Z6;have hl:=rv.length;exact QQ.list_end_q I.hq st p.isList (by simp;exact B9 hl.symm hx) λ h' eb=>⟨rfl,I.turned (t':=s.toks) (λ b o hb e=>eb b o hb e) f0 f1 f3 f4 f5⟩
 self:=λ _ _ _ _ _ st h=>wpAny_pyIter_listiter st h
theorem nD (it:EC)(lo:Int)(n:Nat):Turn P w K tg (Itr lo n) [it] it (λ i h=>IsRangeIter h it (lo+(i:Nat)*1) ((n:Int)-(i:Nat)) 1) where
 mem:=Z6
 obj:=λ i h st b hb=>by
  have e:b=it:=by simpa using hb
  subst e;exact⟨_,st,λ v z=>by
   have z':Data.fields _=Data.cell v:=z;cases z'⟩
 keep:=λ i h h' st k=>k it Z6 _ st
 item:=by
  intro X hP hw hK hc i EN s σ H E I hf st hg;subst hP hw hK;obtain⟨f0,f1,f2,f3,f4,f5⟩:=hf it Z6;refine wpAny_pyNext_range_item st (by have:i<n:=hg;lia) λ h' st1 sb=>?_
  have st':IsRangeIter h' it (lo+((i+1:Nat):Int)*1) ((n:Int)-((i+1:Nat):Int)) 1:=by
   have e1:lo+((i+1:Nat):Int)*1=lo+(i:Int)*1+1:=Z5;have e2:(n:Int)-((i+1:Nat):Int)=(n:Int)-(i:Int)-1:=Z5;rw [e1,e2];exact st1
  have I1:Inv X EN σ H {s with heap:=h',toks:=s.toks+1}:=I.turned (λ b o hb e=>sb.extBut b o hb e) f0 f1 f3 f4 f5;refine⟨_,rfl,jk (s:={s with heap:=h',toks:=s.toks+1}) (n:="range_iterator") st' rfl rfl Z9 ⟨.int (lo+i),H,I1,⟨s.toks,?_⟩,⟨rfl,rfl⟩,st',λ b hb=>(hf b hb).1⟩⟩;rw [Int.mul_one]
 done:=by
  intro X hP hw hK hc i EN s σ H E I hf st hg;subst hP hw hK;obtain⟨f0,f1,f2,f3,f4,f5⟩:=hf it Z6;exact QQ.range_end_q I.hq st (by have:n≤i:=hg;lia) λ h' eb=>⟨rfl,I.turned (t':=s.toks) (λ b o hb e=>eb b o hb e) f0 f1 f3 f4 f5⟩
 self:=λ _ _ _ _ _ st h=>wpAny_pyIter_rangeiter st h
section
variable {X:Cx}{tg:EK}
def y2 (K:Frag)(tl:TE):TI:=λ σ H R=>tl σ H λ x H1=>∃a,x=.ref a/\(∃xs,SqL K H1 a xs)/\R (Itl K a) H1
theorem cy {l:EK}{tl:TE}(hl:PE X l tl):PI X tg l (y2 X.K tl):=by
 intro EN s σ H R I h;refine thn (hl EN s σ H _ I h) λ v s1 z9=>?_
 obtain⟨x,H1,I1,r1,q1⟩:=z9;obtain⟨a,e,⟨xs,hq⟩,q⟩:=q1;subst e;cases r1;obtain⟨its,rv,p,hz⟩:=I1.list hq;refine wpAny_pyIter_list p.isList ?_;refine⟨s1.heap.objs.size,[s1.heap.objs.size],_,_,H1,rfl,I1.kept (t':=s1.toks) λ b o e=>Ag _ e,qI a _,⟨_,AF _ rfl,rfl,rfl⟩,λ b hb=>?_,q⟩;have e:b=s1.heap.objs.size:=by simpa using hb
 subst e;exact I1.fpOk (Al _) (I1.hok.fresh (Al _))
theorem ri {R:It->Hp->Prop}{hi:Int}{t u v:Tok}{tk:Nat}(I:Inv X EN σ H s)(h1:-(2^62)≤lo)(h2:lo<2^62)(h3:-(2^62)≤hi)(h4:hi<2^62)
  (q:R (Itr lo (hi-lo).toNat) H):wpAny (model X.prog X.w) X.A (pyIter (.ref s.heap.objs.size)) (PIE X EN σ tg R) E {s with heap:=s.heap.push {cls:=.type "range",data:=.fields #[.int lo t,.int hi u,.int 1 v]},toks:=tk}:=by
 refine wpAny_pyIter_range (IsRange.new ..) (small_one h1 h2 h3 h4) ?_;have I1:Inv X EN σ H {s with heap:=s.heap.push {cls:=.type "range",data:=.fields #[.int lo t,.int hi u,.int 1 v]},toks:=tk}:=I.kept λ b o e=>Ag _ e
 refine⟨(s.heap.push {cls:=.type "range",data:=.fields #[.int lo t,.int hi u,.int 1 v]}).objs.size,[(s.heap.push {cls:=.type "range",data:=.fields #[.int lo t,.int hi u,.int 1 v]}).objs.size],_,_,H,rfl,
  I1.kept (t':=tk) λ b o e=>Ag _ e,nD _ lo (hi-lo).toNat,?_,λ b hb=>?_,q⟩
 ·have e1:lo+((0:Nat):Int)*1=lo:=Z6;have e2:(((hi-lo).toNat:Nat):Int)-((0:Nat):Int)=Builtin.Range.rangeSize lo hi 1:=by rw [rangeSize_one];split<;>lia
  show IsRangeIter _ _ (lo+((0:Nat):Int)*1) ((((hi-lo).toNat:Nat):Int)-((0:Nat):Int)) 1;rw [e1,e2];exact AF _ rfl
 ·have e:b=(s.heap.push {cls:=.type "range",data:=.fields #[.int lo t,.int hi u,.int 1 v]}).objs.size:=by simpa using hb
  subst e;exact I1.fpOk (Al _) (I1.hok.fresh (Al _))
def yB (ta:TA):TI:=λ σ H R=>ta σ H λ vs H1=>∃j:Int,vs=[.int j]/\-(2^62)≤j/\j<2^62/\R (Itr 0 j.toNat) H1
theorem cO {a:EK}{p pos:Pos}(hg:Gl X "range")(hm:X.mg "range"=none)(ha:PA X [a] ta)(hs:autoParam (starEach [a] X.env=[(false,eval a X.env)]) Z0):PI X tg (.Call (.Name "range" p) [a] [] pos) (yB ta):=by
 intro EN s σ H R I h;refine Call_ (ld_blt I hg hm boot_range (BQ (thn (ha pos EN s σ H _ I h) λ us s1 z9=>?_) hs rfl));obtain⟨vs,H1,I1,r1,q1⟩:=z9;obtain⟨j,e,q1,q2,q⟩:=q1;subst e;cases r1 with
 |cons r rr=>
  cases rr;obtain⟨t,rfl⟩:=r;exact call_range_1 (ri I1 Z5 Z5 q1 q2 (by simpa using q))
def zV (wi:TI)(g:TG)(tb:TS):TS:=λ D σ H=>wi σ H λ J H1=>∃W:Nat->Nat->St->Hp->Prop,(∃m,W 0 m σ H1)/\∀i m σ H,W i m σ H->
 (J.stop i H/\D.nx σ H)\/(J.go i H/\∃N:St->Hp->Prop,(∀σ' H',N σ' H'->∃m',m'<m/\W (i+1) m' σ' H')/\∀x H',J.yld i H x H'->g x σ H' λ σ2 H2=>tb {D with nx:=N,ct:=N,bk:=D.nx} σ2 H2)
noncomputable def kC (fp:List EC) (h:EJ):List (EC×EL):=fp.filterMap λ b=>(h.get? b).map λ o=>(b,o)
theorem bN {o:EL}(hb:b∈fp)(e:h.get? b=some o):(b,o)∈kC fp h:=List.mem_filterMap.mpr ⟨b,hb,by rw [e];rfl⟩
theorem qA {p:EC×EL}(hp:p∈kC fp h):p.1∈fp/\h.get? p.1=some p.2:=by
 obtain⟨b,hb,e⟩:=List.mem_filterMap.mp hp;cases q:h.get? b with
 |none=>rw [q] at e;cases e
 |some o=>
  rw [q] at e;have e':(b,o)=p:=AY e;subst e';exact⟨hb,q⟩
theorem Inv.pinned (I:Inv X EN σ H s)(hf:∀b∈fp,fD X EN H b)(ho:∀b∈fp,∃o,s.heap.get? b=some o/\∀v,o.data≠ .cell v):Inv X (EN++kC fp s.heap) σ H s:=
 I.pins_of λ p hp=>(Ar.mp hp).elim (λ z=>I.pin p (AE _ z)) λ z=>by
  obtain⟨hb,e⟩:=qA z;obtain⟨f0,f1,f2,_⟩:=hf p.1 hb;obtain⟨o,e',d⟩:=ho p.1 hb;rw [e] at e';cases e';exact⟨e,f0,f1,f2,d⟩
theorem Inv.unpinned {pl:List (EC×EL)}(I:Inv X (EN++pl) σ H s):Inv X EN σ H s:=I.pins_of λ p hp=>I.pin p (AE _ (Bn _ hp))
theorem cr {iter:EK}{wi:TI}{pos:Pos}(hp:PassesOwn (model X.prog X.w) X.A X.env X.xe)(hc:X.calm=true)(hi:PI X tg iter wi)(hg:PG X tg g)(hb:PSs X body tb)
  (hs:autoParam (∀x,foldedSetIterable iter X.env x=pure x) ZX):PS X (.For tg iter body [] pos) (zV wi g tb):=by
 intro EN s σ H D I h;refine wpAny_For (thn (hi EN s σ H _ I h) λ v s1 h1=>thn h1 λ itv s2 h2=>?_) hs;obtain⟨it,fp,tn,J,H2,e,I2,T,st2,f2,W,⟨m0,w0⟩,turn⟩:=h2;subst e;have stat:∀{H':Hp},(∀b∈fp,H' b=none)->∀b∈fp,fD X EN H' b:=λ hn b hb=>⟨hn b hb,(f2 b hb).2⟩
 refine codeAny_forLoop_any (λ n s'=>∃i σ' H',Inv X EN σ' H' s'/\tn i s'.heap/\(∀b∈fp,H' b=none)/\W i n σ' H') ?_ m0 ⟨0,σ,H2,I2,st2,λ b hb=>(f2 b hb).1,w0⟩;rintro n s3 ⟨i,σ3,H3,I3,st3,fr3,w3⟩;rcases turn i n σ3 H3 w3 with⟨stop,qn⟩|⟨go,N,hN,step⟩
 ·refine Cq hp (thn (T.done X rfl rfl rfl hc i EN s3 σ3 H3 X.xe I3 (stat fr3) st3 stop) λ r s4 z9=>?_);obtain⟨hr,I4⟩:=z9;subst hr;exact CM ⟨σ3,H3,I4,qn⟩
 ·refine Cq hp (thn (T.item X rfl rfl rfl hc i EN s3 σ3 H3 X.xe I3 (stat fr3) st3 go) λ r s4 z9=>?_);obtain⟨u,hr,h4⟩:=z9;subst hr;refine Cq hp (thn h4 λ _ s5 z9=>?_);obtain⟨x,H5,I5,r5,y5,st5,fr5⟩:=z9;have I5':=I5.pinned (stat fr5) (T.obj _ _ st5);refine Cq hp (thn (hg _ s5 σ3 H5 x u _ I5' r5 (step x H5 y5)) λ _ s6 z9=>?_);obtain⟨σ6,H6,I6,q6⟩:=z9;refine Cq hp (thn (hb _ s6 σ6 H6 _ I6 q6) λ f s7 q7=>?_);have again:∀{σ7:St} {H7:Hp},Inv X (EN++kC fp s5.heap) σ7 H7 s7->N σ7 H7->∃m,m<n/\∃i σ' H',Inv X EN σ' H' s7/\tn i s7.heap/\(∀b∈fp,H' b=none)/\W i m σ' H':=λ {σ7 H7} I7 n7=>by
   obtain⟨m',hm,w7⟩:=hN σ7 H7 n7;refine⟨m',hm,i+1,σ7,H7,I7.unpinned,T.keep _ _ _ st5 λ b hb o e=>(I7.pin (b,o) (AE _ (AE _ (bN hb e)))).1,λ b hb=>?_,w7⟩;obtain⟨o,e,d⟩:=T.obj _ _ st5 b hb;exact(I7.pin (b,o) (AE _ (AE _ (bN hb e)))).2.1
  cases f with
  |next=>obtain⟨σ7,H7,I7,n7⟩:=q7;exact again I7 n7
  |cont=>obtain⟨σ7,H7,I7,n7⟩:=q7;exact again I7 n7
  |brk=>obtain⟨σ7,H7,I7,q7⟩:=q7;exact⟨σ7,H7,I7.unpinned,q7⟩
  |ret v=>obtain⟨x7,σ7,H7,I7,r7,q7⟩:=q7;exact⟨x7,σ7,H7,I7.unpinned,r7,q7⟩
end
theorem cX {D:Ends}(Pv:Nat->St->Hp->Prop)(h0:Pv 0 σ H)(hl:∀i σ H,i≤xs.length->Pv i σ H->SqL K H a xs)
  (hs:∀i x σ H,xs[i]?=some x->Pv i σ H->g x σ H λ σ2 H2=>tb {D with nx:=Pv (i+1),ct:=Pv (i+1),bk:=D.nx} σ2 H2) (hd:∀σ H,Pv xs.length σ H->D.nx σ H):
  ∃W:Nat->Nat->St->Hp->Prop,(∃m,W 0 m σ H)/\∀i m σ H,W i m σ H->
   ((Itl K a).stop i H/\D.nx σ H)\/((Itl K a).go i H/\∃N:St->Hp->Prop,(∀σ' H',N σ' H'->∃m',m'<m/\W (i+1) m' σ' H')/\∀x H',(Itl K a).yld i H x H'->g x σ H' λ σ2 H2=>tb {D with nx:=N,ct:=N,bk:=D.nx} σ2 H2):=by
 refine⟨λ i m σ H=>m=xs.length-i/\i≤xs.length/\Pv i σ H,⟨xs.length,Z6,AZ _,h0⟩,?_⟩;rintro i m σ H ⟨rfl,hi,p⟩;have q:=hl i σ H hi p;by_cases EQ:i<xs.length
 ·refine .inr ⟨⟨xs,xs[i],q,by simp [EQ]⟩,Pv (i+1),λ σ' H' p'=>⟨xs.length-(i+1),Cg _ _ EQ,rfl,EQ,p'⟩,λ x H' y=>?_⟩;obtain⟨e,y⟩:=y;subst e;exact hs i x σ _ (y xs q) p
 ·have e:i=xs.length:=Ci hi (Nat.not_lt.1 EQ);subst e;exact .inl ⟨⟨xs,q,Al _⟩,hd σ H p⟩
theorem gu {D:Ends}(Pv:Nat->St->Hp->Prop)(h0:Pv 0 σ H)
  (hs:∀i σ H,i<n->Pv i σ H->g (.int (lo+i)) σ H λ σ2 H2=>tb {D with nx:=Pv (i+1),ct:=Pv (i+1),bk:=D.nx} σ2 H2) (hd:∀σ H,Pv n σ H->D.nx σ H):
  ∃W:Nat->Nat->St->Hp->Prop,(∃m,W 0 m σ H)/\∀i m σ H,W i m σ H->
   ((Itr lo n).stop i H/\D.nx σ H)\/((Itr lo n).go i H/\∃N:St->Hp->Prop,(∀σ' H',N σ' H'->∃m',m'<m/\W (i+1) m' σ' H')/\∀x H',(Itr lo n).yld i H x H'->g x σ H' λ σ2 H2=>tb {D with nx:=N,ct:=N,bk:=D.nx} σ2 H2):=by
 refine⟨λ i m σ H=>m=n-i/\i≤n/\Pv i σ H,⟨n,Z6,AZ _,h0⟩,?_⟩;rintro i m σ H ⟨rfl,hi,p⟩;by_cases EQ:i<n
 ·refine .inr ⟨EQ,Pv (i+1),λ σ' H' p'=>⟨n-(i+1),Cg _ _ EQ,rfl,EQ,p'⟩,λ x H' y=>?_⟩;obtain⟨e,y⟩:=y;subst e y;exact hs i σ _ EQ p
 ·have e:i=n:=Ci hi (Nat.not_lt.1 EQ);subst e;exact .inl ⟨Al _,hd σ H p⟩
abbrev R2:=V->V->Hp->VK->Prop
def OpR (X:Cx)(f:ED->ED->Sem ED)(r:R2):Prop:=
 ∀(EN:List (EC×EL)) (s:EE) (σ:St) (H:Hp) (x y:V) (v u:ED) (Q:VK),Inv X EN σ H s->RelV x v->RelV y u->r x y H Q->
  wpAny (model X.prog X.w) X.A (f v u) (EP X EN σ Q) X.xe s
def UnR (X:Cx)(f:ED->Sem ED)(r:V->Hp->VK->Prop):Prop:=
 ∀(EN:List (EC×EL)) (s:EE) (σ:St) (H:Hp) (x:V) (v:ED) (Q:VK),Inv X EN σ H s->RelV x v->r x H Q->
  wpAny (model X.prog X.w) X.A (f v) (EP X EN σ Q) X.xe s
def dg (X:Cx)(f:ED)(r:List V->Hp->VK->Prop):Prop:=
 ∀(EN:List (EC×EL)) (s:EE) (σ:St) (H:Hp) (xs:List V) (us:List ED) (Q:VK),Inv X EN σ H s->Vals xs us->r xs H Q->
  wpAny (model X.prog X.w) X.A (call f us) (EP X EN σ Q) X.xe s
def tOp (r:R2)(ta tb:TE):TE:=λ σ H Q=>ta σ H λ x H1=>tb σ H1 λ y H2=>r x y H2 Q
def tUn (r:V->Hp->VK->Prop)(ta:TE):TE:=λ σ H Q=>ta σ H λ x H1=>r x H1 Q
def rI (C:Int->Int->Prop)(g:Int->Int->V):R2:=λ x y H Q=>∃i j,x=.int i/\y=.int j/\C i j/\Q (g i j) H
def rI0 (g:Int->Int->V):R2:=λ x y H Q=>∃i j,x=.int i/\y=.int j/\Q (g i j) H
def rU (g:Int->V):V->Hp->VK->Prop:=λ x H Q=>∃i,x=.int i/\Q (g i) H
section
variable {X:Cx}{a b c:EK}{ta tb tc:TE}{pos:Pos}
theorem binT (ha:PE X a ta)(hb:PE X b tb){R:V->V->Hp->Prop}(I:Inv X EN σ H s)
  (h:ta σ H λ x H1=>tb σ H1 λ y H2=>R x y H2) {Q:ED->EE->Prop} {f:ED->ED->Sem ED}
  (hf:∀v u s2 x y H2,Inv X EN σ H2 s2->RelV x v->RelV y u->R x y H2->wpAny (model X.prog X.w) X.A (f v u) Q X.xe s2):
  wpAny (model X.prog X.w) X.A (eval a X.env) (λ v s₁=>wpAny (model X.prog X.w) X.A (eval b X.env) (λ u s₂=>wpAny (model X.prog X.w) X.A (f v u) Q X.xe s₂) X.xe s₁) X.xe s:=by
 refine thn (ha EN s σ H _ I h) λ v s1 z9=>?_
 obtain⟨x,H1,I1,r1,q1⟩:=z9;refine thn (hb EN s1 σ H1 _ I1 q1) λ u s2 z9=>?_
 obtain⟨y,H2,I2,r2,q2⟩:=z9;exact hf v u s2 x y H2 I2 r1 r2 q2
theorem ag {op:Operator}(ho:OpR X (binaryOp op) r)(ha:PE X a ta)(hb:PE X b tb):PE X (.BinOp a op b pos) (tOp r ta tb):=by
 intro EN s σ H Q I h;exact wpAny_BinOp (binT ha hb I h λ v u s2 x y H2 I2 rx ry q=>ho EN s2 σ H2 x y v u Q I2 rx ry q)
theorem cf {op:UnaryOp}{r:V->Hp->VK->Prop}(ho:UnR X (unaryOp op) r)(ha:PE X a ta):PE X (.UnaryOp op a pos) (tUn r ta):=by
 intro EN s σ H Q I h;exact UnaryOp_ (thn (ha EN s σ H _ I h) λ v s1 z9=>by obtain⟨x,H1,I1,r1,q1⟩:=z9;exact ho EN s1 σ H1 x v Q I1 r1 q1)
theorem opI {f:ED->ED->Sem ED}{C:Int->Int->Prop}{g:Int->Int->Int}
  (rule:∀(i j:Int) (t u:Tok) (s:EE) (Q:ED->EE->Prop) (E:ED->EE->Prop),C i j->Q (.int (g i j) s.toks) {s with toks:=s.toks+1}->wpAny (model X.prog X.w) X.A (f (.int i t) (.int j u)) Q E s):
  OpR X f (rI C λ i j=>.int (g i j)):=by
 intro EN s σ H x y v u Q I rx ry h;obtain⟨i,j,rfl,rfl,hc,q⟩:=h;obtain⟨t,rfl⟩:=rx;obtain⟨t',rfl⟩:=ry;exact rule i j t t' s _ _ hc ⟨.int (g i j),H,I.tok _,⟨_,rfl⟩,q⟩
theorem sJ {f:ED->ED->Sem ED}{g:Int->Int->Int}
  (rule:∀(i j:Int) (t u:Tok) (s:EE) (Q:ED->EE->Prop) (E:ED->EE->Prop),Q (.int (g i j) s.toks) {s with toks:=s.toks+1}->wpAny (model X.prog X.w) X.A (f (.int i t) (.int j u)) Q E s):
  OpR X f (rI0 λ i j=>.int (g i j)):=by
 intro EN s σ H x y v u Q I rx ry h;obtain⟨i,j,rfl,rfl,q⟩:=h;obtain⟨t,rfl⟩:=rx;obtain⟨t',rfl⟩:=ry;exact rule i j t t' s _ _ ⟨.int (g i j),H,I.tok _,⟨_,rfl⟩,q⟩
theorem wk {f:ED->ED->Sem ED}{g:Int->Int->Bool}
  (rule:∀(i j:Int) (t u:Tok) (s:EE) (Q:ED->EE->Prop) (E:ED->EE->Prop),Q (.bool (g i j)) s->wpAny (model X.prog X.w) X.A (f (.int i t) (.int j u)) Q E s):
  OpR X f (rI0 λ i j=>.bl (g i j)):=by
 intro EN s σ H x y v u Q I rx ry h;obtain⟨i,j,rfl,rfl,q⟩:=h;obtain⟨t,rfl⟩:=rx;obtain⟨t',rfl⟩:=ry;exact rule i j t t' s _ _ ⟨.bl (g i j),H,I,rfl,q⟩
def yN (i j:Int):Prop:=0<j/\j<1073741824
def zI (i j:Int):Prop:=0≤j/\j≤1000000/\i.natAbs<2^64
def CMul (i j:Int):Prop:=(-(2^64)<i/\i<2^64)\/(-(2^64)<j/\j<2^64)
theorem CMul.ok {i j:Int}(h:CMul i j):IntMulOk i j:=by
 rcases h with⟨h1,h2⟩|⟨h1,h2⟩
 ·exact .of_left (intBits_le_64 h1 h2)
 ·exact .of_right (intBits_le_64 h1 h2)
theorem mI (k:Nat):(0:Int)≤2^k:=by
 rw [two_pow_cast];exact Bd _
theorem aF:OpR X (binaryOp .Add) (rI0 λ i j=>.int (i+j)):=sJ λ _ _ _ _ _ _ _ q=>add_int q
theorem aU:OpR X (binaryOp .Sub) (rI0 λ i j=>.int (i-j)):=sJ λ _ _ _ _ _ _ _ q=>sub_int q
theorem bE:OpR X (binaryOp .Mult) (rI CMul λ i j=>.int (i*j)):=opI λ _ _ _ _ _ _ _ hc q=>mul_int q hc.ok
theorem aQ:OpR X (binaryOp .FloorDiv) (rI yN λ i j=>.int (i/j)):=opI λ i j _ _ _ _ _ hc q=>by
 have h1:(0:Int)<j:=hc.1;have h2:j<1073741824:=hc.2;exact floordiv_int Z5 (by rw [CS i (Int.le_of_lt h1)];exact q) (.inl (CB Z4))
theorem aI:OpR X (binaryOp .Mod) (rI (λ _ j=>0<j) λ i j=>.int (i%j)):=opI λ i j _ _ _ _ _ hc q=>by
 have h1:(0:Int)<j:=hc;exact mod_int' (B0 (Int.ne_of_lt hc)) (by rw [D7 i (Int.le_of_lt hc)];exact q)
theorem ij:OpR X (binaryOp .LShift) (rI zI λ i j=>.int (i*2^j.toNat)):=opI λ _ _ _ _ _ _ _ hc q=>lshift_int_small hc.1 hc.2.1 hc.2.2 q
theorem iD:OpR X (binaryOp .RShift) (rI (λ _ j=>0≤j) λ i j=>.int (i/2^j.toNat)):=opI λ i j _ _ _ _ _ hc q=>
 rshift_int hc (by rw [CS i (mI _)];exact q)
theorem gv:OpR X (binaryOp .BitAnd) (rI0 λ i j=>.int (Builtin.bitAnd i j)):=sJ λ _ _ _ _ _ _ _ q=>and_int q
theorem y4:OpR X (binaryOp .BitOr) (rI0 λ i j=>.int (Builtin.bitOr i j)):=sJ λ _ _ _ _ _ _ _ q=>or_int q
theorem oE:OpR X (binaryOp .BitXor) (rI0 λ i j=>.int (Builtin.bitXor i j)):=sJ λ _ _ _ _ _ _ _ q=>xor_int q
theorem unI {f:ED->Sem ED}{g:Int->Int}
  (rule:∀(i:Int) (t:Tok) (s:EE) (Q:ED->EE->Prop) (E:ED->EE->Prop),Q (.int (g i) s.toks) {s with toks:=s.toks+1}->wpAny (model X.prog X.w) X.A (f (.int i t)) Q E s):
  UnR X f (rU λ i=>.int (g i)):=by
 intro EN s σ H x v Q I rx h;obtain⟨i,rfl,q⟩:=h;obtain⟨t,rfl⟩:=rx;exact rule i t s _ _ ⟨.int (g i),H,I.tok _,⟨_,rfl⟩,q⟩
theorem bG:UnR X (unaryOp .USub) (rU λ i=>.int (-i)):=unI λ _ _ _ _ _ q=>neg_int q
end
noncomputable def vC:V->V->Bool
 | .non,.non=>true| .non,.int _=>true| .int _,.non=>true| .non,.bl _=>true| .bl _,.non=>true| .non,.str _=>true| .str _,.non=>true
 | .int _,.int _=>true| .bl _,.bl _=>true| .str _,.str _=>true| .byt _,.byt _=>true
 | .int _,.str _=>true| .str _,.int _=>true| .bl _,.str _=>true| .str _,.bl _=>true
 |_,_=>false
def rEq:R2:=λ x y H Q=>vC x y=true/\Q (.bl (decide (x=y))) H
def rNe:R2:=λ x y H Q=>vC x y=true/\Q (.bl (!decide (x=y))) H
theorem pF {i j:Int}:decide (V.int i=V.int j)=(i==j):=by
 rw [Cj];simp
theorem ss {i j:Bool}:decide (V.bl i=V.bl j)=(i==j):=by
 rw [Cj];simp
theorem o9 {i j:Str}:decide (V.str i=V.str j)=(i==j):=by
 rw [Cj];simp
theorem pY {i j:Array UInt8}:decide (V.byt i=V.byt j)=(i.toList==j.toList):=by
 rw [Cj];cases i;cases j;simp
section
variable {X:Cx}{a b c:EK}{ta tb tc:TE}{pos:Pos}
theorem aX {Q:VK}{k k':Bool}(I:Inv X EN σ H s)(q:Q (.bl k) H)(e:k=k'):EP X EN σ Q (.bool k') s:=by
 subst e;exact⟨.bl k,H,I,rfl,q⟩
theorem bP:OpR X (compareOp .Eq) rEq:=by
 intro EN s σ H x y v u Q I rx ry h;obtain⟨hs,q⟩:=h;cases x with
 |non=>
  cases rx;cases y with
  |non=>cases ry;exact PySem.EqNone.eq_none_none (aX I q Z6)
  |bl j=>cases ry;exact PySem.EqNone.eq_none_bool (aX I q Z6)
  |int j=>obtain⟨t',rfl⟩:=ry;exact PySem.EqNone.eq_none_int (aX I q Z6)
  |str j=>obtain⟨t',rfl⟩:=ry;exact PySem.EqNone.eq_none_str (aX I q Z6)
  |_=>exact absurd (show false=true from hs) Av
 |bl i=>
  cases rx;cases y with
  |non=>cases ry;exact PySem.EqNone.eq_bool_none (aX I q Z6)
  |bl j=>cases ry;exact eq_bool (aX I q ss)
  |str j=>obtain⟨t',rfl⟩:=ry;exact PySem.EqMixed.eq_bool_str (aX I q Z6)
  |_=>exact absurd (show false=true from hs) Av
 |int i=>
  obtain⟨t,rfl⟩:=rx;cases y with
  |non=>cases ry;exact PySem.EqNone.eq_int_none (aX I q Z6)
  |int j=>obtain⟨t',rfl⟩:=ry;exact eq_int (aX I q pF)
  |str j=>obtain⟨t',rfl⟩:=ry;exact PySem.EqMixed.eq_int_str (aX I q Z6)
  |_=>exact absurd (show false=true from hs) Av
 |str i=>
  obtain⟨t,rfl⟩:=rx;cases y with
  |non=>cases ry;exact PySem.EqNone.eq_str_none (aX I q Z6)
  |bl j=>cases ry;exact PySem.EqMixed.eq_str_bool (aX I q Z6)
  |int j=>obtain⟨t',rfl⟩:=ry;exact PySem.EqMixed.eq_str_int (aX I q Z6)
  |str j=>obtain⟨t',rfl⟩:=ry;exact eq_str (aX I q o9)
  |_=>exact absurd (show false=true from hs) Av
 |byt i=>
  obtain⟨t,rfl⟩:=rx;cases y with
  |byt j=>obtain⟨t',rfl⟩:=ry;exact PySem.W.eq_bytes (aX I q pY)
  |_=>exact absurd (show false=true from hs) Av
 |_=>cases y<;>exact absurd (show false=true from hs) Av
theorem cI:OpR X (compareOp .NotEq) rNe:=by
 intro EN s σ H x y v u Q I rx ry h;obtain⟨hs,q⟩:=h;cases x with
 |non=>
  cases rx;cases y with
  |non=>cases ry;exact PySem.EqNone.ne_none_none (aX I q Z6)
  |bl j=>cases ry;exact PySem.EqNone.ne_none_bool (aX I q Z6)
  |int j=>obtain⟨t',rfl⟩:=ry;exact PySem.EqNone.ne_none_int (aX I q Z6)
  |str j=>obtain⟨t',rfl⟩:=ry;exact PySem.EqNone.ne_none_str (aX I q Z6)
  |_=>exact absurd (show false=true from hs) Av
 |bl i=>
  cases rx;cases y with
  |non=>cases ry;exact PySem.EqNone.ne_bool_none (aX I q Z6)
  |bl j=>cases ry;exact ne_bool (aX I q (AB not ss))
  |str j=>obtain⟨t',rfl⟩:=ry;exact PySem.EqMixed.ne_bool_str (aX I q Z6)
  |_=>exact absurd (show false=true from hs) Av
 |int i=>
  obtain⟨t,rfl⟩:=rx;cases y with
  |non=>cases ry;exact PySem.EqNone.ne_int_none (aX I q Z6)
  |int j=>obtain⟨t',rfl⟩:=ry;exact ne_int (aX I q (AB not pF))
  |str j=>obtain⟨t',rfl⟩:=ry;exact PySem.EqMixed.ne_int_str (aX I q Z6)
  |_=>exact absurd (show false=true from hs) Av
 |str i=>
  obtain⟨t,rfl⟩:=rx;cases y with
  |non=>cases ry;exact PySem.EqNone.ne_str_none (aX I q Z6)
  |bl j=>cases ry;exact PySem.EqMixed.ne_str_bool (aX I q Z6)
  |int j=>obtain⟨t',rfl⟩:=ry;exact PySem.EqMixed.ne_str_int (aX I q Z6)
  |str j=>obtain⟨t',rfl⟩:=ry;exact ne_str (aX I q (AB not o9))
  |_=>exact absurd (show false=true from hs) Av
 |byt i=>
  obtain⟨t,rfl⟩:=rx;cases y with
  |byt j=>obtain⟨t',rfl⟩:=ry;exact PySem.W.ne_bytes (aX I q (AB not pY))
  |_=>exact absurd (show false=true from hs) Av
 |_=>cases y<;>exact absurd (show false=true from hs) Av
theorem fh:OpR X (compareOp .Lt) (rI0 λ i j=>.bl (decide (i<j))):=wk λ _ _ _ _ _ _ _ q=>lt_int q
theorem oJ:OpR X (compareOp .LtE) (rI0 λ i j=>.bl (decide (i≤j))):=wk λ _ _ _ _ _ _ _ q=>le_int q
theorem ek:OpR X (compareOp .Gt) (rI0 λ i j=>.bl (decide (j<i))):=wk λ _ _ _ _ _ _ _ q=>gt_int q
theorem y6:OpR X (compareOp .GtE) (rI0 λ i j=>.bl (decide (j≤i))):=wk λ _ _ _ _ _ _ _ q=>ge_int q
theorem ie:OpR X (compareOp .Is) (λ x y H Q=>y=.non/\Q (.bl (decide (x=.non))) H):=by
 intro EN s σ H x y v u Q I rx ry h;obtain⟨rfl,q⟩:=h;cases ry;refine is_none_gen (aX I q ?_);cases x<;>first
  |(cases rx;rfl)
  |(obtain⟨t,rfl⟩:=rx;rfl)
theorem pq:OpR X (compareOp .IsNot) (λ x y H Q=>y=.non/\Q (.bl (!decide (x=.non))) H):=by
 intro EN s σ H x y v u Q I rx ry h;obtain⟨rfl,q⟩:=h;cases ry;refine isnot_none_gen (aX I q ?_);cases x<;>first
  |(cases rx;rfl)
  |(obtain⟨t,rfl⟩:=rx;rfl)
theorem az (b:EK){op:CmpOp}(h:autoParam (op≠ .In) ZZ)(h2:autoParam (op≠ .NotIn) ZZ):behindInMarks op b=false:=ur b h h2
theorem bz {op:CmpOp}(ho:OpR X (compareOp op) r)(ha:PE X a ta)(hb:PE X b tb)(hm:behindInMarks op b=false):PE X (.Compare a [op] [b] pos) (tOp r ta tb):=by
 intro EN s σ H Q I h;exact wpAny_Compare1 (binT ha hb I h λ v u s2 x y H2 I2 rx ry q=>ho EN s2 σ H2 x y v u Q I2 rx ry q) hm
def ju (t:TE):TT:=λ σ H Q=>t σ H λ x H'=>∃k,x=.bl k/\Q k H'
theorem ax {op:CmpOp}(ho:OpR X (compareOp op) r)(ha:PE X a ta)(hb:PE X b tb)(hm:behindInMarks op b=false):PT X (.Compare a [op] [b] pos) (ju (tOp r ta tb)):=by
 intro EN s σ H Q I h;refine wpAny_isTrue_Compare1 (thn (ha EN s σ H _ I h) λ v s1 ⟨x,H1,I1,r1,q1⟩=>thn (hb EN s1 σ H1 _ I1 q1) λ u s2 ⟨y,H2,I2,r2,q2⟩=>
  thn (ho EN s2 σ H2 x y v u _ I2 r1 r2 q2) λ c s3 ⟨z,H3,I3,r3,k,e,q3⟩=>?_) hm
 subst e;cases r3;exact CP ⟨H3,I3,q3⟩
def wW (r r':R2)(ta tb tc:TE):TE:=λ σ H Q=>ta σ H λ x H1=>tb σ H1 λ y H2=>r x y H2 λ z H3=>∃k,z=.bl k/\
 (if k=true then tc σ H3 λ w' H4=>r' y w' H4 Q else Q (.bl false) H3)
theorem lL {op op':CmpOp}{r':R2}(ho:OpR X (compareOp op) r)(ho':OpR X (compareOp op') r')(ha:PE X a ta)(hb:PE X b tb)(hc:PE X c tc)
  (hm:lastMarks [op,op'] [b,c]=false:=by with_unfolding_all rfl):PE X (.Compare a [op,op'] [b,c] pos) (wW r r' ta tb tc):=by
 intro EN s σ H Q I h;refine Compare_chain (thn (ha EN s σ H _ I h) λ v s1 ⟨x,H1,I1,r1,q1⟩=>chain_link (thn (hb EN s1 σ H1 _ I1 q1) λ u s2 ⟨y,H2,I2,r2,q2⟩=>
  thn (ho EN s2 σ H2 x y v u _ I2 r1 r2 q2) λ d s3 ⟨z,H3,I3,r3,k,e,q3⟩=>?_)) hm
 subst e;cases r3;refine CP ?_;cases k with
 |false=>exact ite_ff ⟨.bl false,H3,I3,rfl,q3⟩
 |true=>exact ite_tt (chain_last (thn (hc EN s3 σ H3 _ I3 q3) λ w' s4 z9=>by obtain⟨z',H4,I4,r4,q4⟩:=z9;exact ho' EN s4 σ H4 y z' u w' Q I4 r2 r4 q4))
theorem kg:(sizeLine:Nat)<2^63:=by rw [sizeLine_eq];decide
theorem bg:OpR X (binaryOp .Add) (λ x y H Q=>∃i j,x=.str i/\y=.str j/\i.length+j.length≤sizeLine/\Q (.str (i++j)) H):=by
 intro EN s σ H x y v u Q I rx ry h;obtain⟨i,j,rfl,rfl,hz,q⟩:=h;obtain⟨t,rfl⟩:=rx;obtain⟨t',rfl⟩:=ry;exact add_str (λ t' tk=>⟨.str (i++j),H,I.tok _,⟨_,rfl⟩,q⟩) hz
theorem eu {x:V}(r:Vals [x] us):∃u,us=[u]/\RelV x u:=by
 cases r with
 |cons r1 r2=>cases r2;exact⟨_,rfl,r1⟩
theorem oV {x:V}(r:Vals [x,y] us):∃u w',us=[u,w']/\RelV x u/\RelV y w':=by
 cases r with
 |cons r1 r2=>
  cases r2 with
  |cons r3 r4=>cases r4;exact⟨_,_,rfl,r1,r3⟩
theorem qJ (hc:X.A.handled=none):dg X (.builtin "max") (λ xs H Q=>∃i j,xs=[.int i,.int j]/\Q (.int (if j>i then j else i)) H):=by
 intro EN s σ H xs us Q I r h;obtain⟨i,j,rfl,q⟩:=h;obtain⟨u,w',rfl,⟨t,rfl⟩,⟨t',rfl⟩⟩:=oV r;refine max_two_ints hc λ h' tk k=>⟨_,H,I.kept k,?_,q⟩
 by_cases hj:j>i
 ·rw [AV hj,AV hj];exact⟨_,rfl⟩
 ·rw [AO hj,AO hj];exact⟨_,rfl⟩
theorem eZ:dg X (.type "int") (λ xs H Q=>(∃i,xs=[.int i]/\Q (.int i) H)\/∃k,xs=[.bl k]/\Q (.int (if k then 1 else 0)) H):=by
 intro EN s σ H xs us Q I r h;rcases h with⟨i,rfl,q⟩|⟨k,rfl,q⟩
 ·obtain⟨u,rfl,t,rfl⟩:=eu r;exact call_int_int ⟨.int i,H,I,⟨_,rfl⟩,q⟩
 ·obtain⟨u,rfl,r1⟩:=eu r;cases r1;exact call_int_bool ⟨.int (if k then 1 else 0),H,I.tok _,⟨_,rfl⟩,q⟩
theorem kB:dg X (.type "str") (λ xs H Q=>∃i,xs=[.int i]/\i.natAbs.log2<1920/\Q (.str (toString i)) H):=by
 intro EN s σ H xs us Q I r h;obtain⟨i,rfl,hz,q⟩:=h;obtain⟨u,rfl,t,rfl⟩:=eu r;exact PySem.P.str_of_int hz ⟨.str _,H,I.tok _,⟨_,rfl⟩,q⟩
theorem lN:dg X (.builtin "divmod") (λ xs H Q=>∃i j,xs=[.int i,.int j]/\yN i j/\∀p,H p=none->Q (.ref p) (upd H p (.tup [.int (i/j),.int (i%j)]))):=by
 intro EN s σ H xs us Q I r h;obtain⟨i,j,rfl,⟨h1,h2⟩,q⟩:=h;obtain⟨u,w',rfl,⟨t,rfl⟩,⟨t',rfl⟩⟩:=oV r;refine divmod_int Z4 ?_ (.inl (CB Z4));rw [CS i Z4,D7 i Z4];have hn:H s.heap.objs.size=none:=I.hok.fresh (Al _);refine⟨.ref s.heap.objs.size,_,?_,rfl,q _ hn⟩;refine I.laid (λ b o e=>Ag _ e) (Al _) ⟨by simp only [Az,Da];rw [sizeLine_eq];decide,[.int (i/j) s.toks,.int (i%j) (s.toks+1)],.cons ⟨_,rfl⟩ (.cons ⟨_,rfl⟩ .nil),?_⟩;exact⟨_,AF s.heap rfl,rfl,0,rfl⟩
end
structure ObjM (h:EJ)(x dx C:EC)(mA:Str->Option ED):Prop where
 obj:h.get? x=some (instObj C dx)
 ns:h.Ns1 dx mA
 ne:dx≠x
theorem qQ (n:h.Ns1 dx mA):∃od,h.get? dx=some od/\∀name,lookIn name od=some (mA name):=by
 obtain⟨o,es,ep,ho,hd,hk,_,hm⟩:=n;refine⟨o,ho,λ name=>?_⟩;have e:=hm name;unfold nsFind findBy at e;rw [<-Array.find?_toList] at e;unfold lookIn;rw [hd];dsimp only
 split
 ·rename_i y q
  rw [q] at e;exact AB some e
 ·rename_i q
  rw [q] at e;have a:es.toList.any (·.refKey)=false:=by
   rw [List.any_eq_false];intro y hy;obtain⟨z,t,hkey⟩:=hk y (Array.mem_toList_iff.mp hy);simp [DictEntry.refKey,hkey]
  have a':¬es.toList.any (·.refKey)=true:=by rw [a];exact Av
  rw [AO a'];exact AB some e
theorem ObjM.look {x:EC}(I:ObjM h x dx C mA):∃od,InstAt h x (instObj C dx) C (some od)/\∀name,lookIn name od=some (mA name):=
 let⟨od,ho,hl⟩:=qQ I.ns
 ⟨od,⟨I.obj,rfl,rfl,ho⟩,hl⟩
section
variable {prog:EF}{w:EG}{A:EI}{E:ED -> EE -> Prop}{s:EE}{K:Frag}{x dx C f:EC}{mA:Str -> Option ED}{name:Str}{v:ED}
theorem uL {expr:Bool}{Q:ED->EE->Prop}(X:K.In s.heap)(I:ObjM s.heap x dx C mA)(hg:plainGet K C name=true)(hh:hasDictIn K C=true)
  (ha:findIn K (.ref C) name=some none) (hv:mA name=some v) (hv':handedIn v=true) (h:Q v {s with toks:=s.toks+1}):
  wpAny (model prog w) A (getAttr (.ref x) name expr) Q E s:=by
 obtain⟨od,J,hl⟩:=I.look;exact PySem.W.get_value X J (DY hg).1 (PySem.W.findObj_own hh ha rfl (by rw [hl,hv])) hv' h
theorem sf {pl:Sem Bool}{Q:ED×List ED->EE->Prop}(X:K.In s.heap)(I:ObjM s.heap x dx C mA)(hg:plainGet K C name=true)
  (hf:findIn K (.ref C) name=some (some (.ref f))) (ht:isFn K (.ref f)=true) (hv:mA name=none) (h:Q (.ref f,[.ref x]) s):
  wpAny (model prog w) A (getMethod (.ref x) name pl) Q E s:=by
 obtain⟨od,J,hl⟩:=I.look;exact PySem.W.method_fn X J (DY hg).1 (DY hg).2 hf (Eg.mp ht) (by show(lookIn name od).map (·.isSome)=some false;rw [hl,hv];rfl) h
theorem vz {ns:List Str}(X:K.In s.heap)(I:ObjM s.heap x dx C mA)
  (hs:findIn K (.ref C) "__setattr__"=some (some (.builtin "object.__setattr__"))) (hp:plainOver K C=true) (ht:takerIn K C name=some none) (hh:hasDictIn K C=true)
  (hw:PySem.Within mA ns) (hsz:ns.length≤sizeLine)
  (h:∀h',ObjM h' x dx C (λ y=>if y=name then some v else mA y)->Heap.SameBut dx s.heap h'->Q () {s with heap:=h',toks:=s.toks+2}):
  wpAny (model prog w) A (setAttr (.ref x) name v) Q E s:=by
 obtain⟨od,J,hl⟩:=I.look;refine PySem.W.set_plain X J hs (PySem.W.osa_open (s:={s with toks:=s.toks+1}) (r:=none) X J hp ht λ b=>?_);obtain⟨cd,hc,hd'⟩:=DE hh;have hx:s.heap.get? x=some ⟨.ref C,some dx,.plain,#[]⟩:=I.obj;refine Aa (Am (Aa (Aa (wpAny_loadPart hx (Aa (Looks.here (s:={s with toks:=s.toks+1}) (PySem.W.looks_clsIn X hc) ?_))))));rw [hd'];refine Am (a:=some dx) (Aa (Am (Aa ?_)));refine wpAny_nsSet1 (s:={s with toks:=s.toks+1}) I.ns λ h' hn2 hs2=>?_
 obtain⟨oD,esD,epD,hoD,hdD,hcD⟩:=hn2.count (PySem.Within.cons name v hw);refine Aa (wpAny_lookBehind hoD (by rw [hdD];exact pastItsLine_dict (AT hcD (by rw [Az];exact Nat.add_le_add_right hsz 1))) ?_);exact Am (h _ ⟨(hs2.2 _ (B0 I.ne)).trans I.obj,hn2,I.ne⟩ hs2)
theorem uf {R:Result->EE->Prop}{vs:List ED}(X:K.In s.heap)(hm:makesIn K C=true)
  (hi:findIn K (.ref C) "__init__"=some (some (.ref f))) (hf:typeIn K (.ref f)=some (.type "function"))
  (h:codeAny (model prog w) (A.under (.builtin "type.__call__" ⟨.ref C::vs,kw⟩)) (.call (.ref f) ⟨.ref (s.heap.objs.size+1)::vs,kw⟩) (InitBack (s.heap.objs.size+1) R)
   {s with heap:=(s.heap.push emptyDict).push (instObj C s.heap.objs.size)}):
  codeAny (model prog w) A (.call (.ref C) ⟨vs,kw⟩) R s:=by
 obtain⟨hh,g,d,t,os⟩:=s;exact make_core (Es X hm) (CT X hi) (λ self=>PySem.W.bind_fn X self hf) (.inl rfl) h
theorem qV {R:Result->EE->Prop}(X:K.In s.heap)(hm:makesIn K C=true)
  (hi:findIn K (.ref C) "__init__"=some (some (.builtin "object.__init__")))
  (hb:∀self,Looks (model prog w) s.heap (bindSpecial (.builtin "object.__init__") self) (.builtin "object.__init__",[self]))
  (h:codeAny (model prog w) (A.under (.builtin "type.__call__" ⟨[.ref C],[]⟩)) (.call (.builtin "object.__init__") ⟨[.ref (s.heap.objs.size+1)],[]⟩) (InitBack (s.heap.objs.size+1) R)
   {s with heap:=(s.heap.push emptyDict).push (instObj C s.heap.objs.size)}):
  codeAny (model prog w) A (.call (.ref C) ⟨[],[]⟩) R s:=by
 obtain⟨hh,g,d,t,os⟩:=s;exact make_core (Es X hm) (CT X hi) hb (.inr ⟨rfl,rfl⟩) h
end
noncomputable def bQ (f:Str) (v:V):List (Str×V)->List (Str×V)
 | []=>[(f,v)]
 |(g,x)::r=>if g=f then(g,v)::r else(g,x)::bQ f v r
theorem aO (f g:Str)(v:V):∀fs:List (Str×V),(bQ f v fs).lookup g=if g=f then some v else fs.lookup g
 | []=>by
  show List.lookup g [(f,v)]=_;by_cases h:g=f
  ·have hb:(g==f)=true:=Eg.mpr h;simp only [List.lookup,hb,AV h]
  ·have hb:(g==f)=false:=Cb.mpr h;simp only [List.lookup,hb,AO h]
 |(k,x)::r=>by
  have ih:=aO f g v r;rw [show bQ f v ((k,x)::r)=(if k=f then(k,v)::r else(k,x)::bQ f v r) from rfl];by_cases hk:k=f
  ·rw [AV hk];by_cases h:g=k
   ·have hb:(g==k)=true:=Eg.mpr h;simp only [List.lookup,hb,AV (h.trans hk)]
   ·have hb:(g==k)=false:=Cb.mpr h;simp only [List.lookup,hb,AO (λ e:g=f=>h (e.trans hk.symm))]
  ·rw [AO hk];by_cases h:g=k
   ·have hb:(g==k)=true:=Eg.mpr h;simp only [List.lookup,hb,AO (λ e:g=f=>hk (h.symm.trans e))]
   ·have hb:(g==k)=false:=Cb.mpr h;simp only [List.lookup,hb];exact ih
theorem gw (f:Str)(v:V):∀fs:List (Str×V),f∈(bQ f v fs).map (·.1)/\∀g,g∈fs.map (·.1)->g∈(bQ f v fs).map (·.1)
 | []=>⟨by simp [bQ],λ g h=>by simp at h⟩
 |(k,x)::r=>by
  obtain⟨i1,i2⟩:=gw f v r;rw [show bQ f v ((k,x)::r)=(if k=f then(k,v)::r else(k,x)::bQ f v r) from rfl];by_cases hk:k=f
  ·rw [AV hk];subst hk;exact⟨Z6,λ g h=>by simpa using h⟩
  ·rw [AO hk];refine⟨?_,λ g h=>?_⟩
   ·rw [AJ];exact AC _ i1
   ·rw [AJ] at h ⊢;rcases Bc.mp h with e|e
    ·exact Bc.mpr (.inl e)
    ·exact AC _ (i2 g e)
theorem gY (f:Str)(v:V):∀fs:List (Str×V),(bQ f v fs).length≤fs.length+1
 | []=>by simp [bQ]
 |(k,x)::r=>by
  have ih:=gY f v r;rw [show bQ f v ((k,x)::r)=(if k=f then(k,v)::r else(k,x)::bQ f v r) from rfl];by_cases hk:k=f
  ·rw [AV hk,Az,Az];exact Bz _ 1
  ·rw [AO hk,Az,Az];exact Nat.add_le_add_right ih 1
theorem RelO.some_of {o:Option ED}(r:RelO (some v) o):∃u,o=some u/\RelV v u:=by
 cases o with
 |none=>exact(show False from r).elim
 |some u=>exact⟨u,rfl,r⟩
theorem RelO.none_of {o:Option ED}(r:RelO none o):o=none:=by
 cases o with
 |none=>rfl
 |some u=>exact(show False from r).elim
theorem ra (r:RelV v u):handedIn u=true:=by
 cases v with
 |non=>cases(show u=Value.none from r);rfl
 |bl b=>cases(show u=Value.bool b from r);rfl
 |int i=>obtain⟨t,e⟩:=(show∃t,u=Value.int i t from r);cases e;rfl
 |str x=>obtain⟨t,e⟩:=(show∃t,u=Value.str x t from r);cases e;rfl
 |byt b=>obtain⟨t,e⟩:=(show∃t,u=Value.bytes b t from r);cases e;rfl
 |flt b=>obtain⟨t,e⟩:=(show∃t,u=Value.float b t from r);cases e;rfl
 |ref a=>cases(show u=Value.ref a from r);rfl
 |ty n=>cases(show u=Value.type n from r);rfl
section
variable {P:EF}{w:EG}{H H':Hp}{h h':EJ}{a C dx:EC}{fs fs':List (Str × V)}
theorem hV (hok:HOk P w H h)(e:H a=some (.ins C dx fs)):∃mA,ObjM h a dx C mA/\(∀f,RelO (fs.lookup f) (mA f))/\PySem.Within mA (fs.map (·.1))/\fs.length≤1000/\H dx=some (.own a):=by
 obtain⟨d,z,ne,ob,mA,n,r,q⟩:=(show ObjOk P w H h a (.ins C dx fs) from hok a _ e);exact⟨mA,⟨ob,n,ne⟩,r,q,z,d⟩
end
structure Cls (K:Frag)(C:EC):Prop where
 pg:plainGet K C Str.empty=true
 hd:hasDictIn K C=true
 po:plainOver K C=true
 sa:findIn K (.ref C) "__setattr__"=some (some (.builtin "object.__setattr__"))
theorem Cls.get (c:Cls K C)(f:Str):plainGet K C f=true:=c.pg
def NoAttr (K:Frag)(C:EC)(f:Str):Prop:=findIn K (.ref C) f=some none
theorem NoAttr.taker {f:Str}(n:NoAttr K C f):takerIn K C f=some none:=by
 unfold takerIn;rw [show findIn K (.ref C) f=some none from n];rfl
structure Meth (K:Frag)(C:EC)(m:Str)(f:EC):Prop where
 at_:findIn K (.ref C) m=some (some (.ref f))
 fn:isFn K (.ref f)=true
 kp:keepIn K (.ref f)=true
section
variable {X:Cx}{EN:List (EC × EL)}{σ:St}{H:Hp}{s:EE}{a C dx:EC}{fs:List (Str × V)}{f:Str}{v:V}{A:EI}{E:ED -> EE -> Prop}
theorem om {b:Bool}{Q:ED->EE->Prop}(I:Inv X EN σ H s)(e:H a=some (.ins C dx fs))(c:Cls X.K C)(n:NoAttr X.K C f)(l:fs.lookup f=some v)
  (h:∀u s',Inv X EN σ H s'->RelV v u->Q u s'):wpAny (model X.prog X.w) A (getAttr (.ref a) f b) Q E s:=by
 obtain⟨mA,O,r,_,_,_⟩:=hV I.hok e;obtain⟨u,hu,ru⟩:=RelO.some_of (v:=v) (o:=mA f) (by rw [<-l];exact r f);exact uL I.kIn O (c.get f) c.hd n hu (ra ru) (h u _ (I.tok _) ru)
theorem fk {m:Str}{g:EC}{pl:Sem Bool}{Q:ED×List ED->EE->Prop}(I:Inv X EN σ H s)(e:H a=some (.ins C dx fs))(c:Cls X.K C)(k:Meth X.K C m g)(l:fs.lookup m=none)
  (h:Q (.ref g,[.ref a]) s):wpAny (model X.prog X.w) A (getMethod (.ref a) m pl) Q E s:=by
 obtain⟨mA,O,r,_,_,_⟩:=hV I.hok e;have hn:mA m=none:=RelO.none_of (by rw [<-l];exact r m);exact sf I.kIn O (c.get m) k.at_ k.fn hn h
theorem nU (I:Inv X EN σ H s)(e:H a=some (.ins C dx fs))(c:Cls X.K C)(n:NoAttr X.K C f)(hl:fs.length<1000)(ry:RelV y u)
  (h:∀s',Inv X EN σ (upd H a (.ins C dx (bQ f y fs))) s'->Q () s'):wpAny (model X.prog X.w) A (setAttr (.ref a) f u) Q E s:=by
 obtain⟨mA,O,r,wi,_,ho⟩:=hV I.hok e;have hz:(fs.map (·.1)).length≤sizeLine:=by rw [z7,sizeLine_eq];exact AT (B8 hl) Z9
 refine vz I.kIn O c.sa c.po n.taker c.hd wi hz λ h' O' sb=>h _ ?_
 have hd:∃o,h'.get? dx=some o:=let⟨o,_,_,e',_⟩:=O'.ns;⟨o,e'⟩;refine I.write (x:=a) (e:=dx) (by rw [e];exact True.intro) (.inr ho) (λ b q hb z=>(sb.2 b hb).trans z) hd ?_;refine⟨by rw [av O.ne];exact ho,?_,O.ne,O'.obj,_,O'.ns,λ g=>?_,λ g hg=>?_⟩
 ·have:=gY f y fs;exact AT this hl
 ·show RelO ((bQ f y fs).lookup g) (if g=f then some u else mA g);rw [aO];by_cases q:g=f
  ·rw [AV q,AV q];exact ry
  ·rw [AO q,AO q];exact r g
 ·by_cases q:g=f
  ·rw [q];exact(gw f y fs).1
  ·refine(gw f y fs).2 g (wi g λ z=>hg ?_);show(if g=f then some u else mA g)=none;rw [AO q];exact z
theorem Inv.made (I:Inv X EN σ H s):Inv X EN σ (upd (upd H s.heap.objs.size (.own (s.heap.objs.size+1))) (s.heap.objs.size+1) (.ins C s.heap.objs.size []))
  {s with heap:=(s.heap.push emptyDict).push (instObj C s.heap.objs.size)}:=by
 have e1:(s.heap.push emptyDict).get? s.heap.objs.size=some emptyDict:=AF s.heap rfl;have e2:((s.heap.push emptyDict).push (instObj C s.heap.objs.size)).get? (s.heap.objs.size+1)=some (instObj C s.heap.objs.size):=by
  have:=AF (s.heap.push emptyDict) (o:=instObj C s.heap.objs.size) rfl
  rwa [Cz] at this
 have e3:(s.heap.push emptyDict).Ns s.heap.objs.size (λ _=>none):=⟨emptyDict,#[],_,e1,rfl,(λ e he=>absurd he Z6),λ _=>rfl⟩;have I1:=I.laid (a:=s.heap.objs.size) (o:=.own (s.heap.objs.size+1)) (h':=s.heap.push emptyDict) (t':=s.toks) (λ b u q=>Ag _ q) (Al _) ⟨_,e1⟩;refine I1.laid (a:=s.heap.objs.size+1) (o:=.ins C s.heap.objs.size []) (t':=s.toks) (λ b u q=>Ag _ q) (CJ (Cz _ _)) ?_;have ne:s.heap.objs.size≠s.heap.objs.size+1:=A2 (Et _);refine⟨by rw [av ne,af],AZ _,ne,e2,λ _=>none,(Heap.Ns1.of_empty e3).at λ o q=>Ag _ q,λ _=>True.intro,λ y hy=>absurd rfl hy⟩
theorem attr_of {prog:EF}{env:Env}{pos:Pos}{Q:ED->EE->Prop}(hb:attributeBase e f env (eval e env)=eval e env)
  (h:wpAny (model prog w) A (eval e env) (λ o s₁=>wpAny (model prog w) A (getAttr o f true) Q E s₁) E s):wpAny (model prog w) A (eval (.Attribute e f pos) env) Q E s:=
 Attribute_any_ h (by rw [arm_eval_Attribute,hb])
end
def wI (K:Frag)(ta:TE)(f:Str):TE:=λ σ H Q=>ta σ H λ x H1=>∃a C dx fs v,x=.ref a/\H1 a=some (.ins C dx fs)/\Cls K C/\NoAttr K C f/\fs.lookup f=some v/\Q v H1
def zE (K:Frag)(ta tv:TE)(f:Str):TS:=λ D σ H=>tv σ H λ y H1=>ta σ H1 λ x H2=>∃a C dx fs,x=.ref a/\H2 a=some (.ins C dx fs)/\Cls K C/\NoAttr K C f/\fs.length<1000/\
 D.nx σ (upd H2 a (.ins C dx (bQ f y fs)))
section
variable {X:Cx}{o e value:EK}{f:Str}{pos pos' tpos:Pos}{ta tv:TE}
theorem cw (he:PE X e ta)(hb:attributeBase e f X.env (eval e X.env)=eval e X.env):PE X (.Attribute e f pos) (wI X.K ta f):=by
 intro EN s σ H Q I h;refine attr_of hb (thn (he EN s σ H _ I h) λ u s1 z9=>?_);obtain⟨x,H1,I1,rx,a,C,dx,fs,v,ex,ea,c,n,l,q⟩:=z9;subst ex;obtain rfl:u=Value.ref a:=rx;exact om I1 ea c n l λ u' s2 I2 ru=>⟨v,H1,I2,ru,q⟩
theorem dI (ha:PE X o ta)(hv:PE X value tv)(hs:swapsWith value (some (.Attribute o f pos')) pos.line X.env=pure false):PS X (.Assign [.Attribute o f pos'] value pos) (zE X.K ta tv f):=by
 intro EN s σ H D I h;refine plainObj_wpAny_Assign_Attribute (thn (hv EN s σ H _ I h) λ u s1 ⟨y,H1,I1,ry,q⟩=>thn (ha EN s1 σ H1 _ I1 q) λ ov s2 z9=>?_) hs;obtain⟨x,H2,I2,rx,a,C,dx,fs,ex,ea,c,n,l,q2⟩:=z9;subst ex;obtain rfl:ov=Value.ref a:=rx;exact nU I2 ea c n l ry λ s3 I3=>⟨σ,_,I3,q2⟩
end
section
variable {X:Cx}{EN:List (EC × EL)}{σ:St}{H:Hp}{s:EE}{A:EI}{E:ED -> EE -> Prop}{Q:ED -> EE -> Prop}{c:ED}{b:Bool}
inductive TyOf (K:Frag) (H:Hp):V->ED->Prop where
 |non:TyOf K H .non (.type "NoneType")
 |bl (x:Bool):TyOf K H (.bl x) (.type "bool")
 |int (i:Int):TyOf K H (.int i) (.type "int")
 |str (x:Str):TyOf K H (.str x) (.type "str")
 |flt (x:UInt64):TyOf K H (.flt x) (.type "float")
 |lst {a:EC} {xs:List V} (e:H a=some (.lst xs)):TyOf K H (.ref a) (.type "list")
 |frz {a:EC} {o:EL} {xs:List V} (e:H a=some (.frz o (.lst xs))):TyOf K H (.ref a) (.type "list")
 |tup {a:EC} {xs:List V} (e:H a=some (.tup xs)):TyOf K H (.ref a) (.type "tuple")
 |dK {a:EC} {kvs:List (Key×V)} (e:H a=some (.dK kvs)):TyOf K H (.ref a) (.type "dict")
 |dT {a:EC} {kvs:List (List Key×V)} (e:H a=some (.dT kvs)):TyOf K H (.ref a) (.type "dict")
 |ins {a C dx:EC} {fs:List (Str×V)} (e:H a=some (.ins C dx fs)) (cl:Cls K C) (ha:findIn K (.ref C) "__class__"=some (some (.builtin "object.__class__")))
   (hn:specialIn K (.builtin "object.__class__") "__get__"=some (some (.builtin "getset_descriptor.__get__"))) (htk:takesIn K (.builtin "object.__class__")=some true)
   (hm:mroIn K C (.type "object")=some true):TyOf K H (.ref a) (.ref C)
theorem qw {x:V}{t:ED}(I:Inv X EN σ H s)(rx:RelV x u)(ty:TyOf X.K H x t)(e:kitOne X.K t c=some b)(h:∀tk,Q (.bool b) {s with toks:=tk}):
  wpAny (model X.prog X.w) A (call (.builtin "isinstance") [u,c]) Q E s:=by
 cases ty with
 |non=>cases(show u=Value.none from rx);exact Bw PySem.W.kitx_none I.kIn True.intro e (λ z=>nomatch z) h
 |bl y=>cases(show u=Value.bool y from rx);exact Bw PySem.W.kitx_bool I.kIn True.intro e (λ z=>nomatch z) h
 |int i=>obtain⟨t,q⟩:=(show∃t,u=Value.int i t from rx);cases q;exact Bw PySem.W.kitx_int I.kIn True.intro e (λ z=>nomatch z) h
 |str y=>obtain⟨t,q⟩:=(show∃t,u=Value.str y t from rx);cases q;exact Bw PySem.W.kitx_str I.kIn True.intro e (λ z=>nomatch z) h
 |flt y=>obtain⟨t,q⟩:=(show∃t,u=Value.float y t from rx);cases q;exact Bw PySem.W.kitx_float I.kIn True.intro e (λ z=>nomatch z) h
 | @lst a xs ea=>
  cases(show u=Value.ref a from rx);obtain⟨_,_,n,_,h1⟩:=(show ObjOk X.prog X.w H s.heap a (.lst xs) from I.hok a _ ea);exact Bw kitx_list I.kIn ⟨_,h1,rfl⟩ e (λ z=>nomatch z) h
 | @frz a ob xs ea=>
  cases(show u=Value.ref a from rx);obtain⟨_,_,_,n,_,h1⟩:=(show ObjOk X.prog X.w H s.heap a (.frz ob (.lst xs)) from I.hok a _ ea);exact Bw kitx_list I.kIn ⟨_,h1,rfl⟩ e (λ z=>nomatch z) h
 | @tup a xs ea=>
  cases(show u=Value.ref a from rx);obtain⟨_,_,_,p⟩:=(show ObjOk X.prog X.w H s.heap a (.tup xs) from I.hok a _ ea);obtain⟨o,h1,h2,_⟩:=p;exact Bw PySem.W.kitx_tuple I.kIn ⟨o,h1,h2⟩ e (λ z=>nomatch z) h
 | @dK a kvs ea=>
  cases(show u=Value.ref a from rx);obtain⟨_,_,vs,_,p⟩:=(show ObjOk X.prog X.w H s.heap a (.dK kvs) from I.hok a _ ea);obtain⟨o,es,ep,h1,h2,_⟩:=p;exact Bw kitx_dict I.kIn ⟨o,h1,h2.1⟩ e (λ z=>nomatch z) h
 | @dT a kvs ea=>
  cases(show u=Value.ref a from rx);obtain⟨_,_,xs,_,o,es,ep,h1,h2,_⟩:=(show ObjOk X.prog X.w H s.heap a (.dT kvs) from I.hok a _ ea);exact Bw kitx_dict I.kIn ⟨o,h1,h2.1⟩ e (λ z=>nomatch z) h
 | @ins a C dx fs ea cl ha hn htk hm=>
  cases(show u=Value.ref a from rx);obtain⟨mA,O,_⟩:=hV I.hok ea;obtain⟨od,J,_⟩:=O.look;exact Bw (PySem.W.kitx_own (cl.get _) cl.hd ha hn htk hm) I.kIn J e (λ z=>nomatch z) h
end
structure Room (k:Nat)(A:EI):Prop where
 hd:30≤k->A.handled=none
 dp:A.depth+3*k+5<recursionLimit
 un:A.units+16*k+200<cLine
 gd:A.guards=some []
theorem Room.mono {k:Nat}(r:Room k A)(h:j≤k):Room j A:=⟨λ z=>r.hd (AT z h),by have:=r.dp;lia,by have:=r.un;lia,r.gd⟩
theorem Room.deeper {k:Nat}(r:Room (k+1) A)(env:Env):Room k (A.deeper env):=
 ⟨λ z=>r.hd (Dp z),by have:=r.dp;show A.depth+1+3*k+5<_;lia,by have:=r.un;show A.units+3+16*k+200<_;lia,r.gd⟩
theorem oF:(A.under (.builtin "type.__call__" ⟨.ref C::us,kw⟩)).depth=A.depth+1:=by
 first|rfl|simp [Around.under,Code.weight,Code.isCreation,Code.isGuard,Code.isCaller,Code.frames,Code.isFrame,guardIds]
theorem ow:(A.under (.builtin "type.__call__" ⟨.ref C::us,kw⟩)).units=A.units+1:=by
 first|rfl|simp [Around.under,Code.cUnits,Code.frames,Code.isFrame]
theorem make_guards:(A.under (.builtin "type.__call__" ⟨.ref C::us,kw⟩)).guards=A.guards:=by
 first|rfl|simp [Around.under,Code.guards,Code.isGuard,guardIds,pushGuards]
theorem Room.make {k:Nat}(r:Room (k+1) A)(C:EC)(us:List ED)(kw:List (Str×ED)):Room k (A.under (.builtin "type.__call__" ⟨.ref C::us,kw⟩)):=
 ⟨λ z=>r.hd (Dp z),by have:=r.dp;rw [oF];lia,by have:=r.un;rw [ow];lia,make_guards.trans r.gd⟩
theorem Room.depth {k:Nat}(r:Room k A):A.depth<recursionLimit:=by have:=r.dp;lia
theorem Room.units {k:Nat}(r:Room k A):A.units+64<cLine:=by have:=r.un;lia
def tNil:TA:=λ _ H Q=>Q [] H
def tCons (ta:TE)(tr:TA):TA:=λ σ H Q=>ta σ H λ x H1=>tr σ H1 λ xs H2=>Q (x::xs) H2
section
variable {X:Cx}{e:EK}{es:List EK}{te:TE}{t:TA}{pos:Pos}
theorem ac:PA X [] tNil:=λ _ _ _ _ H Q I h=>Eh ⟨[],H,I,.nil,h⟩
theorem aa (ha:PE X e te)(hr:PA X es t)(hs:autoParam (starEach (e::es) X.env=(false,eval e X.env)::starEach es X.env) Z0):PA X (e::es) (tCons te t):=by
 intro pos EN s σ H Q I h;rw [hs];show wpAny _ _ (spliced ((false,eval e X.env)::backTo pos (starEach es X.env))) _ _ s;refine Eb (thn (ha EN s σ H _ I h) λ u s1 z9=>?_);obtain⟨x,H1,I1,r1,q1⟩:=z9;exact thn (hr pos EN s1 σ H1 _ I1 q1) λ us s2 z9=>by obtain⟨xs,H2,I2,r2,q2⟩:=z9;exact⟨x::xs,H2,I2,.cons r1 r2,q2⟩
def y3 (t:TA):TE:=λ σ H Q=>t σ H λ xs H1=>xs.length≤sizeLine/\∀p,H1 p=none->Q (.ref p) (upd H1 p (.tup xs))
def tLst (t:TA):TE:=λ σ H Q=>t σ H λ xs H1=>xs.length≤sizeLine/\∀p,H1 p=none->Q (.ref p) (upd H1 p (.lst xs))
theorem bK {x1}(h:PA X es t):PE X (.Tuple es x1 pos) (y3 t):=by
 intro EN s σ H Q I hq;refine wpAny_Tuple_spliced (thn (h pos EN s σ H _ I hq) λ us s1 ⟨xs,H1,I1,r,z,q⟩=>⟨by rw [<-r.length];exact z,?_⟩);have hf:H1 s1.heap.objs.size=none:=I1.hok.fresh (Al _);refine⟨.ref s1.heap.objs.size,upd H1 s1.heap.objs.size (.tup xs),I1.laid (t':=s1.toks) (λ b u e=>Ag _ e) (Al _) ?_,rfl,q _ hf⟩;exact⟨z,us,r,⟨_,AF _ rfl,rfl,_,rfl⟩⟩
theorem aD (h:PA X es t):PE X (.List es pos) (tLst t):=by
 intro EN s σ H Q I hq;refine wpAny_List_spliced (thn (h pos EN s σ H _ I hq) λ us s1 ⟨xs,H1,I1,r,z,q⟩=>⟨by rw [<-r.length];exact z,?_⟩);have hf:H1 s1.heap.objs.size=none:=I1.hok.fresh (Al _);refine⟨.ref s1.heap.objs.size,upd H1 s1.heap.objs.size (.lst xs),I1.laid (t':=s1.toks) (λ b u e=>Ag _ e) (Al _) ?_,rfl,q _ hf⟩;exact⟨z,us,0,r,AF _ rfl⟩
end
abbrev Sp:=List V->Hp->VK->XK->Prop
abbrev CXT:=List Env->Hp->EE->XK->ED->EE->Prop
structure Env0 (P:EF)(w:EG)(K:Frag)(mg:Str->Option ED)(base:EJ)(A:EI)(outer:List Env)(s:EE)(H:Hp):Prop where
 frames:A.frames=some outer
 mod:Mod K mg base
 bs:∀b o,base.get? b=some o->s.heap.get? b=some o/\H b=none
 bsz:base.objs.size≤s.heap.objs.size
 funs:s.heap.FunFrames base outer
 frf:∀b∈frs outer,H b=none
 hok:HOk P w H s.heap
 bare:AllBare s.gens
 qt:Qt A H
def CE (outer:List Env)(P:EF)(w:EG)(H:Hp)(s:EE)(Q:VK)(u:ED)(s':EE):Prop:=
 ∃v H',s'.os=s.os/\AllBare s'.gens/\Un (frs outer) [] H H' s.heap s'.heap/\HOk P w H' s'.heap/\RelV v u/\Q v H'
def CR (CX:CXT)(outer:List Env)(P:EF)(w:EG)(H:Hp)(s:EE)(Q:VK)(E:XK)(r:Result)(s':EE):Prop:=
 match r with
 | .ok (.ret u)=>CE outer P w H s Q u s'
 | .ok _=>False
 | .error e=>CX outer H s E e s'
structure FnOk (P:EF)(w:EG)(K:Frag)(mg:Str->Option ED)(base:EJ)(CX:CXT)(k:Nat)(f:EC)(fd:EH)(ps:List Str)(sp:Sp):Prop where
 len:∀vs H Q E,sp vs H Q E->vs.length=ps.length
 run:∀(A:EI) (outer:List Env) (s:EE) (H:Hp) (args:Args) (us:List ED) (vs:List V) (Q:VK) (E:XK),Room k A->Env0 P w K mg base A outer s H->BindsTo s fd args (ps.zip us)->Vals vs us->sp vs H Q E->
  codeAny (model P w) A (.call (.ref f) args) (CR CX outer P w H s Q E) s
theorem Env0.make (e:Env0 P w K mg base A outer s H)(C:EC)(us:List ED)(kw:List (Str×ED)):
  Env0 P w K mg base (A.under (.builtin "type.__call__" ⟨.ref C::us,kw⟩)) outer s H:=⟨by first|exact e.frames|(simpa [Around.under,Code.envs,Code.isFrame,pushEnvs] using e.frames),e.mod,e.bs,e.bsz,e.funs,e.frf,e.hok,e.bare,e.qt⟩
section
variable {X:Cx}{EN:List (EC × EL)}{σ:St}{H:Hp}{s s':EE}
theorem Inv.env0 (I:Inv X EN σ H s):Env0 X.prog X.w X.K X.mg X.base X.A X.stack s H:=
 ⟨I.ok.frames,I.ok.mod,I.bs,AT I.ok.bsz I.sz,I.stack,I.stkFree,I.hok,I.bare,I.qt⟩
theorem Inv.after {Q:VK}(I:Inv X EN σ H s)(h:CE X.stack X.prog X.w H s Q u s'):EP X EN σ Q u s':=by
 obtain⟨v,H',os,bare,un,hok,r,q⟩:=h;obtain⟨hh,g,d,t,os'⟩:=s';obtain rfl:os'=s.os:=os;exact⟨v,H',I.call (h':=hh) (g':=g) (d':=d) (t':=t) (ch:=[]) un hok bare (λ b z=>absurd z Z6),r,q⟩
end
def tCall (sp:Sp)(dvs:List V)(E:XK)(t:TA):TE:=λ σ H Q=>t σ H λ vs H1=>sp (vs++dvs) H1 Q E
def lm (C:EC)(m:Str)(sp:Sp)(dvs:List V)(E:XK)(ta:TE)(t:TA):TE:=λ σ H Q=>ta σ H λ x H1=>∃a dx fs,x=.ref a/\H1 a=some (.ins C dx fs)/\fs.lookup m=none/\
 t σ H1 λ vs H2=>sp (x::(vs++dvs)) H2 Q E
def zk (C:EC)(sp:Sp)(dvs:List V)(E:XK)(t:TA):TE:=λ σ H Q=>t σ H λ vs H1=>∀x dx,H1 x=none->H1 dx=none->dx≠x->
 sp (.ref x::(vs++dvs)) (upd (upd H1 dx (.own x)) x (.ins C dx [])) (λ v H2=>v=.non/\Q (.ref x) H2) E
def Binds (K:Frag)(fd:EH)(ps:List Str)(ds:List ED):Prop:=
 ∀(s:EE) (us:List ED),K.In s.heap->(us++ds).length=ps.length->BindsTo s fd ⟨us,[]⟩ (ps.zip (us++ds))
theorem Binds.all {fd:EH}(h:∀us:List ED,us.length=ps.length->bindArgs fd ⟨us,[]⟩=pure (ps.zip us)):Binds K fd ps []:=λ s us _ hl=>by
 rw [AQ] at hl ⊢;exact .of_eq (h us hl)
def cD (CX:CXT)(X:Cx)(E:XK):Prop:=∀(EN:List (EC×EL)) (σ:St) (H:Hp) (s:EE) (e:ED) (s':EE),Inv X EN σ H s->CX X.stack H s E e s'->X.xe e s'
section
variable {X:Cx}{CX:CXT}{k:Nat}{f C:EC}{fd:EH}{ps:List Str}{sp:Sp}{dvs:List V}{ds:List ED}{E:XK}{x m:Str}{p pos apos:Pos}{e o:EK}{es:List EK}{ta:TE}{t:TA}
theorem run_fn {Q:VK}(F:FnOk X.prog X.w X.K X.mg X.base CX k f fd ps sp)(hr:Room k X.A)(hb:Binds X.K fd ps ds)(hd:Vals dvs ds)(hx:cD CX X E)
  (I:Inv X EN σ H s) (r:Vals vs us) (h:sp (vs++dvs) H Q E):wpAny (model X.prog X.w) X.A (call (.ref f) us) (EP X EN σ Q) X.xe s:=by
 have r2:Vals (vs++dvs) (us++ds):=r.append hd;have hl:(us++ds).length=ps.length:=by rw [<-r2.length];exact F.len _ _ _ _ h
 refine wpAny_call (codeAny_mono (F.run X.A X.stack s H ⟨us,[]⟩ (us++ds) (vs++dvs) Q E hr I.env0 (hb s us I.kIn hl) r2 h) λ r s' hq=>?_);cases r with
 |error e=>exact hx EN σ H s e s' I hq
 |ok fl=>
  cases fl with
  |ret u=>exact I.after hq
  |next=>exact False.elim hq
  |brk=>exact False.elim hq
  |cont=>exact False.elim hq
theorem ai (F:FnOk X.prog X.w X.K X.mg X.base CX k f fd ps sp)(hr:Room k X.A)(hg:Gl X x)(hm:X.mg x=some (.ref f))(hk:keepIn X.K (.ref f)=true)(hb:Binds X.K fd ps ds)(hd:Vals dvs ds)(hx:cD CX X E)
  (ha:PA X (e::es) t) (hdb:autoParam ((x==("__debug__":Str))=false) ZZ) (he:autoParam (starEach (e::es) X.env=(false,eval e X.env)::starEach es X.env) Z0) (hpl:autoParam ((backTo pos (starEach es X.env)).any (·.1)=false) Z0):
  PE X (.Call (.Name x p) (e::es) [] pos) (tCall sp dvs E t):=by
 intro EN s σ H Q I h;refine BR (ld_glob I hg hm ?_ hdb);refine CF (h₀:=X.base) I.ok.mod.kin hk (thn (ha pos EN s σ H _ I h) λ us s1 ⟨vs,H1,I1,r,q⟩=>⟨I1.kIn,?_⟩) he hpl;exact run_fn F hr hb hd hx I1 r q
theorem ii (F:FnOk X.prog X.w X.K X.mg X.base CX k f fd ps sp)(hr:Room k X.A)(hg:Gl X x)(hm:X.mg x=some (.ref f))(hk:keepIn X.K (.ref f)=true)(hb:Binds X.K fd ps ds)(hd:Vals dvs ds)(hx:cD CX X E)
  (hdb:autoParam ((x==("__debug__":Str))=false) ZZ):PE X (.Call (.Name x p) [] [] pos) (tCall sp dvs E tNil):=by
 intro EN s σ H Q I h;refine BR (ld_glob I hg hm ?_ hdb);exact DZ I.kIn hk (run_fn (us:=[]) F hr hb hd hx I .nil h)
theorem cJ {pl:Sem Bool}(he:PE X o ta)(c:Cls X.K C)(hm:Meth X.K C m f)(F:FnOk X.prog X.w X.K X.mg X.base CX k f fd ps sp)(hr:Room k X.A)(hb:Binds X.K fd ps ds)(hd:Vals dvs ds)(hx:cD CX X E)(ha:PA X (e::es) t)
    (hst:autoParam (starEach (e::es) X.env=(false,eval e X.env)::starEach es X.env) Z0) (hpl:autoParam ((backTo pos (starEach es X.env)).any (·.1)=false) Z0)
    (ht:autoParam (eval (.Call (.Attribute o m apos) (e::es) [] pos) X.env=(do
      let ov<-eval o X.env
      standAt apos.atName
      let(f,first)<-holding [ov] (getMethod ov m pl)
      callWith pos f first (backTo pos (starEach (e::es) X.env)) (backToKw pos (keywordEach [] X.env)))) Z0):
    PE X (.Call (.Attribute o m apos) (e::es) [] pos) (lm C m sp dvs E ta t):=by
  intro EN s σ H Q I h
  refine DA (pl:=pl) (thn (he EN s σ H _ I h) λ u s1 z9=>?_) ht
  obtain⟨x,H1,I1,rx,a,dx,fs,ex,ea,l,q⟩:=z9
  subst ex
  obtain rfl:u=Value.ref a:=rx
  refine fk I1 ea c hm l ?_
  refine CF (first:=[.ref a]) (h₀:=X.base) I.ok.mod.kin hm.kp (thn (ha pos EN s1 σ H1 _ I1 q) λ us s2 ⟨vs,H2,I2,r,q2⟩=>⟨I2.kIn,?_⟩) hst hpl
  exact run_fn (us:=.ref a::us) (vs:=.ref a::vs) F hr hb hd hx I2 (.cons rfl r) q2
theorem du {pl:Sem Bool}(he:PE X o ta)(c:Cls X.K C)(hm:Meth X.K C m f)(F:FnOk X.prog X.w X.K X.mg X.base CX k f fd ps sp)(hr:Room k X.A)(hb:Binds X.K fd ps ds)(hd:Vals dvs ds)(hx:cD CX X E)
    (ht:autoParam (eval (.Call (.Attribute o m apos) [] [] pos) X.env=(do
      let ov<-eval o X.env
      standAt apos.atName
      let(f,first)<-holding [ov] (getMethod ov m pl)
      callWith pos f first (backTo pos (starEach [] X.env)) (backToKw pos (keywordEach [] X.env)))) Z0):
    PE X (.Call (.Attribute o m apos) [] [] pos) (lm C m sp dvs E ta tNil):=by
  intro EN s σ H Q I h
  refine DA (pl:=pl) (thn (he EN s σ H _ I h) λ u s1 z9=>?_) ht
  obtain⟨x,H1,I1,rx,a,dx,fs,ex,ea,l,q⟩:=z9
  subst ex
  obtain rfl:u=Value.ref a:=rx
  refine fk I1 ea c hm l ?_
  exact DZ (first:=[.ref a]) I1.kIn hm.kp (run_fn (us:=[.ref a]) (vs:=[.ref a]) F hr hb hd hx I1 (.cons rfl .nil) q)
structure Mk (K:Frag)(C f:EC):Prop where
 makes:makesIn K C=true
 init:findIn K (.ref C) "__init__"=some (some (.ref f))
 fn:isFn K (.ref f)=true
 kp:keepIn K (.ref C)=true
theorem ro {Q:VK}(M:Mk X.K C f)(F:FnOk X.prog X.w X.K X.mg X.base CX k f fd ps sp)(hr:Room (k+1) X.A)(hb:Binds X.K fd ps ds)(hd:Vals dvs ds)
  (hx:cD CX X E) (I:Inv X EN σ H s) (r:Vals vs us)
  (h:∀x dx,H x=none->H dx=none->dx≠x->sp (.ref x::(vs++dvs)) (upd (upd H dx (.own x)) x (.ins C dx [])) (λ v H2=>v=.non/\Q (.ref x) H2) E):
  wpAny (model X.prog X.w) X.A (call (.ref C) us) (EP X EN σ Q) X.xe s:=by
 have hq:=h (s.heap.objs.size+1) s.heap.objs.size (I.hok.fresh (Ej _)) (I.hok.fresh (Al _)) (A2 (Et _));have I2:=Inv.made (C:=C) I;have r2:Vals (V.ref (s.heap.objs.size+1)::(vs++dvs)) (Value.ref (s.heap.objs.size+1)::(us++ds)):=.cons rfl (r.append hd);have hl:(Value.ref (s.heap.objs.size+1)::us++ds).length=ps.length:=by
  have e:=r2.length;rw [F.len _ _ _ _ hq] at e;exact e.symm
 refine wpAny_call (uf (f:=f) I.kIn M.makes M.init (Eg.mp M.fn) (codeAny_mono (F.run _ X.stack _ _ ⟨Value.ref (s.heap.objs.size+1)::us,[]⟩ (Value.ref (s.heap.objs.size+1)::(us++ds)) _ _ E (hr.make C us [])
  (I2.env0.make C us []) (hb _ (Value.ref (s.heap.objs.size+1)::us) I2.kIn hl) r2 hq) λ r s' hq'=>?_))
 cases r with
 |error e=>exact hx EN σ _ _ e s' I2 hq'
 |ok fl=>
  cases fl with
  |ret u=>
   obtain⟨v,H',I3,rv,ev,q3⟩:=I2.after hq';subst ev;exact⟨rv,⟨V.ref (s.heap.objs.size+1),H',I3,rfl,q3⟩⟩
  |next=>exact False.elim hq'
  |brk=>exact False.elim hq'
  |cont=>exact False.elim hq'
theorem fZ (M:Mk X.K C f)(F:FnOk X.prog X.w X.K X.mg X.base CX k f fd ps sp)(hr:Room (k+1) X.A)(hg:Gl X x)(hm:X.mg x=some (.ref C))(hb:Binds X.K fd ps ds)(hd:Vals dvs ds)(hx:cD CX X E)
  (ha:PA X (e::es) t) (hdb:autoParam ((x==("__debug__":Str))=false) ZZ) (he:autoParam (starEach (e::es) X.env=(false,eval e X.env)::starEach es X.env) Z0) (hpl:autoParam ((backTo pos (starEach es X.env)).any (·.1)=false) Z0):
  PE X (.Call (.Name x p) (e::es) [] pos) (zk C sp dvs E t):=by
 intro EN s σ H Q I h;refine BR (ld_glob I hg hm ?_ hdb);refine CF (h₀:=X.base) I.ok.mod.kin M.kp (thn (ha pos EN s σ H _ I h) λ us s1 ⟨vs,H1,I1,r,q⟩=>⟨I1.kIn,?_⟩) he hpl;exact ro M F hr hb hd hx I1 r q
end
section
variable {X:Cx}{CX:CXT}{k:Nat}{f C:EC}{fd:EH}{ps ks:List Str}{sp:Sp}{E:XK}{x m:Str}{p pos apos kpos:Pos}{e o:EK}{es:List EK}{kws:List Keyword}{te ta:TE}{t tk:TA}{nm:Option Str}
variable {g:List ED -> List ED -> List ED}{gV:List V -> List V -> List V}
end
structure FnScope (N P:List Str)(sc:Scope):Prop where
 kind:sc.kind=.function
 co:sc.isCoroutine=false
 gen:sc.isGenerator=false
 nd:N.Nodup
 pre:N.take P.length=P
 par:∀x∈P,sc.names.lookup x=some .local\/sc.names.lookup x=some .cell
 nofree:∀y∈sc.names,y.2≠ .free
def scB (N P:List Str)(c:Scope):Bool:=decide (c.kind=.function)&& !c.isCoroutine&& !c.isGenerator&&decide N.Nodup&&decide (N.take P.length=P)&&P.all (λ x=>decide (c.names.lookup x=some .local\/c.names.lookup x=some .cell))&&c.names.all λ y=>decide (y.2≠.free)
theorem scK {P:List Str}{c:Scope}(h:scB N P c=true):FnScope N P c:=by
 simp only [scB,Cd,decide_eq_true_eq,Bool.not_eq_true',CW] at h;obtain⟨⟨⟨⟨⟨⟨a,b⟩,d⟩,e⟩,f⟩,g⟩,i⟩:=h;exact⟨a,b,d,e,f,g,i⟩
theorem jz:∀{binds:List (Str×ED)} {m:Str->Option ED},(∀v,(x,v)∉binds)->bindL kindOf binds m x=m x
 | [],_,_=>rfl
 |(n,v)::r,m,h=>by
  unfold bindL;rw [jz λ w hw=>h w (AC _ hw)]
  split
  ·have:x≠n:=by rintro rfl;exact h v A6
   simp [this]
  ·rfl
theorem jO:∀{binds:List (Str×ED)} {m:Str->Option ED},(∀v,(x,v)∉binds)->bindC kindOf binds m x=m x
 | [],_,_=>rfl
 |(n,v)::r,m,h=>by
  unfold bindC;rw [jO λ w hw=>h w (AC _ hw)]
  split
  ·rfl
  ·have:x≠n:=by rintro rfl;exact h v A6
   simp [this]
theorem jn {v:ED}:∀{P:List Str} {vs:List ED} {i:Nat} {m:Str->Option ED},P.Nodup->P[i]?=some x->vs[i]?=some v->kindOf x=some .local->
  bindL kindOf (P.zip vs) m x=some v
 | [],_,_,_,_,h,_,_=>by simp at h
 |_::_,[],_,_,_,_,h,_=>by simp at h
 |p::P,w::vs,0,m,nd,h1,h2,hk=>by
  simp at h1 h2;subst h1;subst h2;show bindL kindOf ((p,w)::P.zip vs) m p=_;unfold bindL;rw [jz λ v hv=>(Dh.mp nd).1 (DW hv).1,AV hk];simp
 |p::P,w::vs,i+1,m,nd,h1,h2,hk=>by
  show bindL kindOf ((p,w)::P.zip vs) m x=_;unfold bindL;exact jn (i:=i) (Dh.mp nd).2 (by simpa using h1) (by simpa using h2) hk
theorem jM {v:ED}:∀{P:List Str} {vs:List ED} {i:Nat} {m:Str->Option ED},P.Nodup->P[i]?=some x->vs[i]?=some v->kindOf x≠some .local->
  bindC kindOf (P.zip vs) m x=some v
 | [],_,_,_,_,h,_,_=>by simp at h
 |_::_,[],_,_,_,_,h,_=>by simp at h
 |p::P,w::vs,0,m,nd,h1,h2,hk=>by
  simp at h1 h2;subst h1;subst h2;show bindC kindOf ((p,w)::P.zip vs) m p=_;unfold bindC;rw [jO λ v hv=>(Dh.mp nd).1 (DW hv).1,AO hk];simp
 |p::P,w::vs,i+1,m,nd,h1,h2,hk=>by
  show bindC kindOf ((p,w)::P.zip vs) m x=_;unfold bindC;exact jM (i:=i) (Dh.mp nd).2 (by simpa using h1) (by simpa using h2) hk
noncomputable def start (N:List Str) (vs:List V):St:=vs.map some++List.replicate (N.length-vs.length) none
noncomputable def cxOf (CX:CXT) (P:EF) (w:EG) (K:Frag) (mg:Str->Option ED) (base:EJ) (N:List Str) (qual:Str) (scope:Scope) (f:EC) (cd:ED) (A:EI) (outer:List Env) (s:EE) (H:Hp) (E:XK):Cx where
 prog:=P
 w:=w
 K:=K
 mg:=mg
 base:=base
 A:=A.deeper (envOfC qual scope s.heap.objs.size f cd)
 N:=N
 s₀:=s
 H₀:=H
 env:=envOfC qual scope s.heap.objs.size f cd
 outer:=outer
 stack:=envOfC qual scope s.heap.objs.size f cd::outer
 ex:=[]
 calm:=true
 fn:=λ _=>true
 pn:=[]
 xe:=λ e s'=>wpAny (model P w) (A.deeper (envOfC qual scope s.heap.objs.size f cd)) (leaving (envOfC qual scope s.heap.objs.size f cd) e) (λ _ s''=>CX outer H s E e s'') (λ e' s''=>CX outer H s E e' s'') s'
theorem k7 {sc:Scope}(h:sc.names.lookup x=some .cell):∃c,(cellsFrom n sc.names []).lookup x=some c:=by
 have q:=Do sc.names n [] (.inl h);exact Option.isSome_iff_exists.mp q
theorem jv {cd:ED}{s1:EE}{E:XK}
  (S:FnScope N ps scope) (e0:Env0 P w K mg base A outer s H) (hl:vs.length=ps.length) (r:Vals vs us)
  (x:InCallC s s.heap.objs.size (bindL (envOfC qual scope s.heap.objs.size f cd).kindOf (ps.zip us) λ _=>none) (cellsFrom (s.heap.objs.size+1) scope.names []) (bindC (envOfC qual scope s.heap.objs.size f cd).kindOf (ps.zip us) λ _=>none) s1):
  Inv (cxOf CX P w K mg base N qual scope f cd A outer s H E) [] (start N vs) H s1:=by
 have hpl:ps.length≤N.length:=by have:=AB List.length S.pre;rw [Aj] at this;lia
 obtain⟨h1,tk,rfl,hk⟩:=x.done;have noA:∀b:EC,b∉(cxOf CX P w K mg base N qual scope f cd A outer s H E).ex:=λ b z=>absurd (show b∈([]:List EC) from z) Z6
 refine⟨⟨e0.mod,S.kind,rfl,rfl,Al _,λ y z c h1 h2=>?_,λ y hy=>?_,λ y c _ h=>?_,e0.qt,Around.frames_deeper e0.frames,.inr ⟨rfl,rfl⟩,λ b z=>absurd z (noA b),e0.bs,e0.bsz,λ b _ _=>noA b,λ b z=>absurd z (noA b),e0.funs,e0.frf⟩,
  rfl,e0.bare,Un.kept hk,⟨_,x.toInCall.ns,λ i y v h1 h2 h3=>?_⟩,λ y c h=>⟨_,x.cell y c h⟩,e0.hok.fresh (Al _),λ y c h=>?_,λ p hp=>absurd (show p∈([]:List (EC×EL)) from hp) Z6,e0.hok.kept hk,?_⟩
 ·exact name_of_addr x.apart (AU h1) (AU h2)
 ·have hy:scope.names.lookup y=some .cell\/scope.names.lookup y=some .free:=hy;rcases hy with hy|hy
  ·exact k7 hy
  ·exact absurd rfl (S.nofree _ (AU hy))
 ·exact B8 (x.above y c (AU h))
 ·have hi:i<vs.length:=by
   unfold start at h2;by_cases hi:i<vs.length
   ·exact hi
   ·rw [CQ (by simpa using hi)] at h2;rw [List.getElem?_replicate] at h2
    split at h2<;>cases h2
  have ha:vs[i]?=some v:=by
   unfold start at h2;rw [BX (by simpa using hi),Au] at h2;cases e:vs[i]? with
   |none=>rw [e] at h2;cases h2
   |some a=>rw [e] at h2;cases h2;rfl
  obtain⟨u,hu,rv⟩:=r.get ha;have hp:ps[i]?=some y:=by
   rw [<-S.pre,B1 (Nat.lt_of_lt_of_eq hi hl)];exact h1
  have ndP:ps.Nodup:=by rw [<-S.pre];exact S.nd.sublist (List.take_sublist _ _)
  refine⟨u,rv,?_⟩;rcases S.par y (BC hp) with k|k
  ·exact .inl ⟨k,jn ndP hp hu k⟩
  ·obtain⟨c,e⟩:=k7 (n:=s.heap.objs.size+1) k;refine .inr ⟨.inl k,c,e,?_⟩;have q:=x.cell y c e;rw [jM ndP hp hu (by show scope.names.lookup y≠_;rw [k];decide)] at q;exact q
 ·exact e0.hok.fresh (B8 (x.above y c (AU h)))
 ·unfold start;show _=N.length;rw [z0,z7,AR];lia
theorem oK {k:Nat}{name:Str}{params:Arguments}{dV kV doc pm EO ct oc:ED}{an od:Option EC}
  {osl:Array (Option ED)} {N ps:List Str} {sp:Sp} (lk:K.lookup f=some ⟨oc,od,.func (fnOf name qual params body scope dV kV doc pm an EO ct),osl⟩) (hcd:codeIn K EO qual=true) (S:FnScope N ps scope)
  (len:∀vs H Q E,sp vs H Q E->vs.length=ps.length)
  (hbody:∀(A:EI) (outer:List Env) (s:EE) (H:Hp) (vs:List V) (Q:VK) (E:XK),Room k (A.deeper (envOfC qual scope s.heap.objs.size f EO))->sp vs H Q E->
   ∃t,PSs (cxOf CX P w K mg base N qual scope f EO A outer s H E) body t/\t {nx:=λ _ H'=>Q .non H',rt:=Q} (start N vs) H):
  FnOk P w K mg base CX (k+1) f (fnOf name qual params body scope dV kV doc pm an EO ct) ps sp:=by
 refine⟨len,λ A outer s H args us vs Q E hr e0 hb r hsp=>?_⟩;have hl:=len _ _ _ _ hsp;have KX:K.In s.heap:=e0.mod.kin.keeps λ b o e=>(e0.bs b o e).1
 have lim:s.heap.NoLimit:=e0.mod.nolimit.keeps λ b o e=>(e0.bs b o e).1
 have hkind:∀y∈ps.zip us,scope.names.lookup y.1=some .local\/(scope.names.lookup y.1=some .cell/\((cellsFrom (s.heap.objs.size+1) scope.names []).lookup y.1).isSome=true):=λ⟨n,v⟩ hy=>by
  rcases S.par n (DW hy).1 with q|q
  ·exact .inl q
  ·exact .inr ⟨q,Do _ _ _ (.inl q)⟩
 refine codeAny_call_function hr.depth (KX _ _ lk) rfl S.co S.gen rfl (codeRec_of KX hcd) (hb _ _ _ _ ?_);refine wpAny_newFunctionEnv_cells S.kind hkind λ env he s1 x=>?_
 subst he;refine⟨lim.keeps x.toInCall.keep,codeAny_func ?_⟩;obtain⟨t,ht,hq⟩:=hbody A outer s H vs Q E (hr.deeper _) hsp;have I:Inv (cxOf CX P w K mg base N qual scope f EO A outer s H E) [] (start N vs) H s1:=jv S e0 hl r x;refine Bb (ht [] s1 (start N vs) H _ I hq) (λ fl s' hs=>?_) λ e s' hs=>hs
 have fin:∀{σ':St} {H':Hp} {v:V} {u:ED},Inv (cxOf CX P w K mg base N qual scope f EO A outer s H E) [] σ' H' s'->RelV v u->Q v H'->CE outer P w H s Q u s':=
  λ {σ' H' v u} J rv q=>⟨v,H',J.os,J.bare,J.base,J.hok,rv,q⟩
 cases fl with
 |ret u=>
  obtain⟨v,σ',H',J,rv,q⟩:=hs;exact fin J rv q
 |next=>
  obtain⟨σ',H',J,q⟩:=hs;exact fin (v:=V.non) (u:=Value.none) J rfl q
 |brk=>
  obtain⟨_,_,_,q⟩:=hs;exact False.elim q
 |cont=>
  obtain⟨_,_,_,q⟩:=hs;exact False.elim q
section
variable {X:Cx}{x:Str}{p pos:Pos}{e:EK}{es:List EK}{t:TA}{id T:String}{r:List V -> Hp -> VK -> Prop}
def tCB (r:List V->Hp->VK->Prop)(t:TA):TE:=λ σ H Q=>t σ H λ vs H1=>r vs H1 Q
theorem aw (hc:dg X (.builtin id) r)(hg:Gl X x)(hm:X.mg x=none)(hv:bootBuiltins x=some (.builtin id))(ha:PA X (e::es) t)(hn:autoParam (x≠ "__name__") ZZ)(hdb:autoParam ((x==("__debug__":Str))=false) ZZ)
  (he:autoParam (starEach (e::es) X.env=(false,eval e X.env)::starEach es X.env) Z0) (hpl:autoParam ((backTo pos (starEach es X.env)).any (·.1)=false) Z0):PE X (.Call (.Name x p) (e::es) [] pos) (tCB r t):=by
 intro EN s σ H Q I h;refine BR (ld_blt I hg hm hv ?_ hn hdb);exact PyProof.Rows.callWith_builtin1 (thn (ha pos EN s σ H _ I h) λ us s1 z9=>by obtain⟨vs,H1,I1,r1,q1⟩:=z9;exact hc EN s1 σ H1 vs us Q I1 r1 q1) he hpl
theorem bD (hc:dg X (.type T) r)(hg:Gl X x)(hm:X.mg x=none)(hv:bootBuiltins x=some (.type T))(ha:PA X (e::es) t)(hn:autoParam (x≠ "__name__") ZZ)(hdb:autoParam ((x==("__debug__":Str))=false) ZZ)
  (he:autoParam (starEach (e::es) X.env=(false,eval e X.env)::starEach es X.env) Z0) (hpl:autoParam ((backTo pos (starEach es X.env)).any (·.1)=false) Z0):PE X (.Call (.Name x p) (e::es) [] pos) (tCB r t):=by
 intro EN s σ H Q I h;refine BR (ld_blt I hg hm hv ?_ hn hdb);exact BQ (thn (ha pos EN s σ H _ I h) λ us s1 z9=>by obtain⟨vs,H1,I1,r1,q1⟩:=z9;exact hc EN s1 σ H1 vs us Q I1 r1 q1) he hpl
end
end L2
namespace HT
open PySem PyProof.Rows
variable {vl vu:ED}{hi lo:Option Int}
section
open PySem.SeqAt
open PySem.AutoSeq1 (wpAny_loadPart')
open PySem.MeetsSeq PySem.MeetsSeq2 PySem.MeetsSeq3
end
section
variable {prog:EF}{w:EG}{A:EI}{E:ED -> EE -> Prop}{s:EE}
noncomputable def sIx (n d:Nat):Option Int->Nat
 |none=>d
 |some v=>if v<0 then(v+(n:Int)).toNat else min v.toNat n
theorem sIx_none (n d:Nat):sIx n d none=d:=rfl
theorem sIx_nat (n d k:Nat):sIx n d (some (k:Int))=min k n:=by
 show(if(k:Int)<0 then((k:Int)+(n:Int)).toNat else min (k:Int).toNat n)=min k n;rw [AO Z5,Ay]
theorem xu (n d:Nat)(hd:d≤n)(o:Option Int):sIx n d o≤n:=by
 cases o with
 |none=>exact hd
 |some v=>
  show(if v<0 then(v+(n:Int)).toNat else min v.toNat n)≤n;by_cases hv:v<0
  ·rw [AV hv];omega
  ·rw [AO hv];exact Em _ _
theorem oP (v:Int)(n d:Nat):(if v<0 then max (v+(n:Int)) 0 else min v (n:Int))=((sIx n d (some v):Nat):Int):=by
 show(if v<0 then max (v+(n:Int)) 0 else min v (n:Int))=(((if v<0 then(v+(n:Int)).toNat else min v.toNat n):Nat):Int);by_cases hv:v<0
 ·simp only [AV hv];omega
 ·simp only [AO hv];omega
theorem nq (lo hi:Option Int)(n:Nat):Builtin.Slice.sliceAdjust lo hi 1 (n:Int)=(((sIx n 0 lo:Nat):Int),((sIx n n hi:Nat):Int)):=by
 have h1:¬((1:Int)<0):=Z4;unfold Builtin.Slice.sliceAdjust;simp only [h1,if_false];refine Prod.ext ?_ ?_
 ·cases lo with
  |none=>rfl
  |some v=>exact oP v n 0
 ·cases hi with
  |none=>rfl
  |some v=>exact oP v n n
theorem nR (i j:Nat):Builtin.Slice.slicePlaces (i:Int) (j:Int) 1=j-i:=by
 unfold Builtin.Slice.slicePlaces;have h1:(1:Int)>0:=Z4;simp only [h1,if_true,Int.ediv_one]
 split<;>omega
theorem iU {v:ED}{o:Option Int}{Q:Option Int->EE->Prop}(p:IsPart v o)(h:Q o s):wpAny (model prog w) A (Builtin.Slice.slicePartIndex v) Q E s:=by
 cases p with
 |none=>exact slicePart_none h
 |int i t=>exact slicePart_int h
theorem dE {sl:EC}{n:Nat}{Q:Int×Int×Nat->EE->Prop}(hs:s.heap.IsSliceOf sl vl vu .none)(pl:IsPart vl lo)(pu:IsPart vu hi)
  (h:Q (((sIx n 0 lo:Nat):Int),1,sIx n n hi-sIx n 0 lo) s):wpAny (model prog w) A (Builtin.Slice.sliceApplied (.ref sl) (pure (n:Int))) Q E s:=by
 obtain⟨os,hos,hcs,hds⟩:=id hs;unfold Builtin.Slice.sliceApplied Builtin.Slice.sliceFields;refine Aa (Aa (AS hos hds (x:=vl) rfl (Aa (AS hos hds (x:=vu) rfl (Aa (AS hos hds (x:=.none) rfl (Am ?_)))))));refine Aa (slicePart_none ?_);show wpAny _ _ (if((1:Int)==0)=true then _ else _) _ _ s;rw [AO Z9];refine Aa (iU pl (Aa (iU pu (Aa (Am ?_)))));show wpAny _ _ (match Builtin.Slice.sliceAdjust lo hi 1 (n:Int) with|(lo,hi)=>pure (lo,(1:Int),Builtin.Slice.slicePlaces lo hi 1)) _ _ s;rw [nq lo hi n];show wpAny _ _ (pure (((sIx n 0 lo:Nat):Int),(1:Int),Builtin.Slice.slicePlaces ((sIx n 0 lo:Nat):Int) ((sIx n n hi:Nat):Int) 1)) _ _ s;rw [nR];exact Am h
theorem sR (xs:Array ED)(i k:Nat):((List.range k).filterMap λ(m:Nat)=>xs[((i:Int)+(m:Int)*1).toNat]?).toArray=((xs.toList.drop i).take k).toArray:=by
 have e:(λ(m:Nat)=>xs[((i:Int)+(m:Int)*1).toNat]?)=λ m=>xs[i+m]?:=by
  funext m;have:((i:Int)+(m:Int)*1).toNat=i+m:=Z4;rw [this]
 rw [e];have:=pick_run xs i k;rw [List.filterMap_map] at this;have e2:((λ x=>xs[x]?)∘λ x=>i+x)=λ m=>xs[i+m]?:=rfl
 rw [e2] at this;rw [this]
theorem getItem_tuple_cut {t sl:EC}{items:Array ED}{Q:ED->EE->Prop}(ht:IsTup s.heap t items)(hs:s.heap.IsSliceOf sl vl vu .none)(pl:IsPart vl lo)(pu:IsPart vu hi)
  (hw:¬(sIx items.size 0 lo=0/\sIx items.size items.size hi=items.size))
  (h:Q (.ref s.heap.objs.size) {s with heap:=s.heap.push {cls:=.type "tuple",data:=.seq ((items.toList.drop (sIx items.size 0 lo)).take (sIx items.size items.size hi-sIx items.size 0 lo)).toArray}})
  (hsz:items.size≤sizeLine):wpAny (model prog w) A (getItem (.ref t) (.ref sl)) Q E s:=by
 have htake:sizeOk (.seq ((items.toList.drop (sIx items.size 0 lo)).take (sIx items.size items.size hi-sIx items.size 0 lo)).toArray):=by
  show((items.toList.drop (sIx items.size 0 lo)).take (sIx items.size items.size hi-sIx items.size 0 lo)).toArray.size≤sizeLine;rw [An,Aj,Ax,CZ];omega
 have hj:sIx items.size items.size hi≤items.size:=xu _ _ (Al _) hi;obtain⟨os,hos,hcs,hds⟩:=id hs;have hTs:s.TypeIs (.ref sl) "slice":=⟨os,hos,hcs⟩;unfold getItem
 try with_reducible refine B6 ?_
 first|refine Aa (Am ?_)|skip
 refine Aa (wpAny_sequenceKey ht.typeIs Z9 ?_);refine Aa (Bg (name:=Str.ofString "__getitem__") ht.typeIs A8
  (B4 A8 ht.typeIs entry_tuple_getitem ?_ (args_tuple_getitem _ _)))
 show wpAny _ _ (Builtin.Tuple.tupleItemsOf (.ref t)>>= _) _ _ s;refine Aa (tupleItemsOf_ ht ?_);refine Aa (wpAny_typeOf hTs ?_);rw [AV Z9];refine Aa (dE hs pl pu ?_);have hno:¬((((sIx items.size 0 lo:Nat):Int)==0&&(1:Int)==1&&(sIx items.size items.size hi-sIx items.size 0 lo)==items.size)=true):=by
  intro q;rw [Cd,Cd] at q;have q1:((sIx items.size 0 lo:Nat):Int)=0:=eq_of_beq q.1.1;have q2:sIx items.size items.size hi-sIx items.size 0 lo=items.size:=eq_of_beq q.2;exact hw ⟨Z4,Z4⟩
 show wpAny _ _ (if(((sIx items.size 0 lo:Nat):Int)==0&&(1:Int)==1&&(sIx items.size items.size hi-sIx items.size 0 lo)==items.size)=true then _ else _) _ _ s;rw [AO hno,sR]
 first
  |exact Aa (m:=Builtin.Tuple.tupleExact _) (BL (Am ⟨_,rfl,Am h⟩) htake)
  |exact Aa (m:=Builtin.Tuple.tupleExact _) (BL (Aa (Am (Am ⟨_,rfl,Am h⟩))) htake)
  |exact Aa (Aa (m:=Builtin.Tuple.tupleExact _) (BL (Am (Am ⟨_,rfl,Am h⟩)) htake))
  |exact Aa (Aa (m:=Builtin.Tuple.tupleExact _) (BL (Am ⟨_,rfl,Am h⟩) htake))
end
end HT
namespace L2
open PySem PySem.Spec PyProof.Rows
variable {x y:V}{u v:ED}{s:EE}{j n t':Nat}{A:EI}{r:V->Option Int->Option Int->Hp->VK->Prop}{its us:List ED}
abbrev TO:=St->Hp->(Option Int->Hp->Prop)->Prop
def PO (X:Cx)(e:Option EK)(t:TO):Prop:=
 ∀(EN:List (EC×EL)) (s:EE) (σ:St) (H:Hp) (Q:Option Int->Hp->Prop),Inv X EN σ H s->t σ H Q->
  wpAny (model X.prog X.w) X.A (evalPart e X.env) (λ u s'=>∃o H',Inv X EN σ H' s'/\IsPart u o/\Q o H') X.xe s
def tNoPart:TO:=λ _ H Q=>Q none H
def tPart (t:TE):TO:=λ σ H Q=>t σ H λ x H1=>∃i,x=.int i/\Q (some i) H1
theorem df {ns:List Int}:∀{us:List ED},Vals (ns.map V.int) us->IntsAre us ns:=by
 induction ns with
 |nil=>intro us r;rw [List.map_nil] at r;cases r;exact .nil
 |cons n ns ih=>
  intro us r;rw [AJ] at r;cases r with
  |cons r1 r2=>
   obtain⟨t,e⟩:=r1;subst e;exact .cons n t (ih r2)
section
variable {X:Cx}{e:EK}{te:TE}{lo hi:Option EK}{tl th:TO}{pos p2:Pos}
theorem aY:PO X none tNoPart:=by
 intro EN s σ H Q I h;rw [evalPart_none];exact Am ⟨none,H,I,.none,h⟩
theorem aA (h:PE X e te):PO X (some e) (tPart te):=by
 intro EN s σ H Q I hw;rw [evalPart_some];refine thn (h EN s σ H _ I hw) λ u s1 z9=>?_
 obtain⟨x,H1,I1,r1,q1⟩:=z9;obtain⟨i,rfl,q⟩:=q1;obtain⟨t,rfl⟩:=r1;exact⟨some i,H1,I1,.int i t,q⟩
def SlR (X:Cx)(r:V->Option Int->Option Int->Hp->VK->Prop):Prop:=
 ∀(EN:List (EC×EL)) (s:EE) (σ:St) (H:Hp) (x:V) (v vl vu:ED) (lo hi:Option Int) (sl:EC) (Q:VK),Inv X EN σ H s->RelV x v->s.heap.IsSliceOf sl vl vu .none->IsPart vl lo->IsPart vu hi->r x lo hi H Q->
  ∃T id,typeLookup (.type T) "__getitem__"=pure (some (.builtin id))/\s.TypeIs v T/\wpAny (model X.prog X.w) X.A (getItem v (.ref sl)) (EP X EN σ Q) X.xe s
theorem SlR.or {r':V->Option Int->Option Int->Hp->VK->Prop}(h:SlR X r)(h':SlR X r'):SlR X (λ x lo hi H Q=>r x lo hi H Q\/r' x lo hi H Q):=by
 intro EN s σ H x v vl vu lo hi sl Q I rx hs pl pu q;rcases q with q|q
 ·exact h EN s σ H x v vl vu lo hi sl Q I rx hs pl pu q
 ·exact h' EN s σ H x v vl vu lo hi sl Q I rx hs pl pu q
def tSl (r:V->Option Int->Option Int->Hp->VK->Prop)(te:TE)(tl th:TO):TE:=λ σ H Q=>te σ H λ x H1=>tl σ H1 λ l H2=>th σ H2 λ u H3=>r x l u H3 Q
theorem aC (hr:SlR X r)(he:PE X e te)(hl:PO X lo tl)(hu:PO X hi th):PE X (.Subscript e (.Slice lo hi none p2) pos) (tSl r te tl th):=by
 intro EN s σ H Q I h;refine Subscript_ (thn (he EN s σ H _ I h) λ v s1 z9=>?_);obtain⟨x,H1,I1,r1,q1⟩:=z9;refine wpAny_Slice (thn (hl EN s1 σ H1 _ I1 q1) λ vl s2 ⟨l,H2,I2,pl,q2⟩=>thn (hu EN s2 σ H2 _ I2 q2) λ vu s3 z9=>?_);obtain⟨u,H3,I3,pu,q3⟩:=z9;rw [evalPart_none];refine Am ?_;have I4:Inv X EN σ H3 {s3 with heap:=s3.heap.push {cls:=.type "slice",data:=.fields #[vl,vu,.none]}}:=I3.kept (t':=s3.toks) λ b ob q=>Ag _ q
 obtain⟨T,id,hT,ht,hg⟩:=hr EN {s3 with heap:=s3.heap.push {cls:=.type "slice",data:=.fields #[vl,vu,.none]}} σ H3 x v vl vu l u s3.heap.objs.size Q I4 r1 (Heap.IsSliceOf.new ..) pl pu q3;show wpAny (model X.prog X.w) X.A (subscriptTail e (.Slice lo hi none p2) v (.ref s3.heap.objs.size)) (EP X EN σ Q) X.xe {s3 with heap:=s3.heap.push {cls:=.type "slice",data:=.fields #[vl,vu,.none]}};exact tail_any (ops:=[.ref s3.heap.objs.size,v]) ht hT hg (by with_unfolding_all rfl)
def cutV (xs:List V)(lo hi:Option Int):List V:=(xs.drop (HT.sIx xs.length 0 lo)).take (HT.sIx xs.length xs.length hi-HT.sIx xs.length 0 lo)
theorem gU (xs:List V)(lo hi:Option Int):(cutV xs lo hi).length≤xs.length:=by
 unfold cutV;rw [Aj,Ax];exact AT (Em _ _) (Nat.sub_le _ _)
def zQ (K:Frag):V->Option Int->Option Int->Hp->VK->Prop:=λ x lo hi H Q=>∃a xs,x=.ref a/\SqT K H a xs/\
 ¬(HT.sIx xs.length 0 lo=0/\HT.sIx xs.length xs.length hi=xs.length)/\∀p,H p=none->Q (.ref p) (upd H p (.tup (cutV xs lo hi)))
theorem xn:SlR X (zQ X.K):=by
 intro EN s σ H x v vl vu lo hi sl Q I rx hs pl pu h;obtain⟨a,xs,rfl,hx,hw,q⟩:=h;cases rx;obtain⟨its,r,ht,hz⟩:=I.tuple hx;have hlen:its.toArray.size=xs.length:=by rw [An];exact r.length.symm
 refine⟨"tuple",_,A8.lookup,ht.typeIs,?_⟩;refine HT.getItem_tuple_cut ht hs pl pu (by rw [hlen];exact hw) ?_ (by rw [hlen];exact hz);rw [hlen];refine⟨.ref s.heap.objs.size,_,I.laid (t':=s.toks) (o:=.tup (cutV xs lo hi)) (λ b ob q=>Ag _ q) (Al _) ?_,rfl,q _ (I.hok.fresh (Al _))⟩;exact⟨AT (gU xs lo hi) hz,_,(r.drop (HT.sIx xs.length 0 lo)).take (HT.sIx xs.length xs.length hi-HT.sIx xs.length 0 lo),IsTup.new _ _⟩
end
noncomputable def ixN (n:Nat) (i:Int):Option Nat:=if 0≤i then(if i<n then some i.toNat else none) else if-(n:Int)≤i then some (i+n).toNat else none
noncomputable def atI {α:Type} (xs:List α) (i:Int):Option α:=(ixN xs.length i).bind λ j=>xs[j]?
theorem uS {i:Int}(h:ixN n i=some j):seqIndex? i n=some j/\j<n/\-(n:Int)≤i/\i<n:=by
 unfold ixN at h;by_cases h0:0≤i
 ·rw [AV h0] at h;by_cases h1:i<n
  ·rw [AV h1] at h;have e:i.toNat=j:=AY h;exact⟨by rw [seqIndex_of h0 h1,e],Z5,Z5,h1⟩
  ·rw [AO h1] at h;cases h
 ·rw [AO h0] at h;by_cases h1:-(n:Int)≤i
  ·rw [AV h1] at h;have e:(i+n).toNat=j:=AY h;exact⟨by rw [seqIndex_neg (Eu h0) h1,e],Z5,h1,Z5⟩
  ·rw [AO h1] at h;cases h
theorem oW {α:Type}{xs:List α}{i:Int}{v:α}(h:atI xs i=some v):∃j,seqIndex? i xs.length=some j/\xs[j]?=some v/\j<xs.length/\-(xs.length:Int)≤i/\i<xs.length:=by
 unfold atI at h;cases e:ixN xs.length i with
 |none=>rw [e] at h;cases h
 |some j=>
  rw [e] at h;obtain⟨h1,h2,h3,h4⟩:=uS e;exact⟨j,h1,h,h2,h3,h4⟩
theorem aT {α:Type}{xs:List α}{v:α}(h:xs[j]?=some v):atI xs (j:Int)=some v:=by
 have hj:j<xs.length:=(Ak.mp h).1;have e:ixN xs.length (j:Int)=some j:=by
  unfold ixN;rw [AV Z5,AV (Int.ofNat_lt.mpr hj)];simp
 unfold atI;rw [e];exact h
def pG (b:EK):Prop:=∀o i,subscripted b false o i=operate [o,i] (getItem o i)
def IxR (X:Cx)(r:R2):Prop:=
 ∀(value slice:EK) (EN:List (EC×EL)) (s:EE) (σ:St) (H:Hp) (x y:V) (v u:ED) (Q:VK),Inv X EN σ H s->RelV x v->RelV y u->r x y H Q->
  subscripted slice false v u=operate [v,u] (getItem v u)->wpAny (model X.prog X.w) X.A (subscriptTail value slice v u) (EP X EN σ Q) X.xe s
def MtR (X:Cx)(id:String)(r:V->List V->Hp->VK->Prop):Prop:=
 ∀(EN:List (EC×EL)) (s:EE) (σ:St) (H:Hp) (x:V) (xs:List V) (v:ED) (us:List ED) (Q:VK),Inv X EN σ H s->RelV x v->Vals xs us->r x xs H Q->
  wpAny (model X.prog X.w) X.A (call (.builtin id) (v::us)) (EP X EN σ Q) X.xe s
section
variable {X:Cx}{a b:EK}{ta tb:TE}{pos:Pos}
theorem ba {r:R2}(hr:IxR X r)(ha:PE X a ta)(hb:PE X b tb)(hs:pG b):PE X (.Subscript a b pos) (tOp r ta tb):=by
 intro EN s σ H Q I h;exact Subscript_ (binT ha hb I h λ v u s2 x y H2 I2 rx ry q=>hr a b EN s2 σ H2 x y v u Q I2 rx ry q (hs _ _))
def rIxL (K:Frag):R2:=λ x y H Q=>∃p xs i v,x=.ref p/\y=.int i/\SqL K H p xs/\atI xs i=some v/\Q v H
def uB (K:Frag):R2:=λ x y H Q=>∃p xs i v,x=.ref p/\y=.int i/\SqT K H p xs/\atI xs i=some v/\Q v H
theorem bd:IxR X (rIxL X.K):=by
 intro value slice EN s σ H x y v u Q I rx ry h hs;obtain⟨p,xs,i,z,rfl,rfl,hq,he,q⟩:=h;cases rx;obtain⟨t,rfl⟩:=ry;obtain⟨its,r,pl,hz⟩:=I.list hq;obtain⟨j,h1,h2,h3,h4,h5⟩:=oW he;obtain⟨w,ew,rw'⟩:=r.get h2;have hl:=r.length;have hn:=kg;have fin:EP X EN σ Q w s:=⟨z,H,I,rw',q⟩;by_cases h0:0≤i
 ·have hj:i.toNat=j:=by
   rw [seqIndex_of h0 h5] at h1;exact AY h1
  exact item_listR pl.isList h0 Z5 (by rw [hj];simpa using ew) fin hs
 ·have hj:(i+(its.toArray.size:Int)).toNat=j:=by
   rw [seqIndex_neg (Eu h0) h4] at h1;rw [An,<-hl];exact AY h1
  exact subscriptTail_builtinR (x:=w) pl.isList.typeIs slot_list_getitem.lookup
   (wpAny_getItem_list_neg (Q:=λ r s'=>r=w/\EP X EN σ Q r s') pl.isList (Eu h0) (by rw [An]<;>exact B9 (AB Neg.neg (AB Nat.cast hl.symm)) h4) Z5 (by rw [hj];simpa using ew) ⟨rfl,fin⟩) hs
theorem cE:IxR X (uB X.K):=by
 intro value slice EN s σ H x y v u Q I rx ry h hs;obtain⟨p,xs,i,z,rfl,rfl,hq,he,q⟩:=h;cases rx;obtain⟨t,rfl⟩:=ry;obtain⟨its,r,pl,hz⟩:=I.tuple hq;obtain⟨j,h1,h2,h3,h4,h5⟩:=oW he;obtain⟨w,ew,rw'⟩:=r.get h2;have hl:=r.length;have hn:=kg;have fin:EP X EN σ Q w s:=⟨z,H,I,rw',q⟩;exact subscriptTail_builtinR (x:=w) pl.typeIs A8.lookup
  (getItem_tuple (j:=j) (Q:=λ r s'=>r=w/\EP X EN σ Q r s') pl Z4 Z4 (by rw [An,<-hl];exact h1) (by simpa using ew) ⟨rfl,fin⟩) hs
theorem sbP {i:Int}(h:¬i<0):max 0 (min i n)=((min i.toNat n:Nat):Int):=by
 obtain⟨k,rfl⟩:=Int.eq_ofNat_of_zero_le (Int.not_lt.1 h);rw [Ay,Int.max_eq_right (Int.le_min.2 ⟨Bd _,Bd _⟩)];rcases EA k n with e|e
 ·rw [AM e,Int.min_eq_left (Int.ofNat_le.2 e)]
 ·rw [BS e,Int.min_eq_right (Int.ofNat_le.2 e)]
theorem sbN {i:Int}(h:i<0):max 0 (min (i+n) n)=((i+n).toNat:Int):=by
 rw [Int.min_eq_left (Int.le_trans (Int.add_le_add_right (Int.le_of_lt h) n) (Int.le_of_eq (Int.zero_add _))),Int.toNat_eq_max,Int.max_comm]
theorem kx (lo hi:Option Int)(n:Nat):(sliceBounds lo hi none n).1=((HT.sIx n 0 lo:Nat):Int)/\(sliceBounds lo hi none n).2.1=((HT.sIx n n hi:Nat):Int)/\(sliceBounds lo hi none n).2.2=1:=by
 refine⟨?_,?_,rfl⟩
 ·cases lo with
  |none=>simp [sliceBounds,HT.sIx]
  |some i=>
   simp only [sliceBounds,HT.sIx,Option.getD_none,show(1:Int)>0 by decide,if_true];by_cases h:i<0
   ·simp only [h,if_true,sbN h]
   ·simp only [h,if_false,sbP h]
 ·cases hi with
  |none=>simp [sliceBounds,HT.sIx]
  |some i=>
   simp only [sliceBounds,HT.sIx,Option.getD_none,show(1:Int)>0 by decide,if_true];by_cases h:i<0
   ·simp only [h,if_true,sbN h]
   ·simp only [h,if_false,sbP h]
theorem jc (its:List ED)(lo hi:Option Int):slicePick its.toArray lo hi none=((its.drop (HT.sIx its.length 0 lo)).take (HT.sIx its.length its.length hi-HT.sIx its.length 0 lo)).toArray:=by
 obtain⟨h1,h2,h3⟩:=kx lo hi its.toArray.size;unfold slicePick;rw [h1,h2,h3];simp only [sliceRange_one,pick_run,An]<;>rfl
def rSlL (K:Frag):V->Option Int->Option Int->Hp->VK->Prop:=λ x lo hi H Q=>∃a xs,x=.ref a/\SqL K H a xs/\∀p,H p=none->Q (.ref p) (upd H p (.lst (cutV xs lo hi)))
theorem aL:SlR X (rSlL X.K):=by
 intro EN s σ H x v vl vu lo hi sl Q I rx hs pl pu h;obtain⟨a,xs,rfl,hx,q⟩:=h;cases rx;obtain⟨its,r,ht,hz⟩:=I.list hx;have hlen:=r.length;refine⟨"list",_,slot_list_getitem.lookup,ht.isList.typeIs,?_⟩;refine wpAny_getItem_list_slice ht.isList hs pl pu .none Z6 ?_ (by rw [An]<;>lia);rw [jc,<-hlen];refine⟨.ref s.heap.objs.size,_,I.laid (t':=s.toks) (o:=.lst (cutV xs lo hi)) (λ b ob q=>Ag _ q) (Al _) ?_,rfl,q _ (I.hok.fresh (Al _))⟩;exact⟨AT (gU xs lo hi) hz,_,0,(r.drop (HT.sIx xs.length 0 lo)).take (HT.sIx xs.length xs.length hi-HT.sIx xs.length 0 lo),AF _ rfl⟩
def flatV:V->Bool
 | .non=>true
 | .bl _=>true
 | .int _=>true
 | .str _=>true
 |_=>false
def eqV:V->V->Bool
 | .non,.non=>true
 | .bl a,.bl b=>a==b
 | .bl a,.int b=>(if a then 1 else 0)==b
 | .int a,.bl b=>a==(if b then 1 else 0)
 | .int a,.int b=>a==b
 | .str a,.str b=>a==b
 |_,_=>false
theorem iF (ry:RelV y u)(rx:RelV x v)(fy:flatV y=true)(fx:flatV x=true):SeqAt.EqAt A s u v (eqV y x):=by
 cases y with
 |non=>
  cases ry;cases x with
  |non=>cases rx;exact SeqAt.EqAt.same _
  |bl b=>cases rx;exact SeqAt.EqAt.none_bool b
  |int b=>obtain⟨t,rfl⟩:=rx;exact SeqAt.EqAt.none_int b t
  |str b=>obtain⟨t,rfl⟩:=rx;exact SeqAt.EqAt.none_str b t
  |_=>exact absurd (show false=true from fx) Av
 |bl a=>
  cases ry;cases x with
  |non=>cases rx;exact SeqAt.EqAt.bool_none a
  |bl b=>cases rx;exact SeqAt.EqAt.bool_bool a b
  |int b=>obtain⟨t,rfl⟩:=rx;exact SeqAt.EqAt.bool_int a b t
  |str b=>obtain⟨t,rfl⟩:=rx;exact SeqAt.EqAt.bool_str a b t
  |_=>exact absurd (show false=true from fx) Av
 |int a=>
  obtain⟨t',rfl⟩:=ry;cases x with
  |non=>cases rx;exact SeqAt.EqAt.int_none a t'
  |bl b=>cases rx;exact SeqAt.EqAt.int_bool a t' b
  |int b=>obtain⟨t,rfl⟩:=rx;exact SeqAt.EqAt.int_int a t' b t
  |str b=>obtain⟨t,rfl⟩:=rx;exact SeqAt.EqAt.int_str a t' b t
  |_=>exact absurd (show false=true from fx) Av
 |str a=>
  obtain⟨t',rfl⟩:=ry;cases x with
  |non=>cases rx;exact SeqAt.EqAt.str_none a t'
  |bl b=>cases rx;exact SeqAt.EqAt.str_bool a t' b
  |int b=>obtain⟨t,rfl⟩:=rx;exact SeqAt.EqAt.str_int a t' b t
  |str b=>obtain⟨t,rfl⟩:=rx;exact SeqAt.EqAt.str_str a t' b t
  |_=>exact absurd (show false=true from fx) Av
 |_=>exact absurd (show false=true from fy) Av
def eqU (x:V)(u:ED):Bool:=match u with
 | .none=>eqV .non x
 | .bool b=>eqV (.bl b) x
 | .int i _=>eqV (.int i) x
 | .str z _=>eqV (.str z) x
 |_=>false
theorem rV (r:RelV y u)(f:flatV y=true):eqU x u=eqV y x:=by
 cases y with
 |non=>cases r;rfl
 |bl b=>cases r;rfl
 |int i=>obtain⟨t,rfl⟩:=r;rfl
 |str z=>obtain⟨t,rfl⟩:=r;rfl
 |_=>exact absurd (show false=true from f) Av
theorem gc:∀{xs:List V} {us:List ED},Vals xs us->xs.all flatV=true->us.any (eqU x)=xs.any λ y=>eqV y x
 |_,_,.nil,_=>rfl
 |y::xs,u::us,.cons r t,f=>by
  rw [List.all_cons,Cd] at f;rw [DM,DM,rV r f.1,gc t f.2]
theorem cQ (rx:RelV x v)(fx:flatV x=true):∀{xs:List V} {us:List ED},Vals xs us->xs.all flatV=true->∀u∈us,SeqAt.EqAt A s u v (eqU x u)
 |_,_,.nil,_=>λ u hu=>by cases hu
 |y::xs,u::us,.cons r t,f=>λ u' hu=>by
  rw [List.all_cons,Cd] at f;rcases Bc.mp hu with rfl|hu
  ·rw [rV r f.1];exact iF r rx f.1 fx
  ·exact cQ rx fx t f.2 u' hu
def inV (x:V)(xs:List V):Bool:=xs.any λ y=>eqV y x
def rIn (K:Frag)(neg:Bool):R2:=λ x y H Q=>∃p xs,y=.ref p/\(SqL K H p xs\/SqT K H p xs)/\flatV x=true/\xs.all flatV=true/\Q (.bl (if neg then !inV x xs else inV x xs)) H
theorem jI:OpR X (compareOp .In) (rIn X.K false):=by
 intro EN s σ H x y v u Q I rx ry h;obtain⟨p,xs,rfl,hq,fx,fs,q⟩:=h;cases ry;rcases hq with hq|hq
 ·obtain⟨its,r,pl,hz⟩:=I.list hq;refine SeqAt.in_listAt (eqU x) pl.isList (λ w hw=>cQ rx fx r fs w (by simpa using hw)) ⟨.bl _,H,I,rfl,?_⟩;rw [show its.toArray.any (eqU x)=its.any (eqU x) by simp,gc r fs];exact q
 ·obtain⟨its,r,pl,hz⟩:=I.tuple hq;refine SeqAt.in_tupleAt (eqU x) pl (λ w hw=>cQ rx fx r fs w (by simpa using hw)) ⟨.bl _,H,I,rfl,?_⟩;rw [show its.toArray.any (eqU x)=its.any (eqU x) by simp,gc r fs];exact q
theorem jS:OpR X (compareOp .NotIn) (rIn X.K true):=by
 intro EN s σ H x y v u Q I rx ry h;obtain⟨p,xs,rfl,hq,fx,fs,q⟩:=h;cases ry;rcases hq with hq|hq
 ·obtain⟨its,r,pl,hz⟩:=I.list hq;refine SeqAt.notIn_listAt (eqU x) pl.isList (λ w hw=>cQ rx fx r fs w (by simpa using hw)) ⟨.bl _,H,I,rfl,?_⟩;rw [show its.toArray.any (eqU x)=its.any (eqU x) by simp,gc r fs];exact q
 ·obtain⟨its,r,pl,hz⟩:=I.tuple hq;refine SeqAt.notIn_tupleAt (eqU x) pl (λ w hw=>cQ rx fx r fs w (by simpa using hw)) ⟨.bl _,H,I,rfl,?_⟩;rw [show its.toArray.any (eqU x)=its.any (eqU x) by simp,gc r fs];exact q
theorem aq:dg X (.builtin "len") (λ xs H Q=>∃p ys,xs=[.ref p]/\(SqL X.K H p ys\/SqT X.K H p ys)/\Q (.int ys.length) H):=by
 intro EN s σ H xs us Q I r h;obtain⟨p,ys,rfl,hq,q⟩:=h;obtain⟨u,rfl,rx⟩:=eu r;cases rx;have hn:=kg;rcases hq with hq|hq
 ·obtain⟨its,r',pl,hz⟩:=I.list hq;have hlen:=r'.length;exact Calls.call_len_list pl.isList (by simp only [An]<;>lia) ⟨.int ys.length,H,I.tok _,⟨s.toks+1,by rw [An,hlen]⟩,q⟩
 ·obtain⟨its,r',pl,hz⟩:=I.tuple hq;have hlen:=r'.length;exact len_tuple pl (by simp only [An]<;>omega) ⟨.int ys.length,H,I.tok _,⟨s.toks+1,by rw [An,hlen]⟩,q⟩
theorem fV:dg X (.builtin "len") (λ xs H Q=>∃z,xs=[.str z]/\z.length≤sizeLine/\Q (.int z.length) H):=by
 intro EN s σ H xs us Q I r h;obtain⟨z,rfl,hz,q⟩:=h;obtain⟨u,rfl,t,rfl⟩:=eu r;have hn:=kg;exact len_str Z4 ⟨.int z.length,H,I.tok _,⟨_,rfl⟩,q⟩
theorem cL:dg X (.type "list") (λ xs H Q=>∃p ys,xs=[.ref p]/\(SqL X.K H p ys\/SqT X.K H p ys)/\∀l,H l=none->Q (.ref l) (upd H l (.lst ys))):=by
 intro EN s σ H xs us Q I r h;obtain⟨p,ys,rfl,hq,q⟩:=h;obtain⟨u,rfl,rx⟩:=eu r;cases rx;have fin:∀(its:List ED),Vals ys its->ys.length≤sizeLine->∀(h':EJ) (c':Nat),(∀b o',s.heap.get? b=some o'->h'.get? b=some o')->
   h'.get? s.heap.objs.size=some {cls:=.type "list",dict:=none,data:=.seq its.toArray c',slots:=#[]}->EP X EN σ Q (.ref s.heap.objs.size) {s with heap:=h'}:=λ its r' hz h' c' kp e=>
  ⟨.ref s.heap.objs.size,_,I.laid (t':=s.toks) kp (Al _) (show ObjOk X.prog X.w _ h' _ (.lst ys) from⟨hz,its,c',r',e⟩),rfl,q _ (I.hok.fresh (Al _))⟩
 rcases hq with hq|hq
 ·obtain⟨its,r',pl,hz⟩:=I.list hq;have hlen:=r'.length;obtain⟨o,ho,hc,n,hd⟩:=pl.isList;exact call_list_seq p (.inl rfl) ho hc hd (λ h' c' kp e=>fin its r' hz h' c' kp e) (by simp only [An]<;>exact B9 hlen.symm hz)
 ·obtain⟨its,r',pl,hz⟩:=I.tuple hq;have hlen:=r'.length;obtain⟨o,ho,hc,n,hd⟩:=pl;exact call_list_seq p (.inr rfl) ho hc hd (λ h' c' kp e=>fin its r' hz h' c' kp e) (by simp only [An]<;>exact B9 hlen.symm hz)
theorem fg:dg X (.type "tuple") (λ xs H Q=>∃p ys,xs=[.ref p]/\((SqL X.K H p ys/\∀l,H l=none->Q (.ref l) (upd H l (.tup ys)))\/(SqT X.K H p ys/\Q (.ref p) H))):=by
 intro EN s σ H xs us Q I r h;obtain⟨p,ys,rfl,h⟩:=h;obtain⟨u,rfl,rx⟩:=eu r;cases rx;rcases h with⟨hq,q⟩|⟨hq,q⟩
 ·obtain⟨its,r',pl,hz⟩:=I.list hq;have hlen:=r'.length;refine call_tuple_list pl.isList (λ h' kp=>?_) (by simp only [An]<;>exact B9 hlen.symm hz);have I1:Inv X EN σ H {s with heap:=h'}:=I.kept (t':=s.toks) kp;have I2:Inv X EN σ (upd H h'.objs.size (.tup ys)) {s with heap:=h'.push {cls:=.type "tuple",data:=.seq its.toArray}}:=
   I1.laid (t':=s.toks) (λ b o e=>Ag _ e) (Al _) (show ObjOk X.prog X.w _ _ _ (.tup ys) from⟨hz,its,r',IsTup.new _ _⟩)
  exact⟨.ref h'.objs.size,_,I2,rfl,q _ (I1.hok.fresh (Al _))⟩
 ·obtain⟨its,r',pl,hz⟩:=I.tuple hq;exact call_tuple_same pl ⟨.ref p,H,I,rfl,q⟩
def tyV (K:Frag)(T:String)(x:V)(H:Hp):Prop:=match x with
 | .str _=>T="str"
 | .int _=>T="int"
 | .ref p=>(T="list"/\∃xs,SqL K H p xs)\/(T="tuple"/\∃o,K.lookup p=some o/\o.cls=.type "tuple"/\o.dict=none)\/
   (T="dict"/\((∃kvs,H p=some (.dK kvs))\/∃kvs,H p=some (.dT kvs)))\/(T="set"/\∃S n,H p=some (.set S n))
 |_=>False
theorem rZ {EN:List (EC×EL)}{σ:St}{H:Hp}{T:String}(I:Inv X EN σ H s)(r:RelV x v)(ty:tyV X.K T x H):
  s.TypeIs v T/\∀a,v=.ref a->∃ob,s.heap.get? a=some ob/\ob.dict=none:=by
 cases x with
 |str z=>
  obtain⟨t,rfl⟩:=r;cases(show T="str" from ty);exact⟨typeIs_str s z t,λ _ e=>nomatch e⟩
 |int i=>
  obtain⟨t,rfl⟩:=r;cases(show T="int" from ty);exact⟨typeIs_int s i t,λ _ e=>nomatch e⟩
 |ref p=>
  cases r;rcases ty with⟨rfl,xs,hq⟩|⟨rfl,o,hk,hc,hd⟩|⟨rfl,hk⟩|⟨rfl,S,n,hk⟩
  ·obtain⟨its,_,pl,_⟩:=I.list hq;refine⟨pl.isList.typeIs,λ a e=>?_⟩;cases e;obtain⟨o,n,e,c,hd,_⟩:=pl;exact⟨o,e,hd⟩
  ·refine⟨⟨o,I.kIn p o hk,hc⟩,λ a e=>?_⟩;cases e;exact⟨o,I.kIn _ o hk,hd⟩
  ·have z:∃o,s.heap.get? p=some o/\o.ExactDict:=by
    rcases hk with⟨kvs,hk⟩|⟨kvs,hk⟩
    ·obtain⟨_,_,_,_,o,_,_,e,ex,_⟩:=I.hok p _ hk;exact⟨o,e,ex⟩
    ·obtain⟨_,_,_,_,o,_,_,e,ex,_⟩:=I.hok p _ hk;exact⟨o,e,ex⟩
   obtain⟨o,e,ex⟩:=z;refine⟨⟨o,e,ex.1⟩,λ a e2=>?_⟩;cases e2;exact⟨o,e,ex.2.1⟩
  ·obtain⟨o,_,_,_,e,ex,_⟩:=I.hok p _ hk;refine⟨⟨o,e,ex.1⟩,λ a e2=>?_⟩;cases e2;exact⟨o,e,ex.2.1⟩
 |_=>exact False.elim ty
def zR (K:Frag)(T:String)(r:V->List V->Hp->VK->Prop)(to:TE):TE:=λ σ H Q=>to σ H λ x H1=>tyV K T x H1/\r x [] H1 Q
def tBM (K:Frag)(T:String)(r:V->List V->Hp->VK->Prop)(to:TE)(t:TA):TE:=λ σ H Q=>to σ H λ x H1=>tyV K T x H1/\t σ H1 λ xs H2=>r x xs H2 Q
variable {o e:EK}{es:List EK}{to:TE}{t:TA}{name:Str}{apos cpos:Pos}{T id:String}{r:V -> List V -> Hp -> VK -> Prop}
theorem xf (pa:PlainAttrs T)(slot:Slot T name id)(hty:typeOf (.builtin id)=pure (.type "method_descriptor"))(hm:MtR X id r)(ho:PE X o to)
  (hbase:autoParam (attributeBase o name X.env (eval o X.env)=eval o X.env) Z0) (hline:autoParam ((apos.endLine==cpos.line)=true) Z0):PE X (.Call (.Attribute o name apos) [] [] cpos) (zR X.K T r to):=by
 intro EN s σ H Q I h;refine wpAny_Call_method0_late hbase hline (thn (ho EN s σ H _ I h) λ v s1 z9=>?_);obtain⟨x,H1,I1,r1,ty,q1⟩:=z9;obtain⟨h1,h2⟩:=rZ I1 r1 ty;exact⟨T,id,pa,slot,hty,h1,h2,Calls.callWith_builtin rfl (PySem.evalArgs_none (hm EN s1 σ H1 x [] v [] Q I1 r1 .nil q1))⟩
theorem eL (pa:PlainAttrs T)(slot:Slot T name id)(hty:typeOf (.builtin id)=pure (.type "method_descriptor"))(hm:MtR X id r)(ho:PE X o to)(ha:PA X (e::es) t)
  (hbase:autoParam (attributeBase o name X.env (eval o X.env)=eval o X.env) Z0)
  (hfew:autoParam (((backTo cpos (starEach (e::es) X.env)).all (λ x=> !x.1)&&(backToKw cpos (keywordEach [] X.env)).all (λ x=>x.1.isSome)
   &&decide ((e::es).length+([]:List Keyword).length+(if([]:List Keyword).isEmpty then 0 else 1)<30))=true) Z0)
  (hline:autoParam ((apos.endLine==cpos.line)=true) Z0) (hs:autoParam (starEach (e::es) X.env=(false,eval e X.env)::starEach es X.env) Z0) (hplain:autoParam ((backTo cpos (starEach es X.env)).any (·.1)=false) Z0):
  PE X (.Call (.Attribute o name apos) (e::es) [] cpos) (tBM X.K T r to t):=by
 intro EN s σ H Q I h;refine wpAny_Call_method_late hbase hfew hline rfl (thn (ho EN s σ H _ I h) λ v s1 z9=>?_);obtain⟨x,H1,I1,r1,ty,q1⟩:=z9;obtain⟨h1,h2⟩:=rZ I1 r1 ty;refine⟨T,id,pa,slot,hty,h1,h2,?_⟩;have hA:=ha cpos EN s1 σ H1 _ I1 q1;rw [hs] at hA ⊢;refine Calls.callWith_builtin (by show(false||(backTo cpos (starEach es X.env)).any (·.1))=false;rw [hplain]<;>rfl) (Calls.evalArgs_plain ?_);exact thn hA λ us s2 z9=>by obtain⟨vs,H2,I2,r2,q2⟩:=z9;exact hm EN s2 σ H2 x vs v us Q I2 r1 r2 q2
end
def MtM (X:Cx)(id:String)(r:V->List V->Hp->VK->Prop):Prop:=
 ∀(EN:List (EC×EL)) (s:EE) (σ:St) (H:Hp) (x:V) (xs:List V) (v:ED) (us:List ED) (Q:VK),Inv X EN σ H s->RelV x v->Vals xs us->r x xs H Q->
  wpAny (model X.prog X.w) X.A (call (.builtin id) (v::us)) (EP X EN σ Q) X.xe s
theorem Vals.one (h:Vals [x] us):∃u,us=[u]/\RelV x u:=by
 cases h with
 |cons r q=>
  cases q;exact⟨_,rfl,r⟩
theorem Vals.zero:∀{us:List ED},Vals [] us->us=[]
 |_,.nil=>rfl
theorem Vals.rep {xs:List V}(h:Vals xs us):∀k:Nat,Vals (List.replicate k xs).flatten (List.replicate k us).flatten
 |0=>.nil
 |k+1=>by
  rw [BU,BU,A3,A3];exact Vals.append h (Vals.rep h k)
theorem jB (its:List ED):∀(k:Nat) (acc:List ED),
  List.foldl (λ x1 x2=>x1++x2) acc.toArray (List.replicate k its.toArray)=(acc++(List.replicate k its).flatten).toArray
 |0,acc=>by simp
 |k+1,acc=>by
  have e:acc.toArray++its.toArray=(acc++its).toArray:=Z6;have e2:(acc++its)++(List.replicate k its).flatten=acc++(List.replicate (k+1) its).flatten:=by
   rw [BU,A3,Ab]
  rw [<-e2,<-jB its k (acc++its),<-e,BU,List.foldl_cons]
section
variable {X:Cx}{EN:List (EC × EL)}{σ:St}{H:Hp}{s:EE}{l b:EC}{xs ys zs:List V}
theorem Inv.lset {its':List ED}{f:Array ED->Array ED}(I:Inv X EN σ H s)(hH:H l=some (.lst xs))
  (e:s.heap.get? l=some {cls:=.type "list",data:=.seq its.toArray n}) (hf:f its.toArray=its'.toArray) (hv:Vals ys its') (hz:ys.length≤sizeLine):
  Inv X EN σ (upd H l (.lst ys)) {s with heap:=s.heap.update l (Obj.mapSeq f),toks:=t'}:=by
 have q:=PySem.IsL.update e f;rw [hf] at q;refine I.write (x:=l) (e:=l) (by rw [hH];exact trivial) (.inl rfl) (λ b' u hb hu=>(AI s.heap (Obj.mapSeq f) (B0 hb)).trans hu) ⟨_,q⟩ ?_;exact⟨hz,its',_,hv,q⟩
theorem Inv.lnew (I:Inv X EN σ H s)(hv:Vals ys its)(hz:ys.length≤sizeLine):
  Inv X EN σ (upd H s.heap.objs.size (.lst ys)) {s with heap:=s.heap.push {cls:=.type "list",data:=.seq its.toArray},toks:=t'}:=
 I.laid (λ _ _ q=>Ag _ q) (Al _) ⟨hz,its,0,hv,AF _ rfl⟩
theorem Inv.fresh (I:Inv X EN σ H s):H s.heap.objs.size=none:=I.hok.fresh (Al _)
theorem Inv.lstM (I:Inv X EN σ H s)(hH:H l=some (.lst xs)):xs.length≤sizeLine/\∃(its:List ED) (n:Nat),Vals xs its/\xs.length=its.length/\s.heap.get? l=some {cls:=.type "list",data:=.seq its.toArray n}:=by
 obtain⟨z,its,n,r,e⟩:=I.hok l _ hH;exact⟨z,its,n,r,r.length,e⟩
theorem lP (h:n≤sizeLine):Builtin.List.listTooLong n=false:=by
 unfold Builtin.List.listTooLong;exact AL (Nat.not_lt.mpr h)
end
section
variable {X:Cx}
def vw:V->List V->Hp->VK->Prop:=λ x vs H Q=>∃l xs y,x=.ref l/\vs=[y]/\H l=some (.lst xs)/\xs.length<sizeLine/\Q .non (upd H l (.lst (xs++[y])))
theorem cv:MtM X "list.append" vw:=by
 intro EN s σ H x vs v us Q I rx rv h;obtain⟨l,xs,y,rfl,rfl,hH,hz,q⟩:=h;cases rx;obtain⟨u,rfl,ru⟩:=rv.one;obtain⟨z,its,n,r,hl,e⟩:=I.lstM hH;refine DO BO ⟨_,e,rfl⟩ F.entry_list_append (F.args_list_append_2 _ _) (PySem.list_append l its.toArray n u (by rw [An];exact AT (CJ hl.symm) (B8 hz))) ⟨e,?_⟩;refine⟨.non,_,I.lset (its':=its++[u]) hH e Z6 (r.append (.cons ru .nil)) ?_,rfl,q⟩;rw [z0,CI]
 assumption
def wg:V->List V->Hp->VK->Prop:=λ x vs H Q=>∃l b xs zs,x=.ref l/\vs=[.ref b]/\H l=some (.lst xs)/\H b=some (.lst zs)/\xs.length+zs.length≤sizeLine/\Q .non (upd H l (.lst (xs++zs)))
theorem jo:MtM X "list.extend" wg:=by
 intro EN s σ H x vs v us Q I rx rv h;obtain⟨l,b,xs,zs,rfl,rfl,hH,hB,hz,q⟩:=h;cases rx;obtain⟨u,rfl,ru⟩:=rv.one;cases ru;obtain⟨z,its,n,r,hl,e⟩:=I.lstM hH;obtain⟨z2,its2,n2,r2,hl2,e2⟩:=I.lstM hB;have hsz:its.toArray.size+its2.toArray.size≤sizeLine:=by rw [An,An];lia
 have hlong:¬(!its.toArray.isEmpty&&Builtin.List.listTooLong (its.toArray.size+its2.toArray.size))=true:=by
  rw [lP hsz,Bool.and_false];exact Av
 refine DO Dm ⟨_,e,rfl⟩ F.entry_list_extend (F.args_list_extend_2 _ _)
  (AutoSeq1.list_extend_list_list_0 l its.toArray n b its2.toArray n2 hlong (by rw [An];exact B9 hl.symm z) (Dp hsz)) ⟨e,e2,?_⟩
 refine⟨.non,_,I.lset (its':=its++its2) hH e Z6 (r.append r2) ?_,rfl,q⟩;rw [z0]
 assumption
def x3:V->List V->Hp->VK->Prop:=λ x vs H Q=>∃l xs,x=.ref l/\vs=[]/\H l=some (.lst xs)/\Q .non (upd H l (.lst []))
theorem rf:MtM X "list.clear" x3:=by
 intro EN s σ H x vs v us Q I rx rv h;obtain⟨l,xs,rfl,rfl,hH,q⟩:=h;cases rx;have hus:=rv.zero;subst hus;obtain⟨z,its,n,r,hl,e⟩:=I.lstM hH;refine DO F.slot_list_clear ⟨_,e,rfl⟩ F.entry_list_clear (F.args_list_clear_1 _) (AutoSeq1.list_clear_list_0 l its.toArray n (by rw [An];exact B9 hl.symm z)) ⟨e,?_⟩;exact⟨.non,_,I.lset (its':=[]) (ys:=[]) hH e rfl .nil (AZ _),rfl,q⟩
def rCat:R2:=λ x y H Q=>∃l b xs zs,x=.ref l/\y=.ref b/\H l=some (.lst xs)/\H b=some (.lst zs)/\xs.length+zs.length≤sizeLine/\∀p,H p=none->Q (.ref p) (upd H p (.lst (xs++zs)))
theorem aJ:OpR X (binaryOp .Add) rCat:=by
 intro EN s σ H x y v u Q I rx ry h;obtain⟨l,b,xs,zs,rfl,rfl,hH,hB,hz,q⟩:=h;cases rx;cases ry;obtain⟨z,its,n,r,hl,e⟩:=I.lstM hH;obtain⟨z2,its2,n2,r2,hl2,e2⟩:=I.lstM hB;refine PySem.P.add_list e e2 ?_ (by rw [An,An];omega);have ea:its.toArray++its2.toArray=(its++its2).toArray:=Z6;rw [ea];exact⟨.ref _,_,I.lnew (t':=s.toks) (r.append r2) (by rw [z0];assumption),rfl,q _ I.fresh⟩
def yR:R2:=λ x y H Q=>∃l k xs,x=.ref l/\y=.int k/\H l=some (.lst xs)/\-(2^63)≤k/\k<2^63/\xs.length*k.toNat≤sizeLine/\
 ∀p,H p=none->Q (.ref p) (upd H p (.lst (List.replicate k.toNat xs).flatten))
theorem vq {α:Type}(xs:List α)(k:Nat):(List.replicate k xs).flatten.length=k*xs.length:=by
 induction k with
 |zero=>simp
 |succ k ih=>rw [BU,A3,z0,ih,Nat.succ_mul,Nat.add_comm]
theorem ke:OpR X (binaryOp .Mult) yR:=by
 intro EN s σ H x y v u Q I rx ry h;obtain⟨l,k,xs,rfl,rfl,hH,h1,h2,hz,q⟩:=h;cases rx;obtain⟨t,rfl⟩:=ry;obtain⟨z,its,n,r,hl,e⟩:=I.lstM hH;have hlen:its.toArray.size*k.toNat≤sizeLine:=by rw [An,<-hl];exact hz
 have hcap:¬its.toArray.size*k.toNat>(2^63-1)/8:=by
  have:(sizeLine:Nat)≤(2^63-1)/8:=Z9;lia
 have hfit:¬(!Builtin.List.listFitsIndex k)=true:=by
  rw [fitsIndex_both h1 h2];exact Av
 have hlong:¬Builtin.List.listTooLong (its.toArray.size*k.toNat)=true:=by
  rw [lP hlen];exact Av
 have hnew:List.foldl (λ x1 x2=>x1++x2) #[] (List.replicate (if its.toArray.isEmpty=true then 0 else k.toNat) its.toArray)=(List.replicate k.toNat its).flatten.toArray:=by
  have f0:∀m:Nat,List.foldl (λ x1 x2=>x1++x2) #[] (List.replicate m its.toArray)=(List.replicate m its).flatten.toArray:=λ m=>by
   have:=jB its m [];rw [DT] at this;exact this
  rw [f0];cases its with
  |nil=>simp
  |cons a r'=>rw [AO Z6]
 refine wpAny_binaryOp_repeat_ref (T:="list") (U:="int") Z9 ⟨_,e,rfl⟩ (λ s'=>typeIs_int s' k t) noFill_list_mul F.fills_int_mul F.slot_int_rmul repeat_list F.slot_int_index.lookup
  (DO F.slot_int_rmul (typeIs_int s k t) F.entry_int_rmul (F.args_int_rmul_2 _ _) (int___rmul___int_list k t l its.toArray n)
   ⟨e,rfl,⟨_,e,rfl⟩,DO F.slot_list_mul ⟨_,e,rfl⟩ F.entry_list_mul (F.args_list_mul_2 _ _) (AutoListH.list___mul___list_int_3 l its.toArray n k t hfit hcap hlong) ⟨e,?_⟩⟩)
 rw [hnew];exact⟨.ref _,_,I.lnew (t':=s.toks) (r.rep k.toNat) (by rw [vq,BD];exact hz),rfl,q _ I.fresh⟩
end
section
variable {prog:EF}{w:EG}{A:EI}{E:ED -> EE -> Prop}{s:EE}
set_option maxRecDepth 100000 in
end
section
variable {X:Cx}
end
end L2
namespace Att
open PySem PySem.W PySem.Calls PyProof.Rows
variable {n:Nat}{h:EJ}{P:Params}
theorem gZ:∀(ns:List Int) (vs:List ED),WellAll P h vs (ns.map WData.int)->IntsAre vs ns:=by
 intro ns
 induction ns with
 |nil=>
  intro vs w;rw [List.map_nil] at w;cases w;exact .nil
 |cons n ns ih=>
  intro vs w;rw [AJ] at w;cases w with
  |cons a b=>
   cases a;exact .cons _ _ (ih _ b)
theorem rb {l:OpenLaw}(hn:l.most=some n){args:List WData}{vals:List ED}
  (hpre:l.row.toRowW.claim.pre args=true) (hwl:WellAll P h vals args):
  ∃a vs ns,vals=[Value.ref a]/\args=[WData.list (ns.map WData.int)]/\h.get? a=some {cls:=.type "list",data:=.seq vs.toArray}/\IntsAre vs ns/\ns.length≤n:=by
 have hsh:WShape.hasAll [] args [.list .int]=true:=(pre_splitW hpre).1;have hc:l.pre.holds [] {args:=args}=true:=(pre_splitW hpre).2;obtain⟨d,r,rfl,h1,h2⟩:=hasAllW_cons hsh;obtain rfl:=hasAllW_nil h2;obtain⟨xs,rfl,h3⟩:=hasW_list h1;obtain⟨ns,rfl⟩:=items_int h3;have hlen:ns.length≤n:=by
  unfold OpenLaw.pre at hc;have h4:(WTm.not (.lt (.lit (.int (n:Int))) (.len (.arg 0)))).holds [] {args:=[.list (ns.map .int)]}=true:=by
   have h4:=(holds_andW hc).1;rw [hn] at h4;exact h4
  have h5:=condW_of h4 (w_not (w_lt w_lit (w_len_list (w_arg rfl))));rw [z7] at h5;refine DB λ q=>?_
  have q':(n:Int)<((ns.length:Nat):Int):=Z4
  first
   |(rw [Ai q'] at h5;exact absurd h5 Z9)
   |(simp at h5;omega)
 cases hwl with
 |cons w1 w2=>
  cases w2;cases w1 with
  |list ho hall=>exact⟨_,_,ns,rfl,rfl,ho,gZ ns _ hall,hlen⟩
theorem qK (l:OpenLaw)(args:List WData):l.row.toRowW.claim.post args (.bool true) args=true:=
 postW_of (r:=l.row.toRowW) (X:=(true==true))
  (show WShape.has [] (.bool true) .bool=true by first|rfl|decide|simp [WShape.has,WShape.arms,WShape.armsAll])
  (show(WTm.eq .res (.lit (.bool true))).value [] {args:=args,res:=some (.bool true),after:=args}=some (.bool (true==true)) from w_eq_bool (w_res rfl) w_lit) rfl
theorem attach_call {l:OpenLaw}{q:EF}{loose:List Str}{XP:(Str->Option ED)->EJ->Prop}{YP:EG->EJ->Prop}{d:DefRec}
  (hn:l.most=some n) (hdf:d.params.defaults=[])
  (call:∀(w:EG) (s₀ s₁:EE) (mg mb:Str->Option ED) (fa:EC) (o:EL) (pm cd doc:ED) (a:EC) (vs:List ED) (ns:List Int),
   Ground q loose [] XP w s₀ mg mb s₁.heap->YP w s₁.heap->
   s₁.heap.get? fa=some o->o.data=.func (docDef d.name d.params d.body d.scope pm cd doc)->s₁.heap.CodeRec cd d.name->mg d.name=some (.ref fa)->
   s₁.heap.get? a=some {cls:=.type "list",data:=.seq vs.toArray}->IntsAre vs ns->ns.length≤n->s₁.gens=#[]->
   codeAny (model l.prog w) callerA (.call (.ref fa) ⟨[.ref a],[]⟩) (λ r s'=>r=.ok (.ret (.bool true))/\OldK s₁.heap s'.heap/\s'.os=s₁.os/\AllBare s'.gens) s₁):
  WalkO q loose XP YP l.row.toRowW d [] (λ f vs=>PySem.call f vs):=by
 intro w s₀ s₁ mg mb G Y fa o pm cd doc dV kV ho hd hcd hD hmg hg args vals as hpre hlay hrd hwl hlo;obtain rfl:dV=.none:=Dflts.none hD hdf;obtain rfl:kV=.none:=Dflts.noKw hD;obtain⟨a,vs,ns,rfl,rfl,hobj,hints,hlen⟩:=rb hn hpre hwl;refine enter_call (codeAny_mono (call w s₀ s₁ mg mb fa o pm cd doc a vs ns G Y ho (fd_plain hd) hcd hmg hobj hints hlen hg) λ r s' hq=>?_);obtain⟨rfl,h2,h3,h4⟩:=hq;exact⟨.inl ⟨.bool true,.bool true,[],rfl,λ _=>rfl,.bool true,qK l _,λ _=>⟨List.Pairwise.nil,λ _ hm=>(nomatch hm)⟩⟩,h2,h3,h4⟩
section
variable {prog:EF}{w:EG}{A:EI}{E:ED -> EE -> Prop}{s:EE}{K:Frag}
end
end Att
namespace L2
open PySem PySem.Spec PyProof.Rows
variable {fd:EH}{K:Frag}{sp:Sp}{A:Prop}{Q:VK}{ns:List Int}{a d f l:EC}{qual x y:Str}{N ps:List Str}{vs:List ED}{g:TG}{py spos:Pos}{R:Hp->Prop}{scope:Scope}{X:Cx}{n:Nat}{te:TE}{H H1:Hp}{b:Int}{σ:St}{st:EM}{mg:Str->Option ED}{w:EG}{P:EF}
theorem qe (h:IntsAre vs ns):Vals (ns.map V.int) vs:=by
 induction h with
 |nil=>exact .nil
 |cons n t _ ih=>exact .cons ⟨t,rfl⟩ ih
def yd (H:Hp):Prop:=∀b,H b=none\/∃o xs,H b=some (.frz o (.lst xs))
theorem sM {mb:Str->Option ED}{CX:CXT}{k:Nat}{fa:EC}{s₁:EE}
  (KX:K.In s₁.heap) (hns:s₁.heap.Ns mainGlobals mg) (hb:s₁.heap.Ns builtinsNs mb) (hbb:∀x:Str,x≠ "__name__"->mb x=bootBuiltins x) (hlim:s₁.heap.NoLimit) (hg:s₁.gens=#[])
  (ha:s₁.heap.get? a=some {cls:=.type "list",data:=.seq vs.toArray}) (hi:IntsAre vs ns) (hl:ns.length≤sizeLine) (hr:Room k callerA)
  (F:∀base:EJ,K.In base->base.Ns mainGlobals mg->FnOk P w K mg base CX k fa fd [x] sp) (hbind:∀(s:EE) (u:ED),BindsTo s fd ⟨[u],[]⟩ [(x,u)])
  (hsp:∀H:Hp,yd H->SqL K H a (ns.map V.int)->sp [.ref a] H (λ v _=>v=.bl true) λ _ _ _=>False)
  (hCX:∀H e s',CX [] H s₁ (λ _ _ _=>False) e s'->False):
  codeAny (model P w) callerA (.call (.ref fa) ⟨[.ref a],[]⟩) (λ r s'=>r=.ok (.ret (.bool true))/\OldK s₁.heap s'.heap/\s'.os=s₁.os/\AllBare s'.gens) s₁:=by
 have rv:=qe hi;have lenV:=hi.length;have core:∀H:Hp,yd H->SqL K H a (ns.map V.int)->HOk P w H s₁.heap->(∀b,H b≠none->b=a)->(H a≠none->K.lookup a=none)->
   codeAny (model P w) callerA (.call (.ref fa) ⟨[.ref a],[]⟩) (λ r s'=>r=.ok (.ret (.bool true))/\OldK s₁.heap s'.heap/\s'.os=s₁.os/\AllBare s'.gens) s₁:=by
  intro H hO hS hok hA hK;have base_of:∀{b:EC} {o:EL},s₁.heap.get? b=some o->H b=none->(hidT s₁.heap H).get? b=some o:=λ e n=>sx e n
  have noA:∀{b:EC} {o:EL} {es:Array DictEntry} {ep:Nat},s₁.heap.get? b=some o->o.data=.dict es ep->H b=none:=λ {b o es ep} e d=>by
   cases q:H b with
   |none=>rfl
   |some u=>
    have e':b=a:=hA b (by rw [q];simp);subst e';rw [ha] at e;cases e;have d':Data.seq vs.toArray _=Data.dict es ep:=d;cases d'
  have nsK:∀{b:EC} {m:Str->Option ED},s₁.heap.Ns b m->(hidT s₁.heap H).Ns b m:=λ {b m} ⟨o,es,ep,e,d,r⟩=>⟨o,es,ep,base_of e (noA e d),d,r⟩
  have hKb:K.In (hidT s₁.heap H):=λ b o e=>base_of (KX b o e) (by
   cases q:H b with
   |none=>rfl
   |some u=>
    have e':b=a:=hA b (by rw [q];simp);subst e';rw [hK (by rw [q];simp)] at e;cases e)
  have hM:Mod K mg (hidT s₁.heap H):=⟨hKb,nsK hns,⟨mb,nsK hb,hbb⟩,let⟨mc,h1,h2⟩:=hlim;⟨mc,nsK h1,h2⟩⟩;have e0:Env0 P w K mg (hidT s₁.heap H) callerA [] s₁ H:=⟨rfl,hM,λ b o e=>wj e,CJ (qb _ _),trivial,λ b hb=>absurd (show b∈([]:List EC) from hb) Z6,hok,.of_eq hg,.inl rfl⟩;refine codeAny_mono ((F _ hKb (nsK hns)).run callerA [] s₁ H ⟨[.ref a],[]⟩ [.ref a] [.ref a] _ _ hr e0 (hbind s₁ (.ref a)) (.cons rfl .nil) (hsp H hO hS)) λ r s' h=>?_
  cases r with
  |error e=>exact(hCX H e s' h).elim
  |ok fl=>
   cases fl with
   |next=>exact False.elim h
   |brk=>exact False.elim h
   |cont=>exact False.elim h
   |ret u=>
    obtain⟨v,H',os,bare,un,hok',r',q⟩:=h;have q':v=.bl true:=q;subst q';obtain rfl:u=Value.bool true:=r';refine⟨rfl,OldK.of_keep λ b o e=>?_,os,bare⟩;cases q:H b with
    |none=>exact un.keep b o e q (by intro z;exact absurd (show b∈([]:List EC) from z) Z6) Z6
    |some u=>
     rcases hO b with z|⟨ob,xs,z⟩
     ·rw [q] at z;cases z
     ·have z2:=un.frzs b ob _ z;obtain⟨e1,_⟩:=hok b _ z;obtain⟨e2,_⟩:=hok' b _ z2;rw [e] at e1;cases e1;exact e2
 cases hk:K.lookup a with
 |some o=>
  have e:=KX a o hk;rw [ha] at e;cases e;refine core (λ _=>none) (λ _=>.inl rfl) (.inr ⟨_,vs.toArray,_,hk,rfl,rfl,rfl,by rw [An,lenV];exact hl,by simpa using rv⟩) (λ b u z=>by have z':(none:Option HO)=some u:=z;cases z') (λ b z=>absurd rfl z) λ z=>absurd rfl z
 |none=>
  refine core (λ b=>if b=a then some (.frz {cls:=.type "list",data:=.seq vs.toArray} (.lst (ns.map V.int))) else none) (λ b=>?_) (.inl (.inr ⟨{cls:=.type "list",data:=.seq vs.toArray},AV rfl⟩)) (λ b u z=>?_) (λ b z=>?_) λ _=>hk
  ·by_cases hb:b=a
   ·exact .inr ⟨_,_,AV hb⟩
   ·exact .inl (AO hb)
  ·by_cases hb:b=a
   ·have z':=(AV hb).symm.trans z;cases z';subst hb;exact⟨ha,by rw [z7];exact hl,vs,_,rv,ha⟩
   ·have z':=(AO hb).symm.trans z;cases z'
  ·by_cases hb:b=a
   ·exact hb
   ·exact absurd (AO hb) z
theorem walk_of {l:PySem.W.OpenLaw}{k:Nat}{q:EF}{loose:List Str}{XP:(Str->Option ED)->EJ->Prop}{YP:EG->EJ->Prop}{d:DefRec}{K:Params->Frag}{CX:EG->CXT}{sp:EG->Sp}
  (hn:l.most=some n) (hn2:n≤sizeLine) (hdf:d.params.defaults=[]) (hr:Room k callerA)
  (hY:∀(w:EG) (h:EJ),YP w h->(K w.params).In h)
  (F:∀(w:EG) (mg:Str->Option ED) (fa:EC) (h:EJ),(K w.params).In h->h.Ns mainGlobals mg->mg d.name=some (.ref fa)->
   ∃fd:EH,(∀(s:EE) (u:ED),BindsTo s fd ⟨[u],[]⟩ [(x,u)])/\
    ∀base:EJ,(K w.params).In base->base.Ns mainGlobals mg->FnOk l.prog w (K w.params) mg base (CX w) k fa fd [x] (sp w))
  (hsp:∀(w:EG) (H:Hp) (a:EC) (ns:List Int),ns.length≤n->yd H->SqL (K w.params) H a (ns.map V.int)->sp w [.ref a] H (λ v _=>v=.bl true) λ _ _ _=>False)
  (hCX:∀(w:EG) (H:Hp) (s:EE) (e:ED) (s':EE),CX w [] H s (λ _ _ _=>False) e s'->False):
  PySem.W.WalkO q loose XP YP l.row.toRowW d [] (λ f vs=>PySem.call f vs):=by
 refine Att.attach_call hn hdf λ w s₀ s₁ mg mb fa o pm cd doc a vs ns G Y ho hd hcd hmg hobj hints hlen hg=>?_
 have KX:=hY w _ Y;obtain⟨fd,hb,hF⟩:=F w mg fa _ KX G.T.g hmg;exact sM KX G.T.g G.T.b G.T.builtins G.T.nolimit hg hobj hints (AT hlen hn2) hr hF hb (λ H hO hS=>hsp w H a ns hlen hO hS) λ H e s'=>hCX w H s₁ e s'
noncomputable def bW (s:EM) (j:Nat):EM:=match s with
 | .ClassDef _ _ _ body _ _ _ _ _ _ _=>body.getD j (.Pass ⟨0,0,0,0⟩)
 |_=>.Pass ⟨0,0,0,0⟩
noncomputable def bx (s:EM):Arguments:=match s with
 | .FunctionDef _ a _ _ _ _ _ _ _ _=>a
 |_=>{posonlyargs:=[],args:=[],vararg:=none,kwonlyargs:=[],kw_defaults:=[],kwarg:=none,defaults:=[]}
noncomputable def bc (s:EM):List EM:=match s with
 | .FunctionDef _ _ b _ _ _ _ _ _ _=>b
 |_=>[]
noncomputable def ak (s:EM):Scope:=match s with
 | .FunctionDef _ _ _ _ _ _ sc _ _ _=>sc
 |_=>{kind:=.function,names:=[],isGenerator:=false,isCoroutine:=false}
abbrev CX0:CXT:=λ _ _ _ _ _ _=>False
abbrev E0:XK:=λ _ _ _=>False
theorem ap:cD CX0 X E0:=λ _ _ _ _ _ _ _ h=>h.elim
structure Fun (K:Frag)(x qual:Str)(st:EM)(f:EC)(fd:EH):Prop where
 ex:∃(oc:ED) (od:Option EC) (kV doc pm:ED) (an:Option EC) (EO ct:ED) (osl:Array (Option ED)),
  fd=fnOf x qual (bx st) (bc st) (ak st) .none kV doc pm an EO ct/\K.lookup f=some ⟨oc,od,.func fd,osl⟩/\codeIn K EO qual=true
 kp:keepIn K (.ref f)=true
section
variable {P:EF}{w:EG}{K:Frag}{mg:Str -> Option ED}{base:EJ}
theorem Fun.ok {k:Nat}(F:Fun K x qual st f fd)(S:FnScope N ps (ak st))
  (hbody:∀(EO:ED) (A:EI) (outer:List Env) (s:EE) (H:Hp) (vs:List V) (Q:VK) (E:XK),Room k (A.deeper (envOfC qual (ak st) s.heap.objs.size f EO))->sp vs H Q E->
   let X:=(cxOf CX0 P w K mg base N qual (ak st) f EO A outer s H E).nox;∃t,PSs X (bc st) t/\t {nx:=λ _ H'=>Q .non H',rt:=Q} (start N vs) H) (len:autoParam (∀vs H Q E,sp vs H Q E->vs.length=ps.length) ZV):FnOk P w K mg base CX0 (k+1) f fd ps sp:=by
 obtain⟨oc,od,kV,doc,pm,an,EO,ct,osl,rfl,lk,hcd⟩:=F.ex;refine oK lk hcd S len λ A outer s H vs Q E hr hsp=>?_
 obtain⟨t,h,q⟩:=hbody EO A outer s H vs Q E hr hsp;exact⟨t,h.nox,q⟩
theorem fun_mk {oc:ED}{od an:Option EC}{osl:Array (Option ED)}{kV doc pm EO ct:ED}(l:K.lookup f=some ⟨oc,od,.func (fnOf x qual (bx st) (bc st) (ak st) .none kV doc pm an EO ct),osl⟩)
  (c:codeIn K EO qual=true) (k:keepIn K (.ref f)=true):Fun K x qual st f (fnOf x qual (bx st) (bc st) (ak st) .none kV doc pm an EO ct):=⟨⟨oc,od,kV,doc,pm,an,EO,ct,osl,rfl,l,c⟩,k⟩
end
section
variable {X:Cx}
theorem pv (i:Nat){pos:Pos}(hN:autoParam (X.N[i]?=some x) Z0)(hv:autoParam (Vis X.env.scope x) ZT)(hd:autoParam ((x==("__debug__":Str))=false) ZZ)
  (hcd:autoParam ((x==("__classdict__":Str))=false) ZZ):PE X (.Name x pos) (tVar i):=sj hN hv hd hcd
end
theorem bq {B:Prop}(h:B):if false=true then A else B:=by
 rw [AO Av];exact h
theorem bR {B:Prop}(h:A):if true=true then A else B:=by
 rw [AV rfl];exact h
theorem bi {c B:Prop} [Decidable c] (h1:c->A)(h2:¬c->B):if c then A else B:=by
 by_cases h:c
 ·rw [AV h];exact h1 h
 ·rw [AO h];exact h2 h
def Same (H H':Hp):Prop:=∀b o,H b=some o->H' b=some o
theorem Same.refl (H:Hp):Same H H:=λ _ _ h=>h
theorem Same.trans {H2:Hp}(a:Same H H1)(b:Same H1 H2):Same H H2:=λ c o h=>b c o (a c o h)
def wD (n:Nat)(wi:TI)(g:TG)(te:TE):TE:=λ σ H Q=>wi σ H λ J H1=>∀l,H1 l=none->∃W:Nat->Nat->List V->St->Hp->Prop,
 (∃m,W 0 m [] (List.replicate n none) (upd H1 l (.lst [])))/\∀i m ys σ' H',W i m ys σ' H'->
  (J.stop i H'/\Q (.ref l) H')\/(J.go i H'/\∀x H2,J.yld i H' x H2->g x σ' H2 λ σ3 H3=>te σ3 H3 λ y H4=>
   H4 l=some (.lst ys)/\ys.length<sizeLine/\∃m',m'<m/\W (i+1) m' (ys++[y]) σ3 (upd H4 l (.lst (ys++[y]))))
def sY (i:Nat)(t:TE):TS:=λ D σ H=>t σ H λ v H1=>D.nx (σ.set i (some v)) H1
theorem kO {xs:List V}(Pv:Nat->List V->Hp->Prop)(h0:Pv 0 [] (upd H1 l (.lst [])))(hl:∀i ys H,i≤xs.length->Pv i ys H->SqL K H a xs)
  (hs:∀i x ys σ H,xs[i]?=some x->Pv i ys H->σ.length=n->g x σ H λ σ3 H3=>te σ3 H3 λ y H4=>H4 l=some (.lst ys)/\ys.length<sizeLine/\σ3.length=n/\Pv (i+1) (ys++[y]) (upd H4 l (.lst (ys++[y]))))
  (hd:∀ys H,Pv xs.length ys H->R H) (mg:∀x σ H (A B:St->Hp->Prop),(∀σ' H',A σ' H'->B σ' H')->g x σ H A->g x σ H B) (mt:∀σ H (A B:VK),(∀v H',A v H'->B v H')->te σ H A->te σ H B):
  ∃W:Nat->Nat->List V->St->Hp->Prop,(∃m,W 0 m [] (List.replicate n none) (upd H1 l (.lst [])))/\∀i m ys σ' H',W i m ys σ' H'->
   ((Itl K a).stop i H'/\R H')\/((Itl K a).go i H'/\∀x H2,(Itl K a).yld i H' x H2->g x σ' H2 λ σ3 H3=>te σ3 H3 λ y H4=>
    H4 l=some (.lst ys)/\ys.length<sizeLine/\∃m',m'<m/\W (i+1) m' (ys++[y]) σ3 (upd H4 l (.lst (ys++[y])))):=by
 refine⟨λ i m ys σ H=>m=xs.length-i/\i≤xs.length/\σ.length=n/\Pv i ys H,⟨xs.length,Z6,AZ _,AR,h0⟩,?_⟩;rintro i m ys σ H ⟨rfl,hi,hn,p⟩;have q:=hl i ys H hi p;by_cases EQ:i<xs.length
 ·refine .inr ⟨⟨xs,xs[i],q,by simp [EQ]⟩,λ x H' y=>?_⟩;obtain⟨e,y⟩:=y;subst e;exact mg _ _ _ _ _ (λ σ3 H3 z=>mt _ _ _ _ (λ y H4 z9=>by obtain⟨z1,z2,z3,z4⟩:=z9;exact⟨z1,z2,xs.length-(i+1),Cg _ _ EQ,rfl,EQ,z3,z4⟩) z) (hs i x ys σ _ (y xs q) p hn)
 ·have e:i=xs.length:=Ci hi (Nat.not_lt.1 EQ);subst e;exact .inl ⟨⟨xs,q,Al _⟩,hd ys H p⟩
section
variable {X:Cx}
theorem tH (hc:X.A.handled=none):dg X (.builtin "sum") (λ xs H Q=>∃(p:EC) (ns:List Int),xs=[.ref p]/\SqL X.K H p (ns.map V.int)/\Q (.int ns.sum) H):=by
 intro EN s σ H xs us Q I r h;obtain⟨p,ns,rfl,hq,q⟩:=h;obtain⟨u,rfl,rx⟩:=eu r;cases rx;obtain⟨its,rv,pl,hz⟩:=I.list hq;have hi:=df rv;obtain⟨ys,hx⟩:=hi.allInts.items;have hl:s.heap.IsList p (intItems ys):=hx▸pl.isList;refine sum_intListG hc hl λ h' tk t' hk=>?_
 have e1:ns=ys.toList.map (·.1):=by
  rw [<-nums_intItems,<-hx];exact(show numsOf its.toArray.toList=ns from hi.numsOf).symm
 have e2:preSum (numAt ys) ys.size=ns.sum:=by
  rw [preSum_eq,AA Z6,e1]
 rw [e2];exact⟨.int ns.sum,H,I.kept (t':=tk) hk,⟨_,rfl⟩,q⟩
theorem bU:dg X (.builtin "isinstance") (λ xs H Q=>∃x c t b,xs=[x,.ty c]/\TyOf X.K H x t/\kitOne X.K t (.type c)=some b/\Q (.bl b) H):=by
 intro EN s σ H xs us Q I r h;obtain⟨x,c,t,b,rfl,ty,e,q⟩:=h;obtain⟨u,v,rfl,ru,rv⟩:=oV r;cases rv;exact qw I ru ty e λ tk=>⟨.bl b,H,I.tok tk,rfl,q⟩
end
noncomputable def aN (X:Cx) (N:List Str) (scope:Scope) (cl:List (Str×EC)) (fp:List EC) (s:EE) (H:Hp):Cx where
 prog:=X.prog
 w:=X.w
 K:=X.K
 mg:=X.mg
 base:=X.base
 A:=X.A
 N:=N
 s₀:=s
 H₀:=H
 env:=compEnvC scope cl s.heap.objs.size X.env
 outer:=X.stack
 stack:=X.stack
 ex:=fp
 fn:=λ _=>false
 calm:=X.calm
 pn:=[]
 xe:=λ _ _=>False
def cap (js:List (Option Nat))(σ:St):St:=js.map λ o=>match o with
 |none=>none
 |some j=>(σ[j]?).getD none
structure Caps (X:Cx)(N:List Str)(scope:Scope)(cl:List (Str×EC))(js:List (Option Nat)):Prop where
 kind:scope.kind=.function
 nocell:∀x∈scope.names,x.2≠ .cell
 names:∀x∈scope.names,x.2=.local->scope.names.lookup x.1=some .local
 clos:closureFor scope X.env=pure cl
 sub:∀x c,cl.lookup x=some c->X.env.cells.lookup x=some c
 has:∀x,((relabel scope X.env).names.lookup x=some .cell\/(relabel scope X.env).names.lookup x=some .free)->∃c,cl.lookup x=some c
 len:js.length=N.length
 slot:∀(i:Nat) (x:Str) (j:Nat),N[i]?=some x->js[i]?=some (some j)->X.N[j]?=some x/\X.env.scope.names.lookup x=some .cell/\(relabel scope X.env).names.lookup x=some .cell/\∀c,X.env.cells.lookup x=some c->cl.lookup x=some c
section
variable {X:Cx}{EN:List (EC × EL)}{σ:St}{H:Hp}{s:EE}{N:List Str}{scope:Scope}{cl:List (Str × EC)}{js:List (Option Nat)}{fp:List EC}
theorem jj {h':EJ}{t':Nat}{m:Str->Option ED}(I:Inv X EN σ H s)(C:Caps X N scope cl js)
  (hf:∀b∈fp,fD X EN H b) (EQ:∀b∈fp,b<s.heap.objs.size) (hn:h'.Ns s.heap.objs.size m) (hk:∀b o,s.heap.get? b=some o->h'.get? b=some o):
  Inv (aN X N scope cl fp s H) [] (cap js σ) H {s with heap:=h',toks:=t'}:=by
 have sub:∀{x:Str} {c:EC},(aN X N scope cl fp s H).env.cells.lookup x=some c->X.env.cells.lookup x=some c:=λ {x c} e=>C.sub x c e
 refine⟨⟨I.ok.mod,C.kind,I.ok.glob,I.ok.blt,Al _,λ x y c e1 e2=>I.ok.inj x y c (sub e1) (sub e2),λ x hx=>C.has x hx,λ x c e _=>(by cases e),I.qt,I.ok.frames,.inl rfl,
  λ b hb=>⟨A2 (EQ b hb),λ x c e=>(hf b hb).2.2.2.2.1 x c (sub e)⟩,I.bs,AT I.ok.bsz I.sz,λ b o e hb=>?_,λ b hb hs=>?_,I.stack,I.stkFree⟩,
  rfl,I.bare,Un.kept hk,⟨m,hn,λ i x v h1 h2 h3=>?_⟩,λ x c e=>?_,I.hok.fresh (Al _),λ x c e=>I.freeC x c (sub e),λ p hp=>?_,I.hok.kept hk,by unfold cap;rw [z7];exact C.len⟩
 ·rcases(hf b hb).2.2.2.1 with z|z
  ·exact I.ok.noex b o e z
  ·exact absurd (Ap (Aw e) (AT I.ok.bsz z)) (BJ _)
 ·rcases Bc.mp (I.stkSub b hs) with z|z
  ·exact(hf b hb).2.1 z
  ·exact(hf b hb).2.2.1 z
 ·unfold cap at h2;rw [Au] at h2;cases ej:js[i]? with
  |none=>rw [ej] at h2;cases h2
  |some o=>
   rw [ej] at h2;cases o with
   |none=>cases h2
   |some j=>
    have h2':(σ[j]?).getD none=some v:=AY h2;obtain⟨hj1,hk1,hk2,hc⟩:=C.slot i x j h1 ej;have hj2:σ[j]?=some (some v):=by
     cases e:σ[j]? with
     |none=>rw [e] at h2';cases h2'
     |some w'=>rw [e] at h2';exact AB some h2'
    obtain⟨mo,hno,hl⟩:=I.loc;obtain⟨u,r,l⟩:=hl j x v hj1 hj2 (.inr (.inl hk1));refine⟨u,r,?_⟩;rcases l with⟨q,_⟩|⟨_,c,ec,o,ho,hd⟩
    ·have q':X.env.scope.names.lookup x=some .local:=q;rw [hk1] at q';cases q'
    ·exact .inr ⟨.inl hk2,c,hc c ec,o,hk c o ho,hd⟩
 ·obtain⟨v,o,ho,hd⟩:=I.cell x c (sub e);exact⟨v,o,hk c o ho,hd⟩
 ·exact absurd (show p∈([]:List (EC×EL)) from hp) Z6
theorem fq {pins':List (EC×EL)}{σ':St}{H':Hp}{s':EE}(I:Inv X EN σ H s)(hf:∀b∈fp,fD X EN H b)(I':Inv (aN X N scope cl fp s H) pins' σ' H' s'):Inv X EN σ H' s':=
 I.call' (ch:=fp) I'.os I'.base I'.hok I'.bare λ b hb=>⟨(hf b hb).2.2.2.1,(hf b hb).2.1,(hf b hb).2.2.2.2.1,(hf b hb).2.2.2.2.2⟩
end
def kM (js:List (Option Nat))(wi:TI)(g:TG)(te:TE):TE:=λ σ H Q=>wi σ H λ J H1=>∀l,H1 l=none->∃W:Nat->Nat->List V->St->Hp->Prop,
 (∃m,W 0 m [] (cap js σ) (upd H1 l (.lst [])))/\∀i m ys σ' H',W i m ys σ' H'->
  (J.stop i H'/\Q (.ref l) H')\/(J.go i H'/\∀x H2,J.yld i H' x H2->g x σ' H2 λ σ3 H3=>te σ3 H3 λ y H4=>
   H4 l=some (.lst ys)/\ys.length<sizeLine/\∃m',m'<m/\W (i+1) m' (ys++[y]) σ3 (upd H4 l (.lst (ys++[y]))))
def eO (js:List (Option Nat))(wi:TI)(g:TG)(tt:TT)(te:TE):TE:=λ σ H Q=>wi σ H λ J H1=>∀l,H1 l=none->∃W:Nat->Nat->List V->St->Hp->Prop,
 (∃m,W 0 m [] (cap js σ) (upd H1 l (.lst [])))/\∀i m ys σ' H',W i m ys σ' H'->
  (J.stop i H'/\Q (.ref l) H')\/(J.go i H'/\∀x H2,J.yld i H' x H2->g x σ' H2 λ σ3 H3=>tt σ3 H3 λ c H5=>if c=true then te σ3 H5 λ y H4=>
   H4 l=some (.lst ys)/\ys.length<sizeLine/\∃m',m'<m/\W (i+1) m' (ys++[y]) σ3 (upd H4 l (.lst (ys++[y]))) else∃m',m'<m/\W (i+1) m' ys σ3 H5)
def pU (prog:EF)(w:EG)(A:EI)(elt ER iter:EK)(cs:List EK)(scope:Scope)(pos:Pos)(tw:Env->(Bool->EE->Prop)->(ED->EE->Prop)->EE->Prop):Prop:=
 ∀(R:Result->EE->Prop) (s:EE) (it acc:ED) (env:Env) (J:Nat->EE->Prop),(∀n z,J n z->wpAny (model prog w) A (pyNext it) (λ r z1=>match r with
   |none=>R (.ok .next) z1
   |some v=>wpAny (model prog w) A (letOwnedTupleGo ER it v) (λ _ z2=>wpAny (model prog w) A (assign ER env v) (λ _ z3=>tw env (λ b z6=>if b=true then wpAny (model prog w) A (eval elt env) (λ x z4=>
     wpAny (model prog w) A (call (.builtin "list.append") [acc,x]) (λ _ z5=>∃m,m<n/\J m z5)
      (notedBy (model prog w) A env λ e s'=>R (.error e) s') z4) (notedBy (model prog w) A env λ e s'=>R (.error e) s') z6 else∃m,m<n/\J m z6) (notedBy (model prog w) A env λ e s'=>R (.error e) s') z3)
      (notedBy (model prog w) A env λ e s'=>R (.error e) s') z2) (notedBy (model prog w) A env λ e s'=>R (.error e) s') z1) (notedBy (model prog w) A env λ e s'=>R (.error e) s') z)->
  ∀n,J n s->codeAny (model prog w) A (.compLoop (.ListComp elt [⟨ER,iter,cs,0⟩] scope pos) 0 it acc env) R s
def twI (prog:EF)(w:EG)(A:EI)(cnd:EK):Env->(Bool->EE->Prop)->(ED->EE->Prop)->EE->Prop:=λ env Q E z=>wpAny (model prog w) A (isTrue cnd env (eval cnd env)) Q E z
def tw0:Env->(Bool->EE->Prop)->(ED->EE->Prop)->EE->Prop:=λ _ Q _ z=>Q true z
section
variable {prog:EF}{w:EG}{A:EI}
theorem ll {elt ER iter:EK}{cs:List EK}{pos:Pos}{tw:Env->(Bool->EE->Prop)->(ED->EE->Prop)->EE->Prop}
    (h:(∃cnd,cs=[cnd]/\tw=twI prog w A cnd)\/(cs=[]/\tw=tw0)):pU prog w A elt ER iter cs scope pos tw:=by
  intro R s it acc env J turn n h0
  refine codeAny_loop rfl J (λ k z hz=>?_) n h0
  show wpAny _ _ ((compTurn (.ListComp elt [⟨ER,iter,cs,0⟩] scope pos) 0 it acc env).onRaise (λ q=>do noteFrame q env;theTreesLotGoes q)) _ _ z
  refine wpAny_noted ?_
  rw [compTurn_list]
  refine Aa (wpAny_standAt (Aa (Bb (turn k z hz) (λ r z1 g1=>?_) λ _ _ q=>q)))
  cases r with
  |none=>exact Am g1
  |some v=>
    refine Aa (Bb g1 (λ _ z2 g2=>Aa (Bb g2 (λ _ z3 g3=>?_) λ _ _ q=>q)) λ _ _ q=>q)
    rcases h with⟨cnd,rfl,rfl⟩|⟨rfl,rfl⟩
    · refine Aa (wpAny_tests_one (Bb g3 (λ b z6 g6=>?_) λ _ _ q=>q))
      cases b with
      |false=>exact Am ⟨rfl,g6⟩
      |true=>exact Aa (Aa (Bb g6 (λ x z4 g4=>Aa (Bb g4 (λ _ z5 g5=>Am (Am ⟨rfl,g5⟩)) λ _ _ q=>q)) λ _ _ q=>q))
    · exact Aa (Am (Aa (Aa (Bb g3 (λ x z4 g4=>Aa (Bb g4 (λ _ z5 g5=>Am (Am ⟨rfl,g5⟩)) λ _ _ q=>q)) λ _ _ q=>q))))
end
def PTw (X:Cx)(tw:Env->(Bool->EE->Prop)->(ED->EE->Prop)->EE->Prop)(tt:TT):Prop:=∀EN s σ H (Q:Bool->Hp->Prop) (Q':Bool->EE->Prop) (E:ED->EE->Prop),Inv X EN σ H s->tt σ H Q->(∀b s',(∃H',Inv X EN σ H' s'/\Q b H')->Q' b s')->tw X.env Q' E s
def ttT:TT:=λ _ H Q=>Q true H
theorem rK:PTw X tw0 ttT:=λ _ _ _ H _ _ _ I h k=>k _ _ ⟨H,I,h⟩
theorem yx {cnd:EK}{tt:TT}(ht:PT X cnd tt)(hx:∀e s,X.xe e s->False):PTw X (twI X.prog X.w X.A cnd) tt:=
 λ EN s σ H Q Q' E I h k=>Bb (ht EN s σ H Q I h) (λ b s' z=>k b s' z) λ _ _ z=>(hx _ _ z).elim
theorem rA:cap (N.map λ _=>none) σ=List.replicate N.length none:=by
 unfold cap;rw [Dw];exact List.map_const'
theorem yF (hkind:scope.kind=.function)(hfree:∀x∈scope.names,x.2≠ .free)(hcell:∀x∈scope.names,x.2≠ .cell)(hnames:∀x∈scope.names,x.2=.local->scope.names.lookup x.1=some .local):Caps X N scope [] (N.map λ _=>none):=by
 have rl:∀x∈(relabel scope X.env).names,x∈scope.names:=by
  intro x hx;obtain⟨⟨n,k⟩,m,e⟩:=C6.mp hx;have hk:k≠ .free:=hfree _ m;have:(k==NameKind.free)=false:=by simpa using hk
  simp [this] at e;rw [<-e];exact m
 refine⟨hkind,hcell,hnames,closureFor_none hfree,λ x c h=>(by cases h),λ x h=>?_,z7 ..,λ i x j h1 h2=>?_⟩
 ·rcases h with h|h
  ·exact absurd rfl (hcell _ (rl _ (AU h)))
  ·exact absurd rfl (hfree _ (rl _ (AU h)))
 ·rw [Au] at h2;cases e:N[i]? with
  |none=>rw [e] at h2;cases h2
  |some y=>rw [e] at h2;cases h2
theorem yV {wi:TI}(h:wD N.length wi g te σ H Q):eO (N.map λ _=>none) wi g ttT te σ H Q:=by
 unfold eO;rw [rA];exact h
section
variable {X:Cx}{N:List Str}{scope:Scope}{cl:List (Str × EC)}{js:List (Option Nat)}{elt cnd ER iter:EK}{cs:List EK}{pos:Pos}{wi:TI}{g:TG}{tt:TT}{te:TE}{tw:Env -> (Bool -> EE -> Prop) -> (ED -> EE -> Prop) -> EE -> Prop}
theorem ig {EN:List (EC×EL)}{s:EE}{RR:ED->EC->Result->EE->Prop}
  (hc:X.calm=true) (Cp:Caps X N scope cl js)
  (hi:PI X ER iter wi) (hg:∀fp s H,PG (aN X N scope cl fp s H) ER g) (LR:pU X.prog X.w X.A elt ER iter cs scope pos tw) (ht:∀fp s H,PTw (aN X N scope cl fp s H) tw tt) (he:∀fp s H,PE (aN X N scope cl fp s H) elt te)
  (I:Inv X EN σ H s) (h:eO js wi g tt te σ H Q)
  (hR:∀(l C:EC) (H':Hp) (s':EE),Inv X EN σ H' s'->fD X EN H' C->(∃m,s'.heap.Ns C m)->Q (.ref l) H'->RR (.ref l) C (.ok .next) s'):
  wpAny (model X.prog X.w) X.A (eval iter X.env) (λ x s₁=>wpAny (model X.prog X.w) X.A (pyIter x) (λ it s₂=>wpAny (model X.prog X.w) X.A (newList []) (λ acc s₃=>
   wpAny (model X.prog X.w) X.A (newFunctionEnv scope X.env.globals cl [] X.env.qual none .none (some X.env)) (λ cenv s₄=>
    codeAny (model X.prog X.w) X.A (.compStart (.ListComp elt [⟨ER,iter,cs,0⟩] scope pos) 0 it acc {cenv with scope:=relabel scope X.env}) (RR acc cenv.locals) s₄) X.xe s₃) X.xe s₂) X.xe s₁) X.xe s:=by
 refine thn (hi EN s σ H _ I h) λ v s1 h1=>thn h1 λ itv s2 h2=>?_
 obtain⟨it,fp,tn,J,H2,e,I2,T,st2,f2,hw⟩:=h2;subst e;have hl2:H2 s2.heap.objs.size=none:=I2.hok.fresh (Al _);obtain⟨W,⟨m0,w0⟩,turn⟩:=hw s2.heap.objs.size hl2;have lt2:∀b∈fp,b<s2.heap.objs.size:=λ b hb=>let⟨o,e,_⟩:=T.obj _ _ st2 b hb;Aw e
 refine wpAny_newList ?_;have I3:Inv X EN σ (upd H2 s2.heap.objs.size (.lst [])) {s2 with heap:=s2.heap.push {cls:=.type "list",data:=.seq ([]:List ED).toArray}}:=
  I2.laid (t':=s2.toks) (λ b u e=>Ag _ e) (Al _) ⟨AZ _,[],0,.nil,AF _ rfl⟩
 have st3:tn 0 (s2.heap.push {cls:=.type "list",data:=.seq ([]:List ED).toArray}):=T.keep _ _ _ st2 λ b hb o e=>Ag _ e
 have lt3:∀b∈fp,b<(s2.heap.push {cls:=.type "list",data:=.seq ([]:List ED).toArray}).objs.size:=λ b hb=>by rw [Cz];exact Nat.lt_succ_of_lt (lt2 b hb)
 have f3:∀b∈fp,fD X EN (upd H2 s2.heap.objs.size (.lst [])) b:=λ b hb=>⟨by rw [av (A2 (lt2 b hb))];exact(f2 b hb).1,(f2 b hb).2⟩
 generalize s2.heap.objs.size=l at*;generalize upd H2 l (.lst [])=H3 at*;have hs3:∃s3:EE,s3={s2 with heap:=s2.heap.push {cls:=.type "list",data:=.seq ([]:List ED).toArray}}:=⟨_,rfl⟩;obtain⟨s3,e3⟩:=hs3;rw [<-e3] at I3;rw [<-e3];have st3:tn 0 s3.heap:=by rw [e3];exact st3
 have lt3:∀b∈fp,b<s3.heap.objs.size:=by rw [e3];exact lt3
 clear e3;refine wpAny_newFunctionEnv Cp.nocell (by intro y hy;simp at hy) (λ h4 hns hsb=>?_) Cp.kind;have kp:∀b o,s3.heap.get? b=some o->h4.get? b=some o:=λ b o e=>hsb.extBut b o (A2 (Aw e)) (Ag _ e)
 have I4:=jj (N:=N) (t':=s3.toks+([]:List (Str×ED)).length) I3 Cp f3 lt3 hns kp;have st4:tn 0 h4:=T.keep _ _ _ st3 λ b hb o e=>kp b o e
 have stat:∀{H':Hp},(∀b∈fp,H' b=none)->∀b∈fp,fD (aN X N scope cl fp s3 H3) [] H' b:=λ hn b hb=>
  ⟨hn b hb,(I4.ok.exf b hb).1,I4.ok.exfs b hb,.inl hb,(I4.ok.exf b hb).2,λ p hp=>absurd (show p∈([]:List (EC×EL)) from hp) Z6⟩
 have loop:codeAny (model X.prog X.w) X.A (.compLoop (.ListComp elt [⟨ER,iter,cs,0⟩] scope pos) 0 (.ref it) (.ref l) (compEnvC scope cl s3.heap.objs.size X.env)) (RR (.ref l) s3.heap.objs.size)
   {s3 with heap:=h4,toks:=s3.toks+([]:List (Str×ED)).length}:=by
  refine LR _ _ _ _ _ (λ n s'=>∃i ys σ' H',Inv (aN X N scope cl fp s3 H3) [] σ' H' s'/\tn i s'.heap/\(∀b∈fp,H' b=none)/\W i n ys σ' H') ?_ m0 ⟨0,[],_,_,I4,st4,λ b hb=>(f3 b hb).1,w0⟩;rintro n s5 ⟨i,ys,σ5,H5,I5,st5,fr5,w5⟩;rcases turn i n ys σ5 H5 w5 with⟨stop,q⟩|⟨go,step⟩
  ·refine thn (T.done (aN X N scope cl fp s3 H3) rfl rfl rfl hc i [] s5 σ5 H5 _ I5 (stat fr5) st5 stop) λ r s6 z9=>?_
   obtain⟨hr,I6⟩:=z9;subst hr;exact hR _ _ _ _ (fq I3 f3 I6) (I3.fpOk (Al _) I6.free) (let⟨m,hn,_⟩:=I6.loc;⟨m,hn⟩) q
  ·refine thn (T.item (aN X N scope cl fp s3 H3) rfl rfl rfl hc i [] s5 σ5 H5 _ I5 (stat fr5) st5 go) λ r s6 z9=>?_
   obtain⟨u,hr,h6⟩:=z9;subst hr;refine thn h6 λ _ s7 z9=>?_
   obtain⟨x,H7,I7,r7,y7,st7,fr7⟩:=z9;have I7':=I7.pinned (stat fr7) (T.obj _ _ st7);refine Bb (hg fp s3 H3 _ s7 σ5 H7 x u _ I7' r7 (step x H7 y7)) (λ _ s8 z9=>?_) (λ _ _ z=>False.elim z);obtain⟨σ8,H8,I8,q8⟩:=z9;refine ht fp s3 H3 _ s8 σ8 H8 _ _ _ I8 q8 λ bb s85 z85=>?_
   obtain⟨H85,I85,q85⟩:=z85;cases bb with
   |false=>
    rw [AO Av] at q85 ⊢;obtain⟨m',hm',w9⟩:=q85;refine⟨m',hm',i+1,ys,σ8,H85,I85.unpinned,T.keep _ _ _ st7 λ b hb o e=>(I85.pin (b,o) (AE _ (AE _ (bN hb e)))).1,λ b hb=>?_,w9⟩;obtain⟨o,e,d⟩:=T.obj _ _ st7 b hb;exact(I85.pin (b,o) (AE _ (AE _ (bN hb e)))).2.1
   |true=>
   rw [AV rfl] at q85 ⊢;refine Bb (he fp s3 H3 _ s85 σ8 H85 _ I85 q85) (λ v s9 z9=>?_) (λ _ _ z=>False.elim z);obtain⟨y,H9,I9,r9,hl9,hz9,m',hm',w9⟩:=z9;refine Bb (cv (X:=aN X N scope cl fp s3 H3) _ s9 σ8 H9 (.ref l) [y] (.ref l) [v] (λ z Hz=>Hz=upd H9 l (.lst (ys++[y]))) I9 rfl (.cons r9 .nil) ⟨l,ys,y,rfl,rfl,hl9,hz9,rfl⟩)
    (λ _ s10 ⟨z,Hz,I10,_,eH⟩=>?_) (λ _ _ z=>False.elim z)
   subst eH;refine⟨m',hm',i+1,ys++[y],σ8,_,I10.unpinned,T.keep _ _ _ st7 λ b hb o e=>(I10.pin (b,o) (AE _ (AE _ (bN hb e)))).1,λ b hb=>?_,w9⟩;obtain⟨o,e,d⟩:=T.obj _ _ st7 b hb;exact(I10.pin (b,o) (AE _ (AE _ (bN hb e)))).2.1
 exact codeAny_compStart_list loop (T.self X.A 0 _ _ _ st4 loop)
theorem lz (hc:X.calm=true)(Cp:Caps X N scope cl js)
  (hi:PI X ER iter wi) (hg:∀fp s H,PG (aN X N scope cl fp s H) ER g) (LR:pU X.prog X.w X.A elt ER iter cs scope pos tw) (ht:∀fp s H,PTw (aN X N scope cl fp s H) tw tt) (he:∀fp s H,PE (aN X N scope cl fp s H) elt te)
  (hs:autoParam (∀x,foldedSetIterable iter X.env x=pure x) ZX):PE X (.ListComp elt [⟨ER,iter,cs,0⟩] scope pos) (eO js wi g tt te):=by
 intro EN s σ H Q I h;rw [eval_ListComp];refine C7 (use:=none) (Q:=EP X EN σ Q) rfl hs Cp.clos Cp.kind Cp.names
  (ig (RR:=λ acc C=>compPost (model X.prog X.w) X.A X.xe none (EP X EN σ Q) acc C) hc Cp hi hg LR ht he I h ?_)
 rintro l C H' s' I' fC ⟨m,hn⟩ q;exact⟨m,hn,λ h' sb'=>⟨.ref l,H',I'.turned (t':=s'.toks) (λ b o hb e=>(sb'.2 b hb).trans e) fC.1 fC.2.1 fC.2.2.2.1 fC.2.2.2.2.1 fC.2.2.2.2.2,rfl,q⟩⟩
theorem pe {i:Nat}(hN:X.N.Nodup)(hiy:X.N[i]?=some y)(hy:Loc X.env.scope y)
    (hc:X.calm=true) (Cp:Caps X N scope cl js)
    (hi:PI X ER iter wi) (hg:∀fp s H,PG (aN X N scope cl fp s H) ER g) (LR:pU X.prog X.w X.A elt ER iter cs scope pos tw) (ht:∀fp s H,PTw (aN X N scope cl fp s H) tw tt) (he:∀fp s H,PE (aN X N scope cl fp s H) elt te)
    (hsw:swapsWith (.ListComp elt [⟨ER,iter,cs,0⟩] scope pos) (some (.Name y py)) spos.line X.env=pure true)
    (hs:autoParam (∀x,foldedSetIterable iter X.env x=pure x) ZX) (hf:autoParam (X.fn y=true\/X.env.scope.names.lookup y=some .local) ZW):
    PS X (.Assign [.Name y py] (.ListComp elt [⟨ER,iter,cs,0⟩] scope pos) spos) (sY i (eO js wi g tt te)):=by
  intro EN s σ H D I h
  rw [exec_Assign_Name_used _ _ _ _ hsw]
  refine Aa (wpAny_standAt (Aa ?_))
  show wpAny _ X.A (do let _<-comprehension (.ListComp elt [⟨ER,iter,cs,0⟩] scope pos) scope X.env _ (newList []) false (eval iter X.env) (some (assign (.Name y py) X.env))) _ _ s
  refine Aa (Bb (C7 (use:=some (assign (.Name y py) X.env)) (Q:=λ _ s'=>SP X EN D .next s') rfl hs Cp.clos Cp.kind Cp.names
    (ig (RR:=λ acc C=>compPost (model X.prog X.w) X.A X.xe (some (assign (.Name y py) X.env)) (λ _ s'=>SP X EN D .next s') acc C) hc Cp hi hg LR ht he I h ?_)) (λ _ s' hq=>Am (Am hq)) λ _ _ e=>e)
  rintro l C H' s' I' fC ⟨m,hn⟩ q
  show wpAny _ X.A (assign (.Name y py) X.env (.ref l)) _ _ _
  refine wpAny_assign_Name (jG (v:=.ref l) I' hN hiy hy (show RelV (.ref l) (.ref l) from rfl) (λ s2 I2 z9=>?_) hf)
  obtain⟨a,sb,ha⟩:=z9
  have hCa:C≠a:=by
    rcases ha with ha|ha
    · rw [ha];exact fC.2.1
    · exact B0 (fC.2.2.2.2.1 y a ha)
  exact⟨m,hn.sameBut sb hCa,λ h' sb'=>⟨_,H',I2.turned (t':=s2.toks) (λ b o hb e=>(sb'.2 b hb).trans e) fC.1 fC.2.1 fC.2.2.2.1 fC.2.2.2.2.1 fC.2.2.2.2.2,q⟩⟩
theorem kh (hc:X.calm=true)(hkind:scope.kind=.function)(hfree:∀x∈scope.names,x.2≠ .free)(hcell:∀x∈scope.names,x.2≠ .cell)(hnames:∀x∈scope.names,x.2=.local->scope.names.lookup x.1=some .local)(hi:PI X ER iter wi)(hg:∀fp s H,PG (aN X N scope [] fp s H) ER g)(he:∀fp s H,PE (aN X N scope [] fp s H) elt te)(hs:autoParam (∀x,foldedSetIterable iter X.env x=pure x) ZX):
  PE X (.ListComp elt [⟨ER,iter,[],0⟩] scope pos) (wD N.length wi g te):=
 λ EN s σ H Q I h=>lz hc (yF hkind hfree hcell hnames) hi hg (ll (.inr ⟨rfl,rfl⟩)) (λ _ _ _=>rK) he hs EN s σ H Q I (yV h)
theorem rR (hc:X.calm=true)(Cp:Caps X N scope cl js)(hi:PI X ER iter wi)(hg:∀fp s H,PG (aN X N scope cl fp s H) ER g)(he:∀fp s H,PE (aN X N scope cl fp s H) elt te)(hs:autoParam (∀x,foldedSetIterable iter X.env x=pure x) ZX):
  PE X (.ListComp elt [⟨ER,iter,[],0⟩] scope pos) (kM js wi g te):=
 λ EN s σ H Q I h=>lz hc Cp hi hg (ll (.inr ⟨rfl,rfl⟩)) (λ _ _ _=>rK) he hs EN s σ H Q I (h)
theorem tR {i:Nat}(hN:X.N.Nodup)(hiy:X.N[i]?=some y)(hy:Loc X.env.scope y)(hc:X.calm=true)(Cp:Caps X N scope cl js)(hi:PI X ER iter wi)(hg:∀fp s H,PG (aN X N scope cl fp s H) ER g)(he:∀fp s H,PE (aN X N scope cl fp s H) elt te)(hsw:swapsWith (.ListComp elt [⟨ER,iter,[],0⟩] scope pos) (some (.Name y py)) spos.line X.env=pure true)(hs:autoParam (∀x,foldedSetIterable iter X.env x=pure x) ZX)(hf:autoParam (X.fn y=true\/X.env.scope.names.lookup y=some .local) ZW):
  PS X (.Assign [.Name y py] (.ListComp elt [⟨ER,iter,[],0⟩] scope pos) spos) (sY i (kM js wi g te)):=
 λ EN s σ H D I h=>pe hN hiy hy hc Cp hi hg (ll (.inr ⟨rfl,rfl⟩)) (λ _ _ _=>rK) he hsw hs hf EN s σ H D I (h)
theorem rc {i:Nat}(hN:X.N.Nodup)(hiy:X.N[i]?=some y)(hy:Loc X.env.scope y)(hc:X.calm=true)(Cp:Caps X N scope cl js)(hi:PI X ER iter wi)(hg:∀fp s H,PG (aN X N scope cl fp s H) ER g)(ht:∀fp s H,PT (aN X N scope cl fp s H) cnd tt)(he:∀fp s H,PE (aN X N scope cl fp s H) elt te)(hsw:swapsWith (.ListComp elt [⟨ER,iter,[cnd],0⟩] scope pos) (some (.Name y py)) spos.line X.env=pure true)(hs:autoParam (∀x,foldedSetIterable iter X.env x=pure x) ZX)(hf:autoParam (X.fn y=true\/X.env.scope.names.lookup y=some .local) ZW):
  PS X (.Assign [.Name y py] (.ListComp elt [⟨ER,iter,[cnd],0⟩] scope pos) spos) (sY i (eO js wi g tt te)):=
 λ EN s σ H D I h=>pe hN hiy hy hc Cp hi hg (ll (.inl ⟨_,rfl,rfl⟩)) (λ _ _ _=>yx (ht _ _ _) λ _ _ z=>z) he hsw hs hf EN s σ H D I (h)
end
theorem gM {lo:Int}{k:Nat}{σ0:St}(Pv:Nat->List V->St->Hp->Prop)(h0:Pv 0 [] σ0 (upd H1 l (.lst [])))
  (hs:∀i ys σ H,i<k->Pv i ys σ H->g (.int (lo+(i:Nat))) σ H λ σ3 H3=>te σ3 H3 λ y H4=>H4 l=some (.lst ys)/\ys.length<sizeLine/\Pv (i+1) (ys++[y]) σ3 (upd H4 l (.lst (ys++[y]))))
  (hd:∀ys σ H,Pv k ys σ H->R H) (mg:∀x σ H (A B:St->Hp->Prop),(∀σ' H',A σ' H'->B σ' H')->g x σ H A->g x σ H B) (mt:∀σ H (A B:VK),(∀v H',A v H'->B v H')->te σ H A->te σ H B):
  ∃W:Nat->Nat->List V->St->Hp->Prop,(∃m,W 0 m [] σ0 (upd H1 l (.lst [])))/\∀i m ys σ' H',W i m ys σ' H'->
   ((Itr lo k).stop i H'/\R H')\/((Itr lo k).go i H'/\∀x H2,(Itr lo k).yld i H' x H2->g x σ' H2 λ σ3 H3=>te σ3 H3 λ y H4=>
    H4 l=some (.lst ys)/\ys.length<sizeLine/\∃m',m'<m/\W (i+1) m' (ys++[y]) σ3 (upd H4 l (.lst (ys++[y])))):=by
 refine⟨λ i m ys σ H=>m=k-i/\i≤k/\Pv i ys σ H,⟨k,Z6,AZ _,h0⟩,?_⟩;rintro i m ys σ H ⟨rfl,hi,p⟩;by_cases EQ:i<k
 ·refine .inr ⟨EQ,λ x H' y=>?_⟩;obtain⟨e,y⟩:=y;subst e y;exact mg _ _ _ _ _ (λ σ3 H3 z=>mt _ _ _ _ (λ y H4 z9=>by obtain⟨z1,z2,z4⟩:=z9;exact⟨z1,z2,k-(i+1),Cg _ _ EQ,rfl,EQ,z4⟩) z) (hs i ys σ _ EQ p)
 ·have e:i=k:=Ci hi (Nat.not_lt.1 EQ);subst e;exact .inl ⟨Al _,hd ys σ H p⟩
structure FunD (K:Frag)(x qual:Str)(st:EM)(dV:ED)(f:EC)(fd:EH):Prop where
 ex:∃(oc:ED) (od:Option EC) (kV doc pm:ED) (an:Option EC) (EO ct:ED) (osl:Array (Option ED)),
  fd=fnOf x qual (bx st) (bc st) (ak st) dV kV doc pm an EO ct/\K.lookup f=some ⟨oc,od,.func fd,osl⟩/\codeIn K EO qual=true
 kp:keepIn K (.ref f)=true
theorem FunD.ok {base:EJ}{dV:ED}{k:Nat}(F:FunD K x qual st dV f fd)(S:FnScope N ps (ak st))
  (hb:∀(EO:ED) (A:EI) (outer:List Env) (s:EE) (H:Hp) (vs:List V) (Q:VK) (E:XK),Room k (A.deeper (envOfC qual (ak st) s.heap.objs.size f EO))->sp vs H Q E->
   let X:=(cxOf CX0 P w K mg base N qual (ak st) f EO A outer s H E).nox;∃t,PSs X (bc st) t/\t {nx:=λ _ H'=>Q .non H',rt:=Q} (start N vs) H) (len:autoParam (∀vs H Q E,sp vs H Q E->vs.length=ps.length) ZV):FnOk P w K mg base CX0 (k+1) f fd ps sp:=by
 obtain⟨oc,od,kV,doc,pm,an,EO,ct,osl,rfl,lk,hcd⟩:=F.ex;refine oK lk hcd S len λ A outer s H vs Q E hr hsp=>?_
 obtain⟨t,h,q⟩:=hb EO A outer s H vs Q E hr hsp;exact⟨t,h.nox,q⟩
def wG (P:EF)(w:EG)(h:EJ)(d:EC)(a b:Int):Prop:=∃t t':Tok,h.MapOf (intKind P w) d (valueAt [((8:Int),Value.int a t),(16,.int b t')])
theorem at8 (a b:ED):valueAt [((8:Int),a),(16,b)] 8=some a:=rfl
theorem zW (a b:ED):valueAt [((8:Int),a),(16,b)] 16=some b:=rfl
def TabK (K:Frag)(d:EC)(a b:Int):Prop:=(d==sysModules)=false/\∃(t1 t2 t3 t4:Tok) (ep:Nat),K.lookup d=some ⟨.type "dict",none,.dict #[⟨8,.int 8 t1,.int a t2⟩,⟨16,.int 16 t3,.int b t4⟩] ep,#[]⟩
theorem TabK.map {a:Int}{h:EJ}(P:EF)(w:EG)(T:TabK K d a b)(X:K.In h):wG P w h d a b:=by
 obtain⟨_,t1,t2,t3,t4,ep,e⟩:=T;refine⟨t2,t4,_,_,ep,X _ _ e,⟨rfl,rfl,rfl⟩,rfl,?_,?_⟩
 ·intro en hen;have hen':en=⟨8,.int 8 t1,.int a t2⟩\/en=⟨16,.int 16 t3,.int b t4⟩:=by simpa using hen
  rcases hen' with rfl|rfl
  ·exact⟨8,intKind_is P w 8 t1,by show(8:Int)=hashInt 8;decide+kernel⟩
  ·exact⟨16,intKind_is P w 16 t3,by show(16:Int)=hashInt 16;decide+kernel⟩
 ·intro k;show findBy Value.isInt _ k=_;unfold findBy valueAt;by_cases h8:k=8
  ·subst h8;simp [Value.isInt]
  ·by_cases h16:k=16
   ·subst h16;simp [Value.isInt]
   ·have e1:¬(8:Int)=k:=λ z=>h8 z.symm
    have e2:¬(16:Int)=k:=λ z=>h16 z.symm
    simp [Value.isInt,e1,e2]
def zO (P:EF)(w:EG)(d:EC)(a b:Int):HO:=.ext λ h=>wG P w h d a b
def Sq2 (X:Cx)(H:Hp)(d:EC)(a b:Int):Prop:=TabK X.K d a b\/H d=some (zO X.prog X.w d a b)
section
variable {X:Cx}{EN:List (EC × EL)}{σ:St}{H:Hp}{s:EE}
theorem Inv.map2 {a:Int}(I:Inv X EN σ H s)(h:Sq2 X H d a b):wG X.prog X.w s.heap d a b:=by
 rcases h with h|h
 ·exact h.map _ _ I.kIn
 ·exact(I.hok d _ h).1
def zD (X:Cx):R2:=λ x y H Q=>∃d i a b,x=.ref d/\y=.int i/\Sq2 X H d a b/\((i=8/\Q (.int a) H)\/(i=16/\Q (.int b) H))
theorem kz:IxR X (zD X):=by
 intro value slice EN s σ H x y v u Q I rx ry h hs;obtain⟨d,i,a,b,rfl,rfl,hm,hq⟩:=h;cases rx;obtain⟨t,rfl⟩:=ry;obtain⟨t1,t2,hm⟩:=I.map2 hm;rcases hq with⟨rfl,q⟩|⟨rfl,q⟩
 ·exact tail_any hm.typeIs slot_dict_getitem.lookup (wpAny_getItem_of (intKind_is _ _ _ _) hm (at8 _ _) ⟨.int a,H,I.tok _,⟨_,rfl⟩,q⟩) hs
 ·exact tail_any hm.typeIs slot_dict_getitem.lookup (wpAny_getItem_of (intKind_is _ _ _ _) hm (zW _ _) ⟨.int b,H,I.tok _,⟨_,rfl⟩,q⟩) hs
theorem j8:OpR X (compareOp .NotIn) (λ x y H Q=>∃d i a b,x=.int i/\y=.ref d/\TabK X.K d a b/\(i=8\/i=16)/\Q (.bl false) H):=by
 intro EN s σ H x y v u Q I rx ry h;obtain⟨d,i,a,b,rfl,rfl,hT,hi,q⟩:=h;obtain⟨t,rfl⟩:=rx;cases ry;obtain⟨t1,t2,hm⟩:=hT.map X.prog X.w I.kIn;refine wpAny_notIn_of (intKind_is _ _ i t) hT.1 hm ?_;rcases hi with rfl|rfl
 ·exact⟨.bl false,H,I.tok _,rfl,q⟩
 ·exact⟨.bl false,H,I.tok _,rfl,q⟩
theorem uj (hu:X.A.units+64<cLine):OpR X (compareOp .Eq) (λ x y H Q=>∃(p q:EC) (ns ms:List Int),x=.ref p/\y=.ref q/\SqL X.K H p (ns.map V.int)/\SqL X.K H q (ms.map V.int)/\Q (.bl (decide (ns=ms))) H):=by
 intro EN s σ H x y v u Q I rx ry h;obtain⟨p,q,ns,ms,rfl,rfl,h1,h2,k⟩:=h;cases rx;cases ry;obtain⟨its,rv,pl,hz⟩:=I.list h1;obtain⟨its2,rv2,pl2,hz2⟩:=I.list h2;exact PySem.W.eq_intsK pl.isList (df rv) pl2.isList (df rv2) hu ⟨.bl _,H,I,rfl,k⟩
end
end L2
namespace QQ
open PySem
section
variable {M:Model}{A:EI}{E:ED -> EE -> Prop}
variable {nm q nm' q':Str}{C N D N':EC}{bs bm bs' bm':List ED}{hdct hdct':Bool}{sn sn':List Str}{sub sub':List ED}{ab ab':Bool}{col col':Option Bool}{dd dd':Option EC}{k0 k1 k2 k3 k5 j0 j1 j2 j3 j5:Option ED}{newId newId':String}
theorem lZ {h:EJ}{g:Array GenState}{d:Drawn}{t:Nat}{os:OsState}{e:EC}{oe:EL}{Q:Bool->EE->Prop}
  (hC:h.get? C=some (excClassObj nm q C N bs bm hdct sn sub ab col dd k0 k1 k2 k3 k5 newId)) (hD:h.get? D=some (excClassObj nm' q' D N' bs' bm' hdct' sn' sub' ab' col' dd' j0 j1 j2 j3 j5 newId'))
  (he:h.get? e=some oe) (hcls:oe.cls=.ref C) (hbase:bm'.contains (.type "BaseException")=true) (hm:(Value.ref C::bm).contains (.ref D)=true) (ne:C≠D)
  (hq:Q true ⟨h,g,d,t,os⟩):wpAny M A (excMatches (.ref e) (.ref D)) Q E ⟨h,g,d,t,os⟩:=by
 have hcB:(Value.ref D::bm').contains (.type "BaseException")=true:=by rw [List.contains_cons,hbase,Bool.or_true]
 have f:=tc_notTuple;unfold excMatches
 repeat (first|(with_reducible refine Dr he ?_;rw [hcls])|with_reducible refine Dr hD ?_|(with_reducible refine C4 hD ?_;rw [hcB])|(with_reducible refine C4 hC ?_;rw [hm])|wp_step)
 exact hq
end
end QQ
set_option maxHeartbeats 4000000
namespace L2
open PySem PySem.Spec PyProof.Rows QQ
variable {s s' s1:EE}{fd:EH}{K:Frag}{A:EI}{sp:Sp}{Q:Unit->EE->Prop}{np:Pos}{C a b e f:EC}{base h:EJ}{qual x y:Str}{N ps:List Str}{vs:Array ED}{ob ox:EL}{D:ED->Prop}{σ1:St}{X:Cx}{H H1:Hp}{E:ED->EE->Prop}{P prog:EF}{st:EM}{mg:Str->Option ED}{t:Nat}{w:EG}
theorem ObjOk.there {o:HO}(x:ObjOk P w H h a o):∃ob,h.get? a=some ob:=by
 cases o with
 |lst xs=>obtain⟨_,_,_,_,e⟩:=x;exact⟨_,e⟩
 |tup xs=>obtain⟨_,_,_,ob,e,_⟩:=x;exact⟨_,e⟩
 |dK kvs=>obtain⟨_,_,_,_,o,_,_,e,_⟩:=x;exact⟨_,e⟩
 |dT kvs=>obtain⟨_,_,_,_,o,_,_,e,_⟩:=x;exact⟨_,e⟩
 |set S n=>obtain⟨o,_,_,_,e,_⟩:=x;exact⟨_,e⟩
 |ins C dx fs=>obtain⟨_,_,_,e,_⟩:=x;exact⟨_,e⟩
 |own y=>exact x
 |xd fs=>obtain⟨_,⟨_,_,_,e,_⟩,_⟩:=x;exact⟨_,e⟩
 |rng lo hi=>obtain⟨_,_,_,e⟩:=x;exact⟨_,e⟩
 |frz ob u=>obtain⟨e,_⟩:=x;exact⟨_,e⟩
 |tbl ps=>exact⟨_,show h.get? a=some _ from x⟩
 |met f y=>exact⟨_,show h.get? a=some _ from x⟩
 |ext φ=>obtain⟨_,e,_⟩:=x;exact e
theorem HOk.gone (x:HOk P w H h)(e:h.get? a=none):H a=none:=by
 cases q:H a with
 |none=>rfl
 |some u=>
  obtain⟨ob,r⟩:=(x a u q).there;rw [e] at r;cases r
def Bk (h0:EJ)(H:Hp)(e:EC)(c:ED):Prop:=BkH H e c/\∀b,c=.ref b->h0.get? b=none
def CXD (D:ED->Prop)(P:EF)(w:EG):CXT:=λ outer H s E e s'=>∃ea cls fp H',e=.ref ea/\s'.os=s.os/\AllBare s'.gens/\Un (frs outer) [] H H' s.heap s'.heap/\HOk P w H' s'.heap/\
 (∃c,D c/\Fly s'.heap ea cls fp c/\Bk s.heap H' ea c)/\(∀b∈fp,s.heap.get? b=none/\H' b=none)/\E cls none H'
abbrev CXE:EF->EG->CXT:=CXD λ _=>True
abbrev CX1:EF->EG->CXT:=CXD λ c=>c=.none
structure NewA (X:Cx)(EN:List (EC×EL))(b:EC):Prop where
 s0:X.s₀.heap.get? b=none
 loc:b≠X.env.locals
 cel:∀x c,X.env.cells.lookup x=some c->c≠b
 pin:∀p∈X.pn++EN,p.1≠b
def BkX (X:Cx)(EN:List (EC×EL))(H:Hp)(e:EC)(c:ED):Prop:=BkH H e c/\∀b,c=.ref b->NewA X EN b
structure New (X:Cx)(EN:List (EC×EL))(H:Hp)(b:EC):Prop where
 s0:X.s₀.heap.get? b=none
 h:H b=none
 loc:b≠X.env.locals
 cel:∀x c,X.env.cells.lookup x=some c->c≠b
 pin:∀p∈X.pn++EN,p.1≠b
section
variable {X:Cx}{EN:List (EC × EL)}{σ:St}{H H':Hp}{s:EE}
theorem Inv.newA (I:Inv X EN σ H s)(e:s.heap.get? b=none)(hx:b∉X.ex):NewA X EN b:=by
 refine⟨?_,λ z=>?_,λ x c ec z=>?_,λ p hp z=>?_⟩
 ·cases q:X.s₀.heap.get? b with
  |none=>rfl
  |some o=>
   obtain⟨o',r⟩:=I.base.there b o q hx;rw [e] at r;cases r
 ·obtain⟨m,⟨o,_,_,ho,_⟩,_⟩:=I.loc;rw [<-z,e] at ho;cases ho
 ·obtain⟨v,o,ho,_⟩:=I.cell x c ec;rw [z,e] at ho;cases ho
 ·have:=(I.pin p hp).1;rw [z,e] at this;cases this
theorem Inv.new (I:Inv X EN σ H s)(e:s.heap.get? b=none)(n:H' b=none)(hx:b∉X.ex):New X EN H' b:=
 let a:=I.newA e hx
 ⟨a.s0,n,a.loc,a.cel,a.pin⟩
theorem New.ch (n:New X EN H b):(b∈X.ex\/X.s₀.heap.get? b=none)/\b≠X.env.locals/\(∀x c,X.env.cells.lookup x=some c->c≠b)/\∀p∈X.pn++EN,p.1≠b:=⟨.inr n.s0,n.loc,n.cel,n.pin⟩
theorem Inv.landed {h':EJ}{fp:List EC}(I:Inv X EN σ H s)(hn:∀b∈fp,New X EN H b)(k:∀b o,s.heap.get? b=some o->b∉fp->b∉X.stack.filterMap (·.frame)->h'.get? b=some o)
  (sl:∀b o,s.heap.get? b=some o->b∉fp->∃z,h'.get? b=some {o with slots:=z}) (th:∀b o,s.heap.get? b=some o->∃o',h'.get? b=some o'):Inv X EN σ H {s with heap:=h'}:=by
 have nf:∀b,b∉X.fs->b≠X.env.locals->b∉X.stack.filterMap (·.frame):=λ b h1 h2 z=>by
  rcases Bc.mp (I.stkSub b z) with q|q
  ·exact h2 q
  ·exact h1 q
 have tr:∀b u,H b=some u->∀o,s.heap.get? b=some o->h'.get? b=some o:=λ b u e o g=>by
  refine k b o g (λ z=>?_) λ z=>?_
  ·rw [(hn b z).h] at e;cases e
  ·rw [I.stkFree b z] at e;cases e
 refine I.step0 (g':=s.gens) (d':=s.drawn) (t':=s.toks) (ch:=fp) (λ b hb=>(hn b hb).ch) (λ b o h1 h2 h3 g _=>k b o g h3 (nf b h2 h1)) (λ b o _ _ h3 g _=>sl b o g h3) (λ _ _ _ _ n=>n) (λ b o _ g=>th b o g)
  (λ _ _ e=>e) (λ _ _ _ e=>e) (λ b ps e=>⟨#[],by rw [e];simp⟩) (λ m hm=>?_) (λ a o e=>?_) I.bare
 ·obtain⟨o,es,ep,ho,r⟩:=hm;obtain⟨z,q⟩:=sl _ o ho λ y=>(hn _ y).loc rfl
  exact⟨_,es,ep,q,r⟩
 ·refine(I.hok a o e).stay (λ c v hc q=>?_) (λ _ q=>q) λ _ _ q=>q
  rcases hc with z|z
  ·subst z;exact tr c _ e v q
  ·exact tr c _ z v q
theorem Inv.thrown {E:XK}{e:ED}(I:Inv X EN σ H s)(hx:CXD D X.prog X.w X.stack H s E e s')(hX:X.ex=[]):∃ea cls fp H',e=.ref ea/\Inv X EN σ H' s'/\(∃c,D c/\Fly s'.heap ea cls fp c/\BkX X EN H' ea c)/\(∀b∈fp,New X EN H' b)/\E cls none H':=by
 obtain⟨ea,cls,fp,H',rfl,os,bare,un,hok,⟨c,dc,F,bk,bn⟩,fr,q⟩:=hx;exact⟨ea,cls,fp,H',rfl,I.call' (ch:=[]) os un hok bare (λ b z=>absurd z Z6),⟨c,dc,F,bk,λ b e=>I.newA (bn b e) (by rw [hX];simp)⟩,λ b hb=>I.new (fr b hb).1 (fr b hb).2 (by rw [hX];simp),q⟩
end
theorem aV {scope:Scope}{cd:ED}{outer:List Env}{s₀:EE}{H₀:Hp}{E:XK}:
  cD (CXD D P w) (cxOf (CXD D P w) P w K mg base N qual scope f cd A outer s₀ H₀ E) E:=by
 intro EN σ H s e s' I hx;obtain⟨ea,cls,fp,H',rfl,I',⟨c,dc,F,bk,bn⟩,fr,q⟩:=I.thrown hx rfl;show wpAny (model P w) _ (leaving _ (.ref ea)) _ _ _;unfold leaving;refine Aa (yp I'.ok.frames I'.stack rfl F λ h' T F' hT f3 f4 f5=>?_);have J:=I'.landed fr f3 f4 f5;refine⟨ea,cls,[ea,T],H',rfl,J.os,J.bare,J.base,J.hok,⟨c,dc,F',bk,λ b e=>(bn b e).s0⟩,λ b hb=>?_,q⟩;rcases Bc.mp hb with hb|hb
 ·subst hb;have z:=fr b F.here;exact⟨z.s0,z.h⟩
 ·rw [AD] at hb;subst hb;refine⟨?_,I'.hok.fresh hT⟩;cases z:s₀.heap.get? b with
  |none=>rfl
  |some o=>
   obtain⟨o',r⟩:=I'.base.there b o z (by simp [cxOf]);exact absurd (Ap (Aw r) hT) (BJ _)
theorem fK:cD (CXD D P w) X E0:=by
 intro _ _ _ _ _ _ _ h;obtain⟨_,_,_,_,_,_,_,_,_,_,_,q⟩:=h;exact q.elim
theorem Fun.okE {k:Nat}(F:Fun K x qual st f fd)(S:FnScope N ps (ak st))
  (hb:∀(EO:ED) (A:EI) (outer:List Env) (s:EE) (H:Hp) (vs:List V) (Q:VK) (E:XK),Room k (A.deeper (envOfC qual (ak st) s.heap.objs.size f EO))->sp vs H Q E->
   let X:=(cxOf (CXD D P w) P w K mg base N qual (ak st) f EO A outer s H E);∃t,PSs X (bc st) t/\t {nx:=λ _ H'=>Q .non H',rt:=Q} (start N vs) H) (len:autoParam (∀vs H Q E,sp vs H Q E->vs.length=ps.length) ZV):FnOk P w K mg base (CXD D P w) (k+1) f fd ps sp:=by
 obtain⟨oc,od,kV,doc,pm,an,EO,ct,osl,rfl,lk,hcd⟩:=F.ex;exact oK lk hcd S len λ A outer s H vs Q E hr hsp=>hb EO A outer s H vs Q E hr hsp
theorem FunD.okE {dV:ED}{k:Nat}(F:FunD K x qual st dV f fd)(S:FnScope N ps (ak st))
  (hb:∀(EO:ED) (A:EI) (outer:List Env) (s:EE) (H:Hp) (vs:List V) (Q:VK) (E:XK),Room k (A.deeper (envOfC qual (ak st) s.heap.objs.size f EO))->sp vs H Q E->
   let X:=(cxOf (CXD D P w) P w K mg base N qual (ak st) f EO A outer s H E);∃t,PSs X (bc st) t/\t {nx:=λ _ H'=>Q .non H',rt:=Q} (start N vs) H) (len:autoParam (∀vs H Q E,sp vs H Q E->vs.length=ps.length) ZV):FnOk P w K mg base (CXD D P w) (k+1) f fd ps sp:=by
 obtain⟨oc,od,kV,doc,pm,an,EO,ct,osl,rfl,lk,hcd⟩:=F.ex;exact oK lk hcd S len λ A outer s H vs Q E hr hsp=>hb EO A outer s H vs Q E hr hsp
noncomputable abbrev bmV:List ED:=[.type "ValueError",.type "Exception",.type "BaseException",.type "object"]
def ExC (K:Frag)(C:EC):Prop:=excIn K C bmV "ValueError.__new__"=true
theorem gj (c:ExC K C):∃bm N nm q bs hdct sn sub ab col dd k0 k1 k2 k3 k5,K.lookup C=some (excClassObj nm q C N bs bm hdct sn sub ab col dd k0 k1 k2 k3 k5 "ValueError.__new__")/\
  clsIn K C=some ⟨nm,bs,.ref C::bm,N,q,hdct,sn,sub,ab,col,false⟩/\∀h:EJ,K.In h->(∃mN,h.Ns N mN/\mN "__init__"=none)/\OwnTail h bmV bm:=by
 unfold ExC excIn at c
 split at c
 ·rename_i dd cd sl hl
  split at c
  ·rename_i C1 bm k0 k1 k2 k3 n k5 hm hs
   simp only [Cd,beq_iff_eq,Bool.not_eq_true'] at c;obtain⟨⟨⟨⟨⟨e1,e2⟩,hdel⟩,ht⟩,hok⟩,hni⟩:=c;subst e1 e2;obtain⟨nm,bs,mro,ns,qn,hd,sn,sub,ab,col,del⟩:=cd;dsimp only at hm hdel hok hni;subst hm hdel;have hsl:sl=#[k0,k1,k2,k3,some (.builtin "ValueError.__new__"),k5]:=by
    obtain⟨l⟩:=sl;simp only at hs;rw [hs]
   subst hsl;refine⟨bm,ns,nm,qn,bs,hd,sn,sub,ab,col,dd,k0,k1,k2,k3,k5,hl,by unfold clsIn;rw [hl],λ h X=>⟨⟨_,.of_isNs (PySem.W.isNs_of_in X hok),PySem.W.nsMap_none_of_in X hok hni⟩,PySem.W.tail_of_in X ht⟩⟩
  ·cases c
 ·cases c
def tI (C:EC)(E:XK)(te:TE):TS:=λ _ σ H=>te σ H λ _ H1=>E (.ref C) none H1
theorem aW {E:XK}{e:EK}{te:TE}{cpos pos:Pos}(hx:cD (CXD D X.prog X.w) X E)(hh:X.A.handled=none)(hg:Gl X x)(hm:X.mg x=some (.ref C))(c:ExC X.K C)(he:PE X e te)
  (hst:autoParam (starEach [e] X.env=(false,eval e X.env)::starEach [] X.env) Z0) (hd:autoParam ((x==("__debug__":Str))=false) ZZ) (hD:D .none:=by trivial):PS X (.Raise (some (.Call (.Name x np) [e] [] cpos)) none pos) (tI C E te):=by
 intro EN s σ H D I h;obtain⟨bm,N,nm,q,bs,hdct,sn,sub,ab,col,dd,k0,k1,k2,k3,k5,hl,_,hf⟩:=gj c;obtain⟨⟨mN,hN,hni⟩,T⟩:=hf X.base I.mod.kin;refine wpAny_Raise_call_subT (C:=C) (nm:=nm) (q:=q) (N:=N) (bs:=bs) (bm:=bm) (hdct:=hdct) (sn:=sn) (sub:=sub) (ab:=ab) (col:=col) (dd:=dd) (k0:=k0) (k1:=k1) (k2:=k2) (k3:=k3) (k5:=k5)
  PySem.F.excBase_ValueError (mN:=mN) (T.hasType Z8) hh (by rw [hst];rfl) hni (ld_glob I hg hm ⟨rfl,?_⟩ hd)
 rw [hst];refine Calls.evalArgs_plain (Eb (thn (he EN s σ H _ I h) λ u s1 ⟨y,H1,I1,r1,q1⟩=>Eh ?_));refine⟨rfl,by show 1≤sizeLine;decide,I1.kIn C _ hl,hN.keeps I1.bk,T.keeps I1.bk,λ h' ea md=>?_⟩;exact hx EN σ H1 s1 _ _ I1 ⟨ea,_,[ea],H1,rfl,rfl,I1.bare,Un.kept md.keeps,I1.hok.kept md.keeps,⟨_,hD,Fly.made md,.inl rfl,λ b e=>nomatch e⟩,λ b hb=>by
  rw [AD] at hb;subst hb;exact⟨md.new,I1.hok.gone md.new⟩,q1⟩
noncomputable def rQ (X:Cx) (pn:List (EC×EL)) (σ0:St) (E:XK) (D:ED->Prop:=λ _=>True):Cx:={X with
 pn:=pn
 xe:=λ e s'=>∃ea cls fp H',e=.ref ea/\Inv {X with pn:=pn} [] σ0 H' s'/\(∃c,D c/\Fly s'.heap ea cls fp c/\BkX {X with pn:=pn} [] H' ea c)/\(∀b∈fp,New {X with pn:=pn} [] H' b)/\E cls none H'}
noncomputable def cxHand (X:Cx) (e:EC) (G:Hp):Cx:={X with
 A:=X.A.mark (some (.ref e))
 H₀:=G
 xe:=λ _ _=>False}
def gf (CX:CXT)(X:Cx)(E:XK)(σ0:St):Prop:=∀(EN:List (EC×EL)) (H:Hp) (s:EE) (e:ED) (s':EE),Inv X EN σ0 H s->CX X.stack H s E e s'->X.xe e s'
section
variable {X:Cx}{EN pn:List (EC × EL)}{σ σ0:St}{H:Hp}{s:EE}{E:XK}{W:ED -> EE -> Prop}
theorem Cx.Ok.repn (ok:X.Ok)(pn:List (EC×EL))(W:ED->EE->Prop):Cx.Ok {X with pn:=pn,xe:=W}:=
 ⟨ok.mod,ok.kind,ok.glob,ok.blt,ok.above,ok.inj,ok.has,ok.cab,ok.hd,ok.frames,ok.stk,ok.exf,ok.bs,ok.bsz,ok.noex,ok.exfs,ok.funs,ok.frf⟩
theorem Cx.Ok.unpn (ok:Cx.Ok {X with pn:=pn,xe:=W}):X.Ok:=
 ⟨ok.mod,ok.kind,ok.glob,ok.blt,ok.above,ok.inj,ok.has,ok.cab,ok.hd,ok.frames,ok.stk,ok.exf,ok.bs,ok.bsz,ok.noex,ok.exfs,ok.funs,ok.frf⟩
theorem Inv.lift (I:Inv X EN σ H s)(W:ED->EE->Prop):Inv {X with pn:=X.pn++EN,xe:=W} [] σ H s:=
 ⟨I.ok.repn _ W,I.os,I.bare,I.base,I.loc,I.cell,I.free,I.freeC,λ p hp=>I.pin p (by simpa using hp),I.hok,I.len⟩
theorem Inv.unlift {pins':List (EC×EL)}(I:Inv {X with pn:=X.pn++EN,xe:=W} pins' σ H s):Inv X EN σ H s:=
 ⟨I.ok.unpn,I.os,I.bare,I.base,I.loc,I.cell,I.free,I.freeC,λ p hp=>I.pin p (Bn _ hp),I.hok,I.len⟩
theorem Inv.repn {W':ED->EE->Prop}(I:Inv {X with pn:=pn,xe:=W} EN σ H s):Inv {X with pn:=pn,xe:=W'} [] σ H s:=
 ⟨I.ok.unpn.repn _ W',I.os,I.bare,I.base,I.loc,I.cell,I.free,I.freeC,λ p hp=>I.pin p (by simp at hp;exact Bn _ hp),I.hok,I.len⟩
theorem SP.unlift {D:Ends}{f:Flow}(h:SP {X with pn:=X.pn++EN,xe:=W} [] D f s'):SP X EN D f s':=by
 cases f with
 |next=>obtain⟨σ',H',I,q⟩:=h;exact⟨σ',H',I.unlift,q⟩
 |brk=>obtain⟨σ',H',I,q⟩:=h;exact⟨σ',H',I.unlift,q⟩
 |cont=>obtain⟨σ',H',I,q⟩:=h;exact⟨σ',H',I.unlift,q⟩
 |ret u=>obtain⟨v,σ',H',I,r,q⟩:=h;exact⟨v,σ',H',I.unlift,r,q⟩
theorem ut {D':ED->Prop}(hX:X.ex=[])(hD:∀c,D c->D' c:=by intros;trivial):gf (CXD D X.prog X.w) (rQ X pn σ0 E D') E σ0:=by
 intro EN H s e s' I hx;obtain⟨ea,cls,fp,H',rfl,I',F,fr,q⟩:=I.thrown hx hX;obtain⟨c,dc,F,bk,bn⟩:=F;exact⟨ea,cls,fp,H',rfl,I'.repn,⟨c,hD c dc,F,bk,λ b e=>let n:=bn b e;⟨n.s0,n.loc,n.cel,λ p hp=>n.pin p (by simp at hp;exact Bn _ hp)⟩⟩,λ b hb=>let n:=fr b hb;⟨n.s0,n.h,n.loc,n.cel,λ p hp=>n.pin p (by simp at hp;exact Bn _ hp)⟩,q⟩
end
section
variable {X:Cx}{CX:CXT}{k:Nat}{f C:EC}{fd:EH}{ps:List Str}{sp:Sp}{dvs:List V}{ds:List ED}{E:XK}{x m:Str}{p pos apos:Pos}{e o:EK}{es:List EK}{ta:TE}{t:TA}{σ0:St}
def tAt (σ0:St)(t:TE):TE:=λ σ H Q=>σ=σ0/\t σ H Q
theorem pZ {EN:List (EC×EL)}{Q:VK}{us:List ED}{vs:List V}(F:FnOk X.prog X.w X.K X.mg X.base CX k f fd ps sp)(hr:Room k X.A)(hb:Binds X.K fd ps ds)(hd:Vals dvs ds)(hx:gf CX X E σ0)
  (I:Inv X EN σ0 H s) (r:Vals vs us) (h:sp (vs++dvs) H Q E):wpAny (model X.prog X.w) X.A (call (.ref f) us) (EP X EN σ0 Q) X.xe s:=by
 have r2:Vals (vs++dvs) (us++ds):=r.append hd;have hl:(us++ds).length=ps.length:=by rw [<-r2.length];exact F.len _ _ _ _ h
 refine wpAny_call (codeAny_mono (F.run X.A X.stack s H ⟨us,[]⟩ (us++ds) (vs++dvs) Q E hr I.env0 (hb s us I.kIn hl) r2 h) λ r s' hq=>?_);cases r with
 |error e=>exact hx EN H s e s' I hq
 |ok fl=>
  cases fl with
  |ret u=>exact I.after hq
  |next=>exact False.elim hq
  |brk=>exact False.elim hq
  |cont=>exact False.elim hq
theorem rS (F:FnOk X.prog X.w X.K X.mg X.base CX k f fd ps sp)(hr:Room k X.A)(hg:Gl X x)(hm:X.mg x=some (.ref f))(hk:keepIn X.K (.ref f)=true)(hb:Binds X.K fd ps ds)(hd:Vals dvs ds)(hx:gf CX X E σ0)
  (ha:PA X (e::es) t) (hdb:autoParam ((x==("__debug__":Str))=false) ZZ) (he:autoParam (starEach (e::es) X.env=(false,eval e X.env)::starEach es X.env) Z0) (hpl:autoParam ((backTo pos (starEach es X.env)).any (·.1)=false) Z0):
  PE X (.Call (.Name x p) (e::es) [] pos) (tAt σ0 (tCall sp dvs E t)):=by
 intro EN s σ H Q I h;obtain⟨rfl,h⟩:=h;refine BR (ld_glob I hg hm ?_ hdb);refine CF (h₀:=X.base) I.ok.mod.kin hk (thn (ha pos EN s σ H _ I h) λ us s1 ⟨vs,H1,I1,r,q⟩=>⟨I1.kIn,?_⟩) he hpl;exact pZ F hr hb hd hx I1 r q
theorem kW {pl:Sem Bool}(he:PE X o ta)(c:Cls X.K C)(hm:Meth X.K C m f)(F:FnOk X.prog X.w X.K X.mg X.base CX k f fd ps sp)(hr:Room k X.A)(hb:Binds X.K fd ps ds)(hd:Vals dvs ds)(hx:gf CX X E σ0)(ha:PA X (e::es) t)
    (hst:autoParam (starEach (e::es) X.env=(false,eval e X.env)::starEach es X.env) Z0) (hpl:autoParam ((backTo pos (starEach es X.env)).any (·.1)=false) Z0)
    (ht:autoParam (eval (.Call (.Attribute o m apos) (e::es) [] pos) X.env=(do
      let ov<-eval o X.env
      standAt apos.atName
      let(f,first)<-holding [ov] (getMethod ov m pl)
      callWith pos f first (backTo pos (starEach (e::es) X.env)) (backToKw pos (keywordEach [] X.env)))) Z0):
    PE X (.Call (.Attribute o m apos) (e::es) [] pos) (tAt σ0 (lm C m sp dvs E ta t)):=by
  intro EN s σ H Q I h
  obtain⟨rfl,h⟩:=h
  refine DA (pl:=pl) (thn (he EN s σ H _ I h) λ u s1 z9=>?_) ht
  obtain⟨x,H1,I1,rx,a,dx,fs,ex,ea,l,q⟩:=z9
  subst ex
  obtain rfl:u=Value.ref a:=rx
  refine fk I1 ea c hm l ?_
  refine CF (first:=[.ref a]) (h₀:=X.base) I.ok.mod.kin hm.kp (thn (ha pos EN s1 σ H1 _ I1 q) λ us s2 ⟨vs,H2,I2,r,q2⟩=>⟨I2.kIn,?_⟩) hst hpl
  exact pZ (us:=.ref a::us) (vs:=.ref a::vs) F hr hb hd hx I2 (.cons rfl r) q2
end
section
variable {X:Cx}{EN:List (EC × EL)}{σ:St}{H:Hp}{s:EE}
theorem Inv.know (I:Inv X EN σ H s)(n:NewA X EN b)(hb:H b=some (.frz ob (.own b))):Inv {X with H₀:=upd X.H₀ b (.frz ob (.own b))} EN σ H s:=by
 have neF:∀c∈X.fs,c≠b:=λ c hc z=>by
  obtain⟨_,o,ho,_⟩:=I.ok.funs.mem hc;rw [z,n.s0] at ho;cases ho
 have ne0:∀c o,X.s₀.heap.get? c=some o->c≠b:=λ c o q z=>by rw [z,n.s0] at q;cases q
 have neB:∀c o,X.base.get? c=some o->c≠b:=λ c o q=>ne0 c o (I.ok.bs c o q).1
 refine⟨⟨I.ok.mod,I.ok.kind,I.ok.glob,I.ok.blt,I.ok.above,I.ok.inj,I.ok.has,I.ok.cab,?_,I.ok.frames,I.ok.stk,I.ok.exf,λ c o q=>⟨(I.ok.bs c o q).1,?_⟩,I.ok.bsz,I.ok.noex,I.ok.exfs,I.ok.funs,λ c hc=>?_⟩,
  I.os,I.bare,⟨λ c o q z hc hx=>?_,λ c o q z hc hx=>?_,λ c o q z hx=>?_,I.base.there,λ c xs q=>?_,λ c o u q=>?_,λ c ps q=>?_⟩,I.loc,I.cell,I.free,I.freeC,I.pin,I.hok,I.len⟩
 ·rcases I.ok.hd with q|⟨a,o,vs,c,e,f,d,z,k⟩
  ·exact .inl q
  ·have up:∀x o u,X.H₀ x=some (.frz o u)->upd X.H₀ b (.frz ob (.own b)) x=some (.frz o u):=λ x o u g=>by
    by_cases hx:x=b
    ·have:=I.base.frzs _ _ _ g;rw [hx,hb] at this;rw [hx,af];exact this
    ·rw [av hx];exact g
   exact .inr ⟨a,o,vs,c,e,up _ _ _ f,d,z,k.keep up⟩
 ·show upd X.H₀ b _ c=none;rw [av (neB c o q)];exact(I.ok.bs c o q).2
 ·show upd X.H₀ b _ c=none;rw [av (neF c hc)];exact I.ok.frf c hc
 ·have z':upd X.H₀ b (.frz ob (.own b)) c=none:=z;rw [av (ne0 c o q)] at z';exact I.base.keep c o q z' hc hx
 ·have z':upd X.H₀ b (.frz ob (.own b)) c=none:=z;rw [av (ne0 c o q)] at z';exact I.base.slot c o q z' hc hx
 ·have z':upd X.H₀ b (.frz ob (.own b)) c=none:=z;rw [av (ne0 c o q)] at z';exact I.base.free c o q z' hx
 ·have q':upd X.H₀ b (.frz ob (.own b)) c=some (.tup xs):=q;by_cases hc:c=b
  ·rw [hc,af] at q';cases q'
  ·rw [av hc] at q';exact I.base.tups c xs q'
 ·have q':upd X.H₀ b (.frz ob (.own b)) c=some (.frz o u):=q;by_cases hc:c=b
  ·rw [hc] at q' ⊢;rw [af] at q';rw [hb];exact q'
  ·rw [av hc] at q';exact I.base.frzs c o u q'
 ·have q':upd X.H₀ b (.frz ob (.own b)) c=some (.tbl ps):=q;by_cases hc:c=b
  ·rw [hc,af] at q';cases q'
  ·rw [av hc] at q';exact I.base.tbls c ps q'
theorem Inv.unknow (I0:Inv X EN σ H s)(n:NewA X EN b)(hb:H b=some (.frz ob (.own b)))(I:Inv {X with H₀:=upd X.H₀ b (.frz ob (.own b))} EN σ1 H1 s1):Inv X EN σ1 H1 s1:=by
 have ne0:∀c u,X.s₀.heap.get? c=some u->c≠b:=λ c u q z=>by rw [z,n.s0] at q;cases q
 have tr:∀c,c≠b->upd X.H₀ b (.frz ob (.own b)) c=X.H₀ c:=λ c hc=>av hc
 refine⟨I0.ok,I.os,I.bare,⟨λ c u q z hc hx=>I.base.keep c u q ((tr c (ne0 c u q)).trans z) hc hx,λ c u q z hc hx=>I.base.slot c u q ((tr c (ne0 c u q)).trans z) hc hx,λ c u q z hx=>I.base.free c u q ((tr c (ne0 c u q)).trans z) hx,I.base.there,λ c xs q=>?_,λ c u v q=>?_,λ c ps q=>?_⟩,I.loc,I.cell,I.free,I.freeC,I.pin,I.hok,I.len⟩
 ·refine I.base.tups c xs ((tr c λ z=>?_).trans q);have:=I0.base.tups c xs q;rw [z,hb] at this;cases this
 ·by_cases hc:c=b
  ·have:=I0.base.frzs c u v q;rw [hc,hb] at this;refine I.base.frzs c u v ?_;show upd X.H₀ b (.frz ob (.own b)) c=_;rw [hc,af];exact this
  ·exact I.base.frzs c u v ((tr c hc).trans q)
 ·refine I.base.tbls c ps ((tr c λ z=>?_).trans q);obtain⟨m,this⟩:=I0.base.tbls c ps q;rw [z,hb] at this;cases this
theorem Inv.ready {c:ED}(I:Inv X EN σ H s)(bk:BkX X EN H e c):∃G:Hp,Inv {X with H₀:=G} EN σ H s/\BkH G e c/\∀σ1 H1 s1,Inv {X with H₀:=G} EN σ1 H1 s1->Inv X EN σ1 H1 s1:=by
 obtain⟨bk,bn⟩:=bk;rcases bk with bk|⟨b,ob,us,rfl,n,f,r⟩
 ·exact⟨X.H₀,I,.inl bk,λ _ _ _ z=>z⟩
 ·exact⟨_,I.know (bn b rfl) f,.inr ⟨b,ob,us,rfl,n,af,r⟩,λ _ _ _ z=>I.unknow (bn b rfl) f z⟩
theorem Inv.hand {cls c:ED}(I:Inv X EN σ H s)(n:New X EN H e)(g:s.heap.get? e=some (exO cls vs))(h2:vs[2]?=some c/\6≤vs.size)(bk:BkH X.H₀ e c):
  Inv (cxHand X e (upd X.H₀ e (.frz (exO cls vs) (.own e)))) EN σ (upd H e (.frz (exO cls vs) (.own e))) s:=by
 have neF:∀b∈X.fs,b≠e:=λ b hb z=>by
  obtain⟨_,o,ho,_⟩:=I.ok.funs.mem hb;rw [z,n.s0] at ho;cases ho
 have ne0:∀b o,X.s₀.heap.get? b=some o->b≠e:=λ b o q z=>by rw [z,n.s0] at q;cases q
 have neB:∀b o,X.base.get? b=some o->b≠e:=λ b o q=>ne0 b o (I.ok.bs b o q).1
 have bk':BkH (upd X.H₀ e (.frz (exO cls vs) (.own e))) e c:=by
  rcases bk with bk|⟨b,ob,us,e1,n1,f1,r⟩
  ·exact .inl bk
  ·exact .inr ⟨b,ob,us,e1,n1,(av n1).trans f1,r⟩
 refine⟨⟨I.ok.mod,I.ok.kind,I.ok.glob,I.ok.blt,I.ok.above,I.ok.inj,I.ok.has,I.ok.cab,.inr ⟨e,_,vs,c,rfl,af,rfl,h2,bk'⟩,I.ok.frames,I.ok.stk,I.ok.exf,λ b o q=>⟨(I.ok.bs b o q).1,?_⟩,I.ok.bsz,I.ok.noex,I.ok.exfs,I.ok.funs,λ b hb=>?_⟩,
  I.os,I.bare,⟨λ b o q z hb hx=>?_,λ b o q z hb hx=>?_,λ b o q z hx=>?_,I.base.there,λ b xs q=>?_,λ b o u q=>?_,λ b ps q=>?_⟩,I.loc,I.cell,?_,λ x c ec=>?_,λ p hp=>?_,λ a o q=>?_,I.len⟩
 ·show upd X.H₀ e _ b=none;rw [av (neB b o q)];exact(I.ok.bs b o q).2
 ·show upd X.H₀ e _ b=none;rw [av (neF b hb)];exact I.ok.frf b hb
 ·have z':upd X.H₀ e (.frz (exO cls vs) (.own e)) b=none:=z;rw [av (ne0 b o q)] at z';exact I.base.keep b o q z' hb hx
 ·have z':upd X.H₀ e (.frz (exO cls vs) (.own e)) b=none:=z;rw [av (ne0 b o q)] at z';exact I.base.slot b o q z' hb hx
 ·have z':upd X.H₀ e (.frz (exO cls vs) (.own e)) b=none:=z;rw [av (ne0 b o q)] at z' ⊢;exact I.base.free b o q z' hx
 ·have q':upd X.H₀ e (.frz (exO cls vs) (.own e)) b=some (.tup xs):=q;by_cases hb:b=e
  ·rw [hb,af] at q';cases q'
  ·rw [av hb] at q' ⊢;exact I.base.tups b xs q'
 ·have q':upd X.H₀ e (.frz (exO cls vs) (.own e)) b=some (.frz o u):=q;by_cases hb:b=e
  ·rw [hb] at q' ⊢;rw [af] at q' ⊢;exact q'
  ·rw [av hb] at q' ⊢;exact I.base.frzs b o u q'
 ·have q':upd X.H₀ e (.frz (exO cls vs) (.own e)) b=some (.tbl ps):=q;by_cases hb:b=e
  ·rw [hb,af] at q';cases q'
  ·rw [av hb] at q' ⊢;exact I.base.tbls b ps q'
 ·show upd H e _ X.env.locals=none;rw [av (B0 n.loc)];exact I.free
 ·rw [av (n.cel x c ec)];exact I.freeC x c ec
 ·obtain⟨a1,a2,a3⟩:=I.pin p hp;exact⟨a1,by rw [av (n.pin p hp)];exact a2,a3⟩
 ·by_cases ha:a=e
  ·subst ha;rw [af] at q;cases q;exact⟨g,_,g⟩
  ·rw [av ha] at q;have nt:∀b u,H b=some u->b≠e:=λ b u r z=>by rw [z,n.h] at r;cases r
   exact(I.hok a o q).stay (λ b u _ r=>r) (λ b r=>by rw [av (nt b _ r)];exact r) λ b xs r=>by rw [av (nt b _ r)];exact r
theorem Inv.unhand {o:EL}(I0:Inv X EN σ H s)(n:New X EN H e)(I:Inv (cxHand X e (upd X.H₀ e (.frz o (.own e)))) EN σ1 H1 s1):Inv X EN σ1 H1 s1:=by
 have ne0:∀b u,X.s₀.heap.get? b=some u->b≠e:=λ b u q z=>by rw [z,n.s0] at q;cases q
 have tr:∀b,b≠e->(cxHand X e (upd X.H₀ e (.frz o (.own e)))).H₀ b=X.H₀ b:=λ b hb=>av hb
 refine⟨I0.ok,I.os,I.bare,⟨λ b u q z hb hx=>I.base.keep b u q ((tr b (ne0 b u q)).trans z) hb hx,λ b u q z hb hx=>I.base.slot b u q ((tr b (ne0 b u q)).trans z) hb hx,λ b u q z hx=>I.base.free b u q ((tr b (ne0 b u q)).trans z) hx,I.base.there,λ b xs q=>?_,λ b u v q=>?_,λ b ps q=>?_⟩,I.loc,I.cell,I.free,I.freeC,I.pin,I.hok,I.len⟩
 ·refine I.base.tups b xs ((tr b λ z=>?_).trans q);have:=I0.base.tups b xs q;rw [z,n.h] at this;cases this
 ·refine I.base.frzs b u v ((tr b λ z=>?_).trans q);have:=I0.base.frzs b u v q;rw [z,n.h] at this;cases this
 ·refine I.base.tbls b ps ((tr b λ z=>?_).trans q);obtain⟨m,this⟩:=I0.base.tbls b ps q;rw [z,n.h] at this;cases this
theorem Inv.nameGoes {M:Model}{i:Nat}{pos:Pos}(I:Inv X EN σ H s)(hN:X.N.Nodup)(hi:X.N[i]?=some y)(hl:X.env.scope.names.lookup y=some .local)
    (h:∀s',Inv X EN (σ.set i none) H s'->Q () s'):wpAny M A (do bindName X.env y .none;unbindBehindTheSuite X.env y pos) Q E s:=by
  have hiσ:i<σ.length:=by rw [I.len];exact(Ak.mp hi).1
  have hcls:(X.env.scope.kind== .class||(X.env.scope.kind== .module&&X.env.locals !=X.env.globals))=false:=by rw [I.ok.kind];rfl
  have hk:X.env.kindOf y=some .local:=hl
  refine Aa (wpAny_bindName (store_ok (v:=.non) I hN hi (.inl hl) rfl (λ s1 I1=>?_) (.inr hl)))
  unfold unbindBehindTheSuite
  refine wpAny_onRaise ?_
  unfold unbindName
  refine Aa (wpAny_point (Aa ?_))
  unfold deleteName
  simp only [hk,hcls]
  rw [AO Z9]
  obtain⟨m,hn,hm⟩:=id I1.loc
  obtain⟨u,ru,lk⟩:=hm i y .non hi (by rw [BE hiσ]) (.inl hl)
  have hmy:m y=some u:=by
    rcases lk with⟨_,q⟩|⟨q,_⟩
    · exact q
    · rw [hk] at q
      rcases q with q|q<;>cases q
  refine Aa (wpAny_nsDel_keeps hn λ h2 v hn2 hs2=>?_)
  rw [hmy]
  simp only [if_true,Option.isSome_some,Bool.not_true,CG,if_false]
  refine Am (wpAny_point (h _ ?_))
  obtain⟨oL,_,_,hoL,_⟩:=id hn
  have ne0:∀b o,X.s₀.heap.get? b=some o->b≠X.env.locals:=λ b o e=>A2 (Ap (Aw e) I1.ok.above)
  refine⟨I1.ok,I1.os,I1.bare,⟨λ b o e n hb hx=>(hs2.2 b (ne0 b o e)).trans (I1.base.keep b o e n hb hx),λ b o e n hb hx=>?_,I1.base.free,λ b o e hx=>?_,I1.base.tups,I1.base.frzs,I1.base.tbls⟩,⟨_,hn2,λ j z v' e1 e2 e3=>?_⟩,λ z c e=>?_,I1.free,I1.freeC,λ p hp=>?_,λ b ob e=>?_,by simpa using I.len⟩
  · obtain⟨sl,e1⟩:=I1.base.slot b o e n hb hx
    exact⟨sl,(hs2.2 b (ne0 b o e)).trans e1⟩
  · obtain⟨o',e1⟩:=I1.base.there b o e hx
    exact⟨o',(hs2.2 b (ne0 b o e)).trans e1⟩
  · have hj:j≠i:=λ q=>by rw [q,BE hiσ] at e2;cases e2
    rw [Cf (B0 hj)] at e2
    obtain⟨u',r',q⟩:=hm j z v' e1 (by rw [Cf (B0 hj)];exact e2) e3
    refine⟨u',r',?_⟩
    rcases q with⟨kk,e⟩|⟨kk,c,e,zz⟩
    · refine .inl ⟨kk,?_⟩
      have:z≠y:=λ q=>hj (nodup_ix hN e1 (q▸hi))
      simp [this,e]
    · exact .inr ⟨kk,c,e,zz.sameBut hs2 (I1.cne z c e)⟩
  · obtain⟨w',q⟩:=I1.cell z c e
    exact⟨w',q.sameBut hs2 (I1.cne z c e)⟩
  · obtain⟨e,n,ne,nf,d⟩:=I1.pin p hp
    exact⟨(hs2.2 p.1 ne).trans e,n,ne,nf,d⟩
  · refine(I1.hok b ob e).stay (λ c w' hc q=>(hs2.2 c λ z=>?_).trans q) (λ _ q=>q) λ _ _ q=>q
    rcases hc with hc|hc
    · rw [<-hc,z,I1.free] at e;cases e
    · rw [z,I1.free] at hc;cases hc
end
def Dx (i:Nat)(D:Ends):Ends:=⟨λ σ H=>D.nx (σ.set i none) H,D.rt,λ σ H=>D.bk (σ.set i none) H,λ σ H=>D.ct (σ.set i none) H⟩
def zC (K:Frag)(D0:EC)(i:Nat)(tb:St->XK->TS)(th:TS):TS:=λ D σ H=>
 tb σ (λ cls _ H'=>∃C,cls=.ref C/\ExC K C/\C≠D0/\mroIn K C (.ref D0)=some true/\
  ∀e vs,H' e=none->th (Dx i D) (σ.set i (some (.ref e))) (upd H' e (.frz (exO (.ref C) vs) (.own e)))) D σ H
theorem xL {i:Nat}{D0:EC}{b₀:EM}{body suite:List EM}{tb:St->XK->TS}{th:TS}{hpos pos:Pos}(hN:X.N.Nodup)(hi:X.N[i]?=some y)(hl:X.env.scope.names.lookup y=some .local)
  (hg:Gl X x) (hm:X.mg x=some (.ref D0)) (hD:ExC X.K D0) (hst:X.stack=X.env::X.outer) (hfr:X.env.frame=some X.env.locals) (hX:X.ex=[])
  (hb:∀pn σ0 E,PSs (rQ X pn σ0 E) body (tb σ0 E)) (hh:∀e G,PSs (cxHand X e G) (b₀::suite) th) (hd:autoParam ((x==("__debug__":Str))=false) ZZ):
  PS X (.Try body [.ExceptHandler (some (.Name x np)) (some y) (b₀::suite) hpos] [] [] pos) (zC X.K D0 i tb th):=by
 intro EN s σ H D I h;refine wpAny_Try_except (Bb (hb (X.pn++EN) σ _ [] s σ H D (I.lift _) h) (λ f s1 q=>?_) λ e s1 q=>?_)
 ·have q':SP X EN D f s1:=SP.unlift q;cases f with
  |next=>exact CM q'
  |brk=>exact q'
  |cont=>exact q'
  |ret u=>exact q'
 ·obtain⟨ea,cls,fp,H',rfl,I1,⟨c,dc,F,bk,bn⟩,fr,C,rfl,cC,hne,hmro,q⟩:=q;have I1:Inv X EN σ H' s1:=Inv.unlift (W:=X.xe) I1;have fr:∀b∈fp,New X EN H' b:=λ b hb=>let n:=fr b hb;⟨n.s0,n.h,n.loc,n.cel,λ p hp=>n.pin p (by simpa using hp)⟩
  have hf:X.A.frames=some (X.env::X.outer):=hst▸I1.ok.frames;refine yp hf (hst▸I1.stack) hfr F λ h' T F' hT f3 f4 f5=>?_
  have I2:=I1.landed fr (by rw [hst];exact f3) f4 f5;have nE:New X EN H' ea:=fr ea F.here;have nT:New X EN H' T:=I1.new (by
   cases z:s1.heap.get? T with
   |none=>rfl
   |some o=>exact absurd (Ap (Aw z) hT) (BJ _)) (I1.hok.fresh hT) (by rw [hX];simp)
  obtain⟨vs,ge,z2,⟨_,r⟩|⟨T',oT,ts,_,neT,_,_,_,r⟩⟩:=id F'
  ·cases r
  ·cases r;have q:=q ea vs nE.h;obtain⟨G,I2',bk0,unk⟩:=I2.ready (e:=ea) (c:=c) ⟨bk,λ b e=>let n:=bn b e;⟨n.s0,n.loc,n.cel,λ p hp=>n.pin p (by simpa using hp)⟩⟩;have nE':New {X with H₀:=G} EN H' ea:=⟨nE.s0,nE.h,nE.loc,nE.cel,nE.pin⟩;have I3:=I2'.hand nE' ge z2 bk0;have uh:∀σ6 H6 s6,Inv (cxHand X ea (upd G ea (.frz (exO (.ref C) vs) (.own ea)))) EN σ6 H6 s6->Inv X EN σ6 H6 s6:=λ _ _ _ z=>unk _ _ _ (Inv.unhand I2' nE' z)
   generalize hG3:upd G ea (.frz (exO (.ref C) vs) (.own ea))=G3 at*;generalize hH3:upd H' ea (.frz (exO (.ref C) vs) (.own ea))=H3 at*;refine wpAny_handleBy_cons (codeAny_handlers_test (ld_glob (X:=cxHand X ea G3) I3 hg hm ?_ hd)) (by intro q;cases q);obtain⟨bm,N,nm,qn,bs,hdct,sn,sub,ab,col,dd,k0,k1,k2,k3,k5,hlC,hcC,_⟩:=gj cC;obtain⟨bm',N',nm',qn',bs',hdct',sn',sub',ab',col',dd',j0,j1,j2,j3,j5,hlD,_,hfD⟩:=gj hD;have hmem:(Value.ref C::bm).contains (.ref D0)=true:=by
    unfold mroIn at hmro;rw [hcC] at hmro;simpa using hmro
   have T':=(hfD _ I2.kIn).2;obtain⟨hh1,gg,dr,tk,os1⟩:=s1;refine lZ (I2.kIn C _ hlC) (I2.kIn D0 _ hlD) ge rfl (T'.hasType Z8) hmem hne (codeAny_handlers_suite_as ?_);refine ou F' λ h4 F4 k4=>?_
   have nT3:New (cxHand X ea G3) EN H3 T:=⟨nT.s0,by rw [<-hH3,av neT];exact nT.h,nT.loc,nT.cel,nT.pin⟩;have I4:=I3.landed (h':=h4) (fp:=[T]) (λ b hb=>by rw [AD] at hb;rw [hb];exact nT3) (λ b o g hb _=>k4 b o g λ z=>hb (by simp [z])) (λ b o g hb=>⟨o.slots,k4 b o g λ z=>hb (by simp [z])⟩) (λ b o g=>by
    by_cases hb:b=T
    ·obtain⟨o',us,g',_⟩:=F4.rec T Z6;exact⟨o',by rw [hb];exact g'⟩
    ·exact⟨o,k4 b o g hb⟩)
   refine store_ok (X:=cxHand X ea G3) (v:=.ref ea) I4 hN hi (.inl hl) rfl (λ s5 I5=>?_) (.inr hl);refine Bb (hh ea G3 EN s5 _ H3 (Dx i D) I5 q) (λ f s6 q6=>?_) λ _ _ z=>False.elim z
   cases f with
   |next=>
    obtain⟨σ6,H6,I6,q7⟩:=q6;exact(uh _ _ _ I6).nameGoes hN hi hl λ s' I8=>⟨_,_,I8,q7⟩
   |brk=>
    obtain⟨σ6,H6,I6,q7⟩:=q6;exact(uh _ _ _ I6).nameGoes hN hi hl λ s' I8=>⟨_,_,I8,q7⟩
   |cont=>
    obtain⟨σ6,H6,I6,q7⟩:=q6;exact(uh _ _ _ I6).nameGoes hN hi hl λ s' I8=>⟨_,_,I8,q7⟩
   |ret u=>
    obtain⟨v,σ6,H6,I6,r,q7⟩:=q6;exact(uh _ _ _ I6).nameGoes hN hi hl λ s' I8=>⟨v,_,_,I8,r,q7⟩
structure ExI (K:Frag)(C:EC):Prop where
 ga:findIn K (.ref C) "__getattribute__"=some (some (.builtin "BaseException.__getattribute__"))
 gt:findIn K (.ref C) "__getattr__"=some none
 hd:hasDictIn K C=true
 ha:findIn K (.ref C) "__class__"=some (some (.builtin "object.__class__"))
 hn:specialIn K (.builtin "object.__class__") "__get__"=some (some (.builtin "getset_descriptor.__get__"))
 htk:takesIn K (.builtin "object.__class__")=some true
 hm:mroIn K C (.type "object")=some true
 be:mroIn K C (.type "BaseException")=some true
theorem rP {M:Model}{g:Array GenState}{d:Drawn}{os:OsState}{x:EC}{nv:ED}(L:Looks M h (isInstance (.ref x) (.type "BaseException")) true)
  (hq:Q () ⟨h,g,d,t,os⟩):wpAny M A (checkBuiltinCall "BaseException.__getattribute__" ⟨[.ref x,nv],[]⟩) Q E ⟨h,g,d,t,os⟩:=by
 have hk:builtinKind "BaseException.__getattribute__"=some .slot:=Z8;have hsplit:splitId "BaseException.__getattribute__"=some ("BaseException","__getattribute__"):=Z8;have ha:=PySem.F.args_bexc_ga (.ref x) nv;simp only [checkBuiltinCall,hk,hsplit];refine Aa (L.at ?_)
 repeat (first|exact hq|wp_step)
theorem tq {g:Array GenState}{d:Drawn}{os:OsState}{x:EC}{tk:Tok}{Q:Fin->EE->Prop}(Y:K.In h)(I:InstAt h x ox C none)
  (L3:Looks (model prog w) h (Builtin.ObjectAttr.find (.ref x) (.ref C) "__class__") (.bind (.builtin "getset_descriptor.__get__") (.builtin "object.__class__"))) (hm:mroIn K C (.type "object")=some true)
  (hq:Q (.done (.ret (.ref C))) ⟨h,g,d,t,os⟩):wpAny (model prog w) A (Builtin.«object.__getattribute__» ⟨[.ref x,.str "__class__" tk],[]⟩) Q E ⟨h,g,d,t,os⟩:=by
 have L0:=I.type (M:=model prog w);refine Aa (Aa (Am (Am ?_)));refine Aa (Am (Aa (L0.at (Aa (L3.at ?_)))));show wpAny _ _ (holding [Value.builtin "object.__class__"] (call (.builtin "getset_descriptor.__get__") [.builtin "object.__class__",.ref x,.ref C])>>= ret) _ _ _;exact Aa (B6 (wpAny_call (PySem.W.class_get (s:=⟨h,g,d,t,os⟩) (ox:=ox) (od:=none) Y I hm (Am hq))))
theorem qW {x:EC}{Q:Option ED->EE->Prop}(c:ExI K C)(Y:K.In s.heap)(I:InstAt s.heap x ox C none)
  (h:Q (some (.ref C)) {s with toks:=s.toks+1}):wpAny (model prog w) A (getAttr? (.ref x) "__class__") Q E s:=by
 have hf:findObj K C none "__class__"=some (.bind (.builtin "getset_descriptor.__get__") (.builtin "object.__class__")):=by
  obtain⟨cd,hc,_⟩:=DE c.hd;unfold findObj;rw [hc,Option.bind_some,c.ha,Option.bind_some];simp [c.hn,c.htk]
 obtain⟨hh,g,d,t,os⟩:=s;have L0:=I.type (M:=model prog w);have L1:=CT (M:=model prog w) Y c.ga;have L2:=CT (M:=model prog w) Y c.gt;have L3:=PySem.W.looks_find (M:=model prog w) Y I hf;have L4:=PySem.W.looks_mroIn (M:=model prog w) Y c.be;unfold getAttr? getAttrBy? getAttrBy;refine Aa (wpAny_mkText (Aa (Ct (B6 (Aa (L0.at (Aa (L1.at ?_))))))));show wpAny _ _ (getAttrByItsOwn _ _ _ _ _ _) _ _ _;unfold getAttrByItsOwn;refine Aa (show wpAny _ _ (typeLookup (.ref C) "__getattr__") _ _ _ from L2.at ?_);refine Aa (Ct (B6 ?_));show wpAny _ _ (boundAndCalled _ _ _) _ _ _;unfold boundAndCalled;refine Aa (wpAny_of_eq (PySem.F.attr_ValueError.ga.bind _) ?_);refine wpAny_call (codeAny_call_builtin PySem.F.attr_ValueError.ga.plain PySem.F.entry_bexc_ga ?_);refine rP (L0.andThen L4) (tq Y I L3 c.hm ?_);show wpAny _ _ (handedOut (.ref C)) _ _ _;exact Am (Am h)
theorem uc {x:EC}(c:ExI K C):KitX K (.ref x) (.ref C) (λ h=>InstAt h x (exO (.ref C) vs) C none) where
 ty:=λ _ _ _ I=>I.type
 it:=λ M h Y _=>by
  obtain⟨cd,hc,_⟩:=DE c.hd;unfold clsIn at hc
  split at hc
  ·rename_i ho
   intro A' Q' E' s' k q;unfold isType loadHead;exact Aa (wpAny_loadPart (k _ _ (Y _ _ ho)) (Am q))
  ·cases hc
 ne:=λ h tp dd its n sl Y htp=>by
  obtain⟨cd,hc,_⟩:=DE c.hd;refine Bool.eq_false_iff.mpr λ q=>?_
  have e:C=tp:=Value.ref.inj (Eg.mp q);subst e;unfold clsIn at hc
  split at hc
  ·rename_i ho
   have z:=(Y _ _ ho).symm.trans htp;cases z
  ·cases hc
 ca:=λ Y I k=>qW c Y I k
section
variable {X:Cx}
noncomputable def zi:ED->V
 | .ref a=>.ref a
 | .type n=>.ty n
 |_=>.non
theorem jg:dg X (.builtin "isinstance") (λ xs H Q=>∃a C vs c b,xs=[.ref a,zi c]/\(∃n,c=.ref n\/∃t,c=.type t)/\H a=some (.frz (exO (.ref C) vs) (.own a))/\ExI X.K C/\kitOne X.K (.ref C) c=some b/\Q (.bl b) H):=by
 intro EN s σ H xs us Q I r h;obtain⟨a,C,vs,c,b,rfl,hc,hf,ci,e,q⟩:=h;obtain⟨u,v,rfl,ru,rv⟩:=oV r;cases ru;have ev:v=c:=by
  obtain⟨n,hc|⟨t,hc⟩⟩:=hc
  ·subst hc;exact rv
  ·subst hc;exact rv
 subst ev;obtain⟨g,_⟩:=I.hok a _ hf;exact Bw (uc (vs:=vs) ci) I.kIn ⟨g,rfl,rfl,trivial⟩ e (λ z=>nomatch z) λ tk=>⟨.bl b,H,I.tok tk,rfl,q⟩
end
end L2
set_option maxHeartbeats 4000000
namespace L2
open PySem
variable {f:EC}{mg:Str->Option ED}{K:Frag}{qual:Str}{base:EJ}{w:EG}{P:EF}
theorem wM {CX:CXT}{name:Str}{params:Arguments}{body:List EM}{scope:Scope}{dV kV doc pm EO ct oc:ED}{an od:Option EC}
  {osl:Array (Option ED)} {N ps:List Str} {sp:Sp} (lk:K.lookup f=some ⟨oc,od,.func (fnOf name qual params body scope dV kV doc pm an EO ct),osl⟩) (hcd:codeIn K EO qual=true) (S:FnScope N ps scope)
  (len:∀vs H Q E,sp vs H Q E->vs.length=ps.length)
  (hbody:∀(A:EI) (outer:List Env) (s:EE) (H:Hp) (vs:List V) (Q:VK) (E:XK),sp vs H Q E->
   ∃t,PSs (cxOf CX P w K mg base N qual scope f EO A outer s H E) body t/\t {nx:=λ _ H'=>Q .non H',rt:=Q} (start N vs) H):
  FnOk P w K mg base CX 0 f (fnOf name qual params body scope dV kV doc pm an EO ct) ps sp:=by
 refine⟨len,λ A outer s H args us vs Q E hr e0 hb r hsp=>?_⟩;have hl:=len _ _ _ _ hsp;have KX:K.In s.heap:=e0.mod.kin.keeps λ b o e=>(e0.bs b o e).1
 have lim:s.heap.NoLimit:=e0.mod.nolimit.keeps λ b o e=>(e0.bs b o e).1
 have hkind:∀y∈ps.zip us,scope.names.lookup y.1=some .local\/(scope.names.lookup y.1=some .cell/\((cellsFrom (s.heap.objs.size+1) scope.names []).lookup y.1).isSome=true):=λ⟨n,v⟩ hy=>by
  rcases S.par n (DW hy).1 with q|q
  ·exact .inl q
  ·exact .inr ⟨q,Do _ _ _ (.inl q)⟩
 refine codeAny_call_function hr.depth (KX _ _ lk) rfl S.co S.gen rfl (codeRec_of KX hcd) (hb _ _ _ _ ?_);refine wpAny_newFunctionEnv_cells S.kind hkind λ env he s1 x=>?_
 subst he;refine⟨lim.keeps x.toInCall.keep,codeAny_func ?_⟩;obtain⟨t,ht,hq⟩:=hbody A outer s H vs Q E hsp;have I:Inv (cxOf CX P w K mg base N qual scope f EO A outer s H E) [] (start N vs) H s1:=jv S e0 hl r x;refine Bb (ht [] s1 (start N vs) H _ I hq) (λ fl s' hs=>?_) λ e s' hs=>hs
 have fin:∀{σ':St} {H':Hp} {v:V} {u:ED},Inv (cxOf CX P w K mg base N qual scope f EO A outer s H E) [] σ' H' s'->RelV v u->Q v H'->CE outer P w H s Q u s':=
  λ {σ' H' v u} J rv q=>⟨v,H',J.os,J.bare,J.base,J.hok,rv,q⟩
 cases fl with
 |ret u=>
  obtain⟨v,σ',H',J,rv,q⟩:=hs;exact fin J rv q
 |next=>
  obtain⟨σ',H',J,q⟩:=hs;exact fin (v:=V.non) (u:=Value.none) J rfl q
 |brk=>
  obtain⟨_,_,_,q⟩:=hs;exact False.elim q
 |cont=>
  obtain⟨_,_,_,q⟩:=hs;exact False.elim q
theorem Fun.ok0 {x:Str}{st:EM}{fd:EH}{N ps:List Str}{sp:Sp}(F:Fun K x qual st f fd)(S:FnScope N ps (ak st))
  (hbody:∀(EO:ED) (A:EI) (outer:List Env) (s:EE) (H:Hp) (vs:List V) (Q:VK) (E:XK),sp vs H Q E->
   let X:=(cxOf CX0 P w K mg base N qual (ak st) f EO A outer s H E).nox;∃t,PSs X (bc st) t/\t {nx:=λ _ H'=>Q .non H',rt:=Q} (start N vs) H) (len:autoParam (∀vs H Q E,sp vs H Q E->vs.length=ps.length) ZV):FnOk P w K mg base CX0 0 f fd ps sp:=by
 obtain⟨oc,od,kV,doc,pm,an,EO,ct,osl,rfl,lk,hcd⟩:=F.ex;refine wM lk hcd S len λ A outer s H vs Q E hsp=>?_
 obtain⟨t,h,q⟩:=hbody EO A outer s H vs Q E hsp;exact⟨t,h.nox,q⟩
end L2
set_option maxHeartbeats 4000000
namespace L2
open PySem PySem.Spec PyProof.Rows QQ
variable {X:Cx}{K:Frag}{H:Hp}{b:EC}{σ:St}
theorem am {t u:TS}{D:Ends}(h:∀R:St->Hp->Prop,(∀σ H,u D σ H->R σ H)->t {D with nx:=R} σ H):rN t u D σ H:=h (u D) λ _ _ z=>z
theorem lI (hK:X.K=K):IxR X (rIxL K):=by
 subst hK;exact bd
theorem vj (hK:X.K=K):IxR X (uB K):=by
 subst hK;exact cE
def zw (K:Frag):R2:=λ x y H Q=>∃(p q:EC) (ns ms:List Int),x=.ref p/\y=.ref q/\SqL K H p (ns.map V.int)/\SqL K H q (ms.map V.int)/\Q (.bl (!decide (ns=ms))) H
theorem kG (hu:X.A.units+64<cLine):OpR X (compareOp .NotEq) (zw X.K):=by
 intro EN s σ H x y v u Q I rx ry h;obtain⟨p,q,ns,ms,rfl,rfl,h1,h2,k⟩:=h;cases rx;cases ry;obtain⟨its,rv,pl,hz⟩:=I.list h1;obtain⟨its2,rv2,pl2,hz2⟩:=I.list h2;exact PySem.W.ne_intsK pl.isList (df rv) pl2.isList (df rv2) hu ⟨.bl _,H,I,rfl,k⟩
theorem dF (xs:List V)(k:Nat):cutV xs none (some ((k:Nat):Int))=xs.take k:=by
 unfold cutV;rw [HT.sIx_none,HT.sIx_nat,Du,Nat.sub_zero];by_cases h:k≤xs.length
 ·rw [AM h]
 ·rw [BS (DF h),Bx,AA (DF h)]
theorem dB (xs:List V)(k:Nat):cutV xs (some ((k:Nat):Int)) none=xs.drop k:=by
 unfold cutV;rw [HT.sIx_none,HT.sIx_nat];by_cases h:k≤xs.length
 ·rw [AM h,<-Ax,Bx]
 ·rw [BS (DF h),Eo,BF (DF h),List.take_nil]
theorem oS (xs:List V){m n:Nat}(hm:m≤n)(hn:n≤xs.length):cutV xs (some ((m:Nat):Int)) (some ((n:Nat):Int))=(xs.drop m).take (n-m):=by
 unfold cutV;rw [HT.sIx_nat,HT.sIx_nat,AM (show m≤xs.length from AT hm hn),AM hn]
theorem fz {a x:Str}{c:EC}(h:List.lookup x [(a,b)]=some c):x=a/\c=b:=by
 rw [List.lookup_cons] at h;cases hx:x==a with
 |true=>rw [hx] at h;exact⟨eq_of_beq hx,(AY h).symm⟩
 |false=>rw [hx] at h;cases h
theorem none_of {H':Hp}(s:Same H H'){q:EC}(h:H' q=none):H q=none:=by
 cases e:H q with
 |none=>rfl
 |some o=>rw [s _ _ e] at h;cases h
theorem aj {p:EC}{o:HO}(h:H p=none):Same H (upd H p o):=λ b u e=>by
 rw [av (au e h)];exact e
section
variable {X:Cx}
theorem io:∀x:V,flatV x=true->eqV x x=true:=by
 intro x h;cases x<;>simp [flatV,eqV] at h ⊢
theorem tU {EN:List (EC×EL)}{s:EE}(I:Inv X EN σ H s){a:EC}{xs:List V}(ha:SqT X.K H a xs)(hb:SqT X.K H b xs)(fl:xs.all flatV=true){A:EI}(hu:A.units<cLine):SeqAt.EqAt A s (.ref a) (.ref b) true:=by
 by_cases e:a=b
 ·subst e;exact .same _
 ·obtain⟨its,rv,pl,hz⟩:=I.tuple ha;obtain⟨its2,rv2,pl2,hz2⟩:=I.tuple hb;have l1:=rv.length;have l2:=rv2.length;refine .of_refs e ?_;have R:=SeqAt.RcAt.tuples (A:=A) (e:=λ _=>true) (show s.heap.IsTuple a its.toArray from pl) (show s.heap.IsTuple b its2.toArray from pl2) hu (λ j h1 h2=>?_)
  ·have e2:((List.range (min its.toArray.size its2.toArray.size)).all (λ _=>true)&&its.toArray.size==its2.toArray.size)=true:=by
    rw [An,An,<-l1,<-l2];simp
   rw [e2] at R;exact R
  ·have j1:j<xs.length:=by simp at h1;omega
   obtain⟨u1,e1,r1⟩:=rv.get (i:=j) (x:=xs[j]) (by simp [j1]);obtain⟨u2,e2,r2⟩:=rv2.get (i:=j) (x:=xs[j]) (by simp [j1]);have g1:its.toArray[j]=u1:=by
    obtain⟨_,z⟩:=Ak.mp e1;simpa using z
   have g2:its2.toArray[j]=u2:=by
    obtain⟨_,z⟩:=Ak.mp e2;simpa using z
   have f1:flatV xs[j]=true:=CW.mp fl _ (CY j1);rw [g1,g2,<-io _ f1];exact iF r1 r2 f1 f1
end
end L2
set_option maxHeartbeats 4000000
namespace QQ
open PySem PyProof.Rows
section
variable {prog:EF}{w:EG}{A:EI}{E:ED -> EE -> Prop}{s:EE}
end
end QQ
namespace L2
open PySem PySem.Spec PyProof.Rows QQ
theorem qO {K:Frag}{a l:EC}{xs:List V}{σ0:St}{g:TG}{tt:TT}{te:TE}{R:Hp->Prop}{H1:Hp}(Pv:Nat->List V->St->Hp->Prop)(h0:Pv 0 [] σ0 (upd H1 l (.lst [])))(hl:∀i ys σ H,i≤xs.length->Pv i ys σ H->SqL K H a xs)
  (hs:∀i x ys σ H,xs[i]?=some x->Pv i ys σ H->g x σ H λ σ3 H3=>tt σ3 H3 λ c H5=>if c=true then te σ3 H5 λ y H4=>H4 l=some (.lst ys)/\ys.length<sizeLine/\Pv (i+1) (ys++[y]) σ3 (upd H4 l (.lst (ys++[y]))) else Pv (i+1) ys σ3 H5)
  (hd:∀ys σ H,Pv xs.length ys σ H->R H) (mg:∀x σ H (A B:St->Hp->Prop),(∀σ' H',A σ' H'->B σ' H')->g x σ H A->g x σ H B) (mtt:∀σ H (A B:Bool->Hp->Prop),(∀v H',A v H'->B v H')->tt σ H A->tt σ H B) (mt:∀σ H (A B:VK),(∀v H',A v H'->B v H')->te σ H A->te σ H B):
  ∃W:Nat->Nat->List V->St->Hp->Prop,(∃m,W 0 m [] σ0 (upd H1 l (.lst [])))/\∀i m ys σ' H',W i m ys σ' H'->
   ((Itl K a).stop i H'/\R H')\/((Itl K a).go i H'/\∀x H2,(Itl K a).yld i H' x H2->g x σ' H2 λ σ3 H3=>tt σ3 H3 λ c H5=>if c=true then te σ3 H5 λ y H4=>
    H4 l=some (.lst ys)/\ys.length<sizeLine/\∃m',m'<m/\W (i+1) m' (ys++[y]) σ3 (upd H4 l (.lst (ys++[y]))) else∃m',m'<m/\W (i+1) m' ys σ3 H5):=by
 refine⟨λ i m ys σ H=>m=xs.length-i/\i≤xs.length/\Pv i ys σ H,⟨xs.length,Z6,AZ _,h0⟩,?_⟩;rintro i m ys σ H ⟨rfl,hi,p⟩;have q:=hl i ys σ H hi p;by_cases EQ:i<xs.length
 ·refine .inr ⟨⟨xs,xs[i],q,by simp [EQ]⟩,λ x H' y=>?_⟩;obtain⟨e,y⟩:=y;subst e;refine mg _ _ _ _ _ (λ σ3 H3 z=>mtt _ _ _ _ (λ c H5 z=>?_) z) (hs i x ys σ _ (y xs q) p);cases c with
  |true=>
   rw [AV rfl] at z ⊢;exact mt _ _ _ _ (λ y H4 z9=>by obtain⟨z1,z2,z4⟩:=z9;exact⟨z1,z2,xs.length-(i+1),Z4,rfl,EQ,z4⟩) z
  |false=>
   rw [AO Av] at z ⊢;exact⟨xs.length-(i+1),Z4,rfl,EQ,z⟩
 ·have e:i=xs.length:=Z4;subst e;exact .inl ⟨⟨xs,q,Al _⟩,hd ys σ H p⟩
end L2
namespace QQ
open PySem PyProof.Rows
variable {x:Str}{it:EC}{t:Tok}{Q:Option ED->EE->Prop}
section
variable {prog:EF}{w:EG}{A:EI}{E:ED -> EE -> Prop}{s:EE}
theorem ascii_end_q {i:Nat}(hq:Hq A s.heap)
  (hit:s.heap.IsStrIter it "str_ascii_iterator" x t i) (hx:x.cps[i]?=none)
  (hQ:∀h',Heap.ExtBut it s.heap h'->Q none {s with heap:=h'}):wpAny (model prog w) A (pyNext (.ref it)) Q E s:=by
 obtain⟨o,ho,hc,hd⟩:=id hit;unfold pyNext;refine Aa (Ct (Bg (name:=Str.ofString "__next__") hit.typeIs F.slot_str_ascii_iterator_next
  (B4 F.slot_str_ascii_iterator_next hit.typeIs F.entry_str_ascii_iterator_next ?_ (F.args_str_ascii_iterator_next_1 _))))
 show wpAny _ _ (field (.ref it) 0>>= _) _ _ s;refine Aa (AS ho hd (x:=.str x t) rfl ?_);show wpAny _ _ (field (.ref it) 1>>= _) _ _ s;refine Aa (AS ho hd (x:=.int i 0) rfl ?_);simp only [Ay,hx];refine Aa (DN (Aa (Bm ho hd Z6 (Aa (wpAny_letGo ?_)))));have sb1:=Cc (h:=s.heap) it (Obj.mapFields (·.setIfInBounds 0 Value.none));refine cq (A:=A.in1) (hq.keep λ a o' us e d' z'=>sb1.extBut a o' (iG ho hd Z6 e d' z') e) λ h' e k z9=>?_
 obtain⟨o',ge,ce⟩:=z9;refine Aa (Cw (T:="StopIteration") (b:=true) ⟨_,ge,ce⟩ CU ?_);exact Am (hQ _ λ b ob hb e1=>k b ob (sb1.extBut b ob hb e1))
theorem wide_end_q {i:Nat}(hq:Hq A s.heap)
  (hit:s.heap.IsStrIter it "str_iterator" x t i) (hx:x.cps[i]?=none)
  (hQ:∀h',Heap.ExtBut it s.heap h'->Q none {s with heap:=h'}):wpAny (model prog w) A (pyNext (.ref it)) Q E s:=by
 obtain⟨o,ho,hc,hd⟩:=id hit;unfold pyNext;refine Aa (Ct (Bg (name:=Str.ofString "__next__") hit.typeIs F.slot_str_iterator_next
  (B4 F.slot_str_iterator_next hit.typeIs F.entry_str_iterator_next ?_ (F.args_str_iterator_next_1 _))))
 show wpAny _ _ (field (.ref it) 0>>= _) _ _ s;refine Aa (AS ho hd (x:=.str x t) rfl ?_);show wpAny _ _ (field (.ref it) 1>>= _) _ _ s;refine Aa (AS ho hd (x:=.int i 0) rfl ?_);simp only [Ay,hx];refine Aa (DN (Aa (Bm ho hd Z6 (Aa (wpAny_letGo ?_)))));have sb1:=Cc (h:=s.heap) it (Obj.mapFields (·.setIfInBounds 0 Value.none));refine cq (A:=A.in1) (hq.keep λ a o' us e d' z'=>sb1.extBut a o' (iG ho hd Z6 e d' z') e) λ h' e k z9=>?_
 obtain⟨o',ge,ce⟩:=z9;refine Aa (Cw (T:="StopIteration") (b:=true) ⟨_,ge,ce⟩ CU ?_);exact Am (hQ _ λ b ob hb e1=>k b ob (sb1.extBut b ob hb e1))
end
end QQ
namespace L2
open PySem PySem.Spec PyProof.Rows
variable {tb:TS}{x y:Str}{tg:EK}{K:Frag}{g:TG}{H:Hp}{a b:Nat}{w:EG}{σ:St}{P:EF}
def Its (x:Str):It:=⟨λ i _=>i<x.cps.size,λ i H y H'=>H'=H/\∃c,x.cps[i]?=some c/\y=.str ⟨#[c]⟩,λ i _=>x.cps.size≤i⟩
theorem oG (it:EC)(x:Str)(t:Tok):Turn P w K tg (Its x) [it] it (λ i h=>h.IsStrIter it "str_ascii_iterator" x t i) where
 mem:=Z6
 obj:=λ i h st b hb=>by
  have e:b=it:=by simpa using hb
  subst e;obtain⟨o,e,c,d⟩:=st;exact⟨o,e,λ v z=>by rw [d] at z;cases z⟩
 keep:=λ i h h' st k=>let⟨o,ho,r⟩:=st;⟨o,k it Z6 o ho,r⟩
 item:=by
  intro X hP hw hK hc i EN s σ H E I hf st hg;subst hP hw hK;have hg':i<x.cps.size:=hg;obtain⟨f0,f1,f2,f3,f4,f5⟩:=hf it Z6;refine wpAny_pyNext_ascii_item st (c:=x.cps[i]) (by simp [hg']) λ h' st' sb=>?_
  have I1:Inv X EN σ H {s with heap:=h',toks:=s.toks+1}:=I.turned (λ b o hb e=>sb.extBut b o hb e) f0 f1 f3 f4 f5;obtain⟨o,e,c,d⟩:=id st';exact⟨_,rfl,jk (s:={s with heap:=h',toks:=s.toks+1}) e c d Z9 ⟨.str ⟨#[x.cps[i]]⟩,H,I1,⟨s.toks,rfl⟩,⟨rfl,_,by simp [hg'],rfl⟩,st',λ b hb=>(hf b hb).1⟩⟩
 done:=by
  intro X hP hw hK hc i EN s σ H E I hf st hg;subst hP hw hK;have hg':x.cps.size≤i:=hg;obtain⟨f0,f1,f2,f3,f4,f5⟩:=hf it Z6;exact QQ.ascii_end_q I.hq st (by simp [hg']) λ h' eb=>⟨rfl,I.turned (t':=s.toks) (λ b o hb e=>eb b o hb e) f0 f1 f3 f4 f5⟩
 self:=λ _ _ _ _ _ st h=>wpAny_pyIter_striter_ascii st h
theorem qH (it:EC)(x:Str)(t:Tok):Turn P w K tg (Its x) [it] it (λ i h=>h.IsStrIter it "str_iterator" x t i) where
 mem:=Z6
 obj:=λ i h st b hb=>by
  have e:b=it:=by simpa using hb
  subst e;obtain⟨o,e,c,d⟩:=st;exact⟨o,e,λ v z=>by rw [d] at z;cases z⟩
 keep:=λ i h h' st k=>let⟨o,ho,r⟩:=st;⟨o,k it Z6 o ho,r⟩
 item:=by
  intro X hP hw hK hc i EN s σ H E I hf st hg;subst hP hw hK;have hg':i<x.cps.size:=hg;obtain⟨f0,f1,f2,f3,f4,f5⟩:=hf it Z6;refine wpAny_pyNext_wide_item st (c:=x.cps[i]) (by simp [hg']) λ h' st' sb=>?_
  have I1:Inv X EN σ H {s with heap:=h',toks:=s.toks+1}:=I.turned (λ b o hb e=>sb.extBut b o hb e) f0 f1 f3 f4 f5;obtain⟨o,e,c,d⟩:=id st';exact⟨_,rfl,jk (s:={s with heap:=h',toks:=s.toks+1}) e c d Z9 ⟨.str ⟨#[x.cps[i]]⟩,H,I1,⟨s.toks,rfl⟩,⟨rfl,_,by simp [hg'],rfl⟩,st',λ b hb=>(hf b hb).1⟩⟩
 done:=by
  intro X hP hw hK hc i EN s σ H E I hf st hg;subst hP hw hK;have hg':x.cps.size≤i:=hg;obtain⟨f0,f1,f2,f3,f4,f5⟩:=hf it Z6;exact QQ.wide_end_q I.hq st (by simp [hg']) λ h' eb=>⟨rfl,I.turned (t':=s.toks) (λ b o hb e=>eb b o hb e) f0 f1 f3 f4 f5⟩
 self:=λ _ _ _ _ _ st h=>wpAny_pyIter_striter_wide st h
section
variable {X:Cx}{tg:EK}
def zU (tl:TE):TI:=λ σ H R=>tl σ H λ x H1=>∃y,x=.str y/\R (Its y) H1
theorem yf {l:EK}{tl:TE}(hl:PE X l tl):PI X tg l (zU tl):=by
 intro EN s σ H R I h;refine thn (hl EN s σ H _ I h) λ v s1 z9=>?_
 obtain⟨x,H1,I1,r1,q1⟩:=z9;obtain⟨y,e,q⟩:=q1;subst e;obtain⟨t,rfl⟩:=r1;cases ha:y.cps.all (·<128)
 ·refine wpAny_pyIter_wide ha ?_;refine⟨s1.heap.objs.size,[s1.heap.objs.size],_,_,H1,rfl,I1.kept (t':=s1.toks) λ b o e=>Ag _ e,qH _ y t,⟨_,AF _ rfl,rfl,rfl⟩,λ b hb=>?_,q⟩;have e:b=s1.heap.objs.size:=by simpa using hb
  subst e;exact I1.fpOk (Al _) (I1.hok.fresh (Al _))
 ·refine wpAny_pyIter_ascii ha ?_;refine⟨s1.heap.objs.size,[s1.heap.objs.size],_,_,H1,rfl,I1.kept (t':=s1.toks) λ b o e=>Ag _ e,oG _ y t,⟨_,AF _ rfl,rfl,rfl⟩,λ b hb=>?_,q⟩;have e:b=s1.heap.objs.size:=by simpa using hb
  subst e;exact I1.fpOk (Al _) (I1.hok.fresh (Al _))
theorem uF {D:Ends}(Pv:Nat->St->Hp->Prop)(h0:Pv 0 σ H)
  (hs:∀i c σ H,y.cps[i]?=some c->Pv i σ H->g (.str ⟨#[c]⟩) σ H λ σ2 H2=>tb {D with nx:=Pv (i+1),ct:=Pv (i+1),bk:=D.nx} σ2 H2) (hd:∀σ H,Pv y.cps.size σ H->D.nx σ H):
  ∃W:Nat->Nat->St->Hp->Prop,(∃m,W 0 m σ H)/\∀i m σ H,W i m σ H->
   ((Its y).stop i H/\D.nx σ H)\/((Its y).go i H/\∃N:St->Hp->Prop,(∀σ' H',N σ' H'->∃m',m'<m/\W (i+1) m' σ' H')/\∀x H',(Its y).yld i H x H'->g x σ H' λ σ2 H2=>tb {D with nx:=N,ct:=N,bk:=D.nx} σ2 H2):=by
 refine⟨λ i m σ H=>m=y.cps.size-i/\i≤y.cps.size/\Pv i σ H,⟨y.cps.size,Z6,AZ _,h0⟩,?_⟩;rintro i m σ H ⟨rfl,hi,p⟩;by_cases EQ:i<y.cps.size
 ·refine .inr ⟨EQ,Pv (i+1),λ σ' H' p'=>⟨y.cps.size-(i+1),Z4,rfl,EQ,p'⟩,λ x H' z=>?_⟩;obtain⟨e,c,hc,rfl⟩:=z;subst e;exact hs i c σ _ hc p
 ·have e:i=y.cps.size:=Z4;subst e;exact .inl ⟨Al _,hd σ H p⟩
def re (lo c:Int)(n:Nat):It:=⟨λ i _=>i<n,λ i H x H'=>H'=H/\x=.int (lo+i*c),λ i _=>n≤i⟩
theorem k8 (it:EC)(lo c:Int)(n:Nat):Turn P w K tg (re lo c n) [it] it (λ i h=>IsRangeIter h it (lo+(i:Nat)*c) ((n:Int)-(i:Nat)) c) where
 mem:=Z6
 obj:=λ i h st b hb=>by
  have e:b=it:=by simpa using hb
  subst e;exact⟨_,st,λ v z=>by
   have z':Data.fields _=Data.cell v:=z;cases z'⟩
 keep:=λ i h h' st k=>k it Z6 _ st
 item:=by
  intro X hP hw hK hc i EN s σ H E I hf st hg;subst hP hw hK;obtain⟨f0,f1,f2,f3,f4,f5⟩:=hf it Z6;refine wpAny_pyNext_range_item st (by have:i<n:=hg;omega) λ h' st1 sb=>?_
  have st':IsRangeIter h' it (lo+((i+1:Nat):Int)*c) ((n:Int)-((i+1:Nat):Int)) c:=by
   have e1:lo+((i+1:Nat):Int)*c=lo+(i:Int)*c+c:=by rw [show((i+1:Nat):Int)=(i:Int)+1 from rfl,Int.add_mul];lia
   have e2:(n:Int)-((i+1:Nat):Int)=(n:Int)-(i:Int)-1:=Z5;rw [e1,e2];exact st1
  have I1:Inv X EN σ H {s with heap:=h',toks:=s.toks+1}:=I.turned (λ b o hb e=>sb.extBut b o hb e) f0 f1 f3 f4 f5;exact⟨_,rfl,jk (s:={s with heap:=h',toks:=s.toks+1}) (n:="range_iterator") st' rfl rfl Z9 ⟨.int (lo+i*c),H,I1,⟨s.toks,rfl⟩,⟨rfl,rfl⟩,st',λ b hb=>(hf b hb).1⟩⟩
 done:=by
  intro X hP hw hK hc i EN s σ H E I hf st hg;subst hP hw hK;obtain⟨f0,f1,f2,f3,f4,f5⟩:=hf it Z6;exact QQ.range_end_q I.hq st (by have:n≤i:=hg;lia) λ h' eb=>⟨rfl,I.turned (t':=s.toks) (λ b o hb e=>eb b o hb e) f0 f1 f3 f4 f5⟩
 self:=λ _ _ _ _ _ st h=>wpAny_pyIter_rangeiter st h
def y9 (ta:TA):TI:=λ σ H R=>ta σ H λ vs H1=>∃(i j c:Int) (n:Nat),vs=[.int i,.int j,.int c]/\c≠0/\Builtin.Range.small i j c=true/\Builtin.Range.rangeSize i j c=(n:Int)/\Builtin.divisionGoesByPylong (j-i) c=false/\R (re i c n) H1
theorem jC {a b c:EK}{ta:TA}{p pos:Pos}(hg:Gl X "range")(hm:X.mg "range"=none)(ha:PA X [a,b,c] ta)(hs:autoParam (starEach [a,b,c] X.env=[(false,eval a X.env),(false,eval b X.env),(false,eval c X.env)]) Z0)(hs2:autoParam (starEach [b,c] X.env=[(false,eval b X.env),(false,eval c X.env)]) Z0):
  PI X tg (.Call (.Name "range" p) [a,b,c] [] pos) (y9 ta):=by
 intro EN s σ H R I h;refine Call_ (ld_blt I hg hm boot_range (BQ (thn (ha pos EN s σ H _ I h) λ us s1 z9=>?_) (by rw [hs,hs2]) (by rw [hs2];rfl)));obtain⟨vs,H1,I1,r1,q1⟩:=z9;obtain⟨i,j,c,n,e,h0,h1,h2,h3,q⟩:=q1;subst e;cases r1 with
 |cons r rr=>
  cases rr with
  |cons r' rr=>
   cases rr with
   |cons r'' rr=>
    cases rr;obtain⟨t,rfl⟩:=r;obtain⟨t',rfl⟩:=r';obtain⟨t'',rfl⟩:=r'';refine call_range_3 h0 ?_ (.inl h3);refine wpAny_pyIter_range (IsRange.new ..) h1 ?_;have I2:Inv X EN σ H1 {s1 with heap:=s1.heap.push {cls:=.type "range",data:=.fields #[.int i t,.int j t',.int c t'']},toks:=s1.toks}:=I1.kept λ b o e=>Ag _ e
    refine⟨(s1.heap.push {cls:=.type "range",data:=.fields #[.int i t,.int j t',.int c t'']}).objs.size,[(s1.heap.push {cls:=.type "range",data:=.fields #[.int i t,.int j t',.int c t'']}).objs.size],_,_,H1,rfl,
     I2.kept (t':=s1.toks) λ b o e=>Ag _ e,k8 _ i c n,?_,λ b hb=>?_,q⟩
    ·have e1:i+((0:Nat):Int)*c=i:=Z6;have e2:((n:Nat):Int)-((0:Nat):Int)=Builtin.Range.rangeSize i j c:=by rw [h2];lia
     show IsRangeIter _ _ (i+((0:Nat):Int)*c) (((n:Nat):Int)-((0:Nat):Int)) c;rw [e1,e2];exact AF _ rfl
    ·have e:b=(s1.heap.push {cls:=.type "range",data:=.fields #[.int i t,.int j t',.int c t'']}).objs.size:=by simpa using hb
     subst e;exact I2.fpOk (Al _) (I2.hok.fresh (Al _))
theorem iT {lo c:Int}{n:Nat}{D:Ends}(Pv:Nat->St->Hp->Prop)(h0:Pv 0 σ H)
  (hs:∀i σ H,i<n->Pv i σ H->g (.int (lo+i*c)) σ H λ σ2 H2=>tb {D with nx:=Pv (i+1),ct:=Pv (i+1),bk:=D.nx} σ2 H2) (hd:∀σ H,Pv n σ H->D.nx σ H):
  ∃W:Nat->Nat->St->Hp->Prop,(∃m,W 0 m σ H)/\∀i m σ H,W i m σ H->
   ((re lo c n).stop i H/\D.nx σ H)\/((re lo c n).go i H/\∃N:St->Hp->Prop,(∀σ' H',N σ' H'->∃m',m'<m/\W (i+1) m' σ' H')/\∀x H',(re lo c n).yld i H x H'->g x σ H' λ σ2 H2=>tb {D with nx:=N,ct:=N,bk:=D.nx} σ2 H2):=by
 refine⟨λ i m σ H=>m=n-i/\i≤n/\Pv i σ H,⟨n,Z6,AZ _,h0⟩,?_⟩;rintro i m σ H ⟨rfl,hi,p⟩;by_cases EQ:i<n
 ·refine .inr ⟨EQ,Pv (i+1),λ σ' H' p'=>⟨n-(i+1),Cg _ _ EQ,rfl,EQ,p'⟩,λ x H' y=>?_⟩;obtain⟨e,y⟩:=y;subst e y;exact hs i σ _ EQ p
 ·have e:i=n:=Ci hi (Nat.not_lt.1 EQ);subst e;exact .inl ⟨Al _,hd σ H p⟩
def sgn (b:Bool):Nat:=if b then 49 else 48
def txt (bs:List Bool):Str:=⟨(bs.map sgn).toArray⟩
theorem dn (bs:List Bool):(txt bs).cps.toList=bs.map sgn:=by simp [txt]
theorem aE (bs:List Bool):(txt bs).length=bs.length:=by simp [txt,Str.length]
theorem rF (bs:List Bool):(txt bs).cps.size=bs.length:=by simp [txt]
theorem pC (h:x.cps.toList=y.cps.toList):x=y:=by
 cases x;cases y;simp only [Str.mk.injEq];exact Array.toList_inj.mp h
theorem txt_append (a b:List Bool):txt a++txt b=txt (a++b):=by
 refine pC ?_;show((txt a).cps++(txt b).cps).toList=_;rw [Array.toList_append,dn,dn,dn,At]
theorem uJ {bs:List Bool}{i:Nat}{c:Nat}(h:(txt bs).cps[i]?=some c):∃b,bs[i]?=some b/\(⟨#[c]⟩:Str)=txt [b]:=by
 rw [<-Array.getElem?_toList,dn,Au] at h;cases e:bs[i]? with
 |none=>rw [e] at h;cases h
 |some b=>rw [e] at h;cases h;exact⟨b,rfl,rfl⟩
theorem txt_inj {a b:List Bool}:txt a=txt b<->a=b:=by
 refine⟨λ h=>?_,λ h=>by rw [h]⟩;have h1:a.map sgn=b.map sgn:=by rw [<-dn,<-dn,h]
 refine(Db (f:=sgn) λ x y e=>?_).mp h1;cases x<;>cases y<;>first|rfl|exact absurd e Z9
def zL:V->Option Int->Option Int->Hp->VK->Prop:=λ x lo hi H Q=>∃y,x=.str y/\y.length≤sizeLine/\Q (.str (Txt.slice y lo hi)) H
theorem jq {v:ED}{o:Option Int}(p:IsPart v o):∃l:Option (Int×Tok),l.map (·.1)=o/\v=partValue l:=by
 cases p with
 |none=>exact⟨none,rfl,rfl⟩
 |int i t=>exact⟨some (i,t),rfl,rfl⟩
theorem wF:SlR X zL:=by
 intro EN s σ H x v vl vu lo hi sl Q I rx hs pl pu h;obtain⟨y,rfl,hz,q⟩:=h;obtain⟨t,rfl⟩:=rx;obtain⟨l,rfl,rfl⟩:=jq pl;obtain⟨u,rfl,rfl⟩:=jq pu;refine⟨"str",_,F.slot_str_getitem.lookup,typeIs_str _ _ _,?_⟩;refine wpAny_getItem_str_slice (l:=l) (u:=u) (st:=none) hs rfl ?_;exact post_val_or_str ⟨AT (Txt.slice_le y _ _) hz,λ t' k=>⟨.str (Txt.slice y (l.map (·.1)) (u.map (·.1))),H,I.tok _,⟨_,rfl⟩,q⟩⟩
theorem oz (hab:a≤b)(hb:b≤x.length):(Txt.slice x (some (a:Int)) (some (b:Int))).cps.toList=(x.cps.toList.drop a).take (b-a):=by
 have h:=StrLaws.sliced_plain x hab hb;unfold Txt.slice
 split
 ·rename_i e
  have e':(Builtin.Str.strSliceIndices (some (a:Int)) (some (b:Int)) 1 x.length).length=x.length:=by simpa using e
  rw [StrLaws.strSliceIndices_plain hab hb] at e';have e2:b-a=x.length:=by simpa using e'
  have ea:a=0:=Z4;subst ea;have hx:x.cps.toList.length=x.length:=by simp [Str.length]
  rw [Du,e2,<-hx,Bx]
 ·exact h
theorem qi {bs:List Bool}(hab:a≤b)(hb:b≤bs.length):Txt.slice (txt bs) (some (a:Int)) (some (b:Int))=txt ((bs.drop a).take (b-a)):=by
 refine pC ?_;rw [oz hab (by rw [aE];exact hb),dn,dn,Bh,BB]
def ze:R2:=λ x y H Q=>∃z n,x=.str z/\y=.int n/\MulOk z n/\Q (.str (Txt.mul z n)) H
theorem oj:OpR X (binaryOp .Mult) ze:=by
 intro EN s σ H x y v u Q I rx ry h;obtain⟨z,n,rfl,rfl,hok,q⟩:=h;obtain⟨t,rfl⟩:=rx;obtain⟨t',rfl⟩:=ry;exact SB.mul hok λ t' k=>⟨.str (Txt.mul z n),H,I.tok _,⟨_,rfl⟩,q⟩
end
end L2
set_option maxHeartbeats 4000000
namespace L2
open PySem PySem.Spec PyProof.Rows QQ
section
variable {X:Cx}{pos:Pos}
end
section
variable {X:Cx}{e e1:EK}{te t1:TE}{pos p2:Pos}
end
section
variable {X:Cx}{a b:EK}{rest:List EK}{ta tb:TE}{pos:Pos}
end
structure MkB (K:Frag)(C:EC):Prop where
 makes:makesIn K C=true
 init:findIn K (.ref C) "__init__"=some (some (.builtin "object.__init__"))
 kp:keepIn K (.ref C)=true
def xo (C:EC):TE:=λ _ H Q=>∀x dx,H x=none->H dx=none->dx≠x->Q (.ref x) (upd (upd H dx (.own x)) x (.ins C dx []))
theorem fU {X:Cx}{C:EC}{x:Str}{p pos:Pos}(M:MkB X.K C)(hg:Gl X x)(hm:X.mg x=some (.ref C))(hdb:autoParam ((x==("__debug__":Str))=false) ZZ):PE X (.Call (.Name x p) [] [] pos) (xo C):=by
 intro EN s σ H Q I h;refine BR (ld_glob I hg hm ?_ hdb);refine DZ I.kIn M.kp ?_;have I2:=Inv.made (C:=C) I;have hq:=h (s.heap.objs.size+1) s.heap.objs.size (I.hok.fresh (Ej _)) (I.hok.fresh (Al _)) (A2 (Et _));refine wpAny_call (qV I.kIn M.makes M.init (λ self=>Looks.of_pure (PySem.W.oi_bind self)) ?_);have Y:=Es (M:=model X.prog X.w) I.kIn M.makes;have e2:((s.heap.push emptyDict).push (instObj C s.heap.objs.size)).get? (s.heap.objs.size+1)=some (instObj C s.heap.objs.size):=by
  have:=AF (s.heap.push emptyDict) (o:=instObj C s.heap.objs.size) rfl
  rwa [Cz] at this
 have t1:Looks (model X.prog X.w) ((s.heap.push emptyDict).push (instObj C s.heap.objs.size)) (typeOf (.ref (s.heap.objs.size+1))) (.ref C):=(Looks.ld e2).andThen .now;have t2:Looks (model X.prog X.w) ((s.heap.push emptyDict).push (instObj C s.heap.objs.size)) (isInstance (.ref (s.heap.objs.size+1)) (.type "object")) true:=t1.andThen (Y.top.keeps λ b o e=>Ag _ (Ag _ e));refine codeAny_call_builtin PySem.W.oi_plain PySem.W.entry_oi (@PySem.W.check_slot (model X.prog X.w) _ _ _ "object.__init__" "object" "__init__" (.ref (s.heap.objs.size+1)) [] [] _ PySem.W.oi_kind PySem.W.oi_split t2 (PySem.W.oi_args (.ref (s.heap.objs.size+1))) ?_);rw [oi_run];exact Am (And.intro rfl ⟨.ref (s.heap.objs.size+1),_,I2,rfl,hq⟩)
section
variable {X:Cx}
end
end L2
set_option maxHeartbeats 2000000
namespace L2
open PySem PyProof.Rows
end L2
set_option maxHeartbeats 2000000
namespace L2
open PySem PyProof.Rows QQ
section
variable {X:Cx}{k:Nat}{f:EC}{fd:EH}{x:Str}{sp:Sp}{e:EK}{te:TE}{fe:EK}{p kp pos:Pos}{y:Str}
end
section
variable {X:Cx}
end
end L2
set_option maxHeartbeats 4000000
namespace L2
open PySem PySem.Spec PyProof.Rows QQ
section
variable {X:Cx}
end
end L2
namespace W16
inductive Pc where
 |sg (s:Nat)
 |cp (b z:Nat)
 deriving DecidableEq
end W16
namespace BP
variable {n s:Nat}
def val (B:List Nat):Nat:=B.foldl (λ a b=>a*256+b) 0
theorem jp (B:List Nat):∀a,B.foldl (λ a b=>a*256+b) a=a*256^B.length+val B:=by
 induction B with
 |nil=>intro a;simp [val]
 |cons b B ih=>
  intro a;have h0:val (b::B)=b*256^B.length+val B:=by
   show B.foldl (λ a b=>a*256+b) (0*256+b)=_;rw [ih,D8,BK]
  show B.foldl (λ a b=>a*256+b) (a*256+b)=_;rw [ih,h0,Az,Bu,Ei,BW,BD 256,BA]
theorem pL:val []=0:=rfl
theorem dy (b:Nat)(B:List Nat):val (b::B)=b*256^B.length+val B:=by
 show B.foldl (λ a b=>a*256+b) (0*256+b)=_;rw [jp,D8,BK]
theorem fo (A B:List Nat):val (A++B)=val A*256^B.length+val B:=by
 show(A++B).foldl (λ a b=>a*256+b) 0=_;rw [CO,jp];rfl
theorem val_snoc (A:List Nat)(b:Nat):val (A++[b])=val A*256+b:=by
 show(A++[b]).foldl (λ a b=>a*256+b) 0=_;rw [CO];rfl
theorem val_lt {B:List Nat}(h:∀b∈B,b<256):val B<256^B.length:=by
 induction B with
 |nil=>simp [val]
 |cons b B ih=>
  rw [dy,Az,Bu];have h1:=ih λ x hx=>h x (AC _ hx)
  have h2:b<256:=h b A6;have h3:b*256^B.length≤255*256^B.length:=Nat.mul_le_mul_right _ (Nat.le_of_lt_succ h2);lia
theorem gA (n:Nat):256^n=2^(8*n):=by rw [Nat.pow_mul]
theorem pow_pos2 (n:Nat):0<2^n:=BV Z9
theorem rg {B:List Nat}(h:∀b∈B,b<256)(n:Nat)(hn:n≤B.length):val (B.take n)=val B/256^(B.length-n):=by
 have e:val B=val (B.take n)*256^(B.drop n).length+val (B.drop n):=by rw [<-fo,A1]
 have hd:val (B.drop n)<256^(B.drop n).length:=val_lt λ b hb=>h b (A0 hb)
 rw [Ax] at e hd;rw [e,BD,DP (BV Z9),CV hd,C5]
theorem pX {B:List Nat}(h:∀b∈B,b<256){m:Nat}(hmn:m≤n)(hn:n≤B.length):val ((B.take n).drop m)=val B/256^(B.length-n)%256^(n-m):=by
 have e:val (B.take n)=val ((B.take n).take m)*256^((B.take n).drop m).length+val ((B.take n).drop m):=by rw [<-fo,A1]
 have hl:((B.take n).drop m).length=n-m:=by rw [Ax,Aj];omega
 have hd:val ((B.take n).drop m)<256^((B.take n).drop m).length:=val_lt λ b hb=>h b (AG (A0 hb))
 rw [hl] at e hd;rw [<-rg h n hn,e,BD,Nat.mul_add_mod,B3 hd]
theorem bits_cut {B:List Nat}(h:∀b∈B,b<256){p:Nat}(hp:p+s≤8*B.length):
  val ((B.take ((p+s+7)/8)).drop (p/8))/2^(8*((p+s+7)/8)-(p+s))%2^s=val B/2^(8*B.length-(p+s))%2^s:=by
 have h1:p/8≤(p+s+7)/8:=Z4;have h2:(p+s+7)/8≤B.length:=Z4;rw [pX h h1 h2,gA,gA];have e1:2^(8*((p+s+7)/8-p/8))=2^(8*((p+s+7)/8)-(p+s))*2^(8*((p+s+7)/8-p/8)-(8*((p+s+7)/8)-(p+s))):=by
  rw [<-Cs];congr 1;omega
 rw [e1,Nat.mod_mul_right_div_self,CA,<-Cs];have e2:2^(8*((p+s+7)/8-p/8)-(8*((p+s+7)/8)-(p+s)))=2^s*2^(8*((p+s+7)/8-p/8)-(8*((p+s+7)/8)-(p+s))-s):=by
  rw [<-Cs];congr 1;omega
 rw [e2,Nat.mod_mul_right_mod];congr 3;omega
structure RowOf (N T:Nat)(R:List Nat):Prop where
 len:R.length=(T+7)/8
 byt:∀b∈R,b<256
 num:val R=N*2^(8*R.length-T)
noncomputable def nums:List (Nat×Nat)->Nat->Nat
 | [],N=>N
 |p::ps,N=>nums ps (N*2^p.2+p.1)
def tots (ps:List (Nat×Nat)):Nat:=(ps.map (·.2)).sum
theorem dZ (a b:List (Nat×Nat))(N:Nat):nums (a++b) N=nums b (nums a N):=by
 induction a generalizing N with
 |nil=>rfl
 |cons p a ih=>exact ih _
theorem aR (a b:List (Nat×Nat)):tots (a++b)=tots a+tots b:=by simp [tots,At,List.sum_append]
theorem bO (p:Nat×Nat)(b:List (Nat×Nat)):tots (p::b)=p.2+tots b:=by simp [tots]
def Good (ps:List (Nat×Nat)):Prop:=∀p∈ps,p.1<2^p.2
theorem tF (b:List (Nat×Nat))(hb:Good b):∀N,nums b N/2^tots b=N:=by
 induction b with
 |nil=>intro N;simp [nums,tots]
 |cons p b ih=>
  intro N;have h1:p.1<2^p.2:=hb p A6;rw [nums,bO,Nat.add_comm p.2 (tots b),Cs,<-CA,ih (λ q hq=>hb q (AC _ hq))];rw [BD,DP (pow_pos2 _),CV h1,C5]
theorem uD (a b c:List (Nat×Nat))(hc:Good c)(e:Nat)(L:Nat)(hL:L=tots (a++b++c)+e):
  nums (a++b++c) 0*2^e/2^(L-(tots a+tots b))=nums b (nums a 0):=by
 have h1:L-(tots a+tots b)=e+tots c:=by rw [hL,aR,aR];omega
 rw [h1,Cs,<-CA,Nat.mul_div_cancel _ (pow_pos2 e),dZ,dZ];exact tF c hc _
theorem tV {a c:List (Nat×Nat)}(hc:Good c)(hn:n<2^s){e L:Nat}(hL:L=tots (a++(n,s)::c)+e):
  nums (a++(n,s)::c) 0*2^e/2^(L-(tots a+s))%2^s=n:=by
 have h:=uD a [(n,s)] c hc e L (by simpa using hL);have e1:tots [(n,s)]=s:=by simp [tots]
 rw [e1] at h;have e2:a++[(n,s)]++c=a++(n,s)::c:=Z6;rw [e2] at h;rw [h];show(nums a 0*2^s+n)%2^s=n;rw [BD,Nat.mul_add_mod,B3 hn]
def num (bs:List Bool):Nat:=bs.foldl (λ a b=>2*a+b.toNat) 0
theorem qM (bs:List Bool):∀a,bs.foldl (λ a b=>2*a+b.toNat) a=a*2^bs.length+num bs:=by
 induction bs with
 |nil=>intro a;simp [num]
 |cons b bs ih=>
  intro a;have h0:num (b::bs)=b.toNat*2^bs.length+num bs:=by
   show bs.foldl (λ a b=>2*a+b.toNat) (2*0+b.toNat)=_;rw [ih,Nat.mul_zero,BK]
  show bs.foldl (λ a b=>2*a+b.toNat) (2*a+b.toNat)=_;rw [ih,h0,Az,Bu,Ei,BD 2 a,BW a 2,BD 2 (2^bs.length),BA]
theorem dJ (a b:List Bool):num (a++b)=num a*2^b.length+num b:=by
 show(a++b).foldl (λ a b=>2*a+b.toNat) 0=_;rw [CO,qM];rfl
theorem sU (a:List Bool)(b:Bool):num (a++[b])=2*num a+b.toNat:=by
 show(a++[b]).foldl (λ a b=>2*a+b.toNat) 0=_;rw [CO];rfl
theorem ja (b:Bool)(bs:List Bool):num (b::bs)=b.toNat*2^bs.length+num bs:=by
 have:=dJ [b] bs;simpa [num] using this
theorem ym (bs:List Bool):num bs<2^bs.length:=by
 induction bs with
 |nil=>decide
 |cons b bs ih=>
  rw [ja,Az,Bu];cases b<;>simp<;>omega
theorem qD (k:Nat):num (List.replicate k false)=0:=by
 induction k with
 |zero=>rfl
 |succ k ih=>rw [BU,ja,ih];simp
def dig (n:Nat):Nat->List Bool
 |0=>[]
 |k+1=>decide (n/2^k%2=1)::dig n k
theorem aH (n k:Nat):(dig n k).length=k:=by
 induction k with
 |zero=>rfl
 |succ k ih=>show(dig n k).length+1=k+1;rw [ih]
theorem vp (n k:Nat):num (dig n k)=n%2^k:=by
 induction k with
 |zero=>simp [dig,num,Nat.mod_one]
 |succ k ih=>
  show num (decide (n/2^k%2=1)::dig n k)=_;rw [ja,aH,ih,Bu,Nat.mod_mul];have h2:n/2^k%2<2:=AK _ Z9;by_cases h:n/2^k%2=1
  ·rw [Ai h,h];simp;omega
  ·have h0:n/2^k%2=0:=Z4;rw [AL h,h0];simp
theorem oM:∀{A B:List Nat},(∀b∈A,b<256)->(∀b∈B,b<256)->A.length=B.length->val A=val B->A=B
 | [],[],_,_,_,_=>rfl
 | [],_::_,_,_,h,_=>by cases h
 |_::_,[],_,_,h,_=>by cases h
 |a::A,b::B,hA,hB,hl,hv=>by
  have hl':A.length=B.length:=by simpa using hl
  rw [dy,dy,hl'] at hv;have h1:val A<256^B.length:=by rw [<-hl'];exact val_lt λ x hx=>hA x (AC _ hx)
  have h2:val B<256^B.length:=val_lt λ x hx=>hB x (AC _ hx)
  have p:0<256^B.length:=BV Z9;have e1:a=b:=by
   have q1:(a*256^B.length+val A)/256^B.length=a:=by rw [BD,DP p,CV h1,C5]
   have q2:(b*256^B.length+val B)/256^B.length=b:=by rw [BD,DP p,CV h2,C5]
   rw [<-q1,hv,q2]
  subst e1;rw [oM (λ x hx=>hA x (AC _ hx)) (λ x hx=>hB x (AC _ hx)) hl' (Nat.add_left_cancel hv)]
end BP
namespace W13
noncomputable def run (a:Nat):List Nat->Nat
 | []=>0
 |x::xs=>if x=a then run a xs+1 else 0
end W13
namespace W17
open BP W13
variable {ps:List (Nat×Nat)}
def bitsP (ps:List (Nat×Nat)):List Bool:=ps.flatMap λ q=>dig q.1 q.2
theorem bF (q:Nat×Nat)(ps:List (Nat×Nat)):bitsP (q::ps)=dig q.1 q.2++bitsP ps:=by simp [bitsP]
theorem dO (a b:List (Nat×Nat)):bitsP (a++b)=bitsP a++bitsP b:=by simp [bitsP]
theorem aS:∀ps:List (Nat×Nat),(bitsP ps).length=tots ps
 | []=>rfl
 |q::ps=>by rw [bF,z0,aH,aS ps,bO]
theorem jH:∀{ps:List (Nat×Nat)},Good ps->∀N,nums ps N=N*2^tots ps+num (bitsP ps)
 | [],_,N=>by simp [nums,tots,bitsP,num]
 |q::ps,h,N=>by
  have h1:q.1<2^q.2:=h q A6;have ih:=jH (ps:=ps) λ z hz=>h z (AC _ hz)
  show nums ps (N*2^q.2+q.1)=_;rw [ih,bF,dJ,aS,vp,B3 h1,bO,Cs,Ei,BW,BA]
theorem jJ (h:Good ps):num (bitsP ps)=nums ps 0:=by rw [jH h 0];simp
structure RdOf (R:List Nat)(ps:List (Nat×Nat)):Prop where
 len:8*R.length=tots ps
 num:val R=nums ps 0
 good:Good ps
 byt:∀b∈R,b<256
theorem RdOf.at {R:List Nat}{a c:List (Nat×Nat)}{n s:Nat}(h:RdOf R ps)(e:ps=a++(n,s)::c):tots a+s≤8*R.length/\val R/2^(8*R.length-(tots a+s))%2^s=n:=by
 subst e;have g:=h.good;have t:=tV (a:=a) (c:=c) (n:=n) (s:=s) (λ q hq=>g q (by simp [hq])) (g (n,s) Z6) (e:=0) (L:=8*R.length) (by rw [h.len];rfl);rw [Ez,Nat.mul_one,<-h.num] at t;refine⟨?_,t⟩;rw [h.len,aR,bO];show tots a+s≤tots a+(s+tots c);omega
noncomputable def rlF:Nat->List Nat->List (Nat×Nat)
 |0,_=>[]
 |_+1,[]=>[]
 |n+1,a::L=>(a,1+run a L)::rlF n (L.drop (run a L))
def rl (L:List Nat):List (Nat×Nat):=rlF L.length L
def exp (rs:List (Nat×Nat)):List Nat:=rs.flatMap λ q=>List.replicate q.2 q.1
theorem eG (q:Nat×Nat)(b:List (Nat×Nat)):exp (q::b)=List.replicate q.2 q.1++exp b:=by simp [exp]
def pR (rs:List (Nat×Nat)):List (Nat×Nat):=rs.flatMap λ q=>[(q.2-1,6),(q.1,8)]
theorem eS (q:Nat×Nat)(b:List (Nat×Nat)):pR (q::b)=(q.2-1,6)::(q.1,8)::pR b:=by simp [pR]
noncomputable def pf:Bool->List Nat->List (Nat×Nat)
 |false,T=>T.map λ s=>(s,8)
 |true,T=>pR (rl T)
theorem fX:∀rs:List (Nat×Nat),tots (pR rs)=14*rs.length
 | []=>rfl
 |q::rs=>by rw [eS,bO,bO,fX rs,Az];show 6+(8+14*rs.length)=_;lia
theorem iR:∀T:List Nat,tots (pf false T)=8*T.length
 | []=>rfl
 |s::T=>by
  show tots ((s,8)::pf false T)=_;rw [bO,iR T,Az];show 8+8*T.length=_;lia
end W17
set_option maxHeartbeats 4000000
namespace K28
open PySem L2 QQ W17 W16
seal PE PA PS PSs PT PW PG PI
variable {f fW:EC}{fd fdW:EH}{n:Nat}
noncomputable def top (i:Nat):EM:=PySem.Challenge.pw_balepress_k28_ranges.main.body.getD i (.Pass ⟨0,0,0,0⟩)
abbrev hJ:EM:=top 23
abbrev cm:EM:=top 24
abbrev eQ:EM:=top 26
abbrev fm:EM:=top 27
abbrev b9:EM:=top 28
abbrev eN:EM:=top 31
abbrev jh:EM:=top 32
abbrev fP:EM:=top 74
abbrev iH:EM:=top 78
abbrev fu:EM:=top 83
abbrev iO:EM:=top 88
abbrev gB:EM:=top 89
abbrev i9:EM:=top 90
abbrev ik:EM:=bW (top 94) 2
abbrev iQ:EM:=bW (top 95) 2
abbrev gq:EM:=bW (top 96) 2
abbrev ul:EM:=top 98
abbrev vN (n:Nat):V:=.int ((n:Nat):Int)
structure Txt (K:Frag)(mg:Str->Option ED):Prop where
 isi:mg "isinstance"=none
 bool:mg "bool"=none
 int:mg "int"=none
 list:mg "list"=none
 len:mg "len"=none
 range:mg "range"=none
 max:mg "max"=none
 min:mg "min"=none
 great:∃t,mg "GREATEST"=some (.int 255 t)
 most:∃t,mg "MOST_SIZE"=some (.int 24 t)
 signs:∃t,mg "MOST_SIGNS"=some (.int 64 t)
 ahead:∃t,mg "MOST_AHEAD"=some (.int 192 t)
 far:∃t,mg "FARTHEST"=some (.int 255 t)
 least:∃t,mg "LEAST_COPIED"=some (.int 3 t)
 mostC:∃t,mg "MOST_COPIED"=some (.int 18 t)
 sum:mg "sum"=none
 enum:mg "enumerate"=none
 sort:mg "sorted"=none
 bits:∃t,mg "MOST_BITS"=some (.int 6 t)
 mlen:∃t,mg "MOST_LENGTH"=some (.int 12 t)
 things:∃t,mg "MOST_THINGS"=some (.int 300 t)
 count:∃t,mg "MOST_COUNT"=some (.int 1000000 t)
 many:∃t,mg "MANY"=some (.int 272 t)
 again:∃t,mg "AGAIN"=some (.int 7 t)
 leastA:∃t,mg "LEAST_AGAIN"=some (.int 3 t)
 mostA:∃t,mg "MOST_AGAIN"=some (.int 66 t)
 first:∃t,mg "FIRST_COPY"=some (.int 256 t)
 isnumb:∃(f:EC) (fd:EH),Fun K "is_number" "is_number" hJ f fd/\mg "is_number"=some (.ref f)/\Binds K fd ["thing"] []
structure Fn (K:Frag)(mg:Str->Option ED)(x:Str)(st:EM)(ps:List Str)(f:EC)(fd:EH):Prop where
 F:Fun K x x st f fd
 m:mg x=some (.ref f)
 b:Binds K fd ps []
structure Me (K:Frag)(C:EC)(x qual:Str)(st:EM)(ps:List Str)(f:EC)(fd:EH):Prop where
 F:Fun K x qual st f fd
 m:Meth K C x f
 b:Binds K fd ps []
section
variable (K:Frag)
theorem nM:kitOne K (.type "int") (.type "bool")=some false:=by
 show(if(Value.type "int"==Value.type "bool")=true then some true else if kitMeta "bool"=true then(fastBuiltinMro "int").map (·.contains (.type "bool")) else none)=some false;decide+kernel
theorem oi:kitOne K (.type "int") (.type "int")=some true:=by
 show(if(Value.type "int"==Value.type "int")=true then some true else if kitMeta "int"=true then(fastBuiltinMro "int").map (·.contains (.type "int")) else none)=some true;decide+kernel
theorem jT:kitOne K (.type "list") (.type "list")=some true:=by
 show(if(Value.type "list"==Value.type "list")=true then some true else if kitMeta "list"=true then(fastBuiltinMro "list").map (·.contains (.type "list")) else none)=some true;decide+kernel
theorem xV:kitOne K (.type "tuple") (.type "tuple")=some true:=by
 show(if(Value.type "tuple"==Value.type "tuple")=true then some true else if kitMeta "tuple"=true then(fastBuiltinMro "tuple").map (·.contains (.type "tuple")) else none)=some true;decide+kernel
end
theorem jX {B:List Nat}{i:Nat}{y:V}(h:(B.map vN)[i]?=some y):∃b,B[i]?=some b/\y=vN b:=by
 rw [Au] at h;cases e:B[i]? with
 |none=>rw [e] at h;cases h
 |some z=>rw [e] at h;exact⟨z,rfl,(AY h).symm⟩
theorem eR {B:List Nat}{i b:Nat}(h:B[i]?=some b):B.take (i+1)=B.take i++[b]:=by rw [A9,h];rfl
theorem ck (h:n≤2000):n≤sizeLine:=AT h Z9
theorem cz (h:n≤2000):n<sizeLine:=C8 h Z9
section
def dN:Sp:=λ vs H Q _=>∃(i lo hi:Int),vs=[.int i,.int lo,.int hi]/\Q (.bl (decide (lo≤i)&&decide (i≤hi))) H
theorem pV:FnScope ["thing","least","most"] ["thing","least","most"] (ak cm):=⟨rfl,rfl,rfl,Z8,rfl,Z8,Z8⟩
def oh:Sp:=λ vs H Q _=>∃(x:V) (b:Bool),vs=[x]/\((∃i,x=.int i)/\b=true)/\Q (.bl b) H
theorem rj:FnScope ["thing"] ["thing"] (ak hJ):=⟨rfl,rfl,rfl,Z8,rfl,Z8,Z8⟩
theorem ok_numb (F:Fun K "is_number" "is_number" hJ f fd)(T:Txt K mg):FnOk P w K mg base CX0 0 f fd ["thing"] oh:=by
 refine F.ok0 rj λ EO A outer s H vs Q E h=>?_
 intro _;obtain⟨x,b,rfl,hw,k⟩:=h;refine⟨_,ah (ar (dH (aw bU Z7 T.isi AH (aa (pv 0) (aa (b7 (v:=.ty "int") Z7 T.int BM rfl) ac))) (dP (oo (aw bU Z7 T.isi AH (aa (pv 0) (aa (b7 (v:=.ty "bool") Z7 T.bool Dj rfl) ac))))))),?_⟩;obtain⟨⟨i,rfl⟩,rfl⟩:=hw;refine⟨_,rfl,_,_,_,_,rfl,.int _,oi K,_,rfl,bR ?_⟩;exact⟨_,rfl,_,_,_,_,rfl,.int _,nM K,_,rfl,k⟩
theorem eg (F:Fn K mg "is_whole" cm ["thing","least","most"] f fd)(T:Txt K mg):FnOk P w K mg base CX0 1 f fd ["thing","least","most"] dN:=by
 obtain⟨fN,fdN,NF,Nm,Nb⟩:=T.isnumb;refine F.F.ok pV λ EO A outer s H vs Q E hr h=>?_
 intro _;obtain⟨i,lo,hi,rfl,k⟩:=h;refine⟨_,ah (ar (dH (ai (ok_numb NF T) hr Z7 Nm NF.kp Nb .nil ap (aa (pv 0) ac)) (dP (lL oJ oJ (pv 1) (pv 0) (pv 2))))),?_⟩;refine⟨_,rfl,_,true,rfl,⟨⟨i,rfl⟩,rfl⟩,_,rfl,bR ?_⟩;refine⟨_,rfl,_,rfl,_,_,rfl,rfl,_,rfl,?_⟩;refine bi (λ h1=>?_) (λ h1=>?_)
 ·refine⟨_,rfl,_,_,rfl,rfl,?_⟩;rw [h1,Bool.true_and] at k;exact k
 ·have h2:decide (lo≤i)=false:=by simpa using h1
  rw [h2,Dt] at k;exact k
def fv:Sp:=λ vs H Q _=>∃(a:EC) (B:List Nat) (lo hi:Int),vs=[.ref a,.int lo,.int hi]/\H a=some (.lst (B.map vN))/\(∀b∈B,lo≤((b:Nat):Int)/\((b:Nat):Int)≤hi)/\Q (.bl true) H
theorem scAreWhole:FnScope ["thing","least","most","number"] ["thing","least","most"] (ak eQ):=⟨rfl,rfl,rfl,Z8,rfl,Z8,Z8⟩
theorem d9 (F:Fn K mg "are_whole" eQ ["thing","least","most"] f fd)(W:Fn K mg "is_whole" cm ["thing","least","most"] fW fdW)(T:Txt K mg):FnOk P w K mg base CX0 2 f fd ["thing","least","most"] fv:=by
 have GW:FnOk P w K mg base CX0 1 fW fdW ["thing","least","most"] dN:=eg W T;refine F.F.ok scAreWhole λ EO A outer s H vs Q E hr h=>?_
 intro _;obtain⟨a,B,lo,hi,rfl,hB,hb,k⟩:=h;refine⟨_,ad (aK (bp (bj (aw bU Z7 T.isi AH (aa (pv 0) (aa (b7 (v:=.ty "list") Z7 T.list Bp rfl) ac))))) (ah (ar bo)) ay)
  (ad (cr Bj rfl (cy (pv 0)) (aG (i:=3) scAreWhole.nd)
   (ah (aK (bp (bj (ai GW hr Z7 W.m W.F.kp W.b .nil ap (aa (pv 3) (aa (pv 1) (aa (pv 2) ac)))))) (ah (ar bo)) ay)))
  (ah (ar bo))),?_⟩
 refine⟨_,rfl,_,_,_,_,rfl,.lst hB,jT K,_,rfl,bq ?_⟩;refine⟨_,rfl,a,rfl,⟨_,SqL.of hB⟩,cX (D:=⟨_,_,λ _ _=>False,λ _ _=>False⟩) (K:=K) (a:=a) (xs:=B.map vN) (λ i σ H2=>∃v:Option V,σ=[some (.ref a),some (.int lo),some (.int hi),v]/\H2=H)
  ⟨none,rfl,rfl⟩ (λ i σ H2 _ z9=>by obtain⟨_,_,e⟩:=z9;exact by rw [e];exact SqL.of hB) ?_ ?_⟩
 ·rintro i y σ H2 hi ⟨v,rfl,rfl⟩;obtain⟨b,hb1,rfl⟩:=jX hi;obtain⟨h2,h3⟩:=hb b (BC hb1);refine⟨_,rfl,_,rfl,_,rfl,_,_,_,rfl,_,rfl,?_⟩;rw [Ai h2,Ai h3];exact bq ⟨_,rfl,rfl⟩
 ·rintro σ H2 ⟨v,rfl,rfl⟩;exact k
def spIsRow:Sp:=λ vs H Q _=>∃(a:EC) (B:List Nat),vs=[.ref a]/\H a=some (.lst (B.map vN))/\(∀b∈B,b<256)/\Q (.bl true) H
theorem pj:FnScope ["thing"] ["thing"] (ak fm):=⟨rfl,rfl,rfl,Z8,rfl,Z8,Z8⟩
structure Rows (K:Frag)(mg:Str->Option ED):Prop where
 X:Txt K mg
 whole:∃f fd,Fn K mg "is_whole" cm ["thing","least","most"] f fd
 arewhole:∃f fd,Fn K mg "are_whole" eQ ["thing","least","most"] f fd
 isrow:∃f fd,Fn K mg "is_row" fm ["thing"] f fd
theorem iq (F:Fn K mg "is_row" fm ["thing"] f fd)(Y:Rows K mg):FnOk P w K mg base CX0 3 f fd ["thing"] spIsRow:=by
 obtain⟨T,⟨_,_,W⟩,⟨_,_,AW⟩,_⟩:=Y;obtain⟨tg,hg⟩:=T.great;refine F.F.ok pj λ EO A outer s H vs Q E hr h=>?_
 intro _;obtain⟨a,B,rfl,hB,hb,k⟩:=h;refine⟨_,ah (ar (ai (d9 AW W T) hr Z7 AW.m AW.F.kp AW.b .nil ap (aa (pv 0) (aa ae (aa (aP (v:=.int 255) Z7 hg ⟨tg,rfl⟩) ac))))),?_⟩;exact⟨_,rfl,a,B,0,255,rfl,hB,λ b z=>by have:=hb b z;lia,k⟩
def spNeedRow:Sp:=λ vs H Q _=>∃(a:EC) (B:List Nat),vs=[.ref a]/\H a=some (.lst (B.map vN))/\(∀b∈B,b<256)/\∀l,H l=none->Q (.ref l) (upd H l (.lst (B.map vN)))
theorem jw:FnScope ["thing"] ["thing"] (ak b9):=⟨rfl,rfl,rfl,Z8,rfl,Z8,Z8⟩
theorem dS (F:Fn K mg "need_row" b9 ["thing"] f fd)(Y:Rows K mg):FnOk P w K mg base CX0 4 f fd ["thing"] spNeedRow:=by
 obtain⟨fR,fdR,R⟩:=Y.isrow;have T:=Y.X;refine F.F.ok jw λ EO A outer s H vs Q E hr h=>?_
 intro _;obtain⟨a,B,rfl,hB,hb,k⟩:=h;refine⟨_,ad (aK (bp (bj (ai (iq R Y) hr Z7 R.m R.F.kp R.b .nil ap (aa (pv 0) ac)))) (ah im) ay)
  (ah (ar (bD cL Z7 T.list Bp (aa (pv 0) ac)))),?_⟩
 refine⟨_,rfl,a,B,rfl,hB,hb,_,rfl,bq ?_⟩;exact⟨_,rfl,a,_,rfl,.inl (SqL.of hB),k⟩
def spNeedSize:Sp:=λ vs H Q _=>∃s:Nat,vs=[vN s]/\s≤24/\Q .non H
theorem mz:FnScope ["size"] ["size"] (ak eN):=⟨rfl,rfl,rfl,Z8,rfl,Z8,Z8⟩
theorem la (F:Fn K mg "need_size" eN ["size"] f fd)(W:Fn K mg "is_whole" cm ["thing","least","most"] fW fdW)(T:Txt K mg):FnOk P w K mg base CX0 2 f fd ["size"] spNeedSize:=by
 have GW:FnOk P w K mg base CX0 1 fW fdW ["thing","least","most"] dN:=eg W T;obtain⟨tg,hg⟩:=T.most;refine F.F.ok mz λ EO A outer s H vs Q E hr h=>?_
 intro _;obtain⟨z,rfl,hz,k⟩:=h;refine⟨_,ah (aK (bp (bj (ai GW hr Z7 W.m W.F.kp W.b .nil ap (aa (pv 0) (aa ae (aa (aP (v:=.int 24) Z7 hg ⟨tg,rfl⟩) ac)))))) (ah im) ay),?_⟩;refine⟨_,rfl,_,_,_,rfl,_,rfl,?_⟩;have e1:(decide ((0:Int)≤(z:Int))&&decide ((z:Int)≤24))=true:=by
  rw [Ai Z5,Ai (by exact Nat.ToInt.of_le rfl rfl hz)];rfl
 rw [e1];exact bq k
def spOnes:Sp:=λ vs H Q _=>∃s:Nat,vs=[vN s]/\s≤1000/\Q (vN (2^s-1)) H
theorem wV:FnScope ["size"] ["size"] (ak jh):=⟨rfl,rfl,rfl,Z8,rfl,Z8,Z8⟩
theorem vh (F:Fn K mg "ones" jh ["size"] f fd):FnOk P w K mg base CX0 1 f fd ["size"] spOnes:=by
 refine F.F.ok wV λ EO A outer s H vs Q E hr h=>?_
 intro _;obtain⟨z,rfl,hz,k⟩:=h;refine⟨_,ah (ar (ag aU (ag ij ae (pv 0)) ae)),?_⟩;refine⟨_,rfl,_,_,rfl,rfl,⟨Bd _,Z5,Z9⟩,_,_,rfl,rfl,?_⟩;have e1:(1:Int)*2^((z:Nat):Int).toNat-1=((2^z-1:Nat):Int):=by
  have:=BP.pow_pos2 z;rw [Ay,Int.one_mul];have e2:((2^z:Nat):Int)=(2:Int)^z:=Z6;exact(Int.ofNat_sub this).symm
 dsimp only;rw [e1];exact k
end
theorem lq (a b k:Nat)(h:b<2^k):(a*2^k)&&& b=0:=by
 have e1:b&&& (2^k-1)=b:=by rw [Cr,B3 h]
 have e2:(a*2^k)&&& (2^k-1)=0:=by rw [Cr,El]
 have e3:(a*2^k)&&& (b&&& (2^k-1))=((a*2^k)&&& (2^k-1))&&& b:=by rw [Nat.and_comm b,Nat.and_assoc]
 rw [e1,e2,Nat.zero_and] at e3;exact e3
theorem iV (k:Nat):((2^k:Nat):Int)=(2:Int)^k:=Z6
theorem wO (a b k:Nat)(h:b<2^k):Builtin.bitOr ((a:Int)*2^((k:Nat):Int).toNat) (b:Int)=((a*2^k+b:Nat):Int):=by
 have e0:(a:Int)*2^((k:Nat):Int).toNat=((a*2^k:Nat):Int):=by rw [Ay,DR,iV]
 rw [e0,PyProof.Rows.bitOr_and,Dk (Bd (_*2^_)) (Bd _),Ay,Ay,lq a b k h];exact Eq.symm ((λ {a b}=>Int.neg_inj.mp) rfl)
theorem cW (x k:Nat):Builtin.bitAnd (x:Int) ((2^k-1:Nat):Int)=((x%2^k:Nat):Int):=by
 rw [Dk (Bd _) Z5,Ay,Ay,Cr]
theorem ka (x k:Nat):(x:Int)/2^((k:Nat):Int).toNat=((x/2^k:Nat):Int):=by
 rw [Ay,<-iV];rfl
theorem pD (x k:Nat):(x:Int)*2^((k:Nat):Int).toNat=((x*2^k:Nat):Int):=by
 rw [Ay,DR,iV]
theorem eW {B:List Nat}{m:Nat}(hm:m≤n)(hn:n≤B.length):cutV (B.map vN) (some (m:Int)) (some (n:Int))=((B.take n).drop m).map vN:=by
 unfold cutV;rw [HT.sIx_nat,HT.sIx_nat,z7,AM hn,AM (AT hm hn),BB,Bh,Cy]
section
def iI:Sp:=λ vs H Q _=>∃(a:EC) (B:List Nat) (p s:Nat),vs=[.ref a,vN p,vN s]/\H a=some (.lst (B.map vN))/\(∀b∈B,b<256)/\p+s≤8*B.length/\s≤24/\
 ∀H',Same H H'->Q (vN (BP.val B/2^(8*B.length-(p+s))%2^s)) H'
end
theorem xI:¬(("held":Str)="taken"):=Z8
noncomputable def fR (d:EC) (t:Nat):List (Str×V):=[("held",.ref d),("taken",vN t)]
theorem pI (d:EC)(t:Nat):bQ "taken" (vN t) (bQ "held" (.ref d) [])=fR d t:=by
 show(if("held":Str)="taken" then _ else(("held":Str),V.ref d):: [("taken",vN t)])=_;rw [AO xI];rfl
theorem xE (d:EC)(t t':Nat):bQ "taken" (vN t') (fR d t)=fR d t':=by
 show(if("held":Str)="taken" then _ else(("held":Str),V.ref d)::(if("taken":Str)="taken" then [(("taken":Str),vN t')] else _))=_;rw [AO xI,AV rfl];rfl
theorem iZ (d:EC)(t:Nat):(fR d t).lookup ("held":Str)=some (.ref d):=by
 rw [<-pI,aO,AO xI,aO,AV rfl]
theorem gm (d:EC)(t:Nat):(fR d t).lookup ("taken":Str)=some (vN t):=by
 rw [<-pI,aO,AV rfl]
theorem jL (d:EC)(t:Nat){m:Str}(h1:autoParam (¬m="taken") ZY)(h2:autoParam (¬m="held") ZY):(fR d t).lookup m=none:=by
 rw [<-pI,aO,AO h1,aO,AO h2];rfl
theorem yb (d:EC)(t:Nat):(fR d t).length<1000:=by show 2<1000;decide
section
variable {C:EC}
end
end K28
namespace CK
variable {n p s w:Nat}
noncomputable def T (w p s:Nat):Nat:=((s*2)%2^w)^^^(if s.testBit (w-1) then p else 0)
theorem um (a b:Nat):(a^^^b)*2=(a*2)^^^(b*2):=by
 have h:= @Ec 1 a b;rw [Cu,Cu,Cu] at h;simpa using h
theorem yA (w p a b:Nat):T w p (a^^^b)=T w p a^^^T w p b:=by
 unfold T;rw [um,DQ,Ew];cases ha:a.testBit (w-1)<;>cases hb:b.testBit (w-1)
 ·simp
 ·simp [Br]
 ·simp;rw [Br,Ex (b*2%2^w),<-Br]
 ·simp;rw [Br (a*2%2^w),Ex p,Br (b*2%2^w),Ey,Nat.xor_zero]
theorem wS (w p:Nat):T w p 0=0:=by simp [T]
theorem yl (hp:p<2^w):T w p s<2^w:=by
 unfold T;refine CD (AK _ (BV Z9)) ?_
 split
 ·exact hp
 ·exact BV Z9
theorem zA (h:s*2<2^w):T w p s=s*2:=by
 unfold T;have hb:s.testBit (w-1)=false:=by
  refine Nat.testBit_lt_two_pow ?_;cases w with
  |zero=>simp at h;lia
  |succ w=>rw [Bu] at h;simp;exact Nat.lt_of_mul_lt_mul_right h
 rw [hb,B3 h];simp
theorem yX (hw:0<w)(hp:p%2=1)(hs:s<2^w)(h:T w p s=0):s=0:=by
 unfold T at h;cases hb:s.testBit (w-1) with
 |true=>
  rw [hb] at h;simp at h;have h2:(s*2%2^w^^^p).testBit 0=true:=by
   rw [Ew,Nat.testBit_mod_two_pow];have e1:(s*2).testBit 0=false:=by rw [Nat.testBit_zero];simp
   have e2:p.testBit 0=true:=by rw [Nat.testBit_zero];simp [hp]
   rw [e1,e2];simp
  rw [h] at h2;simp at h2
 |false=>
  rw [hb] at h;simp at h;obtain⟨w',rfl⟩:∃w',w=w'+1:=⟨w-1,Z4⟩;have h3:s<2^w':=by
   have hb':s.testBit w'=false:=hb;refine Nat.lt_of_not_le λ hle=>?_
   have e:s.testBit w'=true:=by
    rw [Di];have:s/2^w'=1:=by
     have h4:s/2^w'<2:=Nat.div_lt_of_lt_mul (by rw [Bu] at hs;exact hs);have h5:1≤s/2^w':=(Nat.le_div_iff_mul_le (BV Z9)).mpr Z4;omega
    rw [this];decide
   rw [hb'] at e;cases e
  have h6:s*2<2^(w'+1):=by rw [Bu];omega
  rw [B3 h6] at h;omega
noncomputable def Tn (w p:Nat):Nat->Nat->Nat
 |0,s=>s
 |n+1,s=>T w p (Tn w p n s)
theorem uy (w p n a b:Nat):Tn w p n (a^^^b)=Tn w p n a^^^Tn w p n b:=by
 induction n with
 |zero=>rfl
 |succ n ih=>show T w p (Tn w p n (a^^^b))=_;rw [ih,yA];rfl
theorem Tn_lt (hp:p<2^w)(hs:s<2^w):Tn w p n s<2^w:=by
 cases n with
 |zero=>exact hs
 |succ n=>exact yl hp
theorem ue (hw:0<w)(hp:p%2=1)(hp2:p<2^w)(hs:s<2^w)(h:Tn w p n s=0):s=0:=by
 induction n with
 |zero=>exact h
 |succ n ih=>exact ih (yX hw hp (Tn_lt hp2 hs) h)
theorem zl (h:s*2^n<2^w):Tn w p n s=s*2^n:=by
 induction n with
 |zero=>simp [Tn]
 |succ n ih=>
  have h':s*2^n*2<2^w:=by rw [Bu,<-BW] at h;exact h
  show T w p (Tn w p n s)=_;rw [ih (Nat.lt_of_add_left_lt h'),zA h',Bu,BW]
noncomputable def F (w p:Nat):Nat->Nat->Nat->Nat
 |0,s,_=>s
 |m+1,s,V=>T w p (F w p m s (V/2)^^^((V%2)*2^(w-1)))
theorem mul_pow_xor (a b k:Nat)(hb:b<2^k):(a*2^k)^^^b=a*2^k+b:=by
 have h:=Nat.two_pow_add_eq_or_of_lt hb a;rw [BD] at h;rw [h];apply Nat.eq_of_testBit_eq;intro i;rw [Ew,Nat.testBit_or,Nat.testBit_mul_two_pow];by_cases hi:i<k
 ·have:¬k≤i:=Nat.not_le_of_lt hi;simp [this]
 ·have hbi:b.testBit i=false:=Nat.testBit_lt_two_pow (Ap hb (DG Z9 (DB hi)));simp [hbi]
theorem xor_mul_pow (a b k:Nat):(a*2^k)^^^(b*2^k)=(a^^^b)*2^k:=by
 have h:= @Ec k a b;rw [Cu,Cu,Cu] at h;exact h.symm
theorem x6:∀(m:Nat) (s V:Nat),m≤w->F w p m s V=Tn w p m (s^^^((V%2^m)*2^(w-m)))
 |0,s,V,_=>by simp [F,Tn,Nat.mod_one]
 |m+1,s,V,h=>by
  show T w p (F w p m s (V/2)^^^((V%2)*2^(w-1)))=T w p (Tn w p m _);rw [x6 m s (V/2) (Nat.le_of_succ_le h)];have e1:(V%2)*2^(w-1)=Tn w p m ((V%2)*2^(w-(m+1))):=by
   have e:(V%2)*2^(w-(m+1))*2^m=(V%2)*2^(w-1):=by rw [BW,<-Cs];congr 2;lia
   rw [zl,e];rw [e];have h2:V%2<2:=AK _ Z9;have h3:2^w=2*2^(w-1):=by rw [<-Nat.pow_succ'];congr 1;lia
   rw [h3];exact(DH (BV Z9)).mpr h2
  rw [e1,<-uy,Br];congr 3;have e2:2^(w-m)=2*2^(w-(m+1)):=by rw [<-Nat.pow_succ'];congr 1;lia
  rw [e2,<-BW,xor_mul_pow];congr 1;have h2:V%2<2^1:=AK _ Z9;have:=mul_pow_xor (V/2%2^m) (V%2) 1 h2;rw [Nat.pow_one] at this;rw [this,Bu,BD (2^m) 2,Nat.mod_mul];lia
theorem mr (w p j:Nat):∀(m s V:Nat),F w p (j+m) s V=F w p m (F w p j s (V/2^m)) V
 |0,s,V=>by simp [F]
 |m+1,s,V=>by
  show T w p (F w p (j+m) s (V/2)^^^_)=T w p (F w p m (F w p j s (V/2^(m+1))) (V/2)^^^_);rw [mr w p j m s (V/2),CA,<-Nat.pow_succ']
theorem r8 (w p:Nat):∀m,F w p m 0 0=0
 |0=>rfl
 |m+1=>by
  show T w p (F w p m 0 (0/2)^^^((0%2)*2^(w-1)))=0;rw [Nat.zero_div,r8 w p m,Nat.zero_mod,D8,Ey,wS]
theorem tX (w p m:Nat):∀(n s V:Nat),F w p (m+n) s (V*2^n)=Tn w p n (F w p m s V)
 |0,s,V=>by simp [Tn]
 |n+1,s,V=>by
  show T w p (F w p (m+n) s (V*2^(n+1)/2)^^^((V*2^(n+1)%2)*2^(w-1)))=T w p (Tn w p n (F w p m s V));have e1:V*2^(n+1)/2=V*2^n:=by rw [Bu,<-BW,Nat.mul_div_cancel _ Z9]
  have e2:V*2^(n+1)%2=0:=by rw [Bu,<-BW,El]
  rw [e1,e2,tX w p m n s V,D8,Nat.xor_zero]
def B (w p s b:Nat):Nat:=Tn w p 8 (s^^^(b*2^(w-8)))
def G (w p:Nat):Nat->Nat->Nat->Nat
 |0,s,_=>s
 |n+1,s,V=>B w p (G w p n s (V/256)) (V%256)
theorem G_F (hw:8≤w):∀(n s V:Nat),G w p n s V=F w p (8*n) s V
 |0,s,V=>rfl
 |n+1,s,V=>by
  show B w p (G w p n s (V/256)) (V%256)=_;rw [G_F hw n s (V/256),Nat.mul_succ,mr,x6 8 _ _ hw];rfl
theorem G_xor (w p:Nat):∀(n a b U V:Nat),G w p n (a^^^b) (U^^^V)=G w p n a U^^^G w p n b V
 |0,a,b,U,V=>rfl
 |n+1,a,b,U,V=>by
  show B w p (G w p n (a^^^b) ((U^^^V)/256)) ((U^^^V)%256)=B w p _ _^^^B w p _ _;have e1:(U^^^V)/256=U/256^^^V/256:=Nat.xor_div_two_pow (n:=8);have e2:(U^^^V)%256=U%256^^^V%256:=DQ (n:=8);unfold B;rw [e1,e2,G_xor w p n a b,<-uy,<-xor_mul_pow];congr 1;rw [Br,Br];congr 1;rw [<-Br,<-Br];congr 1;exact Ex _ _
theorem G_lt {V:Nat}(hp:p<2^w)(hs:s<2^w):G w p n s V<2^w:=by
 cases n with
 |zero=>exact hs
 |succ n=>exact yl hp
theorem burst {pat pl:Nat}(hw:8≤w)(hp:p%2=1)(hp2:p<2^w)(h0:0<pat){k:Nat}(hk:pat<2^k)(hkw:k≤w)(hfit:pl+k≤8*n):G w p n 0 (pat*2^pl)≠0:=by
 intro h;rw [G_F hw,show 8*n=(8*n-pl)+pl by omega,tX] at h;have lt1:F w p (8*n-pl) 0 pat<2^w:=by
  cases hm:8*n-pl with
  |zero=>exact BV Z9
  |succ m=>exact yl hp2
 have h1:=ue Z4 hp hp2 lt1 h;rw [show 8*n-pl=(8*n-pl-k)+k by omega,mr,CV hk,r8,x6 k _ _ hkw,Nat.zero_xor,B3 hk] at h1;have lt2:pat*2^(w-k)<2^w:=by
  have:pat*2^(w-k)<2^k*2^(w-k):=(DH (BV Z9)).mpr hk;rw [<-Cs,show k+(w-k)=w by omega] at this;exact this
 have h2:=ue Z4 hp hp2 lt2 h1;have h3:0<pat*2^(w-k):=Nat.mul_pos h0 (BV Z9);omega
end CK
set_option maxHeartbeats 4000000
namespace L2
open PySem PySem.Spec PyProof.Rows QQ
variable {y:V}{u:ED}{kvs:List (List Key×V)}{h':EJ}{Q:ED->EE->Prop}{s:EE}{H H':Hp}{xs:List (List Key×EC×ED)}{a:EC}{o:Option V}{w:EG}{P:EF}
section
variable {κ:Type}[DecidableEq κ]
def valV (kvs:List (κ×V))(k:κ):Option V:=(kvs.find? λ kv=>decide (kv.1=k)).map (·.2)
def putK (kvs:List (κ×V))(k:κ)(v:V):List (κ×V):=
 if(kvs.any λ kv=>decide (kv.1=k))=true then kvs.map (λ kv=>if kv.1=k then(kv.1,v) else kv) else kvs++[(k,v)]
theorem gk {p:κ×V}{r:List (κ×V)}{k:κ}(e:p.1=k):valV (p::r) k=some p.2:=by simp [valV,CN,e]
theorem eA {p:κ×V}{r:List (κ×V)}{k:κ}(e:¬p.1=k):valV (p::r) k=valV r k:=by simp [valV,CN,e]
theorem iC (k:κ):∀kvs:List (κ×V),(kvs.any λ kv=>decide (kv.1=k))=(valV kvs k).isSome
 | []=>rfl
 |p::r=>by
  rw [DM];by_cases e:p.1=k
  ·simp only [gk e,Ai e,Bool.true_or,Option.isSome_some]
  ·rw [eA e,AL e,Bool.false_or];exact iC k r
theorem dk (kvs:List (κ×V))(k:κ)(v:V):(putK kvs k v).length≤kvs.length+1:=by
 unfold putK
 split
 ·rw [z7];omega
 ·rw [z0,Az,Da];omega
theorem iB {kvs:List (κ×V)}{k:κ}(v:V)(h:valV kvs k=none):putK kvs k v=kvs++[(k,v)]:=by
 unfold putK;rw [iC,h];exact AO Z9
theorem RelO.isSome_eq {u:Option ED}(r:RelO o u):o.isSome=u.isSome:=by
 cases o with
 |none=>cases u with
  |none=>rfl
  |some _=>exact(show False from r).elim
 |some _=>cases u with
  |none=>exact(show False from r).elim
  |some _=>rfl
theorem KV.val {kvs:List (κ×V)}{vs:List (κ×ED)}(r:KV kvs vs)(k:κ):RelO (valV kvs k) (valueAt vs k):=by
 unfold KV at r
 induction r with
 |nil=>exact True.intro
 | @cons p q ps qs h t ih=>
  obtain⟨h1,h2⟩:=h;by_cases e:p.1=k
  ·have e':q.1=k:=h1.symm.trans e;have b:valueAt (q::qs) k=some q.2:=by simp [valueAt,CN,e']
   rw [gk e,b];exact h2
  ·have e':¬q.1=k:=λ z=>e (h1.trans z)
   have b:valueAt (q::qs) k=valueAt qs k:=by simp [valueAt,CN,e']
   rw [eA e,b];exact ih
theorem KV.any {kvs:List (κ×V)}{vs:List (κ×ED)}(r:KV kvs vs)(k:κ):(kvs.any λ kv=>decide (kv.1=k))=vs.any λ kv=>decide (kv.1=k):=by
 unfold KV at r
 induction r with
 |nil=>rfl
 |cons h t ih=>rw [DM,DM,ih,h.1]
theorem KV.repl {kvs:List (κ×V)}{vs:List (κ×ED)}(r:KV kvs vs)(k:κ)(ry:RelV y u):
  KV (kvs.map λ kv=>if kv.1=k then(kv.1,y) else kv) (vs.map λ kv=>if kv.1=k then(kv.1,u) else kv):=by
 unfold KV at r ⊢
 induction r with
 |nil=>exact .nil
 | @cons p q ps qs h t ih=>
  rw [AJ,AJ];refine .cons ?_ ih;obtain⟨h1,h2⟩:=h;by_cases e:p.1=k
  ·rw [AV e,AV (h1.symm.trans e)];exact⟨h1,ry⟩
  ·rw [AO e,AO (λ z=>e (h1.trans z))];exact⟨h1,h2⟩
theorem KV.put {kvs:List (κ×V)}{vs:List (κ×ED)}(r:KV kvs vs)(k:κ)(ry:RelV y u):KV (putK kvs k y) (stored vs k u):=by
 unfold putK stored;rw [r.any k];by_cases e:(vs.any λ kv=>decide (kv.1=k))=true
 ·rw [AV e,AV e];exact r.repl k ry
 ·rw [AO e,AO e];exact Paired.snoc r ⟨rfl,ry⟩
theorem KV.keys {kvs:List (κ×V)}{vs:List (κ×ED)}(r:KV kvs vs):kvs.map (·.1)=vs.map (·.1):=by
 unfold KV at r
 induction r with
 |nil=>rfl
 |cons h t ih=>rw [AJ,AJ,ih,h.1]
theorem KV.length {kvs:List (κ×V)}{vs:List (κ×ED)}(r:KV kvs vs):kvs.length=vs.length:=DK r
end
theorem mi {k:Key}(r:RelV (kV k) u):(bu P w).is k u=true:=by
 cases k with
 |inl i=>obtain⟨t,e⟩:=(show∃t,u=Value.int i t from r);subst e;exact kU P w i t
 |inr x=>obtain⟨t,e⟩:=(show∃t,u=Value.str x t from r);subst e;exact li P w x t
theorem jm:∀{ks:List Key} {us:List ED},Vals (ks.map kV) us->ItemsAre (bu P w) ks us
 | [],_,r=>by rw [List.map_nil] at r;cases r;exact .nil
 |k::ks,_,r=>by
  rw [AJ] at r;cases r with
  |cons h t=>exact .cons (mi h) (jm t)
abbrev KT (H:Hp):List (List Key×V)->List (List Key×EC×ED)->Prop:=Paired λ p q=>p.1=q.1/\H q.2.1=some (.tup (p.1.map kV))/\RelV p.2 q.2.2
theorem KT.val (r:KT H kvs xs)(k:List Key):RelO (valV kvs k) ((atKey xs k).map (·.2)):=by
 induction r with
 |nil=>exact True.intro
 | @cons p q ps qs h t ih=>
  obtain⟨h1,_,h2⟩:=h;by_cases e:p.1=k
  ·have e':q.1=k:=h1.symm.trans e;have b:atKey (q::qs) k=some q.2:=by simp [atKey,CN,e']
   rw [gk e,b];exact h2
  ·have e':¬q.1=k:=λ z=>e (h1.trans z)
   have b:atKey (q::qs) k=atKey qs k:=by simp [atKey,CN,e']
   rw [eA e,b];exact ih
theorem KT.repl (r:KT H kvs xs)(k:List Key)(ry:RelV y u):
  KT H (kvs.map λ kv=>if kv.1=k then(kv.1,y) else kv) (xs.map (putAt k u)):=by
 induction r with
 |nil=>exact .nil
 | @cons p q ps qs h t ih=>
  rw [AJ,AJ];refine .cons ?_ ih;obtain⟨h1,h2,h3⟩:=h;unfold putAt;by_cases e:p.1=k
  ·rw [AV e,AV (h1.symm.trans e)];exact⟨h1,h2,ry⟩
  ·rw [AO e,AO (λ z=>e (h1.trans z))];exact⟨h1,h2,h3⟩
theorem KT.put (r:KT H kvs xs)(k:List Key){b:EC}(hb:H b=some (.tup (k.map kV)))(ry:RelV y u):
  KT H (putK kvs k y) (storedH xs k b u):=by
 have e:(kvs.any λ kv=>decide (kv.1=k))=(atKey xs k).isSome:=by
  rw [iC,(r.val k).isSome_eq,Option.isSome_map]
 unfold putK storedH;rw [e];by_cases q:(atKey xs k).isSome=true
 ·rw [AV q,AV q];exact r.repl k ry
 ·rw [AO q,AO q];exact Paired.snoc r ⟨rfl,hb,ry⟩
theorem KT.keeps (r:KT H kvs xs)(ht:∀b ys,H b=some (.tup ys)->H' b=some (.tup ys)):KT H' kvs xs:=
 Paired.mapP r λ _ _ z=>⟨z.1,ht _ _ z.2.1,z.2.2⟩
section
variable {P:EF}{w:EG}{H:Hp}{h:EJ}{a:EC}
theorem iP {u:HO}(ok:HOk P w H h)(e:Rd H a u):ObjOk P w H h a u:=e.ok ok
theorem ux {kvs:List (Key×V)}(ok:HOk P w H h)(e:Rd H a (.dK kvs)):kvs.length≤sizeLine/\(a==sysModules)=false/\∃vs,KV kvs vs/\h.DictOf (bu P w) a vs:=
 show ObjOk P w H h a (.dK kvs) from iP ok e
theorem tE {kvs:List (Key×V)}(ok:HOk P w H h)(e:H a=some (.dK kvs)):kvs.length≤sizeLine/\(a==sysModules)=false/\∃vs,KV kvs vs/\h.DictOf (bu P w) a vs:=ux ok (.inl e)
theorem nY {ks:List Key}(ok:HOk P w H h)(e:H a=some (.tup (ks.map kV))):(tupleKind (bu P w)).is h ks a:=by
 obtain⟨_,its,r,o,h1,h2,n,h3⟩:=(show ObjOk P w H h a (.tup (ks.map kV)) from ok a _ e);exact⟨o,its.toArray,n,h1,h2,h3,by simpa using jm r⟩
theorem tY (ok:HOk P w H h)(e:Rd H a (.dT kvs)):kvs.length≤sizeLine/\(a==sysModules)=false/\
  ∃xs,KT H kvs xs/\h.DictOfH (tupleKind (bu P w)) a xs:=by
 obtain⟨z,y,xs,r,o,es,ep,h1,h2,h3,h4,h5⟩:=(show ObjOk P w H h a (.dT kvs) from iP ok e);refine⟨z,y,xs,r,o,es,ep,h1,h2,h3,h4,λ x hx=>?_,h5⟩;have all:∀{l:List (List Key×V)} {m:List (List Key×EC×ED)},KT H l m->∀x∈m,(tupleKind (bu P w)).is h x.1 x.2.1:=by
  intro l m q
  induction q with
  |nil=>intro x hx;exact nomatch hx
  | @cons p q ps qs hq t ih=>
   intro x hx;rcases Bc.mp hx with e|hx
   ·subst e;exact nY ok (by rw [<-hq.1];exact hq.2.1)
   ·exact ih x hx
 exact all r x hx
theorem yC (ok:HOk P w H h)(e:H a=some (.dT kvs)):kvs.length≤sizeLine/\(a==sysModules)=false/\
  ∃xs,KT H kvs xs/\h.DictOfH (tupleKind (bu P w)) a xs:=tY ok (.inl e)
end
def w4 (H:Hp)(a:EC)(y:V)(r:Option V):Prop:=
 (∃kvs k,Rd H a (.dK kvs)/\y=kV k/\r=valV kvs k)\/∃kvs k b,Rd H a (.dT kvs)/\y=.ref b/\H b=some (.tup (k.map kV))/\r=valV kvs k
def DPut (H:Hp)(a:EC)(y v:V)(H':Hp):Prop:=
 (∃kvs k,H a=some (.dK kvs)/\y=kV k/\kvs.length<sizeLine/\H'=upd H a (.dK (putK kvs k v)))\/
 ∃kvs k b,H a=some (.dT kvs)/\y=.ref b/\H b=some (.tup (k.map kV))/\kvs.length<sizeLine/\H'=upd H a (.dT (putK kvs k v))
theorem DPut.k {kvs:List (Key×V)}{k:Key}{v:V}(e:H a=some (.dK kvs))(hl:kvs.length<sizeLine):DPut H a (kV k) v (upd H a (.dK (putK kvs k v))):=.inl ⟨kvs,k,e,rfl,hl,rfl⟩
section
variable {X:Cx}{EN:List (EC × EL)}{σ:St}{H:Hp}{s:EE}{a:EC}{y v:V}{u r:ED}{o:Option V}{A:EI}{E:ED -> EE -> Prop}
theorem Inv.big (I:Inv X EN σ H s):sysModules<s.heap.objs.size:=by
 have h:mainGlobals<s.heap.objs.size:=(I.mod.glob.keeps I.bk).lt;exact Nat.lt_trans Z9 h
theorem qC (hu:A.units+1<cLine)(I:Inv X EN σ H s)(g:w4 H a y (some v))(ry:RelV y u)(h:∀w' s',Inv X EN σ H s'->RelV v w'->Q w' s'):
  wpAny (model X.prog X.w) A (getItem (.ref a) u) Q E s:=by
 rcases g with⟨kvs,k,e,ey,l⟩|⟨kvs,k,b,e,ey,eb,l⟩
 ·subst ey;obtain⟨z,hd,vs,rel,dd⟩:=ux I.hok e;obtain⟨w',hw,rw'⟩:=RelO.some_of (v:=v) (o:=valueAt vs k) (by rw [l];exact rel.val k);exact wpAny_getItem_of (mi ry) dd.mapOf hw (h w' _ (I.tok _) rw')
 ·subst ey;cases(show u=Value.ref b from ry);obtain⟨z,hd,xs,rel,dd⟩:=tY I.hok e;obtain⟨w',hw,rw'⟩:=RelO.some_of (v:=v) (o:=(atKey xs k).map (·.2)) (by rw [l];exact rel.val k);obtain⟨p,hp,hp2⟩:=Bq.mp hw;refine wpAny_getItem_heap (tupleKind_room_in1 hu) (nY I.hok eb) dd hp ?_;rw [hp2];exact h w' _ (I.tok _) rw'
theorem hG {t':Nat}{ob:HO}(I:Inv X EN σ H s)(mu:Mut (H a))(hs:Heap.SameBut a s.heap h')(he:∃q,h'.get? a=some q)(new:ObjOk X.prog X.w (upd H a ob) h' a ob):
  Inv X EN σ (upd H a ob) {s with heap:=h',toks:=t'}:=
 I.write (x:=a) (e:=a) mu (.inl rfl) (λ b q hb z=>(hs.2 b hb).trans z) he new
theorem mE {kvs:List (Key×V)}{vs:List (Key×ED)}(z:kvs.length≤sizeLine)(hd:(a==sysModules)=false)(rel:KV kvs vs)(dd:h'.DictOf (bu P w) a vs):
  ObjOk P w H' h' a (.dK kvs):=⟨z,hd,vs,rel,dd⟩
theorem qr {Q:Unit->EE->Prop}(hu:A.units+1<cLine)(I:Inv X EN σ H s)(g:DPut H a y v H')(ry:RelV y u)(rv:RelV v r)(h:∀s',Inv X EN σ H' s'->Q () s'):
  wpAny (model X.prog X.w) A (setItem (.ref a) u r) Q E s:=by
 rcases g with⟨kvs,k,e,ey,l,eH⟩|⟨kvs,k,b,e,ey,eb,l,eH⟩
 ·subst ey eH;obtain⟨z,hd,vs,rel,dd⟩:=tE I.hok e;have hz:vs.length≤sizeLine:=by rw [<-rel.length];exact z
  have hl:(putK kvs k v).length≤sizeLine:=by have:=dk kvs k v;omega
  refine wpAny_setItem_pairs (hsz:=hz) (mi ry) dd λ h' dd' hs=>h _ ?_
  have he:∃q,h'.get? a=some q:=let⟨q,_,_,hq,_⟩:=dd';⟨q,hq⟩;exact hG I (by rw [e];exact True.intro) hs he (mE hl hd (rel.put k rv) dd')
 ·subst ey eH;cases(show u=Value.ref b from ry);obtain⟨z,hd,xs,rel,dd⟩:=yC I.hok e;have hz:xs.length≤sizeLine:=by rw [<-DK rel];exact z
  have hl:(putK kvs k v).length≤sizeLine:=by have:=dk kvs k v;omega
  refine wpAny_setItem_heap (hsz:=hz) (tupleKind_room_in1 hu) (nY I.hok eb) dd λ h' dd' hs=>h _ ?_
  obtain⟨q,es,ep,hq,h2,h3,h4,_,h5⟩:=dd';refine hG I (by rw [e];exact True.intro) hs ⟨q,hq⟩ ⟨hl,hd,_,(rel.put k eb rv).keeps λ c ys ec=>?_,q,es,ep,hq,h2,h3,h4,h5⟩;rw [av (wo ec e (λ z=>nomatch z))];exact ec
end
section
variable {X:Cx}{EN:List (EC × EL)}{σ:St}{H:Hp}{s:EE}{a:EC}{kvs:List (Key × V)}{k:Key}{u:ED}{A:EI}{E:ED -> EE -> Prop}
end
def zc (i:EK):Prop:=∀ov iv,subscripted i false ov iv=operate [ov,iv] (getItem ov iv)
theorem subD_of {prog:EF}{A:EI}{E:ED->EE->Prop}{env:Env}{value slice:EK}{pos:Pos}{T id:String}
  (hl:typeLookup (.type T) "__getitem__"=pure (some (.builtin id))) (hs:zc slice)
  (h:wpAny (model prog w) A (eval value env) (λ o s₁=>wpAny (model prog w) A (eval slice env) (λ i s₂=>s₂.TypeIs o T/\wpAny (model prog w) A (getItem o i) Q E s₂) E s₁) E s):
  wpAny (model prog w) A (eval (.Subscript value slice pos) env) Q E s:=by
 refine Subscript_ (Bb h (λ o s₁ h₁=>Bb h₁ (λ i s₂ h₂=>?_) λ _ _ x=>x) λ _ _ x=>x);obtain⟨hT,h₂⟩:=h₂;unfold subscriptTail;refine Aa ?_;rw [getitemInPython_of_ne hT.not_modules];refine Aa (wpAny_specialOf hT hl ?_);have fin:wpAny (model prog w) A (subscripted slice false o i) (λ r s₃=>wpAny (model prog w) A (letTemporaryGo value o r>>= λ _=>pure r) Q E s₃) E s₂:=by
  rw [hs o i];exact wpAny_operating (Bb h₂ (λ r s₃ h₃=>Aa (wpAny_letTemporaryGo (Am h₃))) λ _ _ x=>x)
 first
  |exact Am (Aa fin)
  |exact Aa (Am (Aa fin))
  |exact Aa fin
theorem lC {X:Cx}{EN:List (EC×EL)}{σ:St}(I:Inv X EN σ H s)(g:w4 H a y o):s.TypeIs (.ref a) "dict":=by
 rcases g with⟨kvs,k,e,_,_⟩|⟨kvs,k,b,e,_,_,_⟩
 ·obtain⟨_,_,vs,_,dd⟩:=ux I.hok e;exact dd.typeIs
 ·obtain⟨_,_,xs,_,dd⟩:=tY I.hok e;exact dd.typeIs
def yP (td ty:TE):TE:=λ σ H Q=>td σ H λ x H1=>ty σ H1 λ y H2=>∃a v,x=.ref a/\w4 H2 a y (some v)/\Q v H2
def yO (td ty tv:TE):TS:=λ D σ H=>tv σ H λ v H1=>td σ H1 λ x H2=>ty σ H2 λ y H3=>∃a H4,x=.ref a/\DPut H3 a y v H4/\D.nx σ H4
section
variable {X:Cx}{o i e value:EK}{pos pos' tpos:Pos}{td ty tv:TE}
theorem uA (hu:X.A.units+1<cLine)(ho:PE X o td)(hi:PE X i ty)(hs:zc i):PE X (.Subscript o i pos) (yP td ty):=by
 intro EN s σ H Q I h;refine subD_of PySem.F.slot_dict_getitem.lookup hs (thn (ho EN s σ H _ I h) λ u s1 ⟨x,H1,I1,rx,q1⟩=>thn (hi EN s1 σ H1 _ I1 q1) λ iv s2 z9=>?_);obtain⟨y,H2,I2,ry,a,v,ex,g,q2⟩:=z9;subst ex;obtain rfl:u=Value.ref a:=rx;exact⟨lC I2 g,qC hu I2 g ry λ w' s3 I3 rw'=>⟨v,H2,I3,rw',q2⟩⟩
theorem j7 (hu:X.A.units+1<cLine)(ho:PE X o td)(hi:PE X i ty)(hv:PE X value tv)(hs:swapsWith value (some (.Subscript o i pos')) pos.line X.env=pure false):
  PS X (.Assign [.Subscript o i pos'] value pos) (yO td ty tv):=by
 intro EN s σ H D I h;refine wpAny_Assign_Subscript (thn (hv EN s σ H _ I h) λ r s1 ⟨v,H1,I1,rv,q1⟩=>thn (ho EN s1 σ H1 _ I1 q1) λ u s2 ⟨x,H2,I2,rx,q2⟩=>thn (hi EN s2 σ H2 _ I2 q2) λ iv s3 z9=>?_) hs;obtain⟨y,H3,I3,ry,a,H4,ex,g,q3⟩:=z9;subst ex;obtain rfl:u=Value.ref a:=rx;exact qr hu I3 g ry rv λ s4 I4=>⟨σ,H4,I4,q3⟩
end
theorem sd (h:EJ)(hb:sysModules<h.objs.size):ObjOk P w H (h.push {cls:=.type "dict",data:=.dict #[]}) h.objs.size (.dK []):=
 ⟨AZ _,Cb.mpr (B0 (A2 hb)),[],.nil,Heap.DictOf.new h⟩
section
variable {X:Cx}{pos:Pos}
end
section
variable {X:Cx}
end
end L2
set_option maxHeartbeats 4000000
namespace QQ
open PySem PyProof.Rows
section
variable {prog:EF}{w:EG}{A:EI}{E:ED -> EE -> Prop}{s:EE}
end
end QQ
namespace L2
open PySem PySem.Spec PyProof.Rows QQ
section
variable {X:Cx}
def EqG (K:Frag)(H:Hp)(x y:V):Prop:=(x=y/\(flatV x=true\/∃a,x=.ref a))\/∃(a b:EC) (xs:List V),x=.ref a/\y=.ref b/\SqT K H a xs/\SqT K H b xs/\xs.all flatV=true
def SameGs (K:Frag)(H:Hp)(p q:EC):Prop:=∃xs ys:List V,SqL K H p xs/\SqL K H q ys/\xs.length=ys.length/\∀(i:Nat) (x y:V),xs[i]?=some x->ys[i]?=some y->EqG K H x y
theorem gr {EN:List (EC×EL)}{σ:St}{H:Hp}{s:EE}(I:Inv X EN σ H s){p q:EC}(h:SameGs X.K H p q){A:EI}(hu:A.units<cLine):∃its its2:List ED,s.heap.IsList p its.toArray/\s.heap.IsList q its2.toArray/\its.toArray.size=its2.toArray.size/\∀j (h1:j<its.toArray.size) (h2:j<its2.toArray.size),SeqAt.EqAt A s its.toArray[j] its2.toArray[j] true:=by
 obtain⟨xs,ys,h1,h2,hl,hi⟩:=h;obtain⟨its,rv,pl,hz⟩:=I.list h1;obtain⟨its2,rv2,pl2,hz2⟩:=I.list h2;have l1:=rv.length;have l2:=rv2.length;refine⟨its,its2,pl.isList,pl2.isList,by rw [An,An];omega,λ j j1 j2=>?_⟩;have k1:j<xs.length:=by simp at j1;omega
 have k2:j<ys.length:=Z4;obtain⟨u1,e1,r1⟩:=rv.get (i:=j) (x:=xs[j]) (by simp [k1]);obtain⟨u2,e2,r2⟩:=rv2.get (i:=j) (x:=ys[j]) (by simp [k2]);have g1:its.toArray[j]=u1:=by
  obtain⟨_,z⟩:=Ak.mp e1;simpa using z
 have g2:its2.toArray[j]=u2:=by
  obtain⟨_,z⟩:=Ak.mp e2;simpa using z
 rw [g1,g2];rcases hi j xs[j] ys[j] (by simp [k1]) (by simp [k2]) with⟨z1,f|⟨a,z2⟩⟩|⟨a,b,zs,z1,z2,q1,q2,fl⟩
 ·rw [<-z1] at r2;rw [<-io _ f];exact iF r1 r2 f f
 ·rw [<-z1] at r2;rw [z2] at r1 r2;cases r1;cases r2;exact SeqAt.EqAt.same _
 ·rw [z1] at r1;rw [z2] at r2;cases r1;cases r2;exact tU I q1 q2 fl hu
def wm (K:Frag):R2:=λ x y H Q=>∃(p q:EC),x=.ref p/\y=.ref q/\SameGs K H p q/\Q (.bl false) H
theorem uX (hu:X.A.units+64<cLine):OpR X (compareOp .NotEq) (wm X.K):=by
 intro EN s σ H x y v u Q I rx ry h;obtain⟨p,q,rfl,rfl,h,k⟩:=h;cases rx;cases ry;obtain⟨its,its2,pl,pl2,hz,he⟩:=gr (A:=X.A.in1) I h (by show X.A.units+1<_;omega);refine SeqAt.RcNeAt.lists (e:=λ _=>true) pl pl2 hz Z4 he _ _ _ _ ?_;refine⟨.bl false,H,I,?_,k⟩;show Value.bool _=Value.bool _;simp
def wp (K:Frag):R2:=λ x y H Q=>∃(p q:EC),x=.ref p/\y=.ref q/\SameGs K H p q/\Q (.bl true) H
theorem uC (hu:X.A.units+64<cLine):OpR X (compareOp .Eq) (wp X.K):=by
 intro EN s σ H x y v u Q I rx ry h;obtain⟨p,q,rfl,rfl,h,k⟩:=h;cases rx;cases ry;obtain⟨its,its2,pl,pl2,hz,he⟩:=gr (A:=X.A.in1) I h (by show X.A.units+1<_;omega);refine SeqAt.RcAt.lists (e:=λ _=>true) pl pl2 hz Z4 he _ _ _ _ ?_;refine⟨.bl true,H,I,?_,k⟩;show Value.bool _=Value.bool _;simp
end
end L2
set_option maxHeartbeats 4000000
namespace K28.Ck
open PySem L2 QQ BP
seal PE PA PS PSs PT PW PG PI
variable {f fW:EC}{fd fdW:EH}{n p s w:Nat}{dV:ED}{R:List Nat}
abbrev pA:EM:=top 38
abbrev mW:EM:=bW (top 39) 0
abbrev xS:EM:=bW (top 39) 1
abbrev mU:EM:=bW (top 39) 2
abbrev iy:EM:=top 40
structure Txt (K:Frag)(mg:Str->Option ED):Prop where
 R:Rows K mg
 tabA:∃d,mg "ALL_ONES"=some (.ref d)/\TabK K d 255 65535
 tabL:∃d,mg "LOWER_BITS"=some (.ref d)/\TabK K d 29 45
theorem kQ (a:Nat):∀b,a+b=(a^^^b)+2*(a&&& b):=by
 induction a using Nat.strongRecOn with
 |_ a ih=>
  intro b;by_cases h0:a=0
  ·subst h0;simp
  ·have h:=ih (a/2) (Nat.bitwise_rec_lemma h0) (b/2);have e1:(a^^^b)/2=a/2^^^b/2:=Nat.xor_div_two_pow (n:=1);have e2:(a&&& b)/2=a/2&&& b/2:=Nat.and_div_two_pow (n:=1);have m1:(a^^^b)%2=a%2^^^b%2:=DQ (n:=1);have m2:(a&&& b)%2=a%2&&& b%2:=Nat.and_mod_two_pow (n:=1);have d1:=DS (a^^^b) 2;have d2:=DS (a&&& b) 2;rw [e1,m1] at d1;rw [e2,m2] at d2;clear e1 e2 m1 m2 ih h0;have k:a%2+b%2=(a%2^^^b%2)+2*(a%2&&& b%2):=by
    rcases D6 a with e|e<;>rcases D6 b with f|f<;>rw [e,f]<;>rfl
   have:=DS a 2;have:=DS b 2;generalize a/2^^^b/2=u,a/2&&& b/2=v,a%2^^^b%2=x,a%2&&& b%2=y,a^^^b=m,a&&& b=n,a/2=q,b/2=r,a%2=t,b%2=z at*;lia
theorem ic (a b:Nat):Builtin.bitXor (a:Int) (b:Int)=((a^^^b:Nat):Int):=by
 have e:Builtin.bitXor (a:Int) (b:Int)=(a:Int)+(b:Int)-2*Builtin.bitAnd (a:Int) (b:Int):=by
  unfold Builtin.bitXor;rw [PyProof.Rows.bitOr_and];lia
 rw [e,Dk Z5 (Bd _),Ay,Ay];have:=kQ a b;lia
def WP (w p:Nat):Prop:=(w=8/\p=29)\/(w=16/\p=45)
theorem WP.facts (h:WP w p):8≤w/\w≤16/\p%2=1/\p<2^w:=by
 rcases h with⟨rfl,rfl⟩|⟨rfl,rfl⟩<;>decide
theorem zS (hw:0<w)(hs:s<2^w):CK.T w p s=if s/2^(w-1)=1 then s*2%2^w^^^p else s*2%2^w:=by
 unfold CK.T;rw [Di];have h2:s/2^(w-1)<2:=Nat.div_lt_of_lt_mul (by
  have:2^(w-1)*2=2^w:=by rw [<-Bu];congr 1;exact Nat.sub_add_cancel hw
  exact Nat.lt_of_lt_of_eq hs this.symm)
 rcases A4 (s/2^(w-1)) 1 with h|h
 ·have e:s/2^(w-1)=0:=Nat.lt_one_iff.mp h;rw [e];simp
 ·have e:s/2^(w-1)=1:=Ci (Nat.lt_succ_iff.mp h2) h;rw [e];simp
def crc (w p s:Nat)(R:List Nat):Nat:=R.foldl (CK.B w p) s
theorem lQ (w p s:Nat)(R:List Nat)(b:Nat):crc w p s (R++[b])=CK.B w p (crc w p s R) b:=by
 unfold crc;rw [CO];rfl
theorem wz:∀(n:Nat) (R:List Nat),R.length=n->(∀b∈R,b<256)->crc w p s R=CK.G w p n s (BP.val R):=by
 intro n
 induction n with
 |zero=>
  intro R h _;have e:R=[]:=List.length_eq_zero_iff.mp h;subst e;rfl
 |succ n ih=>
  intro R h hb;obtain⟨A,b,rfl⟩:∃A b,R=A++[b]:=by
   rcases List.eq_nil_or_concat R with e|⟨A,b,e⟩
   ·subst e;simp at h
   ·exact⟨A,b,by simpa using e⟩
  have hbb:b<256:=hb b Z6;rw [z0,CI] at h;rw [lQ,ih A (Nat.add_right_cancel h) λ x hx=>hb x (Bn _ hx),BP.val_snoc];show _=CK.B w p (CK.G w p n s ((BP.val A*256+b)/256)) ((BP.val A*256+b)%256);have e1:(BP.val A*256+b)/256=BP.val A:=Z5;have e2:(BP.val A*256+b)%256=b:=Z5;rw [e1,e2]
theorem sI (hp:p<2^w)(hs:s<2^w)(hb:∀b∈R,b<256):crc w p s R<2^w:=by
 rw [wz R.length R rfl hb];exact CK.G_lt hp hs
section
variable {P:EF}{w:EG}{K:Frag}{mg:Str -> Option ED}{base:EJ}
def sZ:Sp:=λ vs H Q _=>∃(n p s b:Nat),vs=[vN s,vN b,vN n]/\WP n p/\s<2^n/\b<256/\Q (vN (CK.B n p s b)) H
theorem scWith:FnScope ["state","byte","wide","step","goes_out"] ["state","byte","wide"] (ak pA):=⟨rfl,rfl,rfl,Z8,rfl,Z8,Z8⟩
theorem wc (F:Fn K mg "with_byte" pA ["state","byte","wide"] f fd)(X:Txt K mg):FnOk P w K mg base CX0 1 f fd ["state","byte","wide"] sZ:=by
 obtain⟨dA,mA,tA⟩:=X.tabA;obtain⟨dL,mL,tL⟩:=X.tabL;refine F.F.ok scWith λ EO A outer st H vs Q E hr h=>?_
 intro _;obtain⟨n,p,s,b,rfl,hw,hs,hb,q⟩:=h;obtain⟨h8,h16,hodd,hp⟩:=hw.facts;refine⟨_,ad (ao (i:=0) scWith.nd (ag oE (pv 0) (ag ij (pv 1) (ag aU (pv 2) ae))))
  (ad (cr Bj rfl (cO rfl X.R.X.range (aa ae ac)) (aG (i:=3) scWith.nd)
   (ad (ao (i:=4) scWith.nd (ag iD (pv 0) (ag aU (pv 2) ae)))
   (ad (ao (i:=0) scWith.nd (ag gv (ag ij (pv 0) ae) (ba kz (aP (v:=.ref dA) Z7 mA rfl) (pv 2) (λ _ _=>rfl))))
   (ah (aK (ax bP (pv 4) ae (az _)) (ah (ao (i:=0) scWith.nd (ag oE (pv 0) (ba kz (aP (v:=.ref dL) Z7 mL rfl) (pv 2) (λ _ _=>rfl))))) ay)))))
  (ah (ar (pv 0)))),?_⟩
 have e8:(n:Int)-8=((n-8:Nat):Int):=Z5;have e1':(n:Int)-1=((n-1:Nat):Int):=Z5;refine⟨_,rfl,_,rfl,_,rfl,_,_,rfl,rfl,?_⟩;dsimp only;rw [e8];refine⟨_,_,rfl,rfl,⟨Bd _,Z5,Z5⟩,_,_,rfl,rfl,?_⟩;dsimp only;rw [pD,ic];have hs0:s^^^b*2^(n-8)<2^n:=by
  refine CD hs ?_;have:b*2^(n-8)<2^8*2^(n-8):=(DH (BV Z9)).mpr hb;rw [<-Cs,show 8+(n-8)=n by lia] at this;exact this
 refine⟨8,rfl,Z9,Z9,gu (D:=⟨_,_,λ _ _=>False,λ _ _=>False⟩) (lo:=0) (n:=8)
  (λ i σ H2=>∃v3 v4,σ=[some (vN (CK.Tn n p i (s^^^b*2^(n-8)))),some (vN b),some (vN n),v3,v4]/\H2=H) ⟨none,none,rfl,rfl⟩ ?_ ?_⟩
 ·rintro i σ H2 hi ⟨v3,v4,rfl,rfl⟩;have EQ:=CK.Tn_lt (n:=i) hp hs0;have eT:CK.Tn n p (i+1) (s^^^b*2^(n-8))=CK.T n p (CK.Tn n p i (s^^^b*2^(n-8))):=rfl;rw [eT];generalize CK.Tn n p i (s^^^b*2^(n-8))=z at*;have hz16:z<2^16:=Ap EQ (DG Z9 h16);have go:=zS (p:=p) (Nat.zero_lt_of_lt h8) EQ;refine⟨_,rfl,_,rfl,_,_,rfl,rfl,?_⟩;dsimp only;rw [e1'];refine⟨_,_,rfl,rfl,Z5,?_⟩;dsimp only;rw [ka];have em:(z:Int)*2^(1:Int).toNat=((z*2:Nat):Int):=pD z 1;refine⟨_,rfl,_,_,rfl,rfl,⟨Z9,Z9,Z5⟩,_,rfl,dA,_,_,_,rfl,rfl,.inl tA,?_⟩;rcases hw with⟨rfl,rfl⟩|⟨rfl,rfl⟩
  ·refine .inl ⟨rfl,_,_,rfl,rfl,?_⟩;dsimp only;rw [em,show Builtin.bitAnd ((z*2:Nat):Int) 255=((z*2%2^8:Nat):Int) from cW (z*2) 8];refine⟨_,rfl,rfl,_,rfl,bi (λ h1=>?_) (λ h1=>?_)⟩
   ·have h1':z/2^(8-1)=1:=by have:=V.int.inj (Aq h1);exact Eq.symm ((λ {m n}=>Int.ofNat_inj.mp) this.symm)
    rw [AV h1'] at go;refine⟨_,rfl,_,rfl,dL,_,_,_,rfl,rfl,.inl tL,.inl ⟨rfl,_,_,rfl,rfl,?_⟩⟩;dsimp only;rw [show Builtin.bitXor ((z*2%2^8:Nat):Int) 29=((z*2%2^8^^^29:Nat):Int) from ic _ 29,go];exact⟨_,_,rfl,rfl⟩
   ·have h1':¬z/2^(8-1)=1:=λ e=>h1 (Ai (AB V.int Z5))
    rw [AO h1'] at go;rw [go];exact⟨_,_,rfl,rfl⟩
  ·refine .inr ⟨rfl,_,_,rfl,rfl,?_⟩;dsimp only;rw [em,show Builtin.bitAnd ((z*2:Nat):Int) 65535=((z*2%2^16:Nat):Int) from cW (z*2) 16];refine⟨_,rfl,rfl,_,rfl,bi (λ h1=>?_) (λ h1=>?_)⟩
   ·have h1':z/2^(16-1)=1:=by have:=V.int.inj (Aq h1);exact Eq.symm ((λ {m n}=>Int.ofNat_inj.mp) this.symm)
    rw [AV h1'] at go;refine⟨_,rfl,_,rfl,dL,_,_,_,rfl,rfl,.inl tL,.inr ⟨rfl,_,_,rfl,rfl,?_⟩⟩;dsimp only;rw [show Builtin.bitXor ((z*2%2^16:Nat):Int) 45=((z*2%2^16^^^45:Nat):Int) from ic _ 45,go];exact⟨_,_,rfl,rfl⟩
   ·have h1':¬z/2^(16-1)=1:=λ e=>h1 (Ai (AB V.int Z5))
    rw [AO h1'] at go;rw [go];exact⟨_,_,rfl,rfl⟩
 ·rintro σ H2 ⟨v3,v4,rfl,rfl⟩;exact⟨_,rfl,q⟩
end
theorem xA:¬(("wide":Str)="state"):=Z8
noncomputable def fC (n s:Nat):List (Str×V):=[("wide",vN n),("state",vN s)]
theorem pW (n s:Nat):bQ "state" (vN s) (bQ "wide" (vN n) [])=fC n s:=by
 show(if("wide":Str)="state" then _ else(("wide":Str),vN n):: [("state",vN s)])=_;rw [AO xA];rfl
theorem xX (n s s':Nat):bQ "state" (vN s') (fC n s)=fC n s':=by
 show(if("wide":Str)="state" then _ else(("wide":Str),vN n)::(if("state":Str)="state" then [(("state":Str),vN s')] else _))=_;rw [AO xA,AV rfl];rfl
theorem rJ (n s:Nat):(fC n s).lookup ("wide":Str)=some (vN n):=by
 rw [<-pW,aO,AO xA,aO,AV rfl]
theorem lX (n s:Nat):(fC n s).lookup ("state":Str)=some (vN s):=by
 rw [<-pW,aO,AV rfl]
theorem wA (n s:Nat){m:Str}(h1:autoParam (¬m="state") ZY)(h2:autoParam (¬m="wide") ZY):(fC n s).lookup m=none:=by
 rw [<-pW,aO,AO h1,aO,AO h2];rfl
theorem ye (n s:Nat):(fC n s).length<1000:=by show 2<1000;decide
structure CC (K:Frag)(mg:Str->Option ED)(C:EC):Prop where
 cl:Cls K C
 nW:NoAttr K C "wide"
 nS:NoAttr K C "state"
 m:mg "Check"=some (.ref C)
section
variable {P:EF}{w:EG}{K:Frag}{mg:Str -> Option ED}{base:EJ}{C:EC}
def vc (C:EC):Sp:=λ vs H Q _=>∃(p dx:EC) (n q:Nat),vs=[.ref p,vN n]/\WP n q/\H p=some (.ins C dx [])/\∀H':Hp,H' p=some (.ins C dx (fC n (2^n-1)))->(∀b o,H b=some o->b≠p->H' b=some o)->Q .non H'
theorem vW:FnScope ["self","wide"] ["self","wide"] (ak mW):=⟨rfl,rfl,rfl,Z8,rfl,Z8,Z8⟩
theorem rD (F:FunD K "__init__" "Check.__init__" mW dV f fd)(W:Fn K mg "is_whole" cm ["thing","least","most"] fW fdW)(T:CC K mg C)(X:Txt K mg):FnOk P w K mg base CX0 2 f fd ["self","wide"] (vc C):=by
 have GW:FnOk P w K mg base CX0 1 fW fdW ["thing","least","most"] dN:=eg W X.R.X;obtain⟨dA,mA,tA⟩:=X.tabA;refine F.ok vW λ EO A outer st H vs Q E hr h=>?_
 intro _;obtain⟨p,dx,n,q,rfl,hw,hp,k⟩:=h;refine⟨_,ad (aK (PW.pt (eI (bp (bj (ai GW hr Z7 W.m W.F.kp W.b .nil ap (aa (pv 1) (aa ae (aa ae ac))))))
   (dQ (ax j8 (pv 1) (aP (v:=.ref dA) Z7 mA rfl) Z7)))) (ah im) ay)
  (ad (dI (pv 0) (pv 1) rfl)
  (ah (dI (pv 0) (ba kz (aP (v:=.ref dA) Z7 mA rfl) (pv 1) (λ _ _=>rfl)) rfl))),?_⟩
 refine⟨_,rfl,_,_,_,rfl,_,rfl,?_⟩;have e1:(decide ((8:Int)≤(n:Int))&&decide ((n:Int)≤16))=true:=by
  obtain⟨h8,h16,_⟩:=hw.facts;rw [Ai (Int.toNat_le.mp h8),Ai Z5];rfl
 rw [e1];refine bq ?_;have hn:(n:Int)=8\/(n:Int)=16:=by rcases hw with⟨rfl,_⟩|⟨rfl,_⟩<;>simp
 refine⟨_,rfl,dA,_,_,_,rfl,rfl,tA,hn,_,rfl,bq ?_⟩;refine⟨_,rfl,_,rfl,p,C,dx,_,rfl,hp,T.cl,T.nW,(by show 0<1000;decide),?_⟩;refine⟨_,rfl,dA,_,_,_,rfl,rfl,.inl tA,?_⟩;have fin:∀(z:Int),z=((2^n-1:Nat):Int)->Q .non (upd (upd H p (.ins C dx (bQ "wide" (vN n) []))) p (.ins C dx (bQ "state" (.int z) (bQ "wide" (vN n) [])))):=λ z ez=>by
  rw [ez,show bQ "state" (V.int ((2^n-1:Nat):Int)) (bQ "wide" (vN n) [])=fC n (2^n-1) from pW n _];refine k _ af λ b o e hb=>?_
  rw [av hb,av hb];exact e
 rcases hw with⟨rfl,rfl⟩|⟨rfl,rfl⟩
 ·exact .inl ⟨rfl,_,rfl,p,C,dx,_,rfl,af,T.cl,T.nS,(by show 1<1000;decide),fin _ rfl⟩
 ·exact .inr ⟨rfl,_,rfl,p,C,dx,_,rfl,af,T.cl,T.nS,(by show 1<1000;decide),fin _ rfl⟩
def yI (C:EC):Sp:=λ vs H Q _=>∃(p dx a:EC) (n q s:Nat) (B:List Nat),vs=[.ref p,.ref a]/\WP n q/\s<2^n/\H p=some (.ins C dx (fC n s))/\H a=some (.lst (B.map vN))/\(∀b∈B,b<256)/\
 ∀H':Hp,H' p=some (.ins C dx (fC n (crc n q s B)))->(∀b o,H b=some o->b≠p->H' b=some o)->Q .non H'
theorem scAdd:FnScope ["self","row","byte"] ["self","row"] (ak xS):=⟨rfl,rfl,rfl,Z8,rfl,Z8,Z8⟩
theorem wR {fN fR fY:EC}{fdN fdR fdY:EH}(F:Fun K "add" "Check.add" xS f fd)(N:Fn K mg "need_row" b9 ["thing"] fN fdN)(R:Fn K mg "is_row" fm ["thing"] fR fdR)(W:Fn K mg "is_whole" cm ["thing","least","most"] fW fdW)
  (Y:Fn K mg "with_byte" pA ["state","byte","wide"] fY fdY) (T:CC K mg C) (X:Txt K mg):FnOk P w K mg base CX0 5 f fd ["self","row"] (yI C):=by
 have GN:FnOk P w K mg base CX0 4 fN fdN ["thing"] spNeedRow:=dS N X.R;have GY:FnOk P w K mg base CX0 1 fY fdY ["state","byte","wide"] sZ:=wc Y X;refine F.ok scAdd λ EO A outer st H vs Q E hr h=>?_
 intro _;obtain⟨p,dx,a,n,q,s,B,rfl,hw,hs,hp,ha,hb,k⟩:=h;obtain⟨h8,h16,hodd,hq⟩:=hw.facts;have hr1:Room 1 _:=hr.mono Z9;refine⟨_,ah (cr Bj rfl (cy (ai GN hr Z7 N.m N.F.kp N.b .nil ap (aa (pv 1) ac))) (aG (i:=2) scAdd.nd)
  (ah (dI (pv 0) (ai GY hr1 Z7 Y.m Y.F.kp Y.b .nil ap (aa (cw (pv 0) rfl) (aa (pv 2) (aa (cw (pv 0) rfl) ac)))) rfl))),?_⟩
 refine⟨_,rfl,a,B,rfl,ha,hb,λ l hl=>?_⟩;have npl:p≠l:=au hp hl;refine⟨l,rfl,⟨_,SqL.of af⟩,cX (K:=K) (a:=l) (xs:=B.map vN) (λ i σ H2=>∃v:Option V,σ=[some (.ref p),some (.ref a),v]/\H2 p=some (.ins C dx (fC n (crc n q s (B.take i))))/\H2 l=some (.lst (B.map vN))/\∀b o,H b=some o->b≠p->H2 b=some o)
  ⟨none,rfl,by rw [av npl];exact hp,af,λ b o e _=>by rw [av (au e hl)];exact e⟩ (λ i σ H2 _ z9=>by obtain⟨_,_,_,e,_⟩:=z9;exact SqL.of e) ?_ ?_⟩
 ·rintro i y σ H2 hi ⟨v,rfl,hp2,hl2,oth⟩;obtain⟨b,hb1,rfl⟩:=jX hi;have hb2:=hb b (BC hb1);have EQ:crc n q s (B.take i)<2^n:=sI hq hs λ x hx=>hb x (AG hx)
  refine⟨_,rfl,p,C,dx,_,_,rfl,hp2,T.cl,T.nS,lX _ _,_,rfl,_,rfl,p,C,dx,_,_,rfl,hp2,T.cl,T.nW,rJ _ _,n,q,_,b,rfl,hw,EQ,hb2,?_⟩;refine⟨_,rfl,p,C,dx,_,rfl,hp2,T.cl,T.nS,ye _ _,?_⟩;refine⟨some (vN b),rfl,?_,by rw [av npl.symm];exact hl2,λ c o e hc=>by rw [av hc];exact oth c o e hc⟩;rw [af,xX,eR hb1,lQ]
 ·rintro σ H2 ⟨v,rfl,hp2,hl2,oth⟩;rw [z7,Bx] at hp2;exact k H2 hp2 oth
def vo (C:EC):Sp:=λ vs H Q _=>∃(p dx:EC) (n s:Nat),vs=[.ref p]/\H p=some (.ins C dx (fC n s))/\Q (vN s) H
theorem vE:FnScope ["self"] ["self"] (ak mU):=⟨rfl,rfl,rfl,Z8,rfl,Z8,Z8⟩
theorem rE (F:Fun K "value" "Check.value" mU f fd)(T:CC K mg C):FnOk P w K mg base CX0 1 f fd ["self"] (vo C):=by
 refine F.ok vE λ EO A outer st H vs Q E hr h=>?_
 intro _;obtain⟨p,dx,n,s,rfl,hp,k⟩:=h;refine⟨_,ah (ar (cw (pv 0) rfl)),?_⟩;exact⟨_,rfl,p,C,dx,_,_,rfl,hp,T.cl,T.nS,lX _ _,k⟩
def chk (n q:Nat)(B:List Nat):Nat:=crc n q (2^n-1) B
def spCheckOf:Sp:=λ vs H Q _=>∃(a:EC) (n q:Nat) (B:List Nat),vs=[.ref a,vN n]/\WP n q/\H a=some (.lst (B.map vN))/\(∀b∈B,b<256)/\∀H',Same H H'->Q (vN (chk n q B)) H'
theorem scCheckOf:FnScope ["row","wide","check"] ["row","wide"] (ak iy):=⟨rfl,rfl,rfl,Z8,rfl,Z8,Z8⟩
structure Chk (K:Frag)(mg:Str->Option ED)(C:EC):Prop where
 X:Txt K mg
 T:CC K mg C
 whole:∃f fd,Fn K mg "is_whole" cm ["thing","least","most"] f fd
 isrow:∃f fd,Fn K mg "is_row" fm ["thing"] f fd
 needrow:∃f fd,Fn K mg "need_row" b9 ["thing"] f fd
 withb:∃f fd,Fn K mg "with_byte" pA ["state","byte","wide"] f fd
 init:∃f fd dV,FunD K "__init__" "Check.__init__" mW dV f fd/\Binds K fd ["self","wide"] []/\Mk K C f
 add:∃f fd,Me K C "add" "Check.add" xS ["self","row"] f fd
 value:∃f fd,Me K C "value" "Check.value" mU ["self"] f fd
theorem cn (F:FunD K "check_of" "check_of" iy dV f fd)(Z:Chk K mg C):FnOk P w K mg base CX0 6 f fd ["row","wide"] spCheckOf:=by
 obtain⟨X,T,⟨_,_,W⟩,⟨_,_,R⟩,⟨_,_,N⟩,⟨_,_,Y⟩,⟨_,_,_,FI,bI,M⟩,⟨_,_,Ad⟩,⟨_,_,Va⟩⟩:=Z;refine F.ok scCheckOf λ EO A outer st H vs Q E hr h=>?_
 intro _;obtain⟨a,n,q,B,rfl,hw,ha,hb,k⟩:=h;have hr1:Room 1 _:=hr.mono Z9;have hr3:Room 3 _:=hr.mono Z9;refine⟨_,ad (ao (i:=2) scCheckOf.nd (fZ M (rD FI W T X) hr3 Z7 T.m bI .nil ap (aa (pv 1) ac)))
  (ad (bf (cJ (pv 2) T.cl Ad.m (wR Ad.F N R W Y T X) hr Ad.b .nil ap (aa (pv 0) ac)))
  (ah (ar (du (pv 2) T.cl Va.m (rE (mg:=mg) Va.F T) hr1 Va.b .nil ap)))),?_⟩
 refine⟨_,rfl,λ x dx nx ndx nex=>?_⟩;have s0:Same H (upd (upd H dx (.own x)) x (.ins C dx [])):=λ b o e=>by
  rw [av (au e nx),av (au e ndx)];exact e
 refine⟨x,dx,n,q,rfl,hw,af,λ H1 hx1 kp=>⟨rfl,?_⟩⟩;have s1:Same H H1:=λ b o e=>kp b o (s0 b o e) (au e nx)
 refine⟨_,rfl,x,dx,_,rfl,hx1,wA _ _,_,rfl,x,dx,a,n,q,_,B,rfl,hw,?_,hx1,s1 _ _ ha,hb,λ H2 hx2 kp2=>?_⟩
 ·have:=BV (n:=n) (show 0<2 from Z9);exact Nat.sub_one_lt_of_lt this
 have s2:Same H H2:=λ b o e=>kp2 b o (s1 b o e) (au e nx)
 refine⟨_,rfl,x,dx,_,rfl,hx2,wA _ _,x,dx,n,_,rfl,hx2,k H2 s2⟩
end
abbrev xz:EM:=top 41
abbrev cx:EM:=top 42
abbrev fQ:EM:=top 103
abbrev mw:EM:=bW (top 104) 0
abbrev zq:EM:=bW (top 104) 1
structure FnK (K:Frag)(mg:Str->Option ED)(x:Str)(st:EM)(ps:List Str)(f:EC)(fd:EH):Prop where
 F:∃dV,FunD K x x st dV f fd
 m:mg x=some (.ref f)
 b:Binds K fd ps []
 d:∃t,Binds K fd ps [.int 16 t]
theorem FnK.kp {K:Frag}{mg:Str->Option ED}{x:Str}{st:EM}{ps:List Str}(F:FnK K mg x st ps f fd):keepIn K (.ref f)=true:=F.F.elim λ _ h=>h.kp
noncomputable def two (n:Nat):List Nat:=[n/256,n%256]
def sld (R:List Nat):List Nat:=R++two (chk 16 45 R)
def hrow (a b:Nat):List Nat:=[a,b,chk 8 29 [a,b]]
theorem wp8:WP 8 29:=.inl ⟨rfl,rfl⟩
theorem eF:WP 16 45:=.inr ⟨rfl,rfl⟩
theorem bJ {q:Nat}(h:WP n q)(hb:∀b∈R,b<256):chk n q R<2^n:=by
 obtain⟨_,_,_,hq⟩:=h.facts;exact sI hq (by have:=BV (n:=n) (show 0<2 from Z9);exact Nat.sub_one_lt_of_lt this) hb
theorem bH (h:n<65536):∀b∈two n,b<256:=by
 intro b hb;simp only [two,Bc,List.not_mem_nil,or_false] at hb;lia
structure Cks (K:Frag)(mg:Str->Option ED)(C:EC):Prop where
 Z:Chk K mg C
 checkof:∃f fd,FnK K mg "check_of" iy ["row","wide"] f fd
 two:∃f fd,Fn K mg "in_two_bytes" xz ["number"] f fd
 withcheck:∃f fd,Fn K mg "with_check" cx ["row"] f fd
 headrow:∃f fd,Fn K mg "head_row" fQ ["first","inside"] f fd
section
variable {P:EF}{w:EG}{K:Frag}{mg:Str -> Option ED}{base:EJ}{C:EC}
def yQ:Sp:=λ vs H Q _=>∃n:Nat,vs=[vN n]/\n<65536/\∀l,H l=none->Q (.ref l) (upd H l (.lst ((two n).map vN)))
theorem zm:FnScope ["number"] ["number"] (ak xz):=⟨rfl,rfl,rfl,Z8,rfl,Z8,Z8⟩
theorem sK (F:Fn K mg "in_two_bytes" xz ["number"] f fd):FnOk P w K mg base CX0 1 f fd ["number"] yQ:=by
 refine F.F.ok zm λ EO A outer st H vs Q E hr h=>?_
 intro _;obtain⟨n,rfl,hn,k⟩:=h;refine⟨_,ah (ar (aD (aa (ag iD (pv 0) ae) (aa (ag gv (pv 0) ae) ac)))),?_⟩;refine⟨_,rfl,_,_,rfl,rfl,(by show(0:Int)≤8;decide),_,rfl,_,_,rfl,rfl,(by show 2≤sizeLine;decide),λ l nl=>?_⟩;have e1:((n:Nat):Int)/2^Int.toNat 8=((n/256:Nat):Int):=by
  show((n:Nat):Int)/256=_;lia
 have e2:Builtin.bitAnd ((n:Nat):Int) 255=((n%256:Nat):Int):=by
  have:=cW n 8;exact this
 try dsimp only
 rw [e1,e2];exact k l nl
def lH:Sp:=λ vs H Q _=>∃(a:EC) (R:List Nat),vs=[.ref a]/\H a=some (.lst (R.map vN))/\(∀b∈R,b<256)/\R.length≤1000/\∀l H',H l=none->Same H H'->H' l=some (.lst ((sld R).map vN))->Q (.ref l) H'
theorem me:FnScope ["row"] ["row"] (ak cx):=⟨rfl,rfl,rfl,Z8,rfl,Z8,Z8⟩
theorem km (F:Fn K mg "with_check" cx ["row"] f fd)(Y:Cks K mg C):FnOk P w K mg base CX0 7 f fd ["row"] lH:=by
 obtain⟨_,_,Co⟩:=Y.checkof;obtain⟨_,FC⟩:=Co.F;obtain⟨_,_,Tw⟩:=Y.two;obtain⟨t16,B16⟩:=Co.d;refine F.F.ok me λ EO A outer st H vs Q E hr h=>?_
 intro _;obtain⟨a,R,rfl,ha,hb,hl,k⟩:=h;have hr1:Room 1 _:=hr.mono Z9;refine⟨_,ah (ar (ag aJ (pv 0) (ai (sK Tw) hr1 Z7 Tw.m Tw.F.kp Tw.b .nil ap (aa (ai (cn FC Y.Z) hr Z7 Co.m Co.kp B16 (.cons (a:=V.int 16) ⟨_,rfl⟩ .nil) ap (aa (pv 0) ac)) ac)))),?_⟩;refine⟨_,rfl,_,rfl,a,16,45,R,rfl,eF,ha,hb,λ H1 s1=>?_⟩;refine⟨chk 16 45 R,rfl,bJ eF hb,λ l1 n1=>?_⟩;have s2:=aj (o:=.lst ((two (chk 16 45 R)).map vN)) n1;have h11:(upd H1 l1 (.lst ((two (chk 16 45 R)).map vN))) l1=some (.lst ((two (chk 16 45 R)).map vN)):=af;have ha2:=s2 _ _ (s1 _ _ ha);have s12:=s1.trans s2;generalize upd H1 l1 (.lst ((two (chk 16 45 R)).map vN))=H2 at*;refine⟨a,l1,_,_,rfl,rfl,ha2,h11,ck (by rw [z7];show R.length+2≤2000;lia),λ l nl=>?_⟩;exact k l _ (none_of s12 nl) (s12.trans (aj nl)) (by rw [af,<-At];rfl)
def qj:Sp:=λ vs H Q _=>∃(x y:Nat),vs=[vN x,vN y]/\x<256/\y<256/\∀l H',H l=none->Same H H'->H' l=some (.lst ((hrow x y).map vN))->Q (.ref l) H'
theorem qG:FnScope ["first","inside"] ["first","inside"] (ak fQ):=⟨rfl,rfl,rfl,Z8,rfl,Z8,Z8⟩
theorem nz (F:Fn K mg "head_row" fQ ["first","inside"] f fd)(Y:Cks K mg C):FnOk P w K mg base CX0 7 f fd ["first","inside"] qj:=by
 obtain⟨_,_,Co⟩:=Y.checkof;obtain⟨_,FC⟩:=Co.F;refine F.F.ok qG λ EO A outer st H vs Q E hr h=>?_
 intro _;obtain⟨x,y,rfl,hx,hy,k⟩:=h;refine⟨_,ah (ar (aD (aa (pv 0) (aa (pv 1) (aa (ai (cn FC Y.Z) hr Z7 Co.m Co.kp Co.b .nil ap (aa (aD (aa (pv 0) (aa (pv 1) ac))) (aa ae ac))) ac))))),?_⟩;refine⟨_,rfl,_,rfl,_,rfl,_,rfl,(by show 2≤sizeLine;decide),λ l1 n1=>?_⟩;have s1:=aj (o:=.lst [vN x,vN y]) n1;have h11:(upd H l1 (.lst [vN x,vN y])) l1=some (.lst [vN x,vN y]):=af;generalize upd H l1 (.lst [vN x,vN y])=H1 at*;refine⟨l1,8,29,[x,y],rfl,wp8,h11,λ c hc=>by simp at hc;omega,λ H2 s2=>⟨(by show 3≤sizeLine;decide),λ l nl=>?_⟩⟩;exact k l _ (none_of (s1.trans s2) nl) ((s1.trans s2).trans (aj nl)) af
end
end K28.Ck
set_option maxHeartbeats 2000000
namespace L2
open PySem PySem.Spec PySem.Calls PyProof.Rows QQ PySem.W
section
variable {X:Cx}{EN:List (EC × EL)}{σ:St}{H:Hp}{s:EE}
end
section
variable {X:Cx}{k:Nat}{e body:EK}{te:TE}{p kp pos lpos:Pos}{y:Str}{Nc:List Str}{scope:Scope}{params:Arguments}{cl:List (Str × EC)}{js:List Nat}{P c:EC}
end
section
variable {X:Cx}{o e:EK}{es:List EK}{m:Str}{apos pos:Pos}{k:Nat}{ta:TE}{t:TA}
end
end L2
namespace L2
open PySem
theorem on {a b x:Str}{i j k:Nat}(h1: [a,b][i]?=some x)(h2: [none,some k][i]?=some (some j)):x=b/\j=k:=by
 rcases i with _|_|i
 ·cases h2
 ·cases h1;cases h2;exact⟨rfl,rfl⟩
 ·cases h1
end L2
set_option maxHeartbeats 4000000
namespace L2
open PySem PySem.Spec PySem.Calls PyProof.Rows QQ PySem.W
section
variable {X:Cx}{o:EK}{m:Str}{apos pos:Pos}{k:Nat}{ta:TE}
end
end L2
namespace K28.Ck
open PySem L2 QQ W17 W16 BP
seal PE PA PS PSs PT PW PG PI
theorem x8:¬(("way":Str)="count"):=Z8
theorem yS:¬(("way":Str)="inside"):=Z8
theorem yZ:¬(("count":Str)="inside"):=Z8
noncomputable def fH (a b c:Nat):List (Str×V):=[("way",vN a),("count",vN b),("inside",vN c)]
theorem oU (a b c:Nat):bQ "inside" (vN c) (bQ "count" (vN b) (bQ "way" (vN a) []))=fH a b c:=by
 show(bQ "inside" (vN c) (if("way":Str)="count" then _ else(("way":Str),vN a):: [("count",vN b)]))=_;rw [AO x8];show(if("way":Str)="inside" then _ else(("way":Str),vN a)::(if("count":Str)="inside" then _ else(("count":Str),vN b):: [("inside",vN c)]))=_;rw [AO yS,AO yZ];rfl
theorem xq (a b c:Nat):(fH a b c).lookup ("way":Str)=some (vN a):=by rw [<-oU,aO,AO yS,aO,AO x8,aO,AV rfl]
theorem qS (a b c:Nat):(fH a b c).lookup ("count":Str)=some (vN b):=by rw [<-oU,aO,AO yZ,aO,AV rfl]
theorem zB (a b c:Nat):(fH a b c).lookup ("inside":Str)=some (vN c):=by rw [<-oU,aO,AV rfl]
structure CH (K:Frag)(mg:Str->Option ED)(C:EC):Prop where
 cl:Cls K C
 nW:NoAttr K C "way"
 nC:NoAttr K C "count"
 nI:NoAttr K C "inside"
 m:mg "Head"=some (.ref C)
 init:∃f fd,Fun K "__init__" "Head.__init__" mw f fd/\Binds K fd ["self","way","count","inside"] []/\Mk K C f
 row:∃f fd,Me K C "row" "Head.row" zq ["self"] f fd
section
variable {C CC':EC}
def vf (C:EC):Sp:=λ vs H Q _=>∃(p dx a b c:Nat),vs=[.ref p,vN a,vN b,vN c]/\H p=some (.ins C dx [])/\∀H',H' p=some (.ins C dx (fH a b c))->(∀b o,H b=some o->b≠p->H' b=some o)->Q .non H'
theorem uK:FnScope ["self","way","count","inside"] ["self","way","count","inside"] (ak mw):=⟨rfl,rfl,rfl,Z8,rfl,Z8,Z8⟩
theorem rW {f:EC}{fd:EH}(F:Fun K "__init__" "Head.__init__" mw f fd)(T:CH K mg C):FnOk P w K mg base CX0 1 f fd ["self","way","count","inside"] (vf C):=by
 refine F.ok uK λ EO A outer st H vs Q E hr h=>?_
 intro _;obtain⟨p,dx,a,b,c,rfl,hp,k⟩:=h;refine⟨_,ad (dI (pv 0) (pv 1) rfl)
  (ad (dI (pv 0) (pv 2) rfl)
  (ah (dI (pv 0) (pv 3) rfl))),?_⟩
 refine⟨_,rfl,_,rfl,p,C,dx,[],rfl,hp,T.cl,T.nW,(by show 0<1000;decide),?_⟩;refine⟨_,rfl,_,rfl,p,C,dx,_,rfl,af,T.cl,T.nC,(by show 1<1000;decide),?_⟩;refine⟨_,rfl,_,rfl,p,C,dx,_,rfl,af,T.cl,T.nI,(by rw [show(bQ "count" (vN b) (bQ "way" (vN a) [])).length=2 by show(if("way":Str)="count" then _ else(("way":Str),vN a):: [("count",vN b)]).length=2;rw [AO x8];rfl];decide),?_⟩;exact k _ (Eq.trans af (AB (λ l=>some (HO.ins C dx l)) (oU a b c))) λ d o e hd=>by rw [av hd,av hd,av hd];exact e
end
end K28.Ck
set_option maxHeartbeats 4000000
namespace K28.Rf
open PySem L2 QQ W16
seal PE PA PS PSs PT PW PG PI
variable {f fW:EC}{fd fdW:EH}{t:String}{H:Hp}
section
variable (K:Frag)
theorem xO:kitOne K (.type "bool") (.type "bool")=some true:=by
 show(if(Value.type "bool"==Value.type "bool")=true then some true else if kitMeta "bool"=true then(fastBuiltinMro "bool").map (·.contains (.type "bool")) else none)=some true;decide+kernel
theorem sO {c:String}(h:(["NoneType","str","list","tuple","dict"].contains t&& ["int","bool"].contains c)=true):kitOne K (.type t) (.type c)=some false:=by
 show(if(Value.type t==Value.type c)=true then some true else if kitMeta c=true then(fastBuiltinMro t).map (·.contains (.type c)) else none)=some false;have ht:t="NoneType"\/t="str"\/t="list"\/t="tuple"\/t="dict":=by
  have:=(Bool.and_eq_true_iff.mp h).1;simpa using this
 have hc:c="int"\/c="bool":=by
  have:=(Bool.and_eq_true_iff.mp h).2;simpa using this
 rcases ht with rfl|rfl|rfl|rfl|rfl<;>rcases hc with rfl|rfl<;>decide+kernel
theorem kit_nl (h: ["NoneType","str","int","bool","tuple","dict"].contains t=true):kitOne K (.type t) (.type "list")=some false:=by
 show(if(Value.type t==Value.type "list")=true then some true else if kitMeta "list"=true then(fastBuiltinMro t).map (·.contains (.type "list")) else none)=some false;have ht:t="NoneType"\/t="str"\/t="int"\/t="bool"\/t="tuple"\/t="dict":=by simpa using h
 rcases ht with rfl|rfl|rfl|rfl|rfl|rfl<;>decide+kernel
theorem wH:kitOne K (.type "bool") (.type "int")=some true:=by
 show(if(Value.type "bool"==Value.type "int")=true then some true else if kitMeta "int"=true then(fastBuiltinMro "bool").map (·.contains (.type "int")) else none)=some true;decide+kernel
def NoInt (H:Hp)(x:V):Prop:=∃t b c,TyOf K H x t/\kitOne K t (.type "int")=some c/\kitOne K t (.type "bool")=some b/\(c=false\/b=true)
def WhV (H:Hp)(x:V)(lo hi:Int)(b:Bool):Prop:=(∃i,x=.int i/\b=(decide (lo≤i)&&decide (i≤hi)))\/(NoInt K H x/\b=false)
variable {K}
theorem NoInt.bl (b:Bool):NoInt K H (.bl b):=⟨_,true,true,.bl b,wH K,xO K,.inr rfl⟩
theorem NoInt.of {x:V}(ty:TyOf K H x (.type t))(h: ["NoneType","str","list","tuple","dict"].contains t=true):NoInt K H x:=
 ⟨_,false,false,ty,sO K (by rw [h];rfl),sO K (by rw [h];rfl),.inl rfl⟩
theorem NoInt.non:NoInt K H .non:=.of .non Z9
theorem NoInt.str (x:Str):NoInt K H (.str x):=.of (.str x) Z9
def NoRow (K:Frag)(H:Hp)(x:V):Prop:=(∃t,TyOf K H x t/\kitOne K t (.type "list")=some false)\/
 ∃(a:EC) (xs:List V) (j:Nat) (y:V),x=.ref a/\H a=some (.lst xs)/\(∀i:Nat,i<j->∃n:Nat,n<256/\xs[i]?=some (vN n))/\xs[j]?=some y/\WhV K H y 0 255 false
def IsR (H:Hp)(x:V)(B:List Nat):Prop:=∃a,x=.ref a/\H a=some (.lst (B.map vN))/\∀b∈B,b<256
end
theorem mapI (R:List Nat):R.map vN=(R.map λ b=>((b:Nat):Int)).map V.int:=by rw [Dw];rfl
section
def dN (K:Frag):Sp:=λ vs H Q _=>∃(x:V) (lo hi:Int) (b:Bool),vs=[x,.int lo,.int hi]/\WhV K H x lo hi b/\Q (.bl b) H
def oh (K:Frag):Sp:=λ vs H Q _=>∃(x:V) (b:Bool),vs=[x]/\((∃i,x=.int i/\b=true)\/(NoInt K H x/\b=false))/\Q (.bl b) H
theorem ok_numb (F:Fun K "is_number" "is_number" hJ f fd)(T:Txt K mg):FnOk P w K mg base CX0 0 f fd ["thing"] (oh K):=by
 refine F.ok0 rj λ EO A outer s H vs Q E h=>?_
 intro _;obtain⟨x,b,rfl,hw,k⟩:=h;refine⟨_,ah (ar (dH (aw bU Z7 T.isi AH (aa (pv 0) (aa (b7 (v:=.ty "int") Z7 T.int BM rfl) ac))) (dP (oo (aw bU Z7 T.isi AH (aa (pv 0) (aa (b7 (v:=.ty "bool") Z7 T.bool Dj rfl) ac))))))),?_⟩;rcases hw with⟨i,rfl,rfl⟩|⟨⟨t,b',c,ty,k1,k2,k3⟩,rfl⟩
 ·refine⟨_,rfl,_,_,_,_,rfl,.int _,oi K,_,rfl,bR ?_⟩;exact⟨_,rfl,_,_,_,_,rfl,.int _,nM K,_,rfl,k⟩
 ·refine⟨_,rfl,_,_,_,_,rfl,ty,k1,_,rfl,?_⟩;cases c with
  |false=>exact bq k
  |true=>
   rcases k3 with k3|k3
   ·cases k3
   ·subst k3;exact bR ⟨_,rfl,_,_,_,_,rfl,ty,k2,_,rfl,k⟩
theorem eg (F:Fn K mg "is_whole" cm ["thing","least","most"] f fd)(T:Txt K mg):FnOk P w K mg base CX0 1 f fd ["thing","least","most"] (dN K):=by
 obtain⟨fN,fdN,NF,Nm,Nb⟩:=T.isnumb;refine F.F.ok pV λ EO A outer s H vs Q E hr h=>?_
 intro _;obtain⟨x,lo,hi,b,rfl,hw,k⟩:=h;refine⟨_,ah (ar (dH (ai (ok_numb NF T) hr Z7 Nm NF.kp Nb .nil ap (aa (pv 0) ac)) (dP (lL oJ oJ (pv 1) (pv 0) (pv 2))))),?_⟩;rcases hw with⟨i,rfl,rfl⟩|⟨hN,rfl⟩
 ·refine⟨_,rfl,_,true,rfl,.inl ⟨i,rfl,rfl⟩,_,rfl,bR ?_⟩;refine⟨_,rfl,_,rfl,_,_,rfl,rfl,_,rfl,?_⟩;refine bi (λ h1=>?_) (λ h1=>?_)
  ·refine⟨_,rfl,_,_,rfl,rfl,?_⟩;rw [h1,Bool.true_and] at k;exact k
  ·have h2:decide (lo≤i)=false:=by simpa using h1
   rw [h2,Dt] at k;exact k
 ·exact⟨_,rfl,_,false,rfl,.inr ⟨hN,rfl⟩,_,rfl,bq k⟩
def fv (K:Frag):Sp:=λ vs H Q _=>∃x:V,vs=[x,.int 0,.int 255]/\((∃B,IsR H x B/\Q (.bl true) H)\/(NoRow K H x/\Q (.bl false) H))
theorem pi (b:Nat)(h:b<256):(decide ((0:Int)≤(b:Int))&&decide ((b:Int)≤255))=true:=by
 rw [Ai (Bd _),Ai Z5];rfl
theorem d9 (F:Fn K mg "are_whole" eQ ["thing","least","most"] f fd)(W:Fn K mg "is_whole" cm ["thing","least","most"] fW fdW)(T:Txt K mg):FnOk P w K mg base CX0 2 f fd ["thing","least","most"] (fv K):=by
 have GW:FnOk P w K mg base CX0 1 fW fdW ["thing","least","most"] (dN K):=eg W T;refine F.F.ok scAreWhole λ EO A outer s H vs Q E hr h=>?_
 intro _;obtain⟨x,rfl,h⟩:=h;refine⟨_,ad (aK (bp (bj (aw bU Z7 T.isi AH (aa (pv 0) (aa (b7 (v:=.ty "list") Z7 T.list Bp rfl) ac))))) (ah (ar bo)) ay)
  (ad (cr Bj rfl (cy (pv 0)) (aG (i:=3) scAreWhole.nd)
   (ah (aK (bp (bj (ai GW hr Z7 W.m W.F.kp W.b .nil ap (aa (pv 3) (aa (pv 1) (aa (pv 2) ac)))))) (ah (ar bo)) ay)))
  (ah (ar bo))),?_⟩
 rcases h with⟨B,⟨a,rfl,hB,hb⟩,k⟩|⟨⟨t,ty,kl⟩|⟨a,xs,j,y,rfl,hL,hg1,hj,hy⟩,k⟩
 ·refine⟨_,rfl,_,_,_,_,rfl,.lst hB,jT K,_,rfl,bq ?_⟩;refine⟨_,rfl,a,rfl,⟨_,SqL.of hB⟩,cX (K:=K) (a:=a) (xs:=B.map vN) (λ i σ H2=>∃v:Option V,σ=[some (.ref a),some (.int 0),some (.int 255),v]/\H2=H)
   ⟨none,rfl,rfl⟩ (λ i σ H2 _ z9=>by obtain⟨_,_,e⟩:=z9;exact by rw [e];exact SqL.of hB) ?_ ?_⟩
  ·rintro i y σ H2 hi ⟨v,rfl,rfl⟩;obtain⟨b,hb1,rfl⟩:∃b,b∈B/\y=vN b:=by
    rw [Au] at hi;cases e:B[i]? with
    |none=>rw [e] at hi;cases hi
    |some z=>rw [e] at hi;exact⟨z,BC e,(AY hi).symm⟩
   refine⟨_,rfl,_,rfl,_,rfl,_,_,_,_,rfl,.inl ⟨_,rfl,rfl⟩,_,rfl,?_⟩;rw [pi b (hb b hb1)];exact bq ⟨_,rfl,rfl⟩
  ·rintro σ H2 ⟨v,rfl,rfl⟩;exact k
 ·exact⟨_,rfl,_,_,_,_,rfl,ty,kl,_,rfl,bR k⟩
 ·refine⟨_,rfl,_,_,_,_,rfl,.lst hL,jT K,_,rfl,bq ?_⟩;refine⟨_,rfl,a,rfl,⟨_,SqL.of hL⟩,cX (K:=K) (a:=a) (xs:=xs) (λ i σ H2=>i≤j/\∃v:Option V,σ=[some (.ref a),some (.int 0),some (.int 255),v]/\H2=H)
   ⟨AZ _,none,rfl,rfl⟩ (λ i σ H2 _ z9=>by obtain⟨_,_,_,e⟩:=z9;exact by rw [e];exact SqL.of hL) ?_ ?_⟩
  ·rintro i z σ H2 hi ⟨hij,v,rfl,rfl⟩;by_cases e:i=j
   ·subst e;rw [hj] at hi;cases hi;exact⟨_,rfl,_,rfl,_,rfl,_,_,_,_,rfl,hy,_,rfl,bR k⟩
   ·obtain⟨n,hn,e2⟩:=hg1 i (Nat.lt_of_le_of_ne hij e);rw [e2] at hi;cases hi;refine⟨_,rfl,_,rfl,_,rfl,_,_,_,_,rfl,.inl ⟨_,rfl,rfl⟩,_,rfl,?_⟩;rw [pi n hn];exact bq ⟨Z5,_,rfl,rfl⟩
  ·rintro σ H2 ⟨hij,v,rfl,rfl⟩;have:=(Ak.mp hj).1;lia
def spIsRow (K:Frag):Sp:=λ vs H Q _=>∃x:V,vs=[x]/\((∃B,IsR H x B/\Q (.bl true) H)\/(NoRow K H x/\Q (.bl false) H))
theorem iq (F:Fn K mg "is_row" fm ["thing"] f fd)(W:Fn K mg "is_whole" cm ["thing","least","most"] fW fdW)(Y:Rows K mg):FnOk P w K mg base CX0 3 f fd ["thing"] (spIsRow K):=by
 obtain⟨fA,fdA,AW⟩:=Y.arewhole;have T:=Y.X;obtain⟨tg,hg⟩:=T.great;refine F.F.ok pj λ EO A outer s H vs Q E hr h=>?_
 intro _;obtain⟨x,rfl,h⟩:=h;refine⟨_,ah (ar (ai (d9 AW W T) hr Z7 AW.m AW.F.kp AW.b .nil ap (aa (pv 0) (aa ae (aa (aP (v:=.int 255) Z7 hg ⟨tg,rfl⟩) ac))))),?_⟩;exact⟨_,rfl,x,rfl,h⟩
def spNeedRow (K:Frag)(cR:EC):Sp:=λ vs H Q E=>∃x:V,vs=[x]/\((∃B,IsR H x B/\∀l,H l=none->Q (.ref l) (upd H l (.lst (B.map vN))))\/(NoRow K H x/\E (.ref cR) none H))
theorem dS {cR:EC}{fR:EC}{fdR:EH}(F:Fn K mg "need_row" b9 ["thing"] f fd)(R:Fn K mg "is_row" fm ["thing"] fR fdR)(W:Fn K mg "is_whole" cm ["thing","least","most"] fW fdW)(Y:Rows K mg)(mR:mg "BadRow"=some (.ref cR))(xR:ExC K cR):
  FnOk P w K mg base (CXE P w) 31 f fd ["thing"] (spNeedRow K cR):=by
 have GR:FnOk P w K mg base CX0 3 fR fdR ["thing"] (spIsRow K):=iq R W Y;have T:=Y.X;refine F.F.okE jw λ EO A outer s H vs Q E hr h=>?_
 intro _;obtain⟨x,rfl,h⟩:=h;have hr2:Room 3 _:=hr.mono Z9;refine⟨_,ad (aK (bp (bj (ai GR hr2 Z7 R.m R.F.kp R.b .nil ap (aa (pv 0) ac)))) (ah (aW aV (hr.hd Z9) Z7 mR xR aB)) ay)
  (ah (ar (bD cL Z7 T.list Bp (aa (pv 0) ac)))),?_⟩
 rcases h with⟨B,⟨a,rfl,hB,hb⟩,k⟩|⟨hN,k⟩
 ·refine⟨_,rfl,_,rfl,.inl ⟨B,⟨a,rfl,hB,hb⟩,_,rfl,bq ?_⟩⟩;exact⟨_,rfl,a,_,rfl,.inl (SqL.of hB),k⟩
 ·exact⟨_,rfl,_,rfl,.inr ⟨hN,_,rfl,bR k⟩⟩
end
end K28.Rf
set_option maxHeartbeats 4000000
namespace L2
open PySem PySem.Spec PyProof.Rows QQ
section
variable {X:Cx}
def tFs (n:Int)(te:TE):TE:=λ σ H Q=>te σ H λ v H1=>v=.int n/\∀z:Str,Q (.str z) H1
theorem yU {n:Int}{e:EK}{te:TE}{a b:Str}{j1 j2:Nat}{p1 p2 p3 pos:Pos}(he:PE X e te)(hn:autoParam (n.natAbs.log2<1920) ZZ)(h1:autoParam ((Str.empty++a).length≤sizeLine) ZZ)(h2:autoParam ((Str.empty++a++Str.ofString (toString n)).length≤sizeLine) ZZ)
  (h3:autoParam ((Str.empty++a++Str.ofString (toString n)++b).length≤sizeLine) ZZ):PE X (.JoinedStr [.Constant (.str a) j1 p1,.FormattedValue e (-1) none p2,.Constant (.str b) j2 p3] pos) (tFs n te):=by
 intro EN s σ H Q I h;refine wpAny_JoinedStr ?_;show wpAny _ _ (eval (.Constant (.str a) j1 p1) X.env) _ _ s;refine Ea ⟨a,_,rfl,h1,?_⟩;show wpAny _ _ (eval (.FormattedValue e (-1) none p2) X.env) _ _ _;refine wpAny_FormattedValue_plain (thn (he EN _ σ H _ (I.tok _) h) λ v s1 z9=>?_);obtain⟨y,H1,I1,r1,q1⟩:=z9;obtain⟨rfl,q1⟩:=q1;obtain⟨t,rfl⟩:=r1;refine wpAny_formatField_int hn ⟨Str.ofString (toString n),_,rfl,h2,?_⟩;show wpAny _ _ (eval (.Constant (.str b) j2 p3) X.env) _ _ _;refine Ea ⟨b,_,rfl,h3,h3,?_⟩;exact⟨.str _,H1,(I1.tok _),⟨_,rfl⟩,q1 _⟩
end
end L2
set_option maxHeartbeats 4000000
namespace K28.Rf
open PySem L2 QQ W16
seal PE PA PS PSs PT PW PG PI
variable {f:EC}{fd:EH}{x:V}{H H':Hp}
section
variable {K:Frag}
theorem TyOf.same {t:ED}(s:Same H H')(h:TyOf K H x t):TyOf K H' x t:=by
 cases h with
 |non=>exact .non
 |bl y=>exact .bl y
 |int i=>exact .int i
 |str y=>exact .str y
 |flt y=>exact .flt y
 |lst e=>exact .lst (s _ _ e)
 |frz e=>exact .frz (s _ _ e)
 |tup e=>exact .tup (s _ _ e)
 |dK e=>exact .dK (s _ _ e)
 |dT e=>exact .dT (s _ _ e)
 |ins e cl ha hn htk hm=>exact .ins (s _ _ e) cl ha hn htk hm
theorem NoInt.same (s:Same H H')(h:NoInt K H x):NoInt K H' x:=by
 obtain⟨t,b,c,ty,r⟩:=h;exact⟨t,b,c,TyOf.same s ty,r⟩
end
def Win (H:Hp)(x:V)(W:List Nat):Prop:=(x=.non/\W=[])\/IsR H x W
def wl (K:Frag)(H:Hp)(x:V)(m:Nat):Prop:=(x≠ .non/\NoRow K H x)\/∃W,IsR H x W/\m<W.length
structure Nr (K:Frag)(mg:Str->Option ED)(cR:EC):Prop where
 Y:Rows K mg
 need:∃f fd,Fn K mg "need_row" b9 ["thing"] f fd
 mR:mg "BadRow"=some (.ref cR)
 xR:ExC K cR
section
variable {cR:EC}
theorem Nr.ok (Z:Nr K mg cR):∃f fd,Fn K mg "need_row" b9 ["thing"] f fd/\∀(P:EF) (w:EG) (base:EJ),FnOk P w K mg base (CXE P w) 31 f fd ["thing"] (spNeedRow K cR):=by
 obtain⟨f,fd,N⟩:=Z.need;obtain⟨_,_,R⟩:=Z.Y.isrow;obtain⟨_,_,W⟩:=Z.Y.whole;exact⟨f,fd,N,λ _ _ _=>dS N R W Z.Y Z.mR Z.xR⟩
def qU (K:Frag)(cR:EC):Sp:=λ vs H Q E=>∃x:V,vs=[x,.int 192]/\((∃W,Win H x W/\W.length≤192/\∀l,H l=none->Q (.ref l) (upd H l (.lst (W.map vN))))\/(wl K H x 192/\∀H',Same H H'->E (.ref cR) none H'))
theorem scNeedWin:FnScope ["before","most","window"] ["before","most"] (ak fP):=⟨rfl,rfl,rfl,Z8,rfl,Z8,Z8⟩
theorem mV (F:Fn K mg "need_window" fP ["before","most"] f fd)(Z:Nr K mg cR):
  FnOk P w K mg base (CXE P w) 32 f fd ["before","most"] (qU K cR):=by
 obtain⟨_,_,N,GN'⟩:=Z.ok;have GN:=GN' P w base;have T:=Z.Y.X;refine F.F.okE scNeedWin λ EO A outer s H vs Q E hr h=>?_
 intro _;obtain⟨x,rfl,h⟩:=h;refine⟨_,ad (aK (ax ie (pv 0) cF (az _)) (ah (ar (aD ac))) ay)
  (ad (ao (i:=2) scNeedWin.nd (ai GN hr Z7 N.m N.F.kp N.b .nil aV (aa (pv 0) ac)))
  (ad (aK (ax ek (aw aq Z7 T.len As (aa (pv 2) ac)) (pv 1) (az _)) (ah (aW aV (hr.hd Z9) Z7 Z.mR Z.xR (yU (n:=192) (pv 1)))) ay)
  (ah (ar (pv 2))))),?_⟩
 rcases h with⟨W,⟨rfl,rfl⟩|⟨b,rfl,hB,hb⟩,hl,k⟩|⟨⟨hx,hN⟩|⟨W,⟨b,rfl,hB,hb⟩,hl⟩,k⟩
 ·exact⟨_,rfl,rfl,_,rfl,bi (λ _=>⟨Z9,k⟩) (λ h=>absurd (Ai rfl) h)⟩
 ·refine⟨_,rfl,rfl,_,rfl,bi (λ h=>absurd (Aq h) (by intro z;cases z)) (λ _=>?_)⟩;refine⟨_,rfl,_,rfl,.inl ⟨W,⟨b,rfl,hB,hb⟩,λ l hn=>?_⟩⟩;refine⟨_,rfl,l,_,rfl,.inl (SqL.of af),_,rfl,_,_,rfl,rfl,_,rfl,bi (λ h=>?_) (λ _=>?_)⟩
  ·have:=Aq h;rw [z7] at this;exact absurd (Int.ofNat_lt.1 this) (Nat.not_lt.2 hl)
  ·exact⟨_,rfl,k l hn⟩
 ·refine⟨_,rfl,rfl,_,rfl,bi (λ h=>absurd (Aq h) hx) (λ _=>?_)⟩;exact⟨_,rfl,x,rfl,.inr ⟨hN,k _ (Same.refl H)⟩⟩
 ·refine⟨_,rfl,rfl,_,rfl,bi (λ h=>absurd (Aq h) (by intro z;cases z)) (λ _=>?_)⟩;refine⟨_,rfl,_,rfl,.inl ⟨W,⟨b,rfl,hB,hb⟩,λ l hn=>?_⟩⟩;refine⟨_,rfl,l,_,rfl,.inl (SqL.of af),_,rfl,_,_,rfl,rfl,_,rfl,bi (λ _=>?_) (λ h=>?_)⟩
  ·exact⟨_,rfl,rfl,λ z=>k _ (aj hn)⟩
  ·exfalso;exact h (Ai (by rw [z7];exact Int.ofNat_lt.2 hl))
def lK (K:Frag)(cR:EC):Sp:=λ vs H Q E=>∃x:V,vs=[x]/\((∃W,Win H x W/\W.length≤192/\∀l,H l=none->Q (.ref l) (upd H l (.lst (W.map vN))))\/(wl K H x 192/\∀H',Same H H'->E (.ref cR) none H'))
theorem ma:FnScope ["before"] ["before"] (ak fu):=⟨rfl,rfl,rfl,Z8,rfl,Z8,Z8⟩
theorem ok_needahead {fN:EC}{fdN:EH}(F:Fn K mg "need_ahead" fu ["before"] f fd)(N:Fn K mg "need_window" fP ["before","most"] fN fdN)(Z:Nr K mg cR):
  FnOk P w K mg base (CXE P w) 33 f fd ["before"] (lK K cR):=by
 have GN:=mV (P:=P) (w:=w) (base:=base) N Z;obtain⟨tg,hg⟩:=Z.Y.X.ahead;refine F.F.okE ma λ EO A outer s H vs Q E hr h=>?_
 intro _;obtain⟨x,rfl,h⟩:=h;refine⟨_,ah (ar (ai GN hr Z7 N.m N.F.kp N.b .nil aV (aa (pv 0) (aa (aP (v:=.int 192) Z7 hg ⟨tg,rfl⟩) ac)))),?_⟩;exact⟨_,rfl,x,rfl,h⟩
end
end K28.Rf
set_option maxHeartbeats 4000000
namespace K28
open PySem L2 QQ W17 W16 BP
seal PE PA PS PSs PT PW PG PI
variable {fd fdB fdL fdO:EH}{f fL fO:EC}
abbrev gn:EM:=top 33
abbrev nO:EM:=bW (top 34) 0
abbrev oO:EM:=bW (top 34) 1
abbrev kY:EM:=bW (top 34) 2
abbrev nF:EM:=bW (top 34) 5
def bt (R:List Nat)(t s:Nat):Nat:=val R/2^(8*R.length-(t+s))%2^s
section
theorem scBitsAt:FnScope ["row","place","size","end","bytes_to_end","number","byte"] ["row","place","size"] (ak gn):=scK Z8
theorem jK (F:Fn K mg "bits_at" gn ["row","place","size"] f fd)(O:Fn K mg "ones" jh ["size"] fO fdO)(T:Txt K mg):FnOk P w K mg base CX0 2 f fd ["row","place","size"] iI:=by
 have GO:FnOk P w K mg base CX0 1 fO fdO ["size"] spOnes:=vh O;refine F.F.ok scBitsAt λ EO A outer st H vs Q E hr h=>?_
 intro _;obtain⟨a,B,p,s,rfl,hB,hb,hps,hs,k⟩:=h;refine⟨_,ad (ao (i:=3) scBitsAt.nd (ag aF (pv 1) (pv 2)))
  (ad (ao (i:=4) scBitsAt.nd (ag aQ (ag aF (pv 3) ae) ae))
  (ad (ao (i:=5) scBitsAt.nd ae)
  (ad (cr Bj rfl (cy (aC aL (pv 0) (aA (ag aQ (pv 1) ae)) (aA (pv 4)))) (aG (i:=6) scBitsAt.nd)
   (ah (ao (i:=5) scBitsAt.nd (ag y4 (ag ij (pv 5) ae) (pv 6)))))
  (ah (ar (ag gv (ag iD (pv 5) (ag aU (ag bE ae (pv 4)) (pv 3))) (ai GO hr (by rfl) O.m O.F.kp O.b .nil ap (aa (pv 2) ac)))))))),?_⟩
 refine⟨_,rfl,_,rfl,_,_,rfl,rfl,?_⟩;refine⟨_,rfl,_,_,rfl,rfl,_,_,rfl,rfl,⟨by decide,by decide⟩,?_⟩;have e1:((p:Int)+(s:Int)+7)/8=(((p+s+7)/8:Nat):Int):=by omega
 have e2:(p:Int)/8=((p/8:Nat):Int):=by omega
 have e3:(p:Int)+(s:Int)=((p+s:Nat):Int):=by omega
 have h1:p/8≤(p+s+7)/8:=by omega
 have h2:(p+s+7)/8≤B.length:=by omega
 try dsimp only
 rw [e1,e3];refine⟨_,rfl,_,rfl,_,_,rfl,rfl,⟨by decide,by decide⟩,_,rfl,_,rfl,_,rfl,a,_,rfl,SqL.of hB,λ l hl=>?_⟩
 try dsimp only
 rw [e2,eW h1 h2];have hc:∀b∈(B.take ((p+s+7)/8)).drop (p/8),b<256:=λ b hb'=>hb b (AG (A0 hb'))
 have hcl:((B.take ((p+s+7)/8)).drop (p/8)).length≤4:=by rw [Ax,Aj];omega
 have key:=BP.bits_cut hb hps;generalize (B.take ((p+s+7)/8)).drop (p/8)=C at*;have sm:Same H (upd H l (.lst (C.map vN))):=λ b o e=>by rw [av (au e hl)];exact e
 refine⟨l,rfl,⟨_,SqL.of af⟩,cX (D:=⟨_,_,λ _ _=>False,λ _ _=>False⟩) (K:=K) (a:=l) (xs:=C.map vN) (λ i σ H2=>∃v:Option V,σ=[some (.ref a),some (vN p),some (vN s),some (vN (p+s)),some (vN ((p+s+7)/8)),some (vN (BP.val (C.take i))),v]/\H2=upd H l (.lst (C.map vN)))
  ⟨none,rfl,rfl⟩ (λ i σ H2 _ z9=>by obtain⟨_,_,e⟩:=z9;exact by rw [e];exact SqL.of af) ?_ ?_⟩
 ·rintro i y σ H2 hi ⟨v,rfl,rfl⟩;obtain⟨b,hb1,rfl⟩:=jX hi;have hb2:b<256:=hc b (BC hb1);have hil:i<C.length:=(Ak.mp hb1).1;have hv:BP.val (C.take i)<256^(C.take i).length:=BP.val_lt λ b hb'=>hc b (AG hb')
  have hv2:BP.val (C.take i)<256^4:=Ap hv (DG (by decide) (by rw [Aj];omega));refine⟨_,rfl,_,_,rfl,rfl,⟨by decide,by decide,?_⟩,_,rfl,_,_,rfl,rfl,?_⟩
  ·have:(256:Nat)^4<2^64:=by decide
   omega
  ·have e:=wO (BP.val (C.take i)) b 8 hb2;have e':BP.val (C.take i)*2^8+b=BP.val (C.take (i+1)):=by rw [eR hb1,BP.val_snoc]
   try dsimp only
   rw [e'] at e;exact⟨some (vN b),AB (λ z:Int=>[some (V.ref a),some (vN p),some (vN s),some (vN (p+s)),some (vN ((p+s+7)/8)),some (V.int z),some (vN b)]) e,rfl⟩
 ·rintro σ H2 ⟨v,rfl,rfl⟩
  try dsimp only
  rw [z7,Bx];have e4:(8:Int)*(((p+s+7)/8:Nat):Int)-((p+s:Nat):Int)=((8*((p+s+7)/8)-(p+s):Nat):Int):=by omega
  refine⟨_,rfl,_,rfl,_,_,rfl,rfl,.inl ⟨by decide,by decide⟩,_,rfl,_,_,rfl,rfl,?_⟩
  try dsimp only
  rw [e4];refine⟨_,_,rfl,rfl,by omega,_,rfl,s,rfl,by omega,_,_,rfl,rfl,?_⟩
  try dsimp only
  rw [ka,cW,key];exact k _ sm
end
structure ReadAt (C:EC)(H:Hp)(p d:EC)(R:List Nat)(t:Nat):Prop where
 ob:∃dx,H p=some (.ins C dx (fR d t))
 ls:H d=some (.lst (R.map vN))
 by':∀b∈R,b<256
 le:t≤8*R.length
structure CRd (K:Frag)(mg:Str->Option ED)(C:EC):Prop where
 cl:Cls K C
 nH:NoAttr K C "held"
 nT:NoAttr K C "taken"
section
variable {C:EC}
def uU (C:EC):Sp:=λ vs H Q _=>∃(p dx a:EC) (R:List Nat),vs=[.ref p,.ref a]/\H p=some (.ins C dx [])/\H a=some (.lst (R.map vN))/\(∀b∈R,b<256)/\
 ∀(d:EC) (H':Hp),H d=none->ReadAt C H' p d R 0->(∀b o,H b=some o->b≠p->H' b=some o)->Q .non H'
theorem vv:FnScope ["self","row"] ["self","row"] (ak nO):=scK Z8
theorem rH {fN:EC}{fdN:EH}(F:Fun K "__init__" "BitReader.__init__" nO f fd)(N:Fn K mg "need_row" b9 ["thing"] fN fdN)(Y:Rows K mg)(T:CRd K mg C):FnOk P w K mg base CX0 5 f fd ["self","row"] (uU C):=by
 have GN:FnOk P w K mg base CX0 4 fN fdN ["thing"] spNeedRow:=dS N Y;refine F.ok vv λ EO A outer st H vs Q E hr h=>?_
 intro _;obtain⟨p,dx,a,R',rfl,hp,ha,hb,k⟩:=h;refine⟨_,ad (dI (pv 0) (ai GN hr (by rfl) N.m N.F.kp N.b .nil ap (aa (pv 1) ac)) rfl) (ah (dI (pv 0) ae rfl)),?_⟩;refine⟨_,rfl,a,R',rfl,ha,hb,λ d hd=>?_⟩;have npd:p≠d:=au hp hd;refine⟨_,rfl,p,C,dx,[],rfl,(by rw [av npd];exact hp),T.cl,T.nH,(by show 0<1000;decide),_,rfl,p,C,dx,_,rfl,af,T.cl,T.nT,(by show 1<1000;decide),?_⟩;refine k d _ hd ⟨⟨dx,Eq.trans af (AB (λ l=>some (HO.ins C dx l)) (pI d 0))⟩,by rw [av npd.symm,av npd.symm,af],hb,AZ _⟩ λ b o e hb=>?_
 rw [av hb,av hb,av (au e hd)];exact e
def spLeft (C:EC):Sp:=λ vs H Q _=>∃(p d:EC) (R:List Nat) (t:Nat),vs=[.ref p]/\ReadAt C H p d R t/\Q (vN (8*R.length-t)) H
theorem wU:FnScope ["self"] ["self"] (ak kY):=scK Z8
theorem pJ (F:Fun K "left" "BitReader.left" kY f fd)(T:CRd K mg C)(X:Txt K mg):FnOk P w K mg base CX0 1 f fd ["self"] (spLeft C):=by
 refine F.ok wU λ EO A outer st H vs Q E hr h=>?_
 intro _;obtain⟨p,d,R,t,rfl,⟨⟨dx,hp⟩,hd,hb,ht⟩,q⟩:=h;refine⟨_,ah (ar (ag aU (ag bE ae (aw aq (by rfl) X.len As (aa (cw (pv 0) rfl) ac))) (cw (pv 0) rfl))),?_⟩;refine⟨_,rfl,p,C,dx,_,_,rfl,hp,T.cl,T.nH,iZ _ _,d,_,rfl,.inl (SqL.of hd),_,_,rfl,rfl,.inl ⟨by decide,by decide⟩,?_⟩;refine⟨_,rfl,p,C,dx,_,_,rfl,hp,T.cl,T.nT,gm _ _,_,_,rfl,rfl,?_⟩;have e:(8:Int)*((R.map vN).length:Int)-(t:Int)=((8*R.length-t:Nat):Int):=by rw [z7];omega
 try dsimp only
 rw [e];exact q
def oI (C cN:EC):Sp:=λ vs H Q E=>∃(p d:EC) (R:List Nat) (t s:Nat),vs=[.ref p,vN s]/\ReadAt C H p d R t/\s≤24/\
 (t+s≤8*R.length->∀H',ReadAt C H' p d R (t+s)->(∀c o,H c=some o->c≠p->H' c=some o)->Q (vN (bt R t s)) H')/\(8*R.length<t+s->E (.ref cN) none H)
theorem scTake:FnScope ["self","size","number"] ["self","size"] (ak oO):=scK Z8
theorem u9 {fS fW' fB:EC}{fdS fdW:EH}(F:Fun K "take" "BitReader.take" oO f fd)(S:Fn K mg "need_size" eN ["size"] fS fdS)(W:Fn K mg "is_whole" cm ["thing","least","most"] fW' fdW)
  (B:Fn K mg "bits_at" gn ["row","place","size"] fB fdB) (O:Fn K mg "ones" jh ["size"] fO fdO) (L:Me K C "left" "BitReader.left" kY ["self"] fL fdL) (T:CRd K mg C) (X:Txt K mg) {cN:EC} (mN:mg "NoBits"=some (.ref cN)) (xN:ExC K cN):
  FnOk P w K mg base (CX1 P w) 31 f fd ["self","size"] (oI C cN):=by
 have GS:FnOk P w K mg base CX0 2 fS fdS ["size"] spNeedSize:=la S W X;have GB:FnOk P w K mg base CX0 2 fB fdB ["row","place","size"] iI:=jK B O X;have GL:FnOk P w K mg base CX0 1 fL fdL ["self"] (spLeft C):=pJ L.F T X;refine F.okE scTake λ EO A outer st H vs Q E hr h=>?_
 intro _;obtain⟨p,d,R,t,s,rfl,S0,hs,q,qE⟩:=h;obtain⟨⟨dx,hp⟩,hd,hb,ht⟩:=id S0;have npd:p≠d:=wo hp hd (by intro z;cases z);have hr1:Room 1 _:=hr.mono (by decide);have hr2:Room 2 _:=hr.mono (by decide);refine⟨_,ad (bf (ai GS hr2 (by rfl) S.m S.F.kp S.b .nil ap (aa (pv 1) ac)))
  (ad (aK (ax ek (pv 1) (du (pv 0) T.cl L.m GL hr1 L.b .nil ap) (az _)) (ah (aW aV (hr.hd (by decide)) (by rfl) mN xN aB)) ay)
  (ad (ao (i:=2) scTake.nd (ai GB hr2 (by rfl) B.m B.F.kp B.b .nil ap (aa (cw (pv 0) rfl) (aa (cw (pv 0) rfl) (aa (pv 1) ac)))))
  (ad (dI (pv 0) (ag aF (cw (pv 0) rfl) (pv 1)) rfl)
  (ah (ar (pv 2)))))),?_⟩
 refine⟨_,rfl,s,rfl,hs,?_⟩;refine⟨_,rfl,_,rfl,p,dx,_,rfl,hp,jL _ _ (by decide+kernel) (by decide+kernel),p,d,R,t,rfl,S0,_,_,rfl,rfl,_,rfl,bi (λ h0=>?_) (λ h0=>?_)⟩
 ·have:=Aq h0;exact qE (by omega)
 have hts:t+s≤8*R.length:=by
  have:¬(((8*R.length-t:Nat):Int)<(s:Int)):=λ z=>h0 (Ai z)
  omega
 have q:=q hts;refine⟨_,rfl,p,C,dx,_,_,rfl,hp,T.cl,T.nH,iZ _ _,_,rfl,p,C,dx,_,_,rfl,hp,T.cl,T.nT,gm _ _,_,rfl,d,R,t,s,rfl,hd,hb,hts,hs,λ H1 sm=>?_⟩;have hp1:=sm _ _ hp;refine⟨_,rfl,p,C,dx,_,_,rfl,hp1,T.cl,T.nT,gm _ _,_,rfl,_,_,rfl,rfl,_,rfl,p,C,dx,_,rfl,hp1,T.cl,T.nT,yb _ _,?_⟩;have e1:(t:Int)+(s:Int)=((t+s:Nat):Int):=by omega
 try dsimp only
 rw [e1,xE];refine⟨_,rfl,?_⟩;refine q _ ⟨⟨dx,af⟩,by rw [av npd.symm];exact sm _ _ hd,hb,hts⟩ λ c o e n1=>?_
 rw [av n1];exact sm c o e
def pT (C:EC):Sp:=λ vs H Q _=>∃(p d:EC) (R:List Nat) (t:Nat),vs=[.ref p]/\ReadAt C H p d R t/\∀H',Same H H'->Q (.bl (decide (8*R.length-t<8)&&decide (BP.val R%2^(8*R.length-t)=0))) H'
theorem scAtEnd:FnScope ["self","left"] ["self"] (ak nF):=scK Z8
theorem rT {fB:EC}(F:Fun K "at_end" "BitReader.at_end" nF f fd)
  (B:Fn K mg "bits_at" gn ["row","place","size"] fB fdB) (O:Fn K mg "ones" jh ["size"] fO fdO) (L:Me K C "left" "BitReader.left" kY ["self"] fL fdL) (T:CRd K mg C) (X:Txt K mg):
  FnOk P w K mg base CX0 3 f fd ["self"] (pT C):=by
 have GB:FnOk P w K mg base CX0 2 fB fdB ["row","place","size"] iI:=jK B O X;have GL:FnOk P w K mg base CX0 1 fL fdL ["self"] (spLeft C):=pJ L.F T X;refine F.ok scAtEnd λ EO A outer st H vs Q E hr h=>?_
 intro _;obtain⟨p,d,R,t,rfl,S0,q⟩:=h;obtain⟨⟨dx,hp⟩,hd,hb,ht⟩:=id S0;have hr1:Room 1 _:=hr.mono (by decide);refine⟨_,ad (ao (i:=1) scAtEnd.nd (du (pv 0) T.cl L.m GL hr1 L.b .nil ap))
  (ah (ar (dH (bz fh (pv 1) ae (az _)) (dP (bz bP (ai GB hr (by rfl) B.m B.F.kp B.b .nil ap (aa (cw (pv 0) rfl) (aa (cw (pv 0) rfl) (aa (pv 1) ac)))) ae (az _)))))),?_⟩
 refine⟨_,rfl,p,dx,_,rfl,hp,jL _ _ (by decide+kernel) (by decide+kernel),p,d,R,t,rfl,S0,?_⟩;refine⟨_,rfl,_,_,rfl,rfl,_,rfl,?_⟩;by_cases h8:8*R.length-t<8
 rotate_left
 ·have e0:decide (((8*R.length-t:Nat):Int)<8)=false:=AL (by omega)
  try dsimp only
  rw [e0];rw [AL h8,Dt] at q;exact bq (q _ (Same.refl _))
 have e0:decide (((8*R.length-t:Nat):Int)<8)=true:=Ai (by omega)
 try dsimp only
 rw [e0];rw [Ai h8,Bool.true_and] at q;refine bR ?_;refine⟨_,rfl,p,C,dx,_,_,rfl,hp,T.cl,T.nH,iZ _ _,_,rfl,p,C,dx,_,_,rfl,hp,T.cl,T.nT,gm _ _,_,rfl,d,R,t,8*R.length-t,rfl,hd,hb,by omega,by omega,λ H1 sm=>?_⟩;have e1:8*R.length-(t+(8*R.length-t))=0:=by omega
 try dsimp only
 rw [e1,Ez,Nat.div_one];refine⟨rfl,?_⟩;have e2:decide (vN (BP.val R%2^(8*R.length-t))=V.int 0)=decide (BP.val R%2^(8*R.length-t)=0):=by
  by_cases h0:BP.val R%2^(8*R.length-t)=0
  ·rw [Ai h0,Ai (by rw [h0];rfl)]
  ·rw [AL h0,AL (λ z=>h0 (by have:=V.int.inj z;omega))]
 rw [e2];exact q H1 sm
end
end K28
namespace CK
end CK
set_option maxHeartbeats 4000000
namespace K28.Ck
open PySem L2 QQ W17 W16 BP
seal PE PA PS PSs PT PW PG PI
variable {f:EC}{fd:EH}
abbrev g7:EM:=top 43
abbrev gh:EM:=top 105
abbrev cY:EM:=top 106
abbrev gR:EM:=top 107
theorem dj {H:Hp}{p d C:EC}(np:H p=none)(nd:H d=none):Same H (upd (upd H d (.own p)) p (.ins C d [])):=λ c o e=>by
 rw [av (au e np),av (au e nd)];exact e
structure Hds (K:Frag)(mg:Str->Option ED)(C CHd cR cH:EC):Prop where
 Y:Cks K mg C
 T:CH K mg CHd
 N:Rf.Nr K mg cR
 headrow:∃f fd,Fn K mg "head_row" fQ ["first","inside"] f fd
 three:∃t,mg "HEAD_BYTES"=some (.int 3 t)
 twoB:∃t,mg "CHECK_BYTES"=some (.int 2 t)
 most:∃t,mg "MOST_INSIDE"=some (.int 64 t)
 mH:mg "BadHead"=some (.ref cH)
 xH:ExC K cH
section
variable {C CHd cR cH:EC}
inductive HdK (a b c:Nat):Option (Nat×Nat×Nat) ⊕ Unit->Prop
 |bad:c≠chk 8 29 [a,b]->HdK a b c (.inr ())
 |tail:c=chk 8 29 [a,b]->a=0->b=0->HdK a b c (.inl none)
 |far:c=chk 8 29 [a,b]->¬(a=0/\b=0)->(b=0\/64<b)->HdK a b c (.inr ())
 |ok:c=chk 8 29 [a,b]->1≤b->b≤64->HdK a b c (.inl (some (a/64,a%64+1,b)))
theorem HdK.uniq {a b c:Nat}{o o':Option (Nat×Nat×Nat) ⊕ Unit}(h:HdK a b c o)(h':HdK a b c o'):o=o':=by
 cases h<;>cases h'<;>first|rfl|(exfalso;omega)
def tZ (K:Frag)(CHd cR cH:EC):Sp:=λ vs H Q E=>∃x:V,vs=[x]/\
 ((Rf.NoRow K H x/\∀H',Same H H'->E (.ref cR) none H')\/(∃T,Rf.IsR H x T/\T.length≠3/\∀H',Same H H'->E (.ref cR) none H')\/
  ∃a b c o,Rf.IsR H x [a,b,c]/\HdK a b c o/\match o with
  | .inr _=>∀H',Same H H'->E (.ref cH) none H'
  | .inl none=>∀H',Same H H'->Q .non H'
  | .inl (some (u,v,y))=>∀(p dx:EC) H',H p=none->Same H H'->H' p=some (.ins CHd dx (fH u v y))->Q (.ref p) H')
theorem scHeadOf:FnScope ["row","told","first","inside"] ["row"] (ak gh):=⟨rfl,rfl,rfl,Z8,rfl,Z8,Z8⟩
theorem jl (F:Fn K mg "head_of" gh ["row"] f fd)(Z:Hds K mg C CHd cR cH):FnOk P w K mg base (CXE P w) 32 f fd ["row"] (tZ K CHd cR cH):=by
 obtain⟨_,_,N,GN'⟩:=Z.N.ok;have GN:=GN' P w base;obtain⟨_,_,Hr⟩:=Z.headrow;obtain⟨_,_,FI,bI,MI⟩:=Z.T.init;have T:=Z.N.Y.X;obtain⟨t3,h3⟩:=Z.three;obtain⟨t64,h64⟩:=Z.most;refine F.F.okE scHeadOf λ EO A outer st H vs Q E hr h=>?_
 intro _;obtain⟨x,rfl,h⟩:=h;have hu:=hr.units;have hr7:Room 7 _:=hr.mono Z9;have hr2:Room 2 _:=hr.mono Z9;refine⟨_,ad (ao (i:=1) scHeadOf.nd (ai GN hr Z7 N.m N.F.kp N.b .nil aV (aa (pv 0) ac)))
  (ad (aK (ax cI (aw aq Z7 T.len As (aa (pv 1) ac)) (aP (v:=.int 3) Z7 h3 ⟨t3,rfl⟩) (az _)) (ah (aW aV (hr.hd Z9) Z7 Z.N.mR Z.N.xR aB)) ay)
  (ad (ao (i:=2) scHeadOf.nd (ba bd (pv 1) ae (λ _ _=>rfl)))
  (ad (ao (i:=3) scHeadOf.nd (ba bd (pv 1) ae (λ _ _=>rfl)))
  (ad (aK (ax (kG hu) (pv 1) (ai (nz Hr Z.Y) hr7 Z7 Hr.m Hr.F.kp Hr.b .nil ap (aa (pv 2) (aa (pv 3) ac))) (az _)) (ah (aW aV (hr.hd Z9) Z7 Z.mH Z.xH aB)) ay)
  (ad (aK (PW.pt (ft (ax bP (pv 2) ae (az _)) (fb (ax bP (pv 3) ae (az _))))) (ah (ar cF)) ay)
  (ad (aK (PW.pt (eI (ax bP (pv 3) ae (az _)) (dQ (ax ek (pv 3) (aP (v:=.int 64) Z7 h64 ⟨t64,rfl⟩) (az _))))) (ah (aW aV (hr.hd Z9) Z7 Z.mH Z.xH aB)) ay)
  (ah (ar (fZ MI (rW (mg:=mg) FI Z.T) hr2 Z7 Z.T.m bI .nil ap (aa (ag aQ (pv 2) ae) (aa (ag aF (ag aI (pv 2) ae) ae) (aa (pv 3) ac)))))))))))),?_⟩
 rcases h with⟨hN,k⟩|h
 ·exact⟨_,rfl,x,rfl,.inr ⟨hN,k _ (Same.refl H)⟩⟩
 obtain⟨T',⟨b,hx,hB,hb⟩,hh⟩:∃T',Rf.IsR H x T'/\((T'.length≠3/\∀H',Same H H'->E (.ref cR) none H')\/∃a b c o,T'=[a,b,c]/\HdK a b c o/\match o with
  | .inr _=>∀H',Same H H'->E (.ref cH) none H'
  | .inl none=>∀H',Same H H'->Q .non H'
  | .inl (some (u,v,y))=>∀(p dx:EC) H',H p=none->Same H H'->H' p=some (.ins CHd dx (fH u v y))->Q (.ref p) H'):=by
  rcases h with⟨T',h,n,k⟩|⟨a,b,c,o,h,hk,k⟩
  ·exact⟨T',h,.inl ⟨n,k⟩⟩
  ·exact⟨_,h,.inr ⟨a,b,c,o,rfl,hk,k⟩⟩
 clear h;subst hx;refine am λ _ g=>⟨_,rfl,_,rfl,.inl ⟨T',⟨b,rfl,hB,hb⟩,λ l hn=>g _ _ ?_⟩⟩
 clear g;have s1:=aj (o:=.lst (T'.map vN)) hn;have hll:(upd H l (.lst (T'.map vN))) l=some (.lst (T'.map vN)):=af;generalize upd H l (.lst (T'.map vN))=H1 at*;rcases hh with⟨h3',k⟩|⟨a,b',c,o,rfl,hk,k⟩
 ·refine⟨_,rfl,l,_,rfl,.inl (SqL.of hll),rfl,_,rfl,bi (λ _=>k _ s1) (λ h=>?_)⟩;exact absurd (by rw [z7];simpa using λ z=>h3' (Int.ofNat_inj.1 z)) h
 have hab:a<256/\b'<256:=⟨hb a Z6,hb b' Z6⟩;clear hb hB;refine⟨_,rfl,l,_,rfl,.inl (SqL.of hll),rfl,_,rfl,bq ?_⟩;refine⟨_,rfl,l,_,_,_,rfl,rfl,SqL.of hll,aT (j:=0) rfl,?_⟩;refine⟨_,rfl,l,_,_,_,rfl,rfl,SqL.of hll,aT (j:=1) rfl,?_⟩;refine⟨_,rfl,_,rfl,_,rfl,a,b',rfl,hab.1,hab.2,λ l2 H2 n2 s2 h22=>?_⟩;have s12:=s1.trans s2;have hl2:=s2 _ _ hll;refine⟨l,l2,[a,b',c].map (λ b=>((b:Nat):Int)),(hrow a b').map (λ b=>((b:Nat):Int)),rfl,rfl,by rw [<-Rf.mapI];exact SqL.of hl2,by rw [<-Rf.mapI];exact SqL.of h22,_,rfl,?_⟩;rcases Classical.em (c=chk 8 29 [a,b']) with hc|hc
 rotate_left
 ·have e:¬[a,b',c].map (λ b=>((b:Nat):Int))=(hrow a b').map (λ b=>((b:Nat):Int)):=λ z=>hc (Int.ofNat_inj.1 (by simpa [hrow] using z))
  rw [AL e];refine bR ?_;cases hk with
  |bad _=>exact k _ s12
  |tail h=>exact absurd h hc
  |far h=>exact absurd h hc
  |ok h=>exact absurd h hc
 have e: [a,b',c].map (λ b=>((b:Nat):Int))=(hrow a b').map (λ b=>((b:Nat):Int)):=by rw [hc];rfl
 rw [Ai e];refine bq ?_;clear e;have v0:∀{n:Nat},(V.int ((n:Nat):Int)=V.int 0)<->n=0:=λ {n}=>⟨λ z=>Int.ofNat_inj.1 (V.int.inj z),λ z=>by rw [z];rfl⟩
 refine am λ _ g=>g _ _ ?_
 clear g;refine am λ R g=>?_
 refine(λ(J:¬(a=0/\b'=0)->R [some (.ref b),some (.ref l),some (vN a),some (vN b')] H2)=>?_) (λ h00=>g _ _ ?_)
 ·refine⟨_,rfl,rfl,_,rfl,bi (λ ha=>?_) (λ ha=>bq (J λ z=>ha (Ai (v0.2 z.1))))⟩;have ha:=v0.1 (Aq ha);refine⟨_,rfl,rfl,_,rfl,bi (λ hb=>?_) (λ hb=>J λ z=>hb (Ai (v0.2 z.2)))⟩;have hb:=v0.1 (Aq hb);cases hk with
  |bad h=>exact absurd hc h
  |tail=>exact k _ s12
  |far _ h=>exact absurd ⟨ha,hb⟩ h
  |ok _ h=>rw [hb] at h;cases h
 clear g;refine am λ R' g=>?_
 have bad:b'=0\/64<b'->E (.ref cH) none H2:=λ hbb=>by
  cases hk with
  |bad h=>exact absurd hc h
  |tail _ h1 h2=>exact absurd ⟨h1,h2⟩ h00
  |far=>exact k _ s12
  |ok _ h1 h2=>rcases hbb with z|z<;>omega
 refine⟨_,rfl,rfl,_,rfl,bi (λ hb=>bR (bad (.inl (v0.1 (Aq hb))))) (λ hb0=>?_)⟩;have hb0:¬b'=0:=λ z=>hb0 (Ai (v0.2 z))
 refine⟨_,rfl,_,_,rfl,rfl,_,rfl,bi (λ hb=>bad (.inr (Int.ofNat_lt.1 (Aq hb)))) (λ hb64=>g _ _ ?_)⟩;have hb64:b'≤64:=DB λ z=>hb64 (Ai (Int.ofNat_lt.2 z))
 clear g bad;refine⟨_,rfl,_,_,rfl,rfl,⟨Z9,Z9⟩,_,rfl,_,_,rfl,rfl,(by show(0:Int)<64;decide),_,_,rfl,rfl,_,rfl,?_⟩;intro h dh nh ndh neh;have s0:=dj (C:=CHd) nh ndh;refine⟨h,dh,a/64,a%64+1,b',rfl,af,λ H5 hh kp5=>⟨rfl,?_⟩⟩;have s5:Same H H5:=λ c o e=>kp5 _ _ (s0 _ _ (s12 _ _ e)) (au (s12 _ _ e) nh)
 have nH:H h=none:=none_of s12 nh;cases hk with
 |bad h=>exact absurd hc h
 |tail _ h1 h2=>exact absurd ⟨h1,h2⟩ h00
 |far _ _ h1=>rcases h1 with z|z<;>omega
 |ok=>exact k h dh H5 nH s5 hh
def uV (CHd:EC):Sp:=λ vs H Q _=>∃(p dx:EC) (a b c:Nat),vs=[.ref p]/\H p=some (.ins CHd dx (fH a b c))/\Q (vN (c+5)) H
theorem vM:FnScope ["head"] ["head"] (ak cY):=⟨rfl,rfl,rfl,Z8,rfl,Z8,Z8⟩
theorem iW (F:Fn K mg "block_size" cY ["head"] f fd)(Z:Hds K mg C CHd cR cH):FnOk P w K mg base CX0 1 f fd ["head"] (uV CHd):=by
 obtain⟨t3,h3⟩:=Z.three;obtain⟨t2,h2⟩:=Z.twoB;refine F.F.ok vM λ EO A outer st H vs Q E hr h=>?_
 intro _;obtain⟨p,dx,a,b,c,rfl,hp,k⟩:=h;refine⟨_,ah (ar (ag aF (ag aF (aP (v:=.int 3) Z7 h3 ⟨t3,rfl⟩) (cw (pv 0) rfl)) (aP (v:=.int 2) Z7 h2 ⟨t2,rfl⟩))),?_⟩;refine⟨_,rfl,p,CHd,dx,_,_,rfl,hp,Z.T.cl,Z.T.nI,zB _ _ _,_,_,rfl,rfl,_,_,rfl,rfl,?_⟩;have e:(3:Int)+((c:Nat):Int)+2=((c+5:Nat):Int):=by omega
 try dsimp only
 rw [e];exact k
inductive NhK (B:List Nat):Option (Nat×Nat×Nat)->Prop
 |short:B.length<3->NhK B none
 |bad {a b c:Nat} {r:List Nat}:B=a::b::c::r->HdK a b c (.inr ())->NhK B none
 |tail {a b c:Nat} {r:List Nat}:B=a::b::c::r->HdK a b c (.inl none)->NhK B none
 |len {a b c u v y:Nat} {r:List Nat}:B=a::b::c::r->HdK a b c (.inl (some (u,v,y)))->B.length≠y+5->NhK B none
 |ok {a b c u v y:Nat} {r:List Nat}:B=a::b::c::r->HdK a b c (.inl (some (u,v,y)))->B.length=y+5->NhK B (some (u,v,y))
def ng (CHd cH:EC):Sp:=λ vs H Q E=>∃(a:EC) (B:List Nat) (o:Option (Nat×Nat×Nat)),vs=[.ref a]/\H a=some (.lst (B.map vN))/\(∀b∈B,b<256)/\NhK B o/\match o with
  |none=>∀H',Same H H'->E (.ref cH) none H'
  |some (u,v,y)=>∀(p dx:EC) H',H p=none->Same H H'->H' p=some (.ins CHd dx (fH u v y))->Q (.ref p) H'
theorem scNeedHead:FnScope ["block","head"] ["block"] (ak gR):=⟨rfl,rfl,rfl,Z8,rfl,Z8,Z8⟩
theorem lR {fO fB:EC}{fdO fdB:EH}(F:Fn K mg "need_head" gR ["block"] f fd)(O:Fn K mg "head_of" gh ["row"] fO fdO)(Bs:Fn K mg "block_size" cY ["head"] fB fdB)(Z:Hds K mg C CHd cR cH):
  FnOk P w K mg base (CXE P w) 33 f fd ["block"] (ng CHd cH):=by
 have T:=Z.N.Y.X;obtain⟨t3,h3⟩:=Z.three;refine F.F.okE scNeedHead λ EO A outer st H vs Q E hr h=>?_
 intro _;obtain⟨a,B,o,rfl,hB,hb,hk,k⟩:=h;have hr1:Room 1 _:=hr.mono Z9;refine⟨_,ad (aK (ax fh (aw aq Z7 T.len As (aa (pv 0) ac)) (aP (v:=.int 3) Z7 h3 ⟨t3,rfl⟩) (az _)) (ah (aW aV (hr.hd Z9) Z7 Z.mH Z.xH aB)) ay)
  (ad (ao (i:=1) scNeedHead.nd (ai (jl O Z) hr Z7 O.m O.F.kp O.b .nil aV (aa (aC aL (pv 0) aY (aA (aP (v:=.int 3) Z7 h3 ⟨t3,rfl⟩))) ac)))
  (ad (aK (ax ie (pv 1) cF (az _)) (ah (aW aV (hr.hd Z9) Z7 Z.mH Z.xH aB)) ay)
  (ad (aK (ax cI (aw aq Z7 T.len As (aa (pv 0) ac)) (ai (iW Bs Z) hr1 Z7 Bs.m Bs.F.kp Bs.b .nil ap (aa (pv 1) ac)) (az _)) (ah (aW aV (hr.hd Z9) Z7 Z.mH Z.xH aB)) ay)
  (ah (ar (pv 1)))))),?_⟩
 refine am λ R g=>⟨_,rfl,a,_,rfl,.inl (SqL.of hB),_,_,rfl,rfl,_,rfl,bi (λ h=>?_) (λ h=>g _ _ ?_)⟩
 ·have h:=Aq h;rw [z7] at h;have h:B.length<3:=Int.ofNat_lt.1 h;cases hk with
  |short=>exact k _ (Same.refl H)
  |bad e=>subst e;exact absurd h (Nat.not_lt.2 (BG 3 _))
  |tail e=>subst e;exact absurd h (Nat.not_lt.2 (BG 3 _))
  |len e=>subst e;exact absurd h (Nat.not_lt.2 (BG 3 _))
  |ok e=>subst e;exact absurd h (Nat.not_lt.2 (BG 3 _))
 clear g;have h3':3≤B.length:=DB λ z=>h (Ai (by rw [z7];exact Int.ofNat_lt.2 z))
 clear h;obtain⟨u0,u1,u2,r,rfl⟩:∃u0 u1 u2 r,B=u0::u1::u2::r:=by
  rcases B with _|⟨u0,_|⟨u1,_|⟨u2,r⟩⟩⟩
  ·cases h3'
  ·cases Dl h3'
  ·cases Dl (Dl h3')
  ·exact⟨u0,u1,u2,r,rfl⟩
 clear h3';refine am λ R g=>⟨_,rfl,_,rfl,a,_,rfl,SqL.of hB,λ l hn=>?_⟩
 have ec:cutV ((u0::u1::u2::r).map vN) none (some 3)=[u0,u1,u2].map vN:=dF _ 3;rw [ec];have s1:=aj (o:=.lst ([u0,u1,u2].map vN)) hn;have hll:(upd H l (.lst ([u0,u1,u2].map vN))) l=some (.lst ([u0,u1,u2].map vN)):=af;generalize upd H l (.lst ([u0,u1,u2].map vN))=H1 at*;have hR:Rf.IsR H1 (.ref l) [u0,u1,u2]:=⟨l,rfl,hll,λ b z=>hb b (by simp at z ⊢;rcases z with z|z|z<;>simp [z])⟩;have fin:∀(p dx u v y:Nat) (H2:Hp),HdK u0 u1 u2 (.inl (some (u,v,y)))->H1 p=none->Same H1 H2->H2 p=some (.ins CHd dx (fH u v y))->R [some (.ref a),some (.ref p)] H2:=by
  intro p dx u v y H2 hd np s2 hp;refine g _ _ ?_;have s12:=s1.trans s2;refine am λ R1 g1=>⟨_,rfl,rfl,_,rfl,bi (λ z=>absurd (Aq z) (by intro z;cases z)) (λ _=>g1 _ _ ?_)⟩
  clear g1;refine am λ R1 g1=>⟨_,rfl,a,_,rfl,.inl (SqL.of (s12 _ _ hB)),_,rfl,p,dx,u,v,y,rfl,hp,rfl,_,rfl,bi (λ z=>?_) (λ z=>g1 _ _ ?_)⟩
  ·have z:¬(r.length+3=y+5):=λ e=>by
    have e2:((u0::u1::u2::r).map vN).length=y+5:=by rw [z7];exact e
    rw [e2] at z;simp at z
   cases hk with
   |short h=>exact absurd h (Nat.not_lt.2 (BG 3 _))
   |bad e h=>cases e;exact absurd (h.uniq hd) (by intro z;cases z)
   |tail e h=>cases e;exact absurd (h.uniq hd) (by intro z;cases z)
   |len=>exact k _ s12
   |ok e h he=>cases e;cases h.uniq hd;exact absurd he z
  clear g1;have z:r.length+3=y+5:=by
   have:(r.length:Int)+1+1+1=(y:Int)+5:=by simpa using z
   omega
  cases hk with
  |short h=>exact absurd h (Nat.not_lt.2 (BG 3 _))
  |bad e h=>cases e;exact absurd (h.uniq hd) (by intro z;cases z)
  |tail e h=>cases e;exact absurd (h.uniq hd) (by intro z;cases z)
  |len e h he=>cases e;cases h.uniq hd;exact absurd z he
  |ok e h he=>cases e;cases h.uniq hd;exact⟨_,rfl,k p dx H2 (none_of s1 np) s12 hp⟩
 have tl:HdK u0 u1 u2 (.inl none)->∀H2,Same H1 H2->R [some (.ref a),some .non] H2:=by
  intro hd H2 s2;refine g _ _ ?_;have s12:=s1.trans s2;refine am λ R1 g1=>⟨_,rfl,rfl,_,rfl,bi (λ _=>?_) (λ z=>absurd (Ai rfl) z)⟩
  cases hk with
  |short h=>exact absurd h (Nat.not_lt.2 (BG 3 _))
  |bad e h=>cases e;exact absurd (h.uniq hd) (by intro z;cases z)
  |tail=>exact k _ s12
  |len e h=>cases e;exact absurd (h.uniq hd) (by intro z;cases z)
  |ok e h=>cases e;exact absurd (h.uniq hd) (by intro z;cases z)
 refine⟨.ref l,rfl,.inr (.inr ?_)⟩;cases hk with
 |short h=>exact absurd h (Nat.not_lt.2 (BG 3 _))
 |bad e h=>cases e;exact⟨_,_,_,_,hR,h,λ H2 s2=>k _ (s1.trans s2)⟩
 |tail e h=>cases e;exact⟨_,_,_,_,hR,h,λ H2 s2=>tl h H2 s2⟩
 |len e h he=>cases e;exact⟨_,_,_,_,hR,h,λ p dx H2 np s2 hp=>fin p dx _ _ _ H2 h np s2 hp⟩
 |ok e h he=>cases e;exact⟨_,_,_,_,hR,h,λ p dx H2 np s2 hp=>fin p dx _ _ _ H2 h np s2 hp⟩
end
theorem sh (n d:Nat):HT.sIx n d (some (-2))=n-2:=by
 unfold HT.sIx;simp;omega
theorem xc (B:List Nat):cutV (B.map vN) none (some (-2))=(B.take (B.length-2)).map vN:=by
 unfold cutV;rw [sh,HT.sIx_none,Du,Nat.sub_zero,z7,Bh]
theorem vm (B:List Nat)(h:5≤B.length):cutV (B.map vN) (some 3) (some (-2))=((B.take (B.length-2)).drop 3).map vN:=by
 unfold cutV;rw [sh,show(3:Int)=((3:Nat):Int) from rfl,HT.sIx_nat,z7,AM (AT (by decide) h),BB,Bh,Cy]
section
variable {C CHd cR cH:EC}
def rM:Sp:=λ vs H Q _=>∃(a:EC) (B:List Nat),vs=[.ref a]/\H a=some (.lst (B.map vN))/\(∀b∈B,b<256)/\B.length≤1000/\∀H',Same H H'->Q (.bl (decide (sld (B.take (B.length-2))=B))) H'
theorem sv:FnScope ["row"] ["row"] (ak g7):=⟨rfl,rfl,rfl,Z8,rfl,Z8,Z8⟩
theorem jt {fW:EC}{fdW:EH}(F:Fn K mg "ends_in_check" g7 ["row"] f fd)(Wc:Fn K mg "with_check" cx ["row"] fW fdW)(Y:Cks K mg C):FnOk P w K mg base CX0 8 f fd ["row"] rM:=by
 refine F.F.ok sv λ EO A outer st H vs Q E hr h=>?_
 intro _;obtain⟨a,B,rfl,hB,hb,hl,k⟩:=h;have hu:=hr.units;refine⟨_,ah (ar (bz (uj hu) (ai (km Wc Y) hr Z7 Wc.m Wc.F.kp Wc.b .nil ap (aa (aC aL (pv 0) aY (aA (cf bG ae))) ac)) (pv 0) (az _))),?_⟩;refine⟨_,rfl,_,rfl,_,rfl,a,_,rfl,SqL.of hB,λ l hn=>?_⟩;have ec:cutV (B.map vN) none (some (-2))=(B.take (B.length-2)).map vN:=xc B;rw [ec];have s1:=aj (o:=.lst ((B.take (B.length-2)).map vN)) hn;refine⟨l,B.take (B.length-2),rfl,af,λ b z=>hb b (AG z),AT (by rw [Aj];exact Em _ _) hl,λ l2 H2 n2 s2 h2=>?_⟩;refine⟨_,rfl,l2,a,(sld (B.take (B.length-2))).map (λ b=>((b:Nat):Int)),B.map (λ b=>((b:Nat):Int)),rfl,rfl,by rw [<-Rf.mapI];exact SqL.of h2,by rw [<-Rf.mapI];exact SqL.of (s2 _ _ (s1 _ _ hB)),?_⟩;have e:decide ((sld (B.take (B.length-2))).map (λ b=>((b:Nat):Int))=B.map (λ b=>((b:Nat):Int)))=decide (sld (B.take (B.length-2))=B):=by
  refine decide_eq_decide.mpr ⟨λ z=>?_,λ z=>by rw [z]⟩;exact Db (λ _ _ z=>Int.ofNat_inj.1 z)|>.1 z
 rw [e];exact k _ (s1.trans s2)
end
end K28.Ck
namespace QQ
open PySem PyProof.Rows
variable {env:Env}{Q:Unit->EE->Prop}{cls v:ED}{base h:EJ}{L e:EC}{outer:List Env}
def FlyL (h:EJ)(e:EC)(cls:ED)(T L:EC)(c:ED):Prop:=
 ∃vs oT ts,h.get? e=some (exO cls vs)/\(vs[2]?=some c/\6≤vs.size)/\vs[1]?=some (.ref T)/\T≠e/\h.get? T=some oT/\oT.data=.fields ts/\ts[3]?=some (rawInt L)
section
variable {M:Model}{A:EI}{E:ED -> EE -> Prop}{s:EE}
theorem jE {head c:ED}{vs:Array ED}{had:Bool}
    (hfr:A.frames=some (env::outer)) (hl:s.heap.FunFrames base (env::outer)) (hf:env.frame=some L)
    (he:s.heap.get? e=some (exO cls vs)) (h1:1<vs.size) (h2:vs[2]?=some c/\6≤vs.size)
    (h:∀h' T,FlyL h' e cls T L c->s.heap.objs.size≤T->(∀b o,s.heap.get? b=some o->b≠e->b∉(env::outer).filterMap (·.frame)->h'.get? b=some o)->
      (∀b o,s.heap.get? b=some o->b≠e->∃sl,h'.get? b=some {o with slots:=sl})->Q () {s with heap:=h'}):
    wpAny M A (do let a<-frameOf env;let pl<-entryPlaceOf L had;let b<-EntryCells.newEntry head a .none (rawInt L) .none pl;setField (.ref e) 1 b) Q E s:=by
  have ne:e∉(env::outer).filterMap (·.frame):=λ hm=>by
    obtain⟨_,o,ho,hnf⟩:=hl.mem hm
    rw [he] at ho;cases ho
    exact hnf vs rfl
  refine Aa (wpAny_frameOf_fun hfr hl hf λ g1 s1=>?_)
  refine Aa (wpAny_entryPlaceOf λ pl hpl=>?_)
  unfold EntryCells.newEntry newFields
  refine Aa (BL ?_ (hpl.sizeOk5 _ _ _ _ _))
  have hsz:g1.objs.size=s.heap.objs.size:=s1.1
  have he1:g1.get? e=some (exO cls vs):=(s1.2.1 e ne).trans he
  generalize hO:({cls:=.type "traceback",dict:=none,data:=.fields ([head,.ref L,.none,rawInt L,.none]++(if pl.isEmpty then List.replicate 6 Value.none else pl)).toArray}:EL)=oT
  have e3:∃ts,oT.data=.fields ts/\ts[3]?=some (rawInt L):=⟨_,by rw [<-hO],by simp⟩
  have hfreed:oT.isFreed=false:=by rw [<-hO];rfl
  clear hO
  obtain⟨ts,hts,hz3⟩:=e3
  have he2:(g1.push oT).get? e=some (exO cls vs):=Ag _ he1
  have hT2:(g1.push oT).get? g1.objs.size=some oT:=AF g1 hfreed
  have hTe:g1.objs.size≠e:=Dv (Aw he1)
  refine Bm he2 rfl h1 ?_
  have he3:=Bf (Obj.mapFields (·.setIfInBounds 1 (Value.ref g1.objs.size))) he2 rfl
  have hT3:=(AI (g1.push oT) (Obj.mapFields (·.setIfInBounds 1 (Value.ref g1.objs.size))) (B0 hTe)).trans hT2
  have he3':((g1.push oT).update e (Obj.mapFields (·.setIfInBounds 1 (Value.ref g1.objs.size)))).get? e=some (exO cls (vs.setIfInBounds 1 (Value.ref g1.objs.size))):=he3
  have keep:∀b o,b≠e->g1.get? b=some o->((g1.push oT).update e (Obj.mapFields (·.setIfInBounds 1 (Value.ref g1.objs.size)))).get? b=some o:=λ b o hb q=>by
    rw [AI _ _ (B0 hb)]
    exact Ag _ q
  refine h _ g1.objs.size ⟨vs.setIfInBounds 1 (Value.ref g1.objs.size),oT,ts,he3',?_,by simp [h1],hTe,hT3,hts,hz3⟩ (CJ hsz.symm) (λ b o q hb hn=>keep b o hb ((s1.2.1 b hn).trans q)) λ b o q hb=>?_
  · rw [Ds (by decide),Array.size_setIfInBounds];exact h2
  · obtain⟨sl,e'⟩:=s1.2.2 b o q
    exact⟨sl,keep b _ hb e'⟩
theorem zM {c:ED}{fp:List EC}
  (hfr:A.frames=some (env::outer)) (hl:s.heap.FunFrames base (env::outer)) (hf:env.frame=some L) (F:Fly s.heap e cls fp c)
  (h:∀h' T,FlyL h' e cls T L c->s.heap.objs.size≤T->(∀b o,s.heap.get? b=some o->b∉fp->b∉(env::outer).filterMap (·.frame)->h'.get? b=some o)->
   (∀b o,s.heap.get? b=some o->b∉fp->∃sl,h'.get? b=some {o with slots:=sl})->(∀b o,s.heap.get? b=some o->∃o',h'.get? b=some o')->Q () {s with heap:=h'}):
  wpAny M A (noteFrame (.ref e) env) Q E s:=by
 obtain⟨vs,he,h2,⟨h1,r⟩|⟨T,oT,ts,h1,ne,gT,dT,zT,r⟩⟩:=F
 ·subst r;unfold noteFrame;simp only [hf];refine Aa (AS he rfl h1 ?_);rw [AO Z9];refine jE hfr hl hf he (AX.mp h1).1 h2 λ h' T' f1 f2 f3 f4=>h h' T' f1 f2 (λ b o q hb hn=>f3 b o q (λ z=>hb (by simp [z])) hn) (λ b o q hb=>f4 b o q λ z=>hb (by simp [z])) λ b o q=>?_
  by_cases hb:b=e
  ·obtain⟨vs',_,_,g',_⟩:=f1;subst hb;exact⟨_,g'⟩
  ·obtain⟨sl,e'⟩:=f4 b o q hb;exact⟨_,e'⟩
 ·subst r;unfold noteFrame;simp only [hf];refine Aa (AS he rfl h1 ?_);rw [AV (show(Value.ref T !=Value.none)=true from by simp)];refine Aa (AS gT dT zT ?_);rw [AO (show¬((Value.none==rawInt L)=true) from by simp [rawInt])];refine Aa (Bm gT dT (AX.mp zT).1 ?_);have oth:∀b,b≠T->(s.heap.update T (Obj.mapFields (·.setIfInBounds 3 Value.none))).get? b=s.heap.get? b:=λ b hb=>AI _ _ (B0 hb)
  have gT':=Bf (Obj.mapFields (·.setIfInBounds 3 Value.none)) gT (BN (Bt dT _));have nT:∀b o,s.heap.get? b=some o->(∀us,o.data≠ .fields us)->b≠T:=λ b o q nf z=>by
   rw [z,gT] at q;cases q;exact nf ts dT
  have sz:(s.heap.update T (Obj.mapFields (·.setIfInBounds 3 Value.none))).objs.size=s.heap.objs.size:=Dq ..;refine jE hfr (hl.of_keeps λ b o q nf=>⟨o,(oth b (nT b o q nf)).trans q,rfl⟩) hf ((oth e (B0 ne)).trans he) (AX.mp h1).1 h2
   λ h' T' f1 f2 f3 f4=>h h' T' f1 (by rw [sz] at f2;exact f2) (λ b o q hb hn=>?_) (λ b o q hb=>?_) λ b o q=>?_
  ·have b1:b≠e:=λ z=>hb (by simp [z])
   have b2:b≠T:=λ z=>hb (by simp [z])
   exact f3 b o ((oth b b2).trans q) b1 hn
  ·have b1:b≠e:=λ z=>hb (by simp [z])
   have b2:b≠T:=λ z=>hb (by simp [z])
   exact f4 b o ((oth b b2).trans q) b1
  ·by_cases hb:b=e
   ·obtain⟨vs',_,_,g',_⟩:=f1;subst hb;exact⟨_,g'⟩
   ·by_cases hT:b=T
    ·subst hT;obtain⟨sl,e'⟩:=f4 b _ gT' hb;exact⟨_,e'⟩
    ·obtain⟨sl,e'⟩:=f4 b o ((oth b hT).trans q) hb;exact⟨_,e'⟩
theorem FlyL.keep {h':EJ}{T:EC}{c:ED}(F:FlyL h e cls T L c)(k:∀b o,h.get? b=some o->(b=e\/b=T)->h'.get? b=some o):FlyL h' e cls T L c:=by
 obtain⟨vs,oT,ts,he,h2,h1,ne,gT,dT,zT⟩:=F;exact⟨vs,oT,ts,k _ _ he (.inl rfl),h2,h1,ne,k _ _ gT (.inr rfl),dT,zT⟩
def FlyV (h:EJ)(e:EC)(cls:ED)(T:EC)(v:ED)(c:ED):Prop:=
 ∃vs oT ts,h.get? e=some (exO cls vs)/\(vs[2]?=some c/\6≤vs.size)/\vs[1]?=some (.ref T)/\T≠e/\h.get? T=some oT/\oT.data=.fields ts/\ts[3]?=some v
theorem FlyV.set {c:ED}{T:EC}{fr:Option EC}(F:FlyV s.heap e cls T v c)
  (h:∀h',FlyV h' e cls T (fr.elim Value.none λ f=>rawInt f) c->(∀b o,s.heap.get? b=some o->b≠T->h'.get? b=some o)->(∀b o,s.heap.get? b=some o->∃o',h'.get? b=some o')->Q () {s with heap:=h'}):wpAny M A (setFlight (.ref e) fr) Q E s:=by
 obtain⟨vs,oT,ts,he,h2,h1,ne,gT,dT,zT⟩:=F;unfold setFlight;refine Aa (AS he rfl h1 ?_);rw [AV (show(Value.ref T !=Value.none)=true from by simp)];have z3:=(AX.mp zT).1;have gT':=Bf (Obj.mapFields (·.setIfInBounds 3 (fr.elim Value.none λ f=>rawInt f))) gT (BN (Bt dT _));refine Bm gT dT z3 (h _ ⟨vs,_,_,?_,h2,h1,ne,gT',Bt dT _,by simp [z3]⟩ (λ b o q hb=>?_) λ b o q=>?_)
 ·rw [AI _ _ ne];exact he
 ·rw [AI _ _ (B0 hb)];exact q
 ·by_cases hb:b=T
  ·subst hb;exact⟨_,gT'⟩
  ·exact⟨o,by rw [AI _ _ (B0 hb)];exact q⟩
theorem kR {α:Type}{what:String}{c:ED}{T:EC}{Q:α->EE->Prop}(F:FlyV s.heap e cls T v c)
  (h:∀h' v',FlyV h' e cls T v' c->(∀b o,s.heap.get? b=some o->b≠T->h'.get? b=some o)->(∀b o,s.heap.get? b=some o->∃o',h'.get? b=some o')->E (.ref e) {s with heap:=h'}):wpAny M A (PySem.passOn what (.ref e) env:Sem α) Q E s:=by
 unfold PySem.passOn;have F':=F;obtain⟨vs,oT,ts,he,h2,h1,ne,gT,dT,zT⟩:=F';refine Aa (AS he rfl h1 ?_);rw [AO (show¬((Value.ref T==Value.none)=true) from by simp)];exact Aa (F.set λ h' f1 f2 f3=>wpAny_throw (h h' _ f1 f2 f3))
theorem jN {c:ED}{T:EC}
  (hfr:A.frames=some (env::outer)) (hl:s.heap.FunFrames base (env::outer)) (hf:env.frame=some L) (F:FlyV s.heap e cls T v c)
  (h:∀h' T',Fly h' e cls [e,T'] c->(T'=T\/s.heap.objs.size≤T')->(∀b o,s.heap.get? b=some o->b∉ [e,T]->b∉(env::outer).filterMap (·.frame)->h'.get? b=some o)->
   (∀b o,s.heap.get? b=some o->b∉ [e,T]->∃sl,h'.get? b=some {o with slots:=sl})->(∀b o,s.heap.get? b=some o->∃o',h'.get? b=some o')->Q () {s with heap:=h'}):
  wpAny M A (leaving env (.ref e)) Q E s:=by
 have F':=F;obtain⟨vs,oT,ts,he,h2,h1,ne,gT,dT,zT⟩:=F';unfold leaving;by_cases hv:(v==rawInt L)=true
 ·unfold noteFrame;simp only [hf];refine Aa (Aa (AS he rfl h1 ?_));rw [AV (show(Value.ref T !=Value.none)=true from by simp)];refine Aa (AS gT dT zT ?_);rw [AV hv];refine Am (F.set λ h' f1 f2 f3=>?_);obtain⟨vs',oT',ts',a1,a2,a3,a4,a5,a6,a7⟩:=f1;exact h h' T ⟨vs',a1,a2,.inr ⟨T,oT',ts',a3,a4,a5,a6,a7,rfl⟩⟩ (.inl rfl) (λ b o q hb _=>f2 b o q λ z=>hb (by simp [z])) (λ b o q hb=>⟨o.slots,f2 b o q λ z=>hb (by simp [z])⟩) f3
 ·refine Aa ?_;unfold noteFrame;simp only [hf];refine Aa (AS he rfl h1 ?_);rw [AV (show(Value.ref T !=Value.none)=true from by simp)];refine Aa (AS gT dT zT ?_);rw [AO hv];refine Aa (Bm gT dT (AX.mp zT).1 ?_);have oth:∀b,b≠T->(s.heap.update T (Obj.mapFields (·.setIfInBounds 3 Value.none))).get? b=s.heap.get? b:=λ b hb=>AI _ _ (B0 hb)
  have gT':=Bf (Obj.mapFields (·.setIfInBounds 3 Value.none)) gT (BN (Bt dT _));have nT:∀b o,s.heap.get? b=some o->(∀us,o.data≠ .fields us)->b≠T:=λ b o q nf z=>by
   rw [z,gT] at q;cases q;exact nf ts dT
  have sz:(s.heap.update T (Obj.mapFields (·.setIfInBounds 3 Value.none))).objs.size=s.heap.objs.size:=Dq ..;refine gI hfr (hl.of_keeps λ b o q nf=>⟨o,(oth b (nT b o q nf)).trans q,rfl⟩) hf ((oth e (B0 ne)).trans he) (AX.mp h1).1 h2
   λ h' T' f1 f2 f3 f4=>h h' T' f1 (.inr (by rw [sz] at f2;exact f2)) (λ b o q hb hn=>?_) (λ b o q hb=>?_) λ b o q=>?_
  ·have b1:b≠e:=λ z=>hb (by simp [z])
   have b2:b≠T:=λ z=>hb (by simp [z])
   exact f3 b o ((oth b b2).trans q) b1 hn
  ·have b1:b≠e:=λ z=>hb (by simp [z])
   have b2:b≠T:=λ z=>hb (by simp [z])
   exact f4 b o ((oth b b2).trans q) b1
  ·by_cases hb:b=e
   ·obtain⟨vs',g',_⟩:=f1;subst hb;exact⟨_,g'⟩
   ·by_cases hT:b=T
    ·subst hT;obtain⟨sl,e'⟩:=f4 b _ gT' hb;exact⟨_,e'⟩
    ·obtain⟨sl,e'⟩:=f4 b o ((oth b hT).trans q) hb;exact⟨_,e'⟩
theorem FlyL.any {T:EC}{c:ED}(F:FlyL h e cls T L c):FlyV h e cls T (rawInt L) c:=F
end
end QQ
set_option maxHeartbeats 4000000
namespace L2
open PySem PySem.Spec PyProof.Rows QQ
variable {H:Hp}{E:XK}{D:ED->Prop}{s:EE}
def kj (D:ED->Prop)(E:XK)(X:Cx)(N:List Str)(scope:Scope)(cl:List (Str×EC))(fp:List EC)(s:EE)(H:Hp):Cx:=
 (aN X N scope cl fp s H).wish λ e s'=>∃EN σ H' s1,Inv (aN X N scope cl fp s H) EN σ H' s1/\CXD D X.prog X.w X.stack H' s1 E e s'
theorem zt {X:Cx}{N:List Str}{scope:Scope}{cl:List (Str×EC)}{fp:List EC}:cD (CXD D X.prog X.w) (kj D E X N scope cl fp s H) E:=
 λ EN σ H s _ _ I hx=>⟨EN,σ,H,s,I.unwish,hx⟩
section
variable {D:ED -> Prop}{E:XK}{X:Cx}{N:List Str}{scope:Scope}{cl:List (Str × EC)}{js:List (Option Nat)}{elt ER iter:EK}{pos:Pos}{wi:TI}{g:TG}{te:TE}
theorem oB {EN:List (EC×EL)}{σ:St}{Q:VK}{RR:ED->EC->Result->EE->Prop}
  (hc:X.calm=true) (Cp:Caps X N scope cl js)
  (hi:PI X ER iter wi) (hg:∀fp s H,PG (aN X N scope cl fp s H) ER g) (he:∀fp s H,PE (kj D E X N scope cl fp s H) elt te)
  (I:Inv X EN σ H s) (h:kM js wi g te σ H Q)
  (hR:∀(l C:EC) (H':Hp) (s':EE),Inv X EN σ H' s'->fD X EN H' C->(∃m,s'.heap.Ns C m)->Q (.ref l) H'->RR (.ref l) C (.ok .next) s')
  (hE:∀(l C:EC) (H1:Hp) (e:ED) (s1 s':EE),Inv X EN σ H1 s1->fD X EN H1 C->(∃m,s1.heap.Ns C m)->CXD D X.prog X.w X.stack H1 s1 E e s'->wpAny (model X.prog X.w) X.A (noteFrame e X.env) (λ _ s'=>RR (.ref l) C (.error e) s') (λ e s'=>RR (.ref l) C (.error e) s') s'):
  wpAny (model X.prog X.w) X.A (eval iter X.env) (λ x s₁=>wpAny (model X.prog X.w) X.A (pyIter x) (λ it s₂=>wpAny (model X.prog X.w) X.A (newList []) (λ acc s₃=>
   wpAny (model X.prog X.w) X.A (newFunctionEnv scope X.env.globals cl [] X.env.qual none .none (some X.env)) (λ cenv s₄=>
    codeAny (model X.prog X.w) X.A (.compStart (.ListComp elt [⟨ER,iter,[],0⟩] scope pos) 0 it acc {cenv with scope:=relabel scope X.env}) (RR acc cenv.locals) s₄) X.xe s₃) X.xe s₂) X.xe s₁) X.xe s:=by
 refine thn (hi EN s σ H _ I h) λ v s1 h1=>thn h1 λ itv s2 h2=>?_
 obtain⟨it,fp,tn,J,H2,e,I2,T,st2,f2,hw⟩:=h2;subst e;have hl2:H2 s2.heap.objs.size=none:=I2.hok.fresh (Al _);obtain⟨W,⟨m0,w0⟩,turn⟩:=hw s2.heap.objs.size hl2;have lt2:∀b∈fp,b<s2.heap.objs.size:=λ b hb=>let⟨o,e,_⟩:=T.obj _ _ st2 b hb;Aw e
 refine wpAny_newList ?_;have I3:Inv X EN σ (upd H2 s2.heap.objs.size (.lst [])) {s2 with heap:=s2.heap.push {cls:=.type "list",data:=.seq ([]:List ED).toArray}}:=
  I2.laid (t':=s2.toks) (λ b u e=>Ag _ e) (Al _) ⟨AZ _,[],0,.nil,AF _ rfl⟩
 have st3:tn 0 (s2.heap.push {cls:=.type "list",data:=.seq ([]:List ED).toArray}):=T.keep _ _ _ st2 λ b hb o e=>Ag _ e
 have lt3:∀b∈fp,b<(s2.heap.push {cls:=.type "list",data:=.seq ([]:List ED).toArray}).objs.size:=λ b hb=>by rw [Cz];exact Nat.lt_succ_of_lt (lt2 b hb)
 have f3:∀b∈fp,fD X EN (upd H2 s2.heap.objs.size (.lst [])) b:=λ b hb=>⟨by rw [av (A2 (lt2 b hb))];exact(f2 b hb).1,(f2 b hb).2⟩
 generalize s2.heap.objs.size=l at*;generalize upd H2 l (.lst [])=H3 at*;have hs3:∃s3:EE,s3={s2 with heap:=s2.heap.push {cls:=.type "list",data:=.seq ([]:List ED).toArray}}:=⟨_,rfl⟩;obtain⟨s3,e3⟩:=hs3;rw [<-e3] at I3;rw [<-e3];have st3:tn 0 s3.heap:=by rw [e3];exact st3
 have lt3:∀b∈fp,b<s3.heap.objs.size:=by rw [e3];exact lt3
 clear e3;refine wpAny_newFunctionEnv Cp.nocell (by intro y hy;simp at hy) (λ h4 hns hsb=>?_) Cp.kind;have kp:∀b o,s3.heap.get? b=some o->h4.get? b=some o:=λ b o e=>hsb.extBut b o (A2 (Aw e)) (Ag _ e)
 have I4:=jj (N:=N) (t':=s3.toks+([]:List (Str×ED)).length) I3 Cp f3 lt3 hns kp;have st4:tn 0 h4:=T.keep _ _ _ st3 λ b hb o e=>kp b o e
 have stat:∀{H':Hp},(∀b∈fp,H' b=none)->∀b∈fp,fD (aN X N scope cl fp s3 H3) [] H' b:=λ hn b hb=>
  ⟨hn b hb,(I4.ok.exf b hb).1,I4.ok.exfs b hb,.inl hb,(I4.ok.exf b hb).2,λ p hp=>absurd (show p∈([]:List (EC×EL)) from hp) Z6⟩
 have loop:codeAny (model X.prog X.w) X.A (.compLoop (.ListComp elt [⟨ER,iter,[],0⟩] scope pos) 0 (.ref it) (.ref l) (compEnvC scope cl s3.heap.objs.size X.env)) (RR (.ref l) s3.heap.objs.size)
   {s3 with heap:=h4,toks:=s3.toks+([]:List (Str×ED)).length}:=by
  refine ll (tw:=tw0) (.inr ⟨rfl,rfl⟩) _ _ _ _ _ (λ n s'=>∃i ys σ' H',Inv (aN X N scope cl fp s3 H3) [] σ' H' s'/\tn i s'.heap/\(∀b∈fp,H' b=none)/\W i n ys σ' H') ?_ m0 ⟨0,[],_,_,I4,st4,λ b hb=>(f3 b hb).1,w0⟩;rintro n s5 ⟨i,ys,σ5,H5,I5,st5,fr5,w5⟩;rcases turn i n ys σ5 H5 w5 with⟨stop,q⟩|⟨go,step⟩
  ·refine thn (T.done (aN X N scope cl fp s3 H3) rfl rfl rfl hc i [] s5 σ5 H5 _ I5 (stat fr5) st5 stop) λ r s6 z9=>?_
   obtain⟨hr,I6⟩:=z9;subst hr;exact hR _ _ _ _ (fq I3 f3 I6) (I3.fpOk (Al _) I6.free) (let⟨m,hn,_⟩:=I6.loc;⟨m,hn⟩) q
  ·refine thn (T.item (aN X N scope cl fp s3 H3) rfl rfl rfl hc i [] s5 σ5 H5 _ I5 (stat fr5) st5 go) λ r s6 z9=>?_
   obtain⟨u,hr,h6⟩:=z9;subst hr;refine thn h6 λ _ s7 z9=>?_
   obtain⟨x,H7,I7,r7,y7,st7,fr7⟩:=z9;have I7':=I7.pinned (stat fr7) (T.obj _ _ st7);refine Bb (hg fp s3 H3 _ s7 σ5 H7 x u _ I7' r7 (step x H7 y7)) (λ _ s8 z9=>?_) (λ _ _ z=>False.elim z);obtain⟨σ8,H8,I8,q8⟩:=z9;show wpAny _ _ (eval elt _) _ _ _;refine Bb (he fp s3 H3 _ s8 σ8 H8 _ (I8.wish _) q8) (λ v s9 z9=>?_) λ e s' z9=>by obtain⟨p1,σ1,H1,s1,I1,x1⟩:=z9;exact hE _ _ H1 e s1 s' (fq I3 f3 I1) (I3.fpOk (Al _) I1.free) (let⟨m,hn,_⟩:=I1.loc;⟨m,hn⟩) x1
   obtain⟨y,H9,I9',r9,hl9,hz9,m',hm',w9⟩:=z9;have I9:=I9'.unwish;refine Bb (cv (X:=aN X N scope cl fp s3 H3) _ s9 σ8 H9 (.ref l) [y] (.ref l) [v] (λ z Hz=>Hz=upd H9 l (.lst (ys++[y]))) I9 rfl (.cons r9 .nil) ⟨l,ys,y,rfl,rfl,hl9,hz9,rfl⟩)
    (λ _ s10 ⟨z,Hz,I10,_,eH⟩=>?_) (λ _ _ z=>False.elim z)
   subst eH;refine⟨m',hm',i+1,ys++[y],σ8,_,I10.unpinned,T.keep _ _ _ st7 λ b hb o e=>(I10.pin (b,o) (AE _ (AE _ (bN hb e)))).1,λ b hb=>?_,w9⟩;obtain⟨o,e,d⟩:=T.obj _ _ st7 b hb;exact(I10.pin (b,o) (AE _ (AE _ (bN hb e)))).2.1
 exact codeAny_compStart_list loop (T.self X.A 0 _ _ _ st4 loop)
end
theorem tQ {P:EF}{w:EG}{K:Frag}{mg:Str->Option ED}{base:EJ}{N0:List Str}{qual:Str}{scope0:Scope}{f:EC}{cd:ED}{A:EI}{outer:List Env}{s₀:EE}{H₀:Hp}
  {N:List Str} {scope:Scope} {cl:List (Str×EC)} {js:List (Option Nat)} {elt ER iter:EK} {pos:Pos} {wi:TI} {g:TG} {te:TE} {X:Cx} (hX:X=cxOf (CXD D P w) P w K mg base N0 qual scope0 f cd A outer s₀ H₀ E)
  (hc:X.calm=true) (Cp:Caps X N scope cl js) (hi:PI X ER iter wi) (hg:∀fp s H,PG (aN X N scope cl fp s H) ER g) (he:∀fp s H,PE (kj D E X N scope cl fp s H) elt te)
  (hs:autoParam (∀x,foldedSetIterable iter X.env x=pure x) ZX):PE X (.ListComp elt [⟨ER,iter,[],0⟩] scope pos) (kM js wi g te):=by
 intro EN s σ H Q I h;rw [eval_ListComp];refine C7 (use:=none) (Q:=EP X EN σ Q) rfl hs Cp.clos Cp.kind Cp.names
  (oB (RR:=λ acc C=>compPost (model X.prog X.w) X.A X.xe none (EP X EN σ Q) acc C) hc Cp hi hg he I h ?_ ?_)
 ·rintro l C H' s' I' fC ⟨m,hn⟩ q;exact⟨m,hn,λ h' sb'=>⟨.ref l,H',I'.turned (t':=s'.toks) (λ b o hb e=>(sb'.2 b hb).trans e) fC.1 fC.2.1 fC.2.2.2.1 fC.2.2.2.2.1 fC.2.2.2.2.2,rfl,q⟩⟩
 rintro l C H1 e s1 s' I1 fC ⟨m,oC,es,ep,gC,rC⟩ hx;subst hX;obtain⟨ea,cls,fp,H',rfl,os,bare,un,hok,⟨c,dc,F,bk,bn⟩,fr,q⟩:=hx;have hex:∀b:EC,b∉(cxOf (CXD D P w) P w K mg base N0 qual scope0 f cd A outer s₀ H₀ E).ex:=λ b (z:b∈([]:List EC))=>nomatch z
 have I':=I1.call' (ch:=[]) os un hok bare (λ b z=>absurd z Z6);have bn':∀b,c=.ref b->NewA _ EN b:=λ b e=>I1.newA (bn b e) (hex b)
 have nw:∀b∈fp,New _ EN H' b:=λ b hb=>I1.new (fr b hb).1 (fr b hb).2 (hex b)
 have nS:C∉frs (cxOf (CXD D P w) P w K mg base N0 qual scope0 f cd A outer s₀ H₀ E).stack:=λ z=>by
  rcases Bc.mp (I1.stkSub C z) with y|y
  ·exact fC.2.1 y
  ·exact fC.2.2.1 y
 have gC':=un.keep C oC gC fC.1 nS Z6;have hC':=un.free C oC gC fC.1 Z6;have nC:C∉fp:=λ z=>by rw [(fr C z).1] at gC;cases gC
 refine zM I'.ok.frames I'.stack rfl F λ h' T F' hT f3 f4 f5=>?_
 have J:=I'.landed nw f3 f4 f5;have gC2:h'.get? C=some oC:=f3 C oC gC' nC nS;have neE:ea≠C:=λ z=>nC (z▸F.here)
 have neT:T≠C:=λ z=>absurd (Ap (Aw gC') (z▸hT)) (BJ _)
 have nE:New (cxOf (CXD D P w) P w K mg base N0 qual scope0 f cd A outer s₀ H₀ E) EN H' ea:=nw ea F.here;have nT:New (cxOf (CXD D P w) P w K mg base N0 qual scope0 f cd A outer s₀ H₀ E) EN H' T:=I'.new (by
  cases z:s'.heap.get? T with
  |none=>rfl
  |some o=>exact absurd (Ap (Aw z) hT) (BJ _)) (I'.hok.fresh hT) (hex T)
 refine⟨m,⟨oC,es,ep,gC2,rC⟩,λ h2 sb cenv _=>?_⟩;have J2:=J.turned (t':=s'.toks) (h':=h2) (it:=C) (λ b o hb e=>(sb.2 b hb).trans e) hC' fC.2.1 fC.2.2.2.1 fC.2.2.2.2.1 fC.2.2.2.2.2;have F2:FlyL h2 ea cls T _ c:=F'.keep λ b o g hb=>(sb.2 b (by rcases hb with z|z<;>subst z<;>assumption)).trans g
 refine kR F2.any λ h3 v' F3 k3 t3=>?_
 have J3:=J2.landed (h':=h3) (fp:=[T]) (λ b hb=>by rw [AD] at hb;rw [hb];exact nT) (λ b o g hb _=>k3 b o g λ z=>hb (by simp [z])) (λ b o g hb=>⟨o.slots,k3 b o g λ z=>hb (by simp [z])⟩) t3;show wpAny (model P w) _ (leaving _ (.ref ea)) _ _ _;refine jN J3.ok.frames J3.stack rfl F3 λ h4 T' F4 hT' g3 g4 g5=>?_
 have J4:=J3.landed (h':=h4) (fp:=[ea,T]) (λ b hb=>by
  rcases Bc.mp hb with z|z
  ·rw [z];exact nE
  ·rw [AD.mp z];exact nT) g3 g4 g5
 refine⟨ea,cls,[ea,T'],H',rfl,J4.os,J4.bare,J4.base,J4.hok,⟨c,dc,F4,bk,λ b e=>(bn' b e).s0⟩,λ b hb=>?_,q⟩;rcases Bc.mp hb with hb|hb
 ·rw [hb];exact⟨nE.s0,nE.h⟩
 ·rw [AD.mp hb];rcases hT' with z|z
  ·rw [z];exact⟨nT.s0,nT.h⟩
  ·refine⟨?_,J3.hok.fresh z⟩;cases y:s₀.heap.get? T' with
   |none=>rfl
   |some o=>
    obtain⟨o',r⟩:=J3.base.there T' o y (hex T');exact absurd (Ap (Aw r) z) (BJ _)
end L2
set_option maxHeartbeats 4000000
namespace QQ
open PySem PyProof.Rows
section
variable {prog:EF}{w:EG}{A:EI}{E:ED -> EE -> Prop}{s:EE}{env:Env}
variable {nm q:Str}{C N:EC}{bs bm:List ED}{hdct:Bool}{sn:List Str}{sub:List ED}{ab:Bool}{col:Option Bool}{dd:Option EC}{k0 k1 k2 k3 k5:Option ED}{newId:String}
end
section
variable {M:Model}{A B:EI}{E E2:ED -> EE -> Prop}{s:EE}
end
end QQ
namespace QQ
open PySem
section
variable {M:Model}{A:EI}{E:ED -> EE -> Prop}
variable {nm q:Str}{C N:EC}{bs bm:List ED}{hdct:Bool}{sn:List Str}{sub:List ED}{ab:Bool}{col:Option Bool}{dd:Option EC}{k0 k1 k2 k3 k5:Option ED}{newId:String}
end
end QQ
set_option maxHeartbeats 4000000
namespace L2
open PySem PySem.Spec PyProof.Rows QQ
end L2
set_option maxHeartbeats 4000000
namespace K28.Ck
open PySem L2 QQ W17 W16 BP
seal PE PA PS PSs PT PW PG PI
variable {R:List Nat}
theorem iJ (r a:Nat):(List.replicate r [vN a]).flatten=(List.replicate r a).map vN:=by
 induction r with
 |zero=>rfl
 |succ r ih=>rw [BU,A3,ih];rfl
theorem bt8 (hb:∀b∈R,b<256){i:Nat}(hi:i<R.length):bt R (8*i) 8=R[i]:=by
 have h:=pX hb (Ej i) hi;have e:(R.take (i+1)).drop i=[R[i]]:=by rw [eR (Af hi),DU (by rw [Aj];omega)]
 rw [e,dy,pL,show i.succ-i=1 by omega,gA,gA] at h;simp at h;rw [h];unfold bt;rw [show 8*R.length-(8*i+8)=8*(R.length-(i+1)) by omega]
structure Rdr (K:Frag)(mg:Str->Option ED)(C cN:EC):Prop where
 Y:Rows K mg
 T:CRd K mg C
 m:mg "BitReader"=some (.ref C)
 init:∃f fd,Fun K "__init__" "BitReader.__init__" nO f fd/\Binds K fd ["self","row"] []/\Mk K C f
 take:∃f fd,Me K C "take" "BitReader.take" oO ["self","size"] f fd
 left:∃f fd,Me K C "left" "BitReader.left" kY ["self"] f fd
 atend:∃f fd,Me K C "at_end" "BitReader.at_end" nF ["self"] f fd
 need:∃f fd,Fn K mg "need_row" b9 ["thing"] f fd
 size:∃f fd,Fn K mg "need_size" eN ["size"] f fd
 ones:∃f fd,Fn K mg "ones" jh ["size"] f fd
 bits:∃f fd,Fn K mg "bits_at" gn ["row","place","size"] f fd
 mN:mg "NoBits"=some (.ref cN)
 xN:ExC K cN
section
variable {C cN:EC}
theorem Rdr.tk (Z:Rdr K mg C cN):∃f fd,Me K C "take" "BitReader.take" oO ["self","size"] f fd/\∀(P:EF) (w:EG) (base:EJ),FnOk P w K mg base (CX1 P w) 31 f fd ["self","size"] (oI C cN):=by
 obtain⟨f,fd,Tk⟩:=Z.take;obtain⟨_,_,L⟩:=Z.left;obtain⟨_,_,W⟩:=Z.Y.whole;obtain⟨_,_,S⟩:=Z.size;obtain⟨_,_,O⟩:=Z.ones;obtain⟨_,_,Ba⟩:=Z.bits;exact⟨f,fd,Tk,λ _ _ _=>u9 Tk.F S W Ba O L Z.T Z.Y.X Z.mN Z.xN⟩
theorem _root_.K28.ReadAt.keep {H H':Hp}{p d:EC}{t:Nat}(h:ReadAt C H p d R t)(k:∀c o,H c=some o->(c=p\/c=d)->H' c=some o):ReadAt C H' p d R t:=by
 obtain⟨⟨dx,hp⟩,hd,r1,r2⟩:=h;exact⟨⟨dx,k _ _ hp (.inl rfl)⟩,k _ _ hd (.inr rfl),r1,r2⟩
def qd (C cN:EC):Sp:=λ vs H Q E=>∃(o r d:EC) (x:V) (R:List Nat) (n:Nat),vs=[.ref o,.ref r,vN n,x]/\ReadAt C H r d R 0/\n≤64/\
 ((n≤R.length/\∀l H',H l=none->H' l=some (.lst ((R.take n).map vN))->ReadAt C H' r d R (8*n)->(∀c o,H c=some o->c≠r->H' c=some o)->Q (.ref l) H')\/
  (R.length<n/\∀H',(∀c o,H c=some o->c≠r->H' c=some o)->E (.ref cN) none H'))
theorem qB:FnScope ["self","reader","count","before"] ["self","reader","count","before"] (ak ik):=⟨rfl,rfl,rfl,Z8,rfl,Z8,Z8⟩
theorem zX:(["step","reader"]:List Str).Nodup:=Z8
def ub (C cN:EC)(E:XK):TE:=lm C "take" (oI C cN) [] E (tVar 1) (tCons (tC (.int 8)) tNil)
theorem oA {f:EC}{fd:EH}(F:Fun K "read" "RawWay.read" ik f fd)(Z:Rdr K mg C cN):FnOk P w K mg base (CX1 P w) 32 f fd ["self","reader","count","before"] (qd C cN):=by
 have X:=Z.Y.X;obtain⟨_,_,Tk,GT'⟩:=Z.tk;have GT:=GT' P w base;have TR:=Z.T;refine F.okE qB λ EO A outer st H vs Q E hr h=>?_
 intro _;obtain⟨o,r,d,x,R,n,rfl,hR,h64,k⟩:=h;refine⟨_,ah (ar (tQ (N:=["step","reader"]) (js:=[none,some 1]) (cl:=[("reader",st.heap.objs.size+1)]) (g:=bM 0) (te:=ub C cN E) rfl rfl
  ⟨rfl,Z8,Z8,Z7,λ x c h=>(by obtain⟨rfl,rfl⟩:=fz h;rfl),λ x hx=>?c1,rfl,λ i x j h1 h2=>?c2⟩
  (cO Z7 X.range (aa (pv 2) ac)) (λ fp s H=>aG (i:=0) zX)
  (λ fp s H=>cJ (pv 1) TR.cl Tk.m GT hr Tk.b .nil zt (aa ae ac)))),?_⟩
 case c1=>
  rcases hx with hx|hx
  ·have m':(x,NameKind.cell)∈([(".0",.local),("step",.local),("reader",.cell)]:List (Str×NameKind)):=AU hx;have e:x="reader":=by simpa using m'
   subst e;exact⟨_,rfl⟩
  ·have m':(x,NameKind.free)∈([(".0",.local),("step",.local),("reader",.cell)]:List (Str×NameKind)):=AU hx;simp at m'
 case c2=>
  obtain⟨rfl,rfl⟩:=on h1 h2;exact⟨rfl,rfl,rfl,λ c h=>h⟩
 refine⟨_,rfl,((n:Nat):Int),rfl,by omega,by omega,λ l nl=>?_⟩;obtain⟨⟨dx0,hr0⟩,hd0,hb,_⟩:=id hR;have nlr:l≠r:=(au hr0 nl).symm;have nld:l≠d:=(au hd0 nl).symm;refine gM (g:=bM 0) (te:=ub C cN E) (lo:=0) (l:=l) (k:=((n:Nat):Int).toNat)
  (λ i ys σ H2=>∃v0:Option V,σ=[v0,some (.ref r)]/\i≤R.length/\ys=(R.take i).map vN/\H2 l=some (.lst ys)/\ReadAt C H2 r d R (8*i)/\∀c o,H c=some o->c≠r->H2 c=some o)
  ⟨none,rfl,AZ _,rfl,af,hR.keep λ c o e _=>aj nl _ _ e,λ c o e _=>aj nl _ _ e⟩ ?_ ?_ ?_ ?_
 ·rintro i ys σ H2 hi ⟨v0,rfl,hiR,rfl,h2l,hR2,kp⟩;have hin:i<n:=by simpa using hi
  obtain⟨⟨dx,hr2⟩,_,_,_⟩:=id hR2;refine⟨_,rfl,r,dx,_,rfl,hr2,jL _ _ Z8 Z8,r,d,R,_,8,rfl,hR2,Z9,λ h8 H3 hR3 kp3=>?_,λ h8=>?_⟩
  ·have hil:i<R.length:=by omega
   rw [bt8 hb hil];have hRi:R[i]?=some R[i]:=Af hil;refine⟨kp3 _ _ h2l nlr,cz (by rw [z7,Aj];omega),_,rfl,hil,by rw [eR hRi,At];rfl,af,?_,λ c o e n=>?_⟩
   ·refine hR3.keep λ c o e hc=>?_
    rw [av (by rcases hc with rfl|rfl;exact nlr.symm;exact nld.symm)];exact e
   ·rw [av (au e nl)];exact kp3 _ _ (kp _ _ e n) n
  ·rcases k with⟨h,_⟩|⟨_,k⟩
   ·omega
   ·exact k _ kp
 rotate_left
 ·exact λ x σ H A B h z=>h _ _ z
 ·rintro σ H A B h ⟨v,e1,a',dx,fs,e2,e3,e4,p',d',R',t',s',e5,e6,e7,z,z'⟩;exact⟨v,e1,a',dx,fs,e2,e3,e4,p',d',R',t',s',e5,e6,e7,λ y H' z1 z2=>h _ _ (z y H' z1 z2),z'⟩
 ·rintro ys σ H2 ⟨v0,rfl,hn,rfl,h2l,hR2,kp⟩;rw [Ay] at h2l hR2 hn;rcases k with⟨_,k⟩|⟨h,_⟩
  ·exact k l H2 nl h2l hR2 kp
  ·exact absurd hn (Nat.not_le.2 h)
end
end K28.Ck
set_option maxHeartbeats 4000000
namespace QQ
open PySem
section
variable {M:Model}{A:EI}{E:ED -> EE -> Prop}
variable {nm q nm' q':Str}{C N D N':EC}{bs bm bs' bm':List ED}{hdct hdct':Bool}{sn sn':List Str}{sub sub':List ED}{ab ab':Bool}{col col':Option Bool}{dd dd':Option EC}{k0 k1 k2 k3 k5 j0 j1 j2 j3 j5:Option ED}{newId newId':String}
theorem qz {h:EJ}{g:Array GenState}{d:Drawn}{t:Nat}{os:OsState}{e:EC}{oe:EL}{Q:Bool->EE->Prop}
  (hC:h.get? C=some (excClassObj nm q C N bs bm hdct sn sub ab col dd k0 k1 k2 k3 k5 newId)) (hD:h.get? D=some (excClassObj nm' q' D N' bs' bm' hdct' sn' sub' ab' col' dd' j0 j1 j2 j3 j5 newId'))
  (he:h.get? e=some oe) (hcls:oe.cls=.ref C) (hbase:bm'.contains (.type "BaseException")=true) (hm:(Value.ref C::bm).contains (.ref D)=false) (ne:C≠D)
  (hq:Q false ⟨h,g,d,t,os⟩):wpAny M A (excMatches (.ref e) (.ref D)) Q E ⟨h,g,d,t,os⟩:=by
 have hcB:(Value.ref D::bm').contains (.type "BaseException")=true:=by rw [List.contains_cons,hbase,Bool.or_true]
 have f:=tc_notTuple;unfold excMatches
 repeat (first|(with_reducible refine Dr he ?_;rw [hcls])|with_reducible refine Dr hD ?_|(with_reducible refine C4 hD ?_;rw [hcB])|(with_reducible refine C4 hC ?_;rw [hm])|wp_step)
 exact hq
end
end QQ
namespace L2
open PySem PySem.Spec PyProof.Rows QQ
def yL (K:Frag)(D0:EC)(E:XK)(tb:St->XK->TS):TS:=λ D σ H=>
 tb σ (λ cls _ H'=>∃C,cls=.ref C/\ExC K C/\C≠D0/\mroIn K C (.ref D0)=some false/\E cls none H') D σ H
theorem ko {D':ED->Prop}{P:EF}{w:EG}{K:Frag}{mg:Str->Option ED}{base:EJ}{N:List Str}{qual:Str}{scope:Scope}{f:EC}{cd:ED}{A:EI}{outer:List Env}{s₀:EE}{H₀:Hp}{E:XK}{X:Cx}(eX:X=cxOf (CXD D' P w) P w K mg base N qual scope f cd A outer s₀ H₀ E)
  {x:Str} {D0:EC} {b₀:EM} {body suite:List EM} {tb:St->XK->TS} {np hpos pos:Pos} (hg:Gl X x) (hm:X.mg x=some (.ref D0)) (hD:ExC X.K D0)
  (hb:∀pn σ0 E',PSs (rQ X pn σ0 E' D') body (tb σ0 E')) (hd:autoParam ((x==("__debug__":Str))=false) ZZ):
  PS X (.Try body [.ExceptHandler (some (.Name x np)) none (b₀::suite) hpos] [] [] pos) (yL K D0 E tb):=by
 have hst:X.stack=X.env::X.outer:=by rw [eX];rfl
 have hfr:X.env.frame=some X.env.locals:=by rw [eX];rfl
 have hX:X.ex=[]:=by rw [eX];rfl
 have hKK:X.K=K:=by rw [eX];rfl
 intro EN s σ H D I h;refine wpAny_Try_except (Bb (hb (X.pn++EN) σ _ [] s σ H D (I.lift _) h) (λ f s1 q=>?_) λ e s1 q=>?_)
 ·have q':SP X EN D f s1:=SP.unlift q;cases f with
  |next=>exact CM q'
  |brk=>exact q'
  |cont=>exact q'
  |ret u=>exact q'
 ·obtain⟨ea,cls,fp,H',rfl,I1,⟨c,dc,F,bk,bn⟩,fr,C,rfl,cC,hne,hmro,q⟩:=q;rw [<-hKK] at cC hmro;have I1:Inv X EN σ H' s1:=Inv.unlift (W:=X.xe) I1;have fr:∀b∈fp,New X EN H' b:=λ b hb=>let n:=fr b hb;⟨n.s0,n.h,n.loc,n.cel,λ p hp=>n.pin p (by simpa using hp)⟩
  have hf:X.A.frames=some (X.env::X.outer):=hst▸I1.ok.frames;refine yp hf (hst▸I1.stack) hfr F λ h' T F' hT f3 f4 f5=>?_
  have I2:=I1.landed fr (by rw [hst];exact f3) f4 f5;have nE:New X EN H' ea:=fr ea F.here;have nT:New X EN H' T:=I1.new (by
   cases z:s1.heap.get? T with
   |none=>rfl
   |some o=>exact absurd (Ap (Aw z) hT) (BJ _)) (I1.hok.fresh hT) (by rw [hX];simp)
  obtain⟨vs,ge,z2,⟨_,r⟩|⟨T',oT,ts,v1,neT,gT,dT,zT,r⟩⟩:=id F'
  ·cases r
  ·cases r;obtain⟨G,I2',bk0,unk⟩:=I2.ready (e:=ea) (c:=c) ⟨bk,λ b e=>let n:=bn b e;⟨n.s0,n.loc,n.cel,λ p hp=>n.pin p (by simpa using hp)⟩⟩;have nE':New {X with H₀:=G} EN H' ea:=⟨nE.s0,nE.h,nE.loc,nE.cel,nE.pin⟩;have I3:=I2'.hand nE' ge z2 bk0;have uh:∀σ6 H6 s6,Inv (cxHand X ea (upd G ea (.frz (exO (.ref C) vs) (.own ea)))) EN σ6 H6 s6->Inv X EN σ6 H6 s6:=λ _ _ _ z=>unk _ _ _ (Inv.unhand I2' nE' z)
   generalize hG3:upd G ea (.frz (exO (.ref C) vs) (.own ea))=G3 at*;generalize hH3:upd H' ea (.frz (exO (.ref C) vs) (.own ea))=H3 at*;refine wpAny_handleBy_cons (codeAny_handlers_test (ld_glob (X:=cxHand X ea G3) I3 hg hm ?_ hd)) (by intro q;cases q);obtain⟨bm,N,nm,qn,bs,hdct,sn,sub,ab,col,dd,k0,k1,k2,k3,k5,hlC,hcC,_⟩:=gj cC;obtain⟨bm',N',nm',qn',bs',hdct',sn',sub',ab',col',dd',j0,j1,j2,j3,j5,hlD,_,hfD⟩:=gj hD;have hmem:(Value.ref C::bm).contains (.ref D0)=false:=by
    unfold mroIn at hmro;rw [hcC] at hmro;simpa using hmro
   have T'':=(hfD _ I2.kIn).2;obtain⟨hh1,gg,dr,tk,os1⟩:=s1;refine qz (I2.kIn C _ hlC) (I2.kIn D0 _ hlD) ge rfl (T''.hasType Z8) hmem hne (wpAny_handleBy_nil ?_);refine kR (v:=Value.none) (T:=T) (c:=c) (cls:=.ref C) ⟨vs,oT,ts,ge,z2,v1,neT,gT,dT,zT⟩ λ h3 v' F3 k3 t3=>?_
   have J3:=I2.landed (h':=h3) (fp:=[T]) (λ b hb=>by rw [AD] at hb;rw [hb];exact nT) (λ b o g hb _=>k3 b o g λ z=>hb (by simp [z])) (λ b o g hb=>⟨o.slots,k3 b o g λ z=>hb (by simp [z])⟩) t3;have bn':∀b,c=.ref b->X.s₀.heap.get? b=none:=λ b e=>(bn b e).s0
   have sE:=nE.s0;have hE:=nE.h;have nE2:=nE;clear hb I I1 I2 I2' I3 uh unk bn nE';subst eX;show wpAny (model P w) _ (leaving _ (.ref ea)) _ _ _;refine jN J3.ok.frames J3.stack rfl F3 λ h4 T4 F4 hT' g3 g4 g5=>?_
   have J4:=J3.landed (h':=h4) (fp:=[ea,T]) (λ b hb=>by
    rcases Bc.mp hb with z|z
    ·rw [z];exact nE2
    ·rw [AD.mp z];exact nT) g3 g4 g5
   refine⟨ea,_,[ea,T4],H',rfl,J4.os,J4.bare,J4.base,J4.hok,⟨c,dc,F4,bk,bn'⟩,λ b hb=>?_,q⟩;rcases Bc.mp hb with hb|hb
   ·rw [hb];exact⟨sE,hE⟩
   ·rw [AD.mp hb];rcases hT' with z|z
    ·rw [z];exact⟨nT.s0,nT.h⟩
    ·refine⟨?_,J3.hok.fresh z⟩;cases y:s₀.heap.get? T4 with
     |none=>rfl
     |some o=>
      obtain⟨o',r⟩:=J3.base.there T4 o y (by simp [cxOf]);exact absurd (Ap (Aw r) z) (BJ _)
end L2
set_option maxHeartbeats 4000000
namespace K28.Ck
open PySem L2 QQ W17 W16 BP
seal PE PA PS PSs PT PW PG PI
variable {f:EC}{fd:EH}
theorem pz {α:Type}{xs:List α}{b:Nat}{v:α}(h1:1≤b)(h2:b≤xs.length)(h:xs[xs.length-b]?=some v):atI xs (-((b:Nat):Int))=some v:=by
 have e:ixN xs.length (-((b:Nat):Int))=some (xs.length-b):=by
  unfold ixN;rw [AO (by omega),AV (by omega)];congr 1;omega
 unfold atI;rw [e];exact h
noncomputable def cpy (B:List Nat) (b:Nat):Nat->List Nat
 |0=>B
 |n+1=>cpy B b n++[(cpy B b n).getD ((cpy B b n).length-b) 0]
theorem iK (B:List Nat)(b:Nat):∀n,(cpy B b n).length=B.length+n:=λ n=>by
 induction n with
 |zero=>rfl
 |succ n ih=>rw [cpy,z0,ih];rfl
inductive RnR (R:List Nat) (e:Nat):Nat->List Nat->Nat->List Nat->Prop
 |done {t:Nat} {S:List Nat}:S.length=e->RnR R e t S t S
 |run {t t':Nat} {S S':List Nat}:S.length<e->t+14≤8*R.length->S.length+(bt R t 6+1)≤e->RnR R e (t+14) (S++List.replicate (bt R t 6+1) (bt R (t+6) 8)) t' S'->RnR R e t S t' S'
inductive CpR (R:List Nat) (e:Nat):Nat->List Nat->Option (Nat×List Nat)->Prop
 |done {t:Nat} {S:List Nat}:S.length=e->CpR R e t S (some (t,S))
 |sg {t:Nat} {S:List Nat} {o:Option (Nat×List Nat)}:S.length<e->t+9≤8*R.length->bt R t 1=0->CpR R e (t+9) (S++[bt R (t+1) 8]) o->CpR R e t S o
 |cp {t:Nat} {S:List Nat} {o:Option (Nat×List Nat)}:S.length<e->t+13≤8*R.length->bt R t 1=1->S.length+(bt R (t+9) 4+3)≤e->1≤bt R (t+1) 8->bt R (t+1) 8≤S.length->CpR R e (t+13) (cpy S (bt R (t+1) 8) (bt R (t+9) 4+3)) o->CpR R e t S o
 |far {t:Nat} {S:List Nat}:S.length<e->t+13≤8*R.length->bt R t 1=1->(e<S.length+(bt R (t+9) 4+3)\/bt R (t+1) 8=0\/S.length<bt R (t+1) 8)->CpR R e t S none
theorem CpR.le {R:List Nat}{e t:Nat}{S:List Nat}{o:Option (Nat×List Nat)}(h:CpR R e t S o):S.length≤e:=by
 cases h with
 |done h=>exact CJ h
 |sg h=>exact B8 h
 |cp h=>exact B8 h
 |far h=>exact B8 h
structure Rds (K:Frag)(mg:Str->Option ED)(cB:EC):Prop where
 X:K28.Txt K mg
 room:∃f fd,Fn K mg "need_room" gB ["signs","size","end"] f fd
 lay:∃f fd,Fn K mg "lay_copy" i9 ["signs","back","size","end"] f fd
 add:∃f fd,Fn K mg "add_copy" iH ["signs","back","size"] f fd
 ahead:∃f fd,Fn K mg "signs_ahead" iO ["before"] f fd
 mB:mg "BadBody"=some (.ref cB)
 xB:ExC K cB
section
variable {C cN cB:EC}
def nA (cB:EC):Sp:=λ vs H Q E=>∃(a:EC) (xs:List V) (s e:Nat),vs=[.ref a,vN s,vN e]/\H a=some (.lst xs)/\(xs.length+s≤e->Q .non H)/\(e<xs.length+s->E (.ref cB) none H)
theorem nK:FnScope ["signs","size","end"] ["signs","size","end"] (ak gB):=⟨rfl,rfl,rfl,Z8,rfl,Z8,Z8⟩
theorem gX (F:Fn K mg "need_room" gB ["signs","size","end"] f fd)(Z:Rds K mg cB):FnOk P w K mg base (CXE P w) 31 f fd ["signs","size","end"] (nA cB):=by
 refine F.F.okE nK λ EO A outer st H vs Q E hr h=>?_
 intro _;obtain⟨a,xs,s,e,rfl,ha,k1,k2⟩:=h;refine⟨_,ah (aK (ax ek (ag aF (aw aq Z7 Z.X.len As (aa (pv 0) ac)) (pv 1)) (pv 2) (az _)) (ah (aW aV (hr.hd Z9) Z7 Z.mB Z.xB aB)) ay),?_⟩;refine⟨_,rfl,a,_,rfl,.inl (SqL.of ha),_,rfl,_,_,rfl,rfl,_,rfl,_,_,rfl,rfl,_,rfl,bi (λ h=>?_) (λ h=>?_)⟩
 ·have:=Aq h;exact k2 (by omega)
 ·refine k1 ?_;rcases A4 e (xs.length+s) with q|q
  ·exact absurd (Ai (by omega)) h
  ·exact q
def qg:Sp:=λ vs H Q _=>∃(l:EC) (B:List Nat) (b z:Nat),vs=[.ref l,vN b,vN z]/\H l=some (.lst (B.map vN))/\1≤b/\b≤B.length/\B.length+z≤1000/\Q .non (upd H l (.lst ((cpy B b z).map vN)))
theorem scAddCopy:FnScope ["signs","back","size","step"] ["signs","back","size"] (ak iH):=⟨rfl,rfl,rfl,Z8,rfl,Z8,Z8⟩
theorem mQ (F:Fn K mg "add_copy" iH ["signs","back","size"] f fd)(T:K28.Txt K mg):FnOk P w K mg base CX0 1 f fd ["signs","back","size"] qg:=by
 refine F.F.ok scAddCopy λ EO A outer st H vs Q E hr h=>?_
 intro _;obtain⟨l,B,b,z,rfl,hB,hb1,hb2,hz,k⟩:=h;refine⟨_,ah (cr Bj rfl (cO Z7 T.range (aa (pv 2) ac)) (aG (i:=3) scAddCopy.nd)
  (ah (bf (eL A5 BO B2 cv (pv 0) (aa (ba bd (pv 0) (cf bG (pv 1)) (λ _ _=>rfl)) ac))))),?_⟩
 refine⟨_,rfl,((z:Nat):Int),rfl,by omega,by omega,?_⟩
 try dsimp only
 rw [Ay];refine gu (D:=⟨_,_,λ _ _=>False,λ _ _=>False⟩) (lo:=0) (n:=z) (λ j σ H2=>∃v3:Option V,σ=[some (.ref l),some (vN b),some (vN z),v3]/\H2=upd H l (.lst ((cpy B b j).map vN))) ⟨none,rfl,?_⟩ ?_ ?_
 ·funext c;by_cases e:c=l
  ·subst e;rw [af];exact hB
  ·rw [av e]
 ·rintro j σ H2 hj ⟨v3,rfl,rfl⟩;have hlen:=iK B b j;have hg:(cpy B b j).length-b<(cpy B b j).length:=by omega
  refine⟨_,rfl,.inl ⟨rfl,_,SqL.of af⟩,_,rfl,_,rfl,_,rfl,l,_,_,vN ((cpy B b j).getD ((cpy B b j).length-b) 0),rfl,rfl,SqL.of af,pz hb1 (by rw [z7];omega) ?_,?_⟩
  ·rw [z7,Au,A7,Af hg];rfl
  ·refine⟨l,_,_,rfl,rfl,af,cz (by rw [z7];omega),?_⟩;refine⟨some (V.int ((0:Int)+((j:Nat):Int))),rfl,?_⟩;rw [uQ,cpy,At];rfl
 ·rintro σ H2 ⟨v3,rfl,rfl⟩;exact k
def qm:Sp:=λ vs H Q _=>∃(x:EC) (W:List Nat),vs=[.ref x]/\H x=some (.lst (W.map vN))/\∀l,H l=none->Q (.ref l) (upd H l (.lst (W.map vN)))
theorem qa:FnScope ["before"] ["before"] (ak iO):=⟨rfl,rfl,rfl,Z8,rfl,Z8,Z8⟩
theorem mO (F:Fn K mg "signs_ahead" iO ["before"] f fd)(T:K28.Txt K mg):FnOk P w K mg base CX0 1 f fd ["before"] qm:=by
 refine F.F.ok qa λ EO A outer st H vs Q E hr h=>?_
 intro _;obtain⟨x,W,rfl,hx,k⟩:=h;refine⟨_,ah (ar (lA (ax ie (pv 0) cF (az _)) (aD ac) (bD cL Z7 T.list Bp (aa (pv 0) ac)))),?_⟩;exact⟨_,rfl,rfl,_,rfl,bq ⟨_,rfl,x,_,rfl,.inl (SqL.of hx),λ l nl=>k l nl⟩⟩
def zn (cB:EC):Sp:=λ vs H Q E=>∃(l:EC) (S:List Nat) (b z e:Nat),vs=[.ref l,vN b,vN z,vN e]/\H l=some (.lst (S.map vN))/\e≤1000/\
 (1≤b->b≤S.length->S.length+z≤e->Q .non (upd H l (.lst ((cpy S b z).map vN))))/\(e<S.length+z\/b=0\/S.length<b->E (.ref cB) none H)
theorem yz:FnScope ["signs","back","size","end"] ["signs","back","size","end"] (ak i9):=⟨rfl,rfl,rfl,Z8,rfl,Z8,Z8⟩
theorem xJ (F:Fn K mg "lay_copy" i9 ["signs","back","size","end"] f fd)(Z:Rds K mg cB):FnOk P w K mg base (CXE P w) 32 f fd ["signs","back","size","end"] (zn cB):=by
 obtain⟨_,_,Nr⟩:=Z.room;obtain⟨_,_,Ac⟩:=Z.add;have GN:=gX (P:=P) (w:=w) (base:=base) Nr Z;have GA:=mQ (P:=P) (w:=w) (base:=base) Ac Z.X;refine F.F.okE yz λ EO A outer st H vs Q E hr h=>?_
 intro _;obtain⟨l,S,b,z,e,rfl,hl,he,k1,k2⟩:=h;have hr1:Room 1 _:=hr.mono Z9;refine⟨_,ad (bf (ai GN hr Z7 Nr.m Nr.F.kp Nr.b .nil aV (aa (pv 0) (aa (pv 2) (aa (pv 3) ac)))))
  (ad (aK (PW.pt (eI (ax bP (pv 1) ae (az _)) (dQ (ax ek (pv 1) (aw aq Z7 Z.X.len As (aa (pv 0) ac)) (az _))))) (ah (aW aV (hr.hd Z9) Z7 Z.mB Z.xB aB)) ay)
  (ah (bf (ai GA hr1 Z7 Ac.m Ac.F.kp Ac.b .nil ap (aa (pv 0) (aa (pv 1) (aa (pv 2) ac))))))),?_⟩
 refine am λ R1 g1=>?_
 refine⟨_,rfl,_,rfl,_,rfl,l,_,z,e,rfl,hl,λ hz=>g1 _ _ ?_,λ hz=>k2 (.inl (by rw [z7] at hz;exact hz))⟩;clear g1;rw [z7] at hz;refine am λ R1 g1=>?_
 refine⟨_,rfl,rfl,_,rfl,bi (λ h=>bR ?_) (λ h=>?_)⟩
 ·have h0:b=0:=Ek (V.int.inj (Aq h));exact k2 (.inr (.inl h0))
 have hb1:1≤b:=Nat.pos_of_ne_zero λ q=>h (by rw [q];rfl)
 refine⟨_,rfl,_,rfl,l,_,rfl,.inl (SqL.of hl),_,_,rfl,rfl,_,rfl,bi (λ h=>?_) (λ h=>g1 _ _ ?_)⟩
 ·have:=Aq h;rw [z7] at this;exact k2 (.inr (.inr (by omega)))
 have hb2:b≤S.length:=by
  rcases A4 S.length b with q|q
  ·exact absurd (Ai (by rw [z7];omega)) h
  ·exact q
 exact⟨_,rfl,_,rfl,_,rfl,l,S,b,z,rfl,hl,hb1,hb2,by omega,k1 hb1 hb2 hz⟩
def qX (C:EC):Sp:=λ vs H Q _=>∃(o r d:EC) (x:V) (R T:List Nat) (n t':Nat),vs=[.ref o,.ref r,vN n,x]/\ReadAt C H r d R 0/\RnR R n 0 [] t' T/\n≤64/\
 ∀l H',H l=none->H' l=some (.lst (T.map vN))->ReadAt C H' r d R t'->(∀c o,H c=some o->c≠r->H' c=some o)->Q (.ref l) H'
theorem scRunRead:FnScope ["self","reader","count","before","signs","size","sign"] ["self","reader","count","before"] (ak iQ):=⟨rfl,rfl,rfl,Z8,rfl,Z8,Z8⟩
theorem nQ (F:Fun K "read" "RunWay.read" iQ f fd)(Y:Rds K mg cB)(Z:Rdr K mg C cN):FnOk P w K mg base CX0 32 f fd ["self","reader","count","before"] (qX C):=by
 have X:=Z.Y.X;obtain⟨_,_,Tk,GT'⟩:=Z.tk;have GT:=GT' P w base;have TR:=Z.T;obtain⟨_,_,Nm⟩:=Y.room;have GM:=gX (P:=P) (w:=w) (base:=base) Nm Y;refine F.ok scRunRead λ EO A outer st H vs Q E hr h=>?_
 intro _;obtain⟨o,r,d,x,R,T,n,t',rfl,hR,hk,h64,k⟩:=h;refine⟨_,ad (ao (i:=4) scRunRead.nd (aD ac))
  (ad (iS Bj (ax fh (aw aq Z7 X.len As (aa (pv 4) ac)) (pv 2) (az _))
   (ad (ao (i:=5) scRunRead.nd (ag aF (cJ (pv 1) TR.cl Tk.m GT hr Tk.b .nil fK (aa ae ac)) ae))
   (ad (ao (i:=6) scRunRead.nd (cJ (pv 1) TR.cl Tk.m GT hr Tk.b .nil fK (aa ae ac)))
   (ad (bf (ai GM hr Z7 Nm.m Nm.F.kp Nm.b .nil fK (aa (pv 4) (aa (pv 5) (aa (pv 2) ac)))))
   (ah (bf (eL A5 Dm PySem.F.type_list_extend jo (pv 4) (aa (ag ke (aD (aa (pv 6) ac)) (pv 5)) ac))))))))
  (ah (ar (pv 4)))),?_⟩
 obtain⟨⟨dx0,hr0⟩,hd0,hb,_⟩:=id hR;have no:∀t,(fR d t).lookup ("take":Str)=none:=λ t=>jL _ _ Z8 Z8
 refine am λ R1 g1=>?_
 refine⟨Z9,λ l nl=>g1 _ _ ?_⟩;clear g1;have nlr:l≠r:=(au hr0 nl).symm;have nld:l≠d:=(au hd0 nl).symm;refine am λ R1 g1=>?_
 refine⟨λ m σ H2=>∃(v5 v6:Option V) (S:List Nat) (t:Nat),m=n-S.length/\RnR R n t S t' T/\σ=[some (.ref o),some (.ref r),some (vN n),some x,some (.ref l),v5,v6]/\H2 l=some (.lst (S.map vN))/\ReadAt C H2 r d R t/\∀c o,H c=some o->c≠r->H2 c=some o,
  ⟨n,none,none,[],0,rfl,hk,rfl,af,hR.keep λ c o e _=>aj nl _ _ e,λ c o e _=>aj nl _ _ e⟩,?_⟩
 rintro m σ H2 ⟨v5,v6,S,t,rfl,hk,rfl,h2l,hR2,kp⟩;refine⟨_,rfl,l,_,rfl,.inl (SqL.of h2l),_,rfl,_,_,rfl,rfl,_,rfl,bi (λ h=>?_) (λ h=>?_)⟩
 ·clear g1;have h':=Aq h;rw [z7] at h';cases hk with
  |done e=>omega
  |run q1 q2 q3 q4=>
  clear h h';refine⟨λ σ' H'=>∃(v5 v6:Option V),σ'=[some (.ref o),some (.ref r),some (vN n),some x,some (.ref l),v5,v6]/\H' l=some (.lst ((S++List.replicate (bt R t 6+1) (bt R (t+6) 8)).map vN))/\ReadAt C H' r d R (t+14)/\∀c o,H c=some o->c≠r->H' c=some o,
   λ σ' H' z9=>by obtain⟨v5,v6,z1,z⟩:=z9;exact⟨_,by rw [z0,AR];omega,v5,v6,_,_,rfl,q4,z1,z⟩,?_⟩
  obtain⟨dx2,hr2⟩:=hR2.ob;refine am λ R2 g2=>?_
  refine⟨_,rfl,r,dx2,_,rfl,hr2,no _,r,d,R,t,6,rfl,hR2,Z9,λ _ H3 hR3 kp3=>?_,λ h=>by omega⟩;refine⟨_,_,rfl,rfl,g2 _ _ ?_⟩;clear g2;have e1:((bt R t 6:Nat):Int)+1=((bt R t 6+1:Nat):Int):=by omega
  try dsimp only
  rw [e1];generalize hz:bt R t 6+1=z at*;obtain⟨dx3,hr3⟩:=hR3.ob;refine am λ R2 g2=>?_
  refine⟨_,rfl,r,dx3,_,rfl,hr3,no _,r,d,R,t+6,8,rfl,hR3,Z9,λ _ H4 hR4 kp4=>g2 _ _ ?_,λ h=>by omega⟩;clear g2;generalize bt R (t+6) 8=s at*;have h4l:=kp4 _ _ (kp3 _ _ h2l nlr) nlr;refine am λ R2 g2=>?_
  refine⟨_,rfl,_,rfl,_,rfl,l,_,z,n,rfl,h4l,λ _=>g2 _ _ ?_,λ q=>by rw [z7] at q;omega⟩;clear g2;refine⟨_,rfl,.inl ⟨rfl,_,SqL.of h4l⟩,_,rfl,(by show 1≤sizeLine;decide),λ l4 n4=>?_⟩;have s4:=aj (o:=.lst [vN s]) n4;have h44:(upd H4 l4 (.lst [vN s])) l4=some (.lst [vN s]):=af;have h4l':=s4 _ _ h4l;have nl4:l≠l4:=au h4l n4;have hR5:ReadAt C (upd H4 l4 (.lst [vN s])) r d R (t+14):=hR4.keep λ c o e _=>s4 _ _ e
  have kp5:∀c o,H c=some o->c≠r->(upd H4 l4 (.lst [vN s])) c=some o:=λ c o e z=>s4 _ _ (kp4 _ _ (kp3 _ _ (kp _ _ e z) z) z)
  generalize upd H4 l4 (.lst [vN s])=H5 at*;refine⟨_,rfl,l4,_,_,rfl,rfl,h44,by omega,by omega,ck (by show 1*_≤2000;omega),λ l6 n6=>?_⟩;rw [Ay,iJ];have s6:=aj (o:=.lst ((List.replicate z s).map vN)) n6;have h66:(upd H5 l6 (.lst ((List.replicate z s).map vN))) l6=some (.lst ((List.replicate z s).map vN)):=af;have h6l:=s6 _ _ h4l';refine⟨l,l6,_,_,rfl,rfl,h6l,h66,ck (by simp;omega),_,_,rfl,by rw [af,At],hR5.keep λ c o e hc=>?_,λ c o e z=>?_⟩
  ·rw [av (by rcases hc with rfl|rfl;exact nlr.symm;exact nld.symm)];exact s6 _ _ e
  ·rw [av (au e nl)];exact s6 _ _ (kp5 _ _ e z)
 ·cases hk with
  |run q1=>exact absurd (Ai (by rw [z7];omega)) h
  |done e=>exact g1 _ _ ⟨_,rfl,k l H2 nl h2l hR2 kp⟩
def mq (C cB:EC):Sp:=λ vs H Q E=>∃(o r d x:EC) (R W:List Nat) (n:Nat) (q:Option (Nat×List Nat)),vs=[.ref o,.ref r,vN n,.ref x]/\ReadAt C H r d R 0/\H x=some (.lst (W.map vN))/\x≠r/\x≠d/\CpR R (W.length+n) 0 W q/\n≤64/\W.length≤192/\match q with
 |none=>∀H',(∀c o,H c=some o->c≠r->H' c=some o)->E (.ref cB) none H'
 |some (t',S)=>∀l H',H l=none->H' l=some (.lst ((S.drop W.length).map vN))->ReadAt C H' r d R t'->(∀c o,H c=some o->c≠r->H' c=some o)->Q (.ref l) H'
abbrev ya:List Str:=["self","reader","count","before","signs","begin","end","back","size"]
theorem scCRead:FnScope ya ["self","reader","count","before"] (ak gq):=⟨rfl,rfl,rfl,Z8,rfl,Z8,Z8⟩
theorem lD (F:Fun K "read" "CopyWay.read" gq f fd)(Y:Rds K mg cB)(Z:Rdr K mg C cN):FnOk P w K mg base (CXE P w) 33 f fd ["self","reader","count","before"] (mq C cB):=by
 have X:=Z.Y.X;obtain⟨_,_,Tk,GT'⟩:=Z.tk;have GT:=GT' P w base;have TR:=Z.T;obtain⟨_,_,La⟩:=Y.lay;obtain⟨_,_,Ao⟩:=Y.ahead;have GA:=mO (P:=P) (w:=w) (base:=base) Ao X;have GL:=xJ (P:=P) (w:=w) (base:=base) La Y;obtain⟨tl,hle⟩:=X.least;refine F.okE scCRead λ EO A outer st H vs Q E hr h=>?_
 intro _;obtain⟨o,r,d,x,R,W,n,q,rfl,hR,hx,nxr,nxd,hk,h64,hW,k⟩:=h;have hr31:Room 31 _:=hr.mono Z9;have hr1:Room 1 _:=hr.mono Z9;refine⟨_,ad (ao (i:=4) scCRead.nd (ai GA hr1 Z7 Ao.m Ao.F.kp Ao.b .nil ap (aa (pv 3) ac)))
  (ad (ao (i:=5) scCRead.nd (aw aq Z7 X.len As (aa (pv 4) ac)))
  (ad (ao (i:=6) scCRead.nd (ag aF (pv 5) (pv 2)))
  (ad (iS Ef (ax fh (aw aq Z7 X.len As (aa (pv 4) ac)) (pv 6) (az _))
   (ah (aK (ax bP (cJ (pv 1) TR.cl Tk.m GT hr31 Tk.b .nil fK (aa ae ac)) ae (az _))
    (ah (bf (eL A5 BO B2 cv (pv 4) (aa (cJ (pv 1) TR.cl Tk.m GT hr31 Tk.b .nil fK (aa ae ac)) ac))))
    (ad (ao (i:=7) scCRead.nd (cJ (pv 1) TR.cl Tk.m GT hr31 Tk.b .nil fK (aa ae ac)))
    (ad (ao (i:=8) scCRead.nd (ag aF (cJ (pv 1) TR.cl Tk.m GT hr31 Tk.b .nil fK (aa ae ac)) (aP (v:=.int 3) Z7 hle ⟨tl,rfl⟩)))
    (ah (bf (ai GL hr Z7 La.m La.F.kp La.b .nil aV (aa (pv 4) (aa (pv 7) (aa (pv 8) (aa (pv 6) ac))))))))))))
  (ah (ar (aC aL (pv 4) (aA (pv 5)) aY)))))),?_⟩
 obtain⟨⟨dx0,hr0⟩,hd0,_,_⟩:=id hR;have no:∀t,(fR d t).lookup ("take":Str)=none:=λ t=>jL _ _ Z8 Z8
 refine am λ R1 g1=>?_
 refine⟨_,rfl,x,W,rfl,hx,λ l nl=>g1 _ _ ?_⟩;clear g1;have nlr:l≠r:=(au hr0 nl).symm;have nld:l≠d:=(au hd0 nl).symm;refine am λ R1 g1=>?_
 refine⟨_,rfl,l,_,rfl,.inl (SqL.of af),g1 _ _ ?_⟩;clear g1
 try dsimp only
 rw [z7];refine am λ R1 g1=>?_
 have e0:((W.length:Nat):Int)+((n:Nat):Int)=((W.length+n:Nat):Int):=by omega
 refine⟨_,rfl,_,rfl,_,_,rfl,rfl,g1 _ _ ?_⟩;clear g1
 try dsimp only
 rw [e0];refine am λ R1 g1=>?_
 refine⟨λ m σ H2=>∃(v7 v8:Option V) (S:List Nat) (t:Nat),m=W.length+n-S.length/\CpR R (W.length+n) t S q/\σ=[some (.ref o),some (.ref r),some (vN n),some (.ref x),some (.ref l),some (vN W.length),some (vN (W.length+n)),v7,v8]/\H2 l=some (.lst (S.map vN))/\ReadAt C H2 r d R t/\∀c o,H c=some o->c≠r->H2 c=some o,
  ⟨n,none,none,W,0,by omega,hk,rfl,af,hR.keep λ c o e _=>aj nl _ _ e,λ c o e _=>aj nl _ _ e⟩,?_⟩
 rintro m σ H2 ⟨v7,v8,S,t,rfl,hk,rfl,h2l,hR2,kp⟩;have hle2:=hk.le;refine⟨_,rfl,l,_,rfl,.inl (SqL.of h2l),_,rfl,_,_,rfl,rfl,_,rfl,bi (λ h=>?_) (λ h=>?_)⟩
 ·clear g1;have h':=Aq h;rw [z7] at h';have EQ:S.length<W.length+n:=by omega
  obtain⟨dx2,hr2⟩:=hR2.ob;clear h h';have t1:t+1≤8*R.length:=by cases hk<;>omega
  refine⟨λ σ' H'=>∃m',m'<W.length+n-S.length/\∃(v7 v8:Option V) (S:List Nat) (t:Nat),m'=W.length+n-S.length/\CpR R (W.length+n) t S q/\σ'=[some (.ref o),some (.ref r),some (vN n),some (.ref x),some (.ref l),some (vN W.length),some (vN (W.length+n)),v7,v8]/\H' l=some (.lst (S.map vN))/\ReadAt C H' r d R t/\∀c o,H c=some o->c≠r->H' c=some o,λ σ' H' z=>z,?_⟩;refine⟨_,rfl,r,dx2,_,rfl,hr2,no _,r,d,R,t,1,rfl,hR2,Z9,λ _ H3 hR3 kp3=>?_,λ h=>by omega⟩;obtain⟨dx3,hr3⟩:=hR3.ob;have h3l:=kp3 _ _ h2l nlr;cases hk with
  |done e=>omega
  |sg q1 q2 q3 q4=>
   rw [q3];refine⟨rfl,_,rfl,bi (λ _=>?_) (λ h=>absurd (Ai rfl) h)⟩;refine⟨_,rfl,.inl ⟨rfl,_,SqL.of h3l⟩,_,rfl,r,dx3,_,rfl,hr3,no _,r,d,R,_,8,rfl,hR3,Z9,λ _ H4 hR4 kp4=>?_,λ h=>by omega⟩;have h4l:=kp4 _ _ h3l nlr;refine⟨l,_,_,rfl,rfl,h4l,cz (by rw [z7];omega),_,?_,_,_,_,_,rfl,q4,rfl,by rw [af,At];rfl,?_,λ c o' e z=>?_⟩
   ·rw [z0];show _-(_+1)<_;omega
   ·refine hR4.keep λ c o e hc=>?_
    rw [av (by rcases hc with rfl|rfl;exact nlr.symm;exact nld.symm)];exact e
   ·rw [av (au e nl)];exact kp4 _ _ (kp3 _ _ (kp _ _ e z) z) z
  |cp q1 q2 q3 q4 q5 q6 q7=>
   rw [q3];refine⟨rfl,_,rfl,bi (λ h=>absurd (Aq h) (by intro z;cases z)) (λ _=>?_)⟩;refine am λ R2 q2'=>?_
   refine⟨_,rfl,r,dx3,_,rfl,hr3,no _,r,d,R,_,8,rfl,hR3,Z9,λ _ H4 hR4 kp4=>q2' _ _ ?_,λ h=>by omega⟩;clear q2';obtain⟨dx4,hr4⟩:=hR4.ob;refine am λ R2 q2'=>?_
   refine⟨_,rfl,r,dx4,_,rfl,hr4,no _,r,d,R,_,4,rfl,hR4,Z9,λ _ H5 hR5 kp5=>?_,λ h=>by omega⟩;have ez:((bt R (t+1+8) 4:Nat):Int)+3=((bt R (t+9) 4+3:Nat):Int):=by rw [show t+1+8=t+9 by omega];omega
   refine⟨_,_,rfl,rfl,q2' _ _ ?_⟩;clear q2'
   try dsimp only
   rw [ez];have h5l:=kp5 _ _ (kp4 _ _ h3l nlr) nlr;refine⟨_,rfl,_,rfl,_,rfl,_,rfl,l,S,bt R (t+1) 8,bt R (t+9) 4+3,W.length+n,rfl,h5l,by omega,λ _ _ _=>⟨_,?_,_,_,_,_,rfl,q7,rfl,af,?_,λ c o' e z=>?_⟩,λ z=>by omega⟩
   ·rw [iK];omega
   ·refine(show t+1+8+4=t+13 by omega)▸hR5.keep λ c o e hc=>?_
    rw [av (by rcases hc with rfl|rfl;exact nlr.symm;exact nld.symm)];exact e
   ·rw [av (au e nl)];exact kp5 _ _ (kp4 _ _ (kp3 _ _ (kp _ _ e z) z) z) z
  |far q1 q2 q3 q4=>
   rw [q3];refine⟨rfl,_,rfl,bi (λ h=>absurd (Aq h) (by intro z;cases z)) (λ _=>?_)⟩;refine am λ R2 q2'=>?_
   refine⟨_,rfl,r,dx3,_,rfl,hr3,no _,r,d,R,_,8,rfl,hR3,Z9,λ _ H4 hR4 kp4=>q2' _ _ ?_,λ h=>by omega⟩;clear q2';obtain⟨dx4,hr4⟩:=hR4.ob;refine am λ R2 q2'=>?_
   refine⟨_,rfl,r,dx4,_,rfl,hr4,no _,r,d,R,_,4,rfl,hR4,Z9,λ _ H5 hR5 kp5=>?_,λ h=>by omega⟩;have ez:((bt R (t+1+8) 4:Nat):Int)+3=((bt R (t+9) 4+3:Nat):Int):=by rw [show t+1+8=t+9 by omega];omega
   refine⟨_,_,rfl,rfl,q2' _ _ ?_⟩;clear q2'
   try dsimp only
   rw [ez];have h5l:=kp5 _ _ (kp4 _ _ h3l nlr) nlr;exact⟨_,rfl,_,rfl,_,rfl,_,rfl,l,S,bt R (t+1) 8,bt R (t+9) 4+3,W.length+n,rfl,h5l,by omega,λ z1 z2 z3=>by omega,λ _=>k _ λ c o' e z=>kp5 _ _ (kp4 _ _ (kp3 _ _ (kp _ _ e z) z) z) z⟩
 ·cases hk with
  |sg q1=>exact absurd (Ai (by rw [z7];omega)) h
  |cp q1=>exact absurd (Ai (by rw [z7];omega)) h
  |far q1=>exact absurd (Ai (by rw [z7];omega)) h
  |done e=>
   refine g1 _ _ ?_;clear g1;have ec:cutV (S.map vN) (some ((W.length:Nat):Int)) none=(S.drop W.length).map vN:=by rw [dB,<-BB]
   refine⟨_,rfl,_,rfl,_,rfl,l,_,rfl,SqL.of h2l,λ l9 n9=>?_⟩
   try dsimp only
   rw [ec];have s9:=aj (o:=.lst ((S.drop W.length).map vN)) n9;refine k l9 _ ?_ af (hR2.keep λ c o e _=>s9 _ _ e) λ c o e n=>s9 _ _ (kp _ _ e n)
   cases e:H l9 with
   |none=>rfl
   |some o'=>
    by_cases z:l9=r
    ·subst z;obtain⟨⟨dx9,hr9⟩,_⟩:=hR2;rw [hr9] at n9;cases n9
    ·rw [kp _ _ e z] at n9;cases n9
end
end K28.Ck
set_option maxHeartbeats 4000000
namespace L2
open PySem
variable {ta:TE}{X:Cx}{K:Frag}
theorem dU {e:EK}{f:Str}{pos:Pos}(hK:X.K=K)(he:PE X e ta)(hb:attributeBase e f X.env (eval e X.env)=eval e X.env):PE X (.Attribute e f pos) (wI K ta f):=by subst hK;exact cw he hb
theorem nB {a b:EK}{tb:TE}{pos:Pos}(hK:X.K=K)(ha:PE X a ta)(hb:PE X b tb)(hs:pG b):PE X (.Subscript a b pos) (tOp (rIxL K) ta tb):=by subst hK;exact ba bd ha hb hs
end L2
namespace K28.Ck
open PySem L2 QQ W17 W16 BP
seal PE PA PS PSs PT PW PG PI
variable {CHd cB f:EC}{fd:EH}
abbrev kf:EM:=top 108
abbrev fw:EM:=top 109
noncomputable def cs (C0 C1 C2 C3:EC):Nat->EC
 |0=>C0
 |1=>C1
 |2=>C2
 |_=>C3
structure Wal (K:Frag)(mg:Str->Option ED)(C0 C1 C2 C3:EC):Prop where
 ways:∃f fd,Fn K mg "ways" ul [] f fd
 m0:mg "RawWay"=some (.ref C0)
 m1:mg "RunWay"=some (.ref C1)
 m2:mg "CopyWay"=some (.ref C2)
 m3:mg "ShareWay"=some (.ref C3)
 k0:MkB K C0
 k1:MkB K C1
 k2:MkB K C2
 k3:MkB K C3
 c0:Cls K C0
 c1:Cls K C1
 c2:Cls K C2
 read0:∃f fd,Me K C0 "read" "RawWay.read" ik ["self","reader","count","before"] f fd
 read1:∃f fd,Me K C1 "read" "RunWay.read" iQ ["self","reader","count","before"] f fd
 read2:∃f fd,Me K C2 "read" "CopyWay.read" gq ["self","reader","count","before"] f fd
section
variable {C cN C0 C1 C2 C3:EC}
def wT (C:Nat->EC):Sp:=λ vs H Q _=>vs=[]/\∀(l:EC) (os ds:Nat->EC) (H':Hp),H l=none->(∀i,i<4->H (os i)=none)->H' l=some (.lst [.ref (os 0),.ref (os 1),.ref (os 2),.ref (os 3)])->(∀i,i<4->H' (os i)=some (.ins (C i) (ds i) []))->Same H H'->Q (.ref l) H'
theorem xp:FnScope [] [] (ak ul):=⟨rfl,rfl,rfl,Z8,rfl,Z8,Z8⟩
theorem vg (F:Fun K "ways" "ways" ul f fd)(Z:Wal K mg C0 C1 C2 C3):FnOk P w K mg base CX0 1 f fd [] (wT (cs C0 C1 C2 C3)):=by
 refine F.ok xp λ EO A outer st H vs Q E hr h=>?_
 intro _;obtain⟨rfl,k⟩:=h;refine⟨_,ah (ar (aD (aa (fU Z.k0 Z7 Z.m0) (aa (fU Z.k1 Z7 Z.m1) (aa (fU Z.k2 Z7 Z.m2) (aa (fU Z.k3 Z7 Z.m3) ac)))))),?_⟩;intro p0 d0 n0 m0 e0 p1 d1 n1 m1 e1 p2 d2 n2 m2 e2 p3 d3 n3 m3 e3;have s0:=dj (C:=C0) n0 m0;have g0:(upd (upd H d0 (.own p0)) p0 (.ins C0 d0 [])) p0=_:=af;generalize upd (upd H d0 (.own p0)) p0 (.ins C0 d0 [])=H1 at*;have s1:=dj (C:=C1) n1 m1;have g1:(upd (upd H1 d1 (.own p1)) p1 (.ins C1 d1 [])) p1=_:=af;generalize upd (upd H1 d1 (.own p1)) p1 (.ins C1 d1 [])=H2 at*;have s2:=dj (C:=C2) n2 m2;have g2:(upd (upd H2 d2 (.own p2)) p2 (.ins C2 d2 [])) p2=_:=af;generalize upd (upd H2 d2 (.own p2)) p2 (.ins C2 d2 [])=H3 at*;have s3:=dj (C:=C3) n3 m3;have g3:(upd (upd H3 d3 (.own p3)) p3 (.ins C3 d3 [])) p3=_:=af;generalize upd (upd H3 d3 (.own p3)) p3 (.ins C3 d3 [])=H4 at*;have s02:Same H H2:=λ c o e=>s1 _ _ (s0 _ _ e)
 have s03:Same H H3:=λ c o e=>s2 _ _ (s02 _ _ e)
 have s04:Same H H4:=λ c o e=>s3 _ _ (s03 _ _ e)
 have s14:Same H1 H4:=λ c o e=>s3 _ _ (s2 _ _ (s1 _ _ e))
 have s24:Same H2 H4:=λ c o e=>s3 _ _ (s2 _ _ e)
 refine⟨by show(4:Nat)≤sizeLine;decide,λ l nl=>?_⟩;have s5:Same H4 (upd H4 l (.lst [.ref p0,.ref p1,.ref p2,.ref p3])):=λ c o e=>(av (au e nl)).trans e
 refine k l (cs p0 p1 p2 p3) (cs d0 d1 d2 d3) _ (none_of s04 nl) (λ i hi=>?_) af (λ i hi=>?_) (λ c o e=>s5 _ _ (s04 _ _ e))
 ·match i,hi with
  |0,_=>exact n0
  |1,_=>exact none_of s0 n1
  |2,_=>exact none_of s02 n2
  |3,_=>exact none_of s03 n3
 ·match i,hi with
  |0,_=>exact s5 _ _ (s14 _ _ g0)
  |1,_=>exact s5 _ _ (s24 _ _ g1)
  |2,_=>exact s5 _ _ (s3 _ _ g2)
  |3,_=>exact s5 _ _ g3
inductive TxK (R W:List Nat):Nat->Nat->Option (List Nat)->Prop
 |raw:TxK R W 0 R.length (some R)
 |run {v t:Nat} {T:List Nat}:RnR R v 0 [] t T->8*R.length-t<8->val R%2^(8*R.length-t)=0->TxK R W 1 v (some T)
 |cpy {v t:Nat} {S:List Nat}:CpR R (W.length+v) 0 W (some (t,S))->8*R.length-t<8->val R%2^(8*R.length-t)=0->TxK R W 2 v (some (S.drop W.length))
 |far {v:Nat}:CpR R (W.length+v) 0 W none->TxK R W 2 v none
def sL (CHd cB:EC):Sp:=λ vs H Q E=>∃(a h x dx:EC) (R W:List Nat) (u v y:Nat) (o:Option (List Nat)),vs=[.ref a,.ref h,.ref x]/\H a=some (.lst (R.map vN))/\(∀b∈R,b<256)/\H h=some (.ins CHd dx (fH u v y))/\H x=some (.lst (W.map vN))/\W.length≤192/\v≤64/\TxK R W u v o/\match o with
 |none=>∀H',Same H H'->E (.ref cB) none H'
 |some T=>∀l H',H l=none->Same H H'->H' l=some (.lst (T.map vN))->Q (.ref l) H'
theorem scTextIn:FnScope ["body","head","window","reader","text"] ["body","head","window"] (ak kf):=⟨rfl,rfl,rfl,Z8,rfl,Z8,Z8⟩
theorem qx (F:Fn K mg "text_in" kf ["body","head","window"] f fd)(D:Rdr K mg C cN)(Z:Wal K mg C0 C1 C2 C3)(Y:Rds K mg cB)(T:CH K mg CHd)(hne:cB≠cN)(hmro:mroIn K cB (.ref cN)=some false):
  FnOk P w K mg base (CXE P w) 34 f fd ["body","head","window"] (sL CHd cB):=by
 obtain⟨_,_,FI,bI,MI⟩:=D.init;obtain⟨_,_,N⟩:=D.need;obtain⟨_,_,Wy⟩:=Z.ways;obtain⟨_,_,R0⟩:=Z.read0;obtain⟨_,_,R1⟩:=Z.read1;obtain⟨_,_,R2⟩:=Z.read2;obtain⟨_,_,Ae⟩:=D.atend;obtain⟨_,_,L⟩:=D.left;obtain⟨_,_,O⟩:=D.ones;obtain⟨_,_,Ba⟩:=D.bits;refine F.F.okE scTextIn λ EO A outer st H vs Q E hr h=>?_
 intro _;obtain⟨a,h,x,dx,R,W,u,v,y,o,rfl,ha,hb,hh,hx,hW,hv,hk,k⟩:=h;have hr32:Room 32 _:=hr.mono Z9;have hr6:Room 6 _:=hr.mono Z9;have hr3:Room 3 _:=hr.mono Z9;have hr1:Room 1 _:=hr.mono Z9;have GI:=rH (P:=P) (w:=w) (base:=base) FI N D.Y D.T;have GW:=vg (P:=P) (w:=w) (base:=base) Wy.F Z;have GA:=rT (P:=P) (w:=w) (base:=base) Ae.F Ba O L D.T D.Y.X;have fin:∀(z:Str) (p d l:EC) (t:Nat) (T':List Nat) (H3:Hp),o=some T'->8*R.length-t<8->val R%2^(8*R.length-t)=0->H l=none->Same H H3->H3 l=some (.lst (T'.map vN))->ReadAt C H3 p d R t->
   (rN (yo (zu (tB (lm C "at_end" (pT C) [] E0 (tVar 3) tNil))) (tI cB E (tC (.str z))) wu) (vt (tVar 4))) {nx:=λ _ H'=>Q .non H',rt:=Q} [some (.ref a),some (.ref h),some (.ref x),some (.ref p),some (.ref l)] H3:=by
  intro z p d l t T' H3 eo h1 h2 nl s3 h3 hR;subst eo;obtain⟨dp,hp⟩:=hR.ob;refine am λ R1 g1=>⟨_,rfl,p,dp,_,rfl,hp,jL _ _ Z8 Z8,p,d,R,t,rfl,hR,λ H4 s4=>?_⟩
  refine⟨_,rfl,?_⟩;rw [Ai h1,Ai h2];exact bq (g1 _ _ ⟨_,rfl,k l H4 nl (s3.trans s4) (s4 _ _ h3)⟩)
 rcases(show u=0\/u=1\/u=2 by cases hk<;>simp) with rfl|rfl|rfl
 ·have GR:=oA (P:=P) (w:=w) (mg:=mg) (base:=base) R0.F D;refine⟨_,ad (ao (i:=3) scTextIn.nd (fZ MI GI hr6 Z7 D.m bI .nil ap (aa (pv 0) ac)))
   (ad (ko rfl Z7 D.mN D.xN (λ pn σ0 E'=>ah (ao (i:=4) scTextIn.nd (kW (nB (K:=K) rfl (ii GW hr1 Z7 Wy.m Wy.F.kp Wy.b .nil ap) (dU (K:=K) rfl (pv 1) rfl) (λ _ _=>rfl)) Z.c0 R0.m GR hr32 R0.b .nil (ut rfl) (aa (pv 3) (aa (dU (K:=K) rfl (pv 1) rfl) (aa (pv 2) ac)))))))
   (ad (aK (bp (bj (du (pv 3) D.T.cl Ae.m GA hr3 Ae.b .nil ap))) (ah (aW aV (hr.hd Z9) Z7 Y.mB Y.xB aB)) ay)
   (ah (ar (pv 4))))),?_⟩
  refine am λ R1 g1=>⟨_,rfl,λ p dp np ndp nep=>?_⟩
  have s0:=dj (C:=C) np ndp;refine⟨p,dp,a,R,rfl,af,s0 _ _ ha,hb,λ d H2 nd hR kp=>⟨rfl,g1 _ _ ?_⟩⟩;clear g1;have s2:Same H H2:=λ c o e=>kp _ _ (s0 _ _ e) (au e np)
  refine am λ R2 g2=>⟨rfl,rfl,λ l os ds H3 nl no hl ho s3=>?_⟩
  have hh3:=s3 _ _ (s2 _ _ hh);have hR3:ReadAt C H3 p d R 0:=hR.keep λ c o e _=>s3 _ _ e
  have sS:∀H4:Hp,(∀c o,H3 c=some o->c≠p->H4 c=some o)->Same H H4:=λ H4 kp4 c o e=>kp4 _ _ (s3 _ _ (s2 _ _ e)) (au e np)
  refine⟨_,rfl,h,CHd,dx,_,_,rfl,hh3,T.cl,T.nW,xq _ _ _,l,_,_,_,rfl,rfl,SqL.of hl,aT (j:=0) rfl,?_⟩;refine⟨os 0,ds 0,[],rfl,ho 0 Z9,rfl,_,rfl,_,rfl,h,CHd,dx,_,_,rfl,hh3,T.cl,T.nC,qS _ _ _,_,rfl,os 0,p,d,_,R,v,rfl,hR3,hv,?_⟩;cases hk;refine .inl ⟨Al _,λ l' H4 nl' h4 hR4 kp4=>g2 _ _ (fin _ p d l' (8*R.length) R H4 rfl (by omega) (by rw [D9,Ez,Nat.mod_one]) (none_of (s2.trans s3) nl') (sS H4 kp4) (by rw [Bx] at h4;exact h4) hR4)⟩
 ·have GR:=nQ (P:=P) (w:=w) (mg:=mg) (base:=base) R1.F Y D;refine⟨_,ad (ao (i:=3) scTextIn.nd (fZ MI GI hr6 Z7 D.m bI .nil ap (aa (pv 0) ac)))
   (ad (ko rfl Z7 D.mN D.xN (λ pn σ0 E'=>ah (ao (i:=4) scTextIn.nd (cJ (nB (K:=K) rfl (ii GW hr1 Z7 Wy.m Wy.F.kp Wy.b .nil ap) (dU (K:=K) rfl (pv 1) rfl) (λ _ _=>rfl)) Z.c1 R1.m GR hr32 R1.b .nil ap (aa (pv 3) (aa (dU (K:=K) rfl (pv 1) rfl) (aa (pv 2) ac)))))))
   (ad (aK (bp (bj (du (pv 3) D.T.cl Ae.m GA hr3 Ae.b .nil ap))) (ah (aW aV (hr.hd Z9) Z7 Y.mB Y.xB aB)) ay)
   (ah (ar (pv 4))))),?_⟩
  refine am λ R1 g1=>⟨_,rfl,λ p dp np ndp nep=>?_⟩
  have s0:=dj (C:=C) np ndp;refine⟨p,dp,a,R,rfl,af,s0 _ _ ha,hb,λ d H2 nd hR kp=>⟨rfl,g1 _ _ ?_⟩⟩;clear g1;have s2:Same H H2:=λ c o e=>kp _ _ (s0 _ _ e) (au e np)
  refine am λ R2 g2=>⟨rfl,λ l os ds H3 nl no hl ho s3=>?_⟩
  have hh3:=s3 _ _ (s2 _ _ hh);have hR3:ReadAt C H3 p d R 0:=hR.keep λ c o e _=>s3 _ _ e
  have sS:∀H4:Hp,(∀c o,H3 c=some o->c≠p->H4 c=some o)->Same H H4:=λ H4 kp4 c o e=>kp4 _ _ (s3 _ _ (s2 _ _ e)) (au e np)
  refine⟨_,rfl,h,CHd,dx,_,_,rfl,hh3,T.cl,T.nW,xq _ _ _,l,_,_,_,rfl,rfl,SqL.of hl,aT (j:=1) rfl,?_⟩;cases hk with
  |run q1 q2 q3=>
  exact⟨os 1,ds 1,[],rfl,ho 1 Z9,rfl,_,rfl,_,rfl,h,CHd,dx,_,_,rfl,hh3,T.cl,T.nC,qS _ _ _,_,rfl,os 1,p,d,_,R,_,v,_,rfl,hR3,q1,hv,λ l' H4 nl' h4 hR4 kp4=>g2 _ _ (fin _ p d l' _ _ H4 rfl q2 q3 (none_of (s2.trans s3) nl') (sS H4 kp4) h4 hR4)⟩
 ·have GR:=lD (P:=P) (w:=w) (mg:=mg) (base:=base) R2.F Y D;refine⟨_,ad (ao (i:=3) scTextIn.nd (fZ MI GI hr6 Z7 D.m bI .nil ap (aa (pv 0) ac)))
   (ad (ko rfl Z7 D.mN D.xN (λ pn σ0 E'=>ah (ao (i:=4) scTextIn.nd (kW (nB (K:=K) rfl (ii GW hr1 Z7 Wy.m Wy.F.kp Wy.b .nil ap) (dU (K:=K) rfl (pv 1) rfl) (λ _ _=>rfl)) Z.c2 R2.m GR hr R2.b .nil (ut rfl) (aa (pv 3) (aa (dU (K:=K) rfl (pv 1) rfl) (aa (pv 2) ac)))))))
   (ad (aK (bp (bj (du (pv 3) D.T.cl Ae.m GA hr3 Ae.b .nil ap))) (ah (aW aV (hr.hd Z9) Z7 Y.mB Y.xB aB)) ay)
   (ah (ar (pv 4))))),?_⟩
  refine am λ R1 g1=>⟨_,rfl,λ p dp np ndp nep=>?_⟩
  have s0:=dj (C:=C) np ndp;refine⟨p,dp,a,R,rfl,af,s0 _ _ ha,hb,λ d H2 nd hR kp=>⟨rfl,g1 _ _ ?_⟩⟩;clear g1;have s2:Same H H2:=λ c o e=>kp _ _ (s0 _ _ e) (au e np)
  refine am λ R2 g2=>⟨rfl,rfl,λ l os ds H3 nl no hl ho s3=>?_⟩
  have hh3:=s3 _ _ (s2 _ _ hh);have hR3:ReadAt C H3 p d R 0:=hR.keep λ c o e _=>s3 _ _ e
  have sS:∀H4:Hp,(∀c o,H3 c=some o->c≠p->H4 c=some o)->Same H H4:=λ H4 kp4 c o e=>kp4 _ _ (s3 _ _ (s2 _ _ e)) (au e np)
  refine⟨_,rfl,h,CHd,dx,_,_,rfl,hh3,T.cl,T.nW,xq _ _ _,l,_,_,_,rfl,rfl,SqL.of hl,aT (j:=2) rfl,?_⟩;have nxp:x≠p:=au hx np;have nxd:x≠d:=λ z=>by
   have e:=s0 _ _ hx;rw [z,nd] at e;cases e
  have hx3:=s3 _ _ (s2 _ _ hx);cases hk with
  |cpy q1 q2 q3=>
   exact⟨os 2,ds 2,[],rfl,ho 2 Z9,rfl,_,rfl,_,rfl,h,CHd,dx,_,_,rfl,hh3,T.cl,T.nC,qS _ _ _,_,rfl,os 2,p,d,x,R,W,v,_,rfl,hR3,hx3,nxp,nxd,q1,hv,hW,λ l' H4 nl' h4 hR4 kp4=>g2 _ _ (fin _ p d l' _ _ H4 rfl q2 q3 (none_of (s2.trans s3) nl') (sS H4 kp4) h4 hR4)⟩
  |far q1=>
   exact⟨os 2,ds 2,[],rfl,ho 2 Z9,rfl,_,rfl,_,rfl,h,CHd,dx,_,_,rfl,hh3,T.cl,T.nC,qS _ _ _,_,rfl,os 2,p,d,x,R,W,v,_,rfl,hR3,hx3,nxp,nxd,q1,hv,hW,λ H4 kp4=>⟨cB,rfl,Y.xB,hne,hmro,k _ (sS H4 kp4)⟩⟩
end
theorem NhK.len5 {B:List Nat}{u v y:Nat}(h:NhK B (some (u,v,y))):5≤B.length/\v≤64:=by
 cases h with
 |ok e hd hl=>
  cases hd with
  |ok=>exact⟨by rw [hl];exact BG 5 _,AK _ Z9⟩
inductive BkK (B W:List Nat) (u v:Nat):Nat ⊕ List Nat->Prop
 |check:sld (B.take (B.length-2))≠B->BkK B W u v (.inl 0)
 |body:sld (B.take (B.length-2))=B->TxK ((B.take (B.length-2)).drop 3) W u v none->BkK B W u v (.inl 1)
 |ok {T:List Nat}:sld (B.take (B.length-2))=B->TxK ((B.take (B.length-2)).drop 3) W u v (some T)->BkK B W u v (.inr T)
def e2 (a b:EC):Nat->EC
 |0=>a
 |_=>b
def lB (cK cB:EC):Sp:=λ vs H Q E=>∃(x z:EC) (B W:List Nat) (u v y:Nat) (o:Nat ⊕ List Nat),vs=[.ref x,.ref z]/\H x=some (.lst (B.map vN))/\(∀b∈B,b<256)/\B.length≤1000/\H z=some (.lst (W.map vN))/\(∀b∈W,b<256)/\W.length≤192/\NhK B (some (u,v,y))/\BkK B W u v o/\match o with
  | .inl i=>∀H',Same H H'->E (.ref (e2 cK cB i)) none H'
  | .inr T=>∀l H',H l=none->Same H H'->H' l=some (.lst (T.map vN))->Q (.ref l) H'
theorem scTakeBlock:FnScope ["row","before","block","window","head"] ["row","before"] (ak fw):=⟨rfl,rfl,rfl,Z8,rfl,Z8,Z8⟩
structure Tbk (K:Frag)(mg:Str->Option ED)(C CHd CR cR cH cK cB cN C0 C1 C2 C3:EC):Prop where
 H:Hds K mg C CHd cR cH
 D:Rdr K mg CR cN
 W:Wal K mg C0 C1 C2 C3
 R:Rds K mg cB
 ahead:∃f fd,Fn K mg "need_ahead" fu ["before"] f fd
 win:∃f fd,Fn K mg "need_window" fP ["before","most"] f fd
 nhead:∃f fd,Fn K mg "need_head" gR ["block"] f fd
 headof:∃f fd,Fn K mg "head_of" gh ["row"] f fd
 bsize:∃f fd,Fn K mg "block_size" cY ["head"] f fd
 ends:∃f fd,Fn K mg "ends_in_check" g7 ["row"] f fd
 wcheck:∃f fd,Fn K mg "with_check" cx ["row"] f fd
 textin:∃f fd,Fn K mg "text_in" kf ["body","head","window"] f fd
 mK:mg "BadCheck"=some (.ref cK)
 xK:ExC K cK
 ne:cB≠cN
 mro:mroIn K cB (.ref cN)=some false
section
variable {cN C0 C1 C2 C3:EC}
theorem kr {CC CR cR cH cK:EC}{dV:ED}(F:FunD K "take_block" "take_block" fw dV f fd)(Z:Tbk K mg CC CHd CR cR cH cK cB cN C0 C1 C2 C3):
  FnOk P w K mg base (CXE P w) 35 f fd ["row","before"] (lB cK cB):=by
 obtain⟨_,_,N,GN'⟩:=Z.H.N.ok;have GN:=GN' P w base;obtain⟨_,_,Ah⟩:=Z.ahead;obtain⟨_,_,Wn⟩:=Z.win;obtain⟨_,_,Nh⟩:=Z.nhead;obtain⟨_,_,Ho⟩:=Z.headof;obtain⟨_,_,Bs⟩:=Z.bsize;obtain⟨_,_,En⟩:=Z.ends;obtain⟨_,_,Wc⟩:=Z.wcheck;obtain⟨_,_,Ti⟩:=Z.textin;obtain⟨t3,h3⟩:=Z.H.three;obtain⟨t2,h2⟩:=Z.H.twoB;refine F.okE scTakeBlock λ EO A outer st H vs Q E hr h=>?_
 intro _;obtain⟨x,z,B,W,u,v,y,o,rfl,hB,hb,h1000,hW,hWb,hWl,hh,hk,k⟩:=h;have hr33:Room 33 _:=hr.mono Z9;have hr31:Room 31 _:=hr.mono Z9;have hr8:Room 8 _:=hr.mono Z9;refine⟨_,ad (ao (i:=2) scTakeBlock.nd (ai GN hr31 Z7 N.m N.F.kp N.b .nil aV (aa (pv 0) ac)))
  (ad (ao (i:=3) scTakeBlock.nd (ai (Rf.ok_needahead Ah Wn Z.H.N) hr33 Z7 Ah.m Ah.F.kp Ah.b .nil aV (aa (pv 1) ac)))
  (ad (ao (i:=4) scTakeBlock.nd (ai (lR Nh Ho Bs Z.H) hr33 Z7 Nh.m Nh.F.kp Nh.b .nil aV (aa (pv 2) ac)))
  (ad (aK (bp (bj (ai (jt En Wc Z.H.Y) hr8 Z7 En.m En.F.kp En.b .nil ap (aa (pv 2) ac)))) (ah (aW aV (hr.hd Z9) Z7 Z.mK Z.xK aB)) ay)
  (ah (ar (ai (qx Ti Z.D Z.W Z.R Z.H.T Z.ne Z.mro) hr Z7 Ti.m Ti.F.kp Ti.b .nil aV (aa (aC aL (pv 2) (aA (aP (v:=.int 3) Z7 h3 ⟨t3,rfl⟩)) (aA (cf bG (aP (v:=.int 2) Z7 h2 ⟨t2,rfl⟩)))) (aa (pv 4) (aa (pv 3) ac))))))))),?_⟩
 refine am λ R g=>⟨_,rfl,_,rfl,.inl ⟨B,⟨x,rfl,hB,hb⟩,λ l hn=>g _ _ ?_⟩⟩
 clear g;have s1:=aj (o:=.lst (B.map vN)) hn;have hll:(upd H l (.lst (B.map vN))) l=some (.lst (B.map vN)):=af;generalize upd H l (.lst (B.map vN))=H1 at*;refine am λ R g=>⟨_,rfl,_,rfl,.inl ⟨W,.inr ⟨z,rfl,s1 _ _ hW,hWb⟩,hWl,λ lw nw=>g _ _ ?_⟩⟩
 clear g;have s2:=aj (o:=.lst (W.map vN)) nw;have hw2:(upd H1 lw (.lst (W.map vN))) lw=some (.lst (W.map vN)):=af;have hl2:=s2 _ _ hll;have s12:=s1.trans s2;generalize upd H1 lw (.lst (W.map vN))=H2 at*;refine am λ R g=>⟨_,rfl,l,B,_,rfl,hl2,hb,hh,λ p dx H3 np s3 hp=>g _ _ ?_⟩
 clear g;have s13:=s12.trans s3;have hl3:=s3 _ _ hl2;refine am λ R g=>⟨_,rfl,l,B,rfl,hl3,hb,h1000,λ H4 s4=>⟨_,rfl,?_⟩⟩
 have s14:=s13.trans s4;obtain⟨h5,hv⟩:=hh.len5;rcases(show(sld (B.take (B.length-2))≠B/\o=.inl 0)\/∃o',sld (B.take (B.length-2))=B/\TxK ((B.take (B.length-2)).drop 3) W u v o'/\o=(match o' with|none=>.inl 1|some T=>.inr T) by
  cases hk with
  |check hc=>exact .inl ⟨hc,rfl⟩
  |body hc ht=>exact .inr ⟨_,hc,ht,rfl⟩
  |ok hc ht=>exact .inr ⟨_,hc,ht,rfl⟩) with⟨hc,e⟩|⟨o',hc,ht,e⟩
 ·rw [AL hc];subst e;exact bR (k _ s14)
 rw [Ai hc];refine bq (g _ _ ?_);clear g;refine⟨_,rfl,_,rfl,_,rfl,_,rfl,l,_,rfl,SqL.of (s4 _ _ hl3),λ l5 n5=>?_⟩;have ec:cutV (B.map vN) (some 3) (some (-2))=((B.take (B.length-2)).drop 3).map vN:=vm B h5;rw [ec];have s5:=aj (o:=.lst (((B.take (B.length-2)).drop 3).map vN)) n5;refine⟨_,rfl,_,rfl,l5,p,lw,dx,_,W,u,v,y,o',rfl,af,λ b z=>hb b (AG (A0 z)),s5 _ _ (s4 _ _ hp),s5 _ _ (s4 _ _ (s3 _ _ hw2)),hWl,hv,ht,?_⟩;subst e;cases o' with
 |none=>exact λ H' s6=>k _ ((s14.trans s5).trans s6)
 |some T=>exact λ l' H' n' s6 h'=>k l' _ (none_of (s14.trans s5) n') ((s14.trans s5).trans s6) h'
end
end K28.Ck
set_option maxHeartbeats 4000000
namespace HT
open PySem PySem.Spec PyProof.Rows
section
variable {prog:EF}{w:EG}{A:EI}{E:ED -> EE -> Prop}{s:EE}
theorem getItem_tuple_all {t sl:EC}{items:Array ED}{vl vu:ED}{lo hi:Option Int}{Q:ED->EE->Prop}(ht:IsTup s.heap t items)(hs:s.heap.IsSliceOf sl vl vu .none)(pl:IsPart vl lo)(pu:IsPart vu hi)
  (hw:sIx items.size 0 lo=0/\sIx items.size items.size hi=items.size) (h:Q (.ref t) s):wpAny (model prog w) A (getItem (.ref t) (.ref sl)) Q E s:=by
 obtain⟨os,hos,hcs,hds⟩:=id hs;have hTs:s.TypeIs (.ref sl) "slice":=⟨os,hos,hcs⟩;unfold getItem
 try with_reducible refine B6 ?_
 first|refine Aa (Am ?_)|skip
 refine Aa (wpAny_sequenceKey ht.typeIs Z9 ?_);refine Aa (Bg (name:=Str.ofString "__getitem__") ht.typeIs A8
  (B4 A8 ht.typeIs entry_tuple_getitem ?_ (args_tuple_getitem _ _)))
 show wpAny _ _ (Builtin.Tuple.tupleItemsOf (.ref t)>>= _) _ _ s;refine Aa (tupleItemsOf_ ht ?_);refine Aa (wpAny_typeOf hTs ?_);rw [AV Z9];refine Aa (dE hs pl pu ?_);have hyes:(((sIx items.size 0 lo:Nat):Int)==0&&(1:Int)==1&&(sIx items.size items.size hi-sIx items.size 0 lo)==items.size)=true:=by
  rw [hw.1,hw.2];simp
 show wpAny _ _ (if(((sIx items.size 0 lo:Nat):Int)==0&&(1:Int)==1&&(sIx items.size items.size hi-sIx items.size 0 lo)==items.size)=true then _ else _) _ _ s;rw [AV hyes];refine Aa ?_;unfold Builtin.Tuple.tupleIsExact;refine Aa (wpAny_typeOf ht.typeIs (Am ?_));rw [AV (by rfl)];refine Aa (DN ?_)
 first|exact Am ⟨_,rfl,Am h⟩|exact Am ⟨_,rfl,h⟩
end
end HT
namespace L2
open PySem PySem.Spec PyProof.Rows QQ
section
variable {X:Cx}
def yK (K:Frag):V->Option Int->Option Int->Hp->VK->Prop:=λ x lo hi H Q=>∃a xs,x=.ref a/\SqT K H a xs/\HT.sIx xs.length 0 lo=0/\HT.sIx xs.length xs.length hi=xs.length/\Q (.ref a) H
theorem vX:SlR X (yK X.K):=by
 intro EN s σ H x v vl vu lo hi sl Q I rx hs pl pu h;obtain⟨a,xs,rfl,hx,h1,h2,q⟩:=h;cases rx;obtain⟨its,r,ht,hz⟩:=I.tuple hx;have hlen:its.toArray.size=xs.length:=by rw [An];exact r.length.symm
 refine⟨"tuple",_,A8.lookup,ht.typeIs,?_⟩;exact HT.getItem_tuple_all ht hs pl pu (by rw [hlen];exact⟨h1,h2⟩) ⟨.ref a,H,I,rfl,q⟩
def wn (K:Frag):R2:=λ x y H Q=>∃(p q:EC) (ns ms:List Int),x=.ref p/\y=.ref q/\SqT K H p (ns.map V.int)/\SqT K H q (ms.map V.int)/\ns.length=ms.length/\Q (.bl (!decide (ns=ms))) H
theorem uY (hu:X.A.units+64<cLine):OpR X (compareOp .NotEq) (wn X.K):=by
 intro EN s σ H x y v u Q I rx ry h;obtain⟨p,q,ns,ms,rfl,rfl,ha,hb,hl,k⟩:=h;cases rx;cases ry;obtain⟨its,rv,pl,hz⟩:=I.tuple ha;obtain⟨its2,rv2,pl2,hz2⟩:=I.tuple hb;have l1:=rv.length;have l2:=rv2.length;rw [z7] at l1 l2;refine SeqAt.RcNeAt.tuples (e:=λ j=>decide (ns[j]?=ms[j]?)) (show s.heap.IsTuple p its.toArray from pl) (show s.heap.IsTuple q its2.toArray from pl2) (by omega) (λ j h1 h2=>?_) _ _ _ _ ?_
 ·have j1:j<ns.length:=by simp at h1;omega
  have j2:j<ms.length:=by omega
  obtain⟨u1,e1,r1⟩:=rv.get (i:=j) (x:=V.int ns[j]) (by simp [j1]);obtain⟨u2,e2,r2⟩:=rv2.get (i:=j) (x:=V.int ms[j]) (by simp [j2]);have g1:its.toArray[j]=u1:=by
   obtain⟨_,z⟩:=Ak.mp e1;simpa using z
  have g2:its2.toArray[j]=u2:=by
   obtain⟨_,z⟩:=Ak.mp e2;simpa using z
  rw [g1,g2];have e:=iF (A:=X.A.in1) (s:=s) r1 r2 rfl rfl;have ee:eqV (V.int ns[j]) (V.int ms[j])=decide (ns[j]?=ms[j]?):=by
   rw [Af j1,Af j2];show(ns[j]==ms[j])=_;rw [Cj];simp
  rw [ee] at e;exact e
 ·refine⟨.bl _,H,I,?_,k⟩;show Value.bool _=Value.bool _;congr 1;congr 1;rw [An,An,<-l1,<-l2,<-hl,Nat.min_self,Cj];simp only [Cd,CW,List.mem_range,decide_eq_true_eq,beq_self_eq_true,and_true];refine⟨λ z=>List.ext_getElem? λ j=>?_,λ z j _=>by rw [z]⟩;rcases A4 j ns.length with q|q
  ·exact z j q
  ·rw [BY q,BY (by omega)]
end
end L2
set_option maxHeartbeats 4000000
namespace K28.Ck
open PySem L2 QQ W17 W16 BP
seal PE PA PS PSs PT PW PG PI
variable {m u v y:Nat}{CHd f t:EC}{fd:EH}{r:List Nat}{H H':Hp}
abbrev iY:EM:=top 25
abbrev tK:EM:=top 114
abbrev gG:EM:=top 118
abbrev gJ:EM:=top 119
abbrev kn:EM:=top 120
abbrev gN:EM:=top 121
abbrev gO:EM:=top 122
abbrev gK:EM:=top 123
abbrev gD:EM:=top 124
abbrev eC:EM:=top 126
abbrev mk3:List Nat:=[184,66,1]
noncomputable def four (n:Nat):List Nat:=two (n/65536%65536)++two (n%65536)
def NoCt (K:Frag)(H:Hp)(x:V):Prop:=Rf.NoInt K H x\/∃i:Int,x=.int i/\i<0
inductive Pt (r:List Nat) (many:Nat):Nat ⊕ Option (Nat×Nat×Nat)->Prop
 |short:r.length<3->Pt r many (.inl 1)
 |bad {a b c:Nat} {r':List Nat}:r=a::b::c::r'->HdK a b c (.inr ())->Pt r many (.inl 0)
 |odd {a b c u v y:Nat} {r':List Nat}:r=a::b::c::r'->HdK a b c (.inl (some (u,v,y)))->many%64≠0->Pt r many (.inl 0)
 |cutT {a b c:Nat} {r':List Nat}:r=a::b::c::r'->HdK a b c (.inl none)->r.length<11->Pt r many (.inl 1)
 |tail {a b c:Nat} {r':List Nat}:r=a::b::c::r'->HdK a b c (.inl none)->11≤r.length->Pt r many (.inr none)
 |cutB {a b c u v y:Nat} {r':List Nat}:r=a::b::c::r'->HdK a b c (.inl (some (u,v,y)))->many%64=0->r.length<y+5->Pt r many (.inl 1)
 |blk {a b c u v y:Nat} {r':List Nat}:r=a::b::c::r'->HdK a b c (.inl (some (u,v,y)))->many%64=0->y+5≤r.length->Pt r many (.inr (some (u,v,y)))
def dq (t:List Nat)(many:Nat):Prop:=(t.take 7).drop 3=four many/\sld (t.take (t.length-2))=t
inductive Sc:List Nat->Nat->Nat ⊕ List (Nat×Nat×Nat)->Prop
 |part {r:List Nat} {m i:Nat}:Pt r m (.inl i)->Sc r m (.inl i)
 |tail {r:List Nat} {m:Nat}:Pt r m (.inr none)->¬dq (r.take 11) m->Sc r m (.inl 2)
 |behind {r:List Nat} {m:Nat}:Pt r m (.inr none)->dq (r.take 11) m->11<r.length->Sc r m (.inl 3)
 |fin {r:List Nat} {m:Nat}:Pt r m (.inr none)->dq (r.take 11) m->r.length=11->Sc r m (.inr [])
 |blkE {r:List Nat} {m i u v y:Nat}:Pt r m (.inr (some (u,v,y)))->Sc (r.drop (y+5)) (m+v) (.inl i)->Sc r m (.inl i)
 |blk {r:List Nat} {m u v y:Nat} {bs:List (Nat×Nat×Nat)}:Pt r m (.inr (some (u,v,y)))->Sc (r.drop (y+5)) (m+v) (.inr bs)->Sc r m (.inr ((u,v,y)::bs))
def BlAt (CHd:EC)(H:Hp):List EC->Nat->List (Nat×Nat×Nat)->Prop
 | [],_,[]=>True
 |t::ts,p,(u,v,y)::bs=>(∃h dx,H t=some (.tup [vN p,.ref h])/\H h=some (.ins CHd dx (fH u v y)))/\BlAt CHd H ts (p+(y+5)) bs
 |_,_,_=>False
theorem BlAt.same (s:Same H H'):∀{ts:List EC} {p:Nat} {bs:List (Nat×Nat×Nat)},BlAt CHd H ts p bs->BlAt CHd H' ts p bs
 | [],_,[],_=>trivial
 | [],_,_::_,h=>h.elim
 |_::_,_,[],h=>h.elim
 |t::ts,p,(u,v,y)::bs,⟨⟨h,dx,h1,h2⟩,r⟩=>⟨⟨h,dx,s _ _ h1,s _ _ h2⟩,BlAt.same s r⟩
def ends:Nat->List (Nat×Nat×Nat)->Nat
 |p,[]=>p
 |p,(_,_,y)::bs=>ends (p+(y+5)) bs
theorem BlAt.snoc {h dx:EC}:∀{ts:List EC} {p:Nat} {bs:List (Nat×Nat×Nat)},BlAt CHd H ts p bs->H t=some (.tup [vN (ends p bs),.ref h])->H h=some (.ins CHd dx (fH u v y))->BlAt CHd H (ts++[t]) p (bs++[(u,v,y)])
 | [],_,[],_,h1,h2=>⟨⟨h,dx,h1,h2⟩,trivial⟩
 | [],_,_::_,h,_,_=>h.elim
 |_::_,_,[],h,_,_=>h.elim
 |_::_,_,(_,_,_)::_,⟨a,r⟩,h1,h2=>⟨a,BlAt.snoc r h1 h2⟩
theorem eP:∀{p:Nat} {bs:List (Nat×Nat×Nat)},ends p (bs++[(u,v,y)])=ends p bs+(y+5)
 |_,[]=>rfl
 |p,(_,_,z)::bs=>eP (p:=p+(z+5)) (bs:=bs)
structure Prt (K:Frag)(mg:Str->Option ED)(C CHd cR cH cM cT cZ cC cG:EC):Prop where
 H:Hds K mg C CHd cR cH
 tuple:mg "tuple"=none
 mark:∃d,mg "MARK"=some (.ref d)/\∀H,SqT K H d [vN 184,vN 66,vN 1]
 signs:∃t,mg "BLOCK_SIGNS"=some (.int 64 t)
 cend:∃t,mg "COUNT_END"=some (.int 7 t)
 tbytes:∃t,mg "TAIL_BYTES"=some (.int 11 t)
 iscount:∃f fd,Fn K mg "is_count" iY ["thing"] f fd
 four:∃f fd,Fn K mg "in_four_bytes" tK ["number"] f fd
 headof:∃f fd,Fn K mg "head_of" gh ["row"] f fd
 bsize:∃f fd,Fn K mg "block_size" cY ["head"] f fd
 ends:∃f fd,Fn K mg "ends_in_check" g7 ["row"] f fd
 wcheck:∃f fd,Fn K mg "with_check" cx ["row"] f fd
 counts:∃f fd,Fn K mg "need_counts" eC ["begin","count"] f fd
 nmark:∃f fd,Fn K mg "need_mark" gG ["bale"] f fd
 nexth:∃f fd,Fn K mg "next_head" gJ ["row","many_signs"] f fd
 partat:∃f fd,Fn K mg "part_at" kn ["bale","place","many_signs"] f fd
 npart:∃f fd,Fn K mg "need_part" gN ["bale","place","many_signs"] f fd
 nlast:∃f fd,Fn K mg "need_last" gO ["bale","end"] f fd
 ntail:∃f fd,Fn K mg "need_tail" gK ["tail","many_signs"] f fd
 mM:mg "BadMark"=some (.ref cM)
 xM:ExC K cM
 mT:mg "BadTail"=some (.ref cT)
 xT:ExC K cT
 mZ:mg "Behind"=some (.ref cZ)
 xZ:ExC K cZ
 mC:mg "Cut"=some (.ref cC)
 xC:ExC K cC
 mG:mg "NoRange"=some (.ref cG)
 xG:ExC K cG
section
variable {C CHd cR cH cM cT cZ cC cG:EC}
def qN (K:Frag):Sp:=λ vs H Q _=>∃x:V,vs=[x]/\(((∃n:Nat,x=vN n)/\Q (.bl true) H)\/(NoCt K H x/\Q (.bl false) H))
theorem qy:FnScope ["thing"] ["thing"] (ak iY):=⟨rfl,rfl,rfl,Z8,rfl,Z8,Z8⟩
theorem oa (F:Fn K mg "is_count" iY ["thing"] f fd)(T:K28.Txt K mg):FnOk P w K mg base CX0 1 f fd ["thing"] (qN K):=by
 obtain⟨fN,fdN,NF,Nm,Nb⟩:=T.isnumb;have GN:=Rf.ok_numb (P:=P) (w:=w) (mg:=mg) (base:=base) NF T;refine F.F.ok qy λ EO A outer st H vs Q E hr h=>?_
 intro _;obtain⟨x,rfl,h⟩:=h;refine⟨_,ah (ar (dH (ai GN (hr.mono Z9) Z7 Nm NF.kp Nb .nil ap (aa (pv 0) ac)) (dP (bz y6 (pv 0) ae (az _))))),?_⟩;rcases h with⟨⟨n,rfl⟩,k⟩|⟨h|⟨i,rfl,hi⟩,k⟩
 ·refine⟨_,rfl,_,true,rfl,.inl ⟨_,rfl,rfl⟩,_,rfl,bR ⟨_,rfl,_,_,rfl,rfl,?_⟩⟩;have e:decide ((0:Int)≤((n:Nat):Int))=true:=Ai (Bd _)
  try dsimp only
  rw [e];exact k
 ·exact⟨_,rfl,_,false,rfl,.inr ⟨h,rfl⟩,_,rfl,bq k⟩
 ·refine⟨_,rfl,_,true,rfl,.inl ⟨_,rfl,rfl⟩,_,rfl,bR ⟨_,rfl,_,_,rfl,rfl,?_⟩⟩;have e:decide ((0:Int)≤i)=false:=AL (Int.not_le.2 hi)
  try dsimp only
  rw [e];exact k
def jU (K:Frag)(cG:EC):Sp:=λ vs H Q E=>∃x y:V,vs=[x,y]/\(((∃n m:Nat,x=vN n/\y=vN m)/\Q .non H)\/((NoCt K H x\/(∃n:Nat,x=vN n)/\NoCt K H y)/\E (.ref cG) none H))
theorem ky:FnScope ["begin","count"] ["begin","count"] (ak eC):=⟨rfl,rfl,rfl,Z8,rfl,Z8,Z8⟩
theorem je (F:Fn K mg "need_counts" eC ["begin","count"] f fd)(Z:Prt K mg C CHd cR cH cM cT cZ cC cG):FnOk P w K mg base (CXE P w) 31 f fd ["begin","count"] (jU K cG):=by
 obtain⟨_,_,Ic⟩:=Z.iscount;have GI:=oa (P:=P) (w:=w) (base:=base) Ic Z.H.N.Y.X;refine F.F.okE ky λ EO A outer st H vs Q E hr h=>?_
 intro _;obtain⟨x,y,rfl,h⟩:=h;have hr1:Room 1 _:=hr.mono Z9;refine⟨_,ah (aK (PW.pt (eI (bp (bj (ai GI hr1 Z7 Ic.m Ic.F.kp Ic.b .nil ap (aa (pv 0) ac)))) (dQ (bp (bj (ai GI hr1 Z7 Ic.m Ic.F.kp Ic.b .nil ap (aa (pv 1) ac))))))) (ah (aW aV (hr.hd Z9) Z7 Z.mG Z.xG aB)) ay),?_⟩;rcases h with⟨⟨n,m,rfl,rfl⟩,k⟩|⟨h|⟨⟨n,rfl⟩,h⟩,k⟩
 ·exact⟨_,rfl,_,rfl,.inl ⟨⟨n,rfl⟩,_,rfl,bq ⟨_,rfl,_,rfl,.inl ⟨⟨m,rfl⟩,_,rfl,bq k⟩⟩⟩⟩
 ·exact⟨_,rfl,_,rfl,.inr ⟨h,_,rfl,bR (bR k)⟩⟩
 ·exact⟨_,rfl,_,rfl,.inl ⟨⟨n,rfl⟩,_,rfl,bq ⟨_,rfl,_,rfl,.inr ⟨h,_,rfl,bR k⟩⟩⟩⟩
def wE:Sp:=λ vs H Q _=>∃n:Nat,vs=[vN n]/\∀l H',H l=none->Same H H'->H' l=some (.lst ((four n).map vN))->Q (.ref l) H'
theorem xr:FnScope ["number"] ["number"] (ak tK):=⟨rfl,rfl,rfl,Z8,rfl,Z8,Z8⟩
theorem vI (F:Fn K mg "in_four_bytes" tK ["number"] f fd)(Z:Cks K mg C):FnOk P w K mg base CX0 2 f fd ["number"] wE:=by
 obtain⟨_,_,Tw⟩:=Z.two;have GT:=sK (P:=P) (w:=w) (base:=base) Tw;refine F.F.ok xr λ EO A outer st H vs Q E hr h=>?_
 intro _;obtain⟨n,rfl,k⟩:=h;refine⟨_,ah (ar (ag aJ (ai GT hr Z7 Tw.m Tw.F.kp Tw.b .nil ap (aa (ag gv (ag iD (pv 0) ae) ae) ac)) (ai GT hr Z7 Tw.m Tw.F.kp Tw.b .nil ap (aa (ag gv (pv 0) ae) ac)))),?_⟩;have e1:((n:Nat):Int)/2^Int.toNat 16=((n/65536:Nat):Int):=by
  show((n:Nat):Int)/65536=_;omega
 have e2:∀m:Nat,Builtin.bitAnd ((m:Nat):Int) 65535=((m%65536:Nat):Int):=λ m=>cW m 16
 refine⟨_,rfl,_,_,rfl,rfl,(by show(0:Int)≤16;decide),_,_,rfl,rfl,?_⟩
 try dsimp only
 rw [e1,e2];refine⟨_,rfl,AK _ Z9,λ l1 n1=>?_⟩;have s1:=aj (o:=.lst ((two (n/65536%65536)).map vN)) n1;have h11:(upd H l1 (.lst ((two (n/65536%65536)).map vN))) l1=some (.lst ((two (n/65536%65536)).map vN)):=af;generalize upd H l1 (.lst ((two (n/65536%65536)).map vN))=H1 at*;refine⟨_,rfl,_,_,rfl,rfl,?_⟩
 try dsimp only
 rw [e2];refine⟨_,rfl,AK _ Z9,λ l2 n2=>?_⟩;have s2:=aj (o:=.lst ((two (n%65536)).map vN)) n2;have h22:(upd H1 l2 (.lst ((two (n%65536)).map vN))) l2=some (.lst ((two (n%65536)).map vN)):=af;have h21:=s2 _ _ h11;have s12:=s1.trans s2;generalize upd H1 l2 (.lst ((two (n%65536)).map vN))=H2 at*;refine⟨l1,l2,_,_,rfl,rfl,h21,h22,(by show 4≤sizeLine;decide),λ l nl=>?_⟩;exact k l _ (none_of s12 nl) (s12.trans (aj nl)) (by rw [af,<-At];rfl)
def mY (cM:EC):Sp:=λ vs H Q E=>∃(a:EC) (B:List Nat),vs=[.ref a]/\H a=some (.lst (B.map vN))/\(B.take 3=mk3.take B.length->∀H',Same H H'->Q .non H')/\(B.take 3≠mk3.take B.length->∀H',Same H H'->E (.ref cM) none H')
theorem scNeedMark:FnScope ["bale","begin"] ["bale"] (ak gG):=⟨rfl,rfl,rfl,Z8,rfl,Z8,Z8⟩
theorem lM (F:Fn K mg "need_mark" gG ["bale"] f fd)(Z:Prt K mg C CHd cR cH cM cT cZ cC cG):FnOk P w K mg base (CXE P w) 31 f fd ["bale"] (mY cM):=by
 have X:=Z.H.N.Y.X;obtain⟨d,hm,hd⟩:=Z.mark;refine F.F.okE scNeedMark λ EO A outer st H vs Q E hr h=>?_
 intro _;obtain⟨a,B,rfl,ha,k1,k2⟩:=h;have hu:=hr.units;refine⟨_,ad (ao (i:=1) scNeedMark.nd (bD fg Z7 Z.tuple Dd (aa (aC aL (pv 0) aY (aA (aw aq Z7 X.len As (aa (aP (v:=.ref d) Z7 hm rfl) ac)))) ac)))
  (ah (aK (ax (uY hu) (pv 1) (aC (SlR.or xn vX) (aP (v:=.ref d) Z7 hm rfl) aY (aA (aw aq Z7 X.len As (aa (pv 1) ac)))) (az _)) (ah (aW aV (hr.hd Z9) Z7 Z.mM Z.xM aB)) ay)),?_⟩
 refine am λ _ g=>⟨_,rfl,d,_,rfl,.inr (hd H),_,rfl,a,_,rfl,SqL.of ha,λ l nl=>?_⟩
 have ec:cutV (B.map vN) none (some (([vN 184,vN 66,vN 1]:List V).length:Int))=(B.take 3).map vN:=by rw [show((([vN 184,vN 66,vN 1]:List V).length:Nat):Int)=((3:Nat):Int) from rfl,dF,Bh]
 rw [ec];have s1:=aj (o:=.lst ((B.take 3).map vN)) nl;refine⟨l,_,rfl,.inl ⟨SqL.of af,λ t nt=>g _ _ ?_⟩⟩;clear g;have s2:=aj (o:=.tup ((B.take 3).map vN)) nt;have ht:(upd (upd H l (.lst ((B.take 3).map vN))) t (.tup ((B.take 3).map vN))) t=some (.tup ((B.take 3).map vN)):=af;have s12:=s1.trans s2;generalize upd (upd H l (.lst ((B.take 3).map vN))) t (.tup ((B.take 3).map vN))=H2 at*;have hl:(B.take 3).length≤3:=by rw [Aj];exact De _ _
 have em:mk3.take (B.take 3).length=mk3.take B.length:=by
  rcases A4 B.length 3 with q|q
  ·rw [AA (B8 q)]
  ·rw [Aj,AM q,AA (by show 3≤3;decide),AA (by show 3≤_;exact q)]
 refine⟨_,rfl,_,rfl,t,_,rfl,.inr (SqT.of ht),_,rfl,?_⟩;have fin:∀(q:EC) (H3:Hp),Same H2 H3->SqT K H3 q ((mk3.take (B.take 3).length).map vN)->wn K (.ref t) (.ref q) H3 λ x H1=>∃c,x=.bl c/\if c=true then E (.ref cM) none H1 else Q .non H1:=λ q H3 s3 hq=>by
  refine⟨t,q,(B.take 3).map λ b=>((b:Nat):Int),(mk3.take (B.take 3).length).map λ b=>((b:Nat):Int),rfl,rfl,?_,?_,?_,_,rfl,?_⟩
  ·rw [<-Rf.mapI];exact SqT.of (s3 _ _ ht)
  ·rw [<-Rf.mapI];exact hq
  ·rw [z7,z7,Aj (l:=mk3)];exact(AM hl).symm
  ·have inj:∀{u v:List Nat},(u.map λ b=>((b:Nat):Int))=(v.map λ b=>((b:Nat):Int))->u=v:=λ h=>Db (f:=λ b:Nat=>(b:Int)) (λ _ _ e=>Ek e)|>.mp h
   by_cases e:B.take 3=mk3.take B.length
   ·rw [Ai (by rw [em,<-e])];exact bq (k1 e _ (s12.trans s3))
   ·rw [AL λ z=>e (by rw [<-em];exact inj z)];exact bR (k2 e _ (s12.trans s3))
 rw [z7];rcases A4 (B.take 3).length 3 with q|q
 ·refine .inl ⟨d,_,rfl,hd H2,?_,λ p np=>?_⟩
  ·rw [HT.sIx_nat];rintro⟨_,z⟩;have z:min (B.take 3).length 3=3:=z;omega
  ·rw [dF];exact fin p _ (aj np) (SqT.of (by rw [af,Bh];rfl))
 ·have q3:(B.take 3).length=3:=Ci hl q;refine .inr ⟨d,_,rfl,hd H2,rfl,?_,fin d H2 (Same.refl _) (by rw [q3];exact hd H2)⟩;rw [HT.sIx_nat,q3];rfl
def nX (CHd cH:EC):Sp:=λ vs H Q E=>∃(l:EC) (a b c m:Nat) (o:Option (Nat×Nat×Nat) ⊕ Unit),vs=[.ref l,vN m]/\H l=some (.lst ([a,b,c].map vN))/\(∀z∈ [a,b,c],z<256)/\HdK a b c o/\match o with
  | .inr _=>∀H',Same H H'->E (.ref cH) none H'
  | .inl none=>∀H',Same H H'->Q .non H'
  | .inl (some (u,v,y))=>(m%64≠0->∀H',Same H H'->E (.ref cH) none H')/\(m%64=0->∀(p dx:EC) H',H p=none->Same H H'->H' p=some (.ins CHd dx (fH u v y))->Q (.ref p) H')
theorem scNextHead:FnScope ["row","many_signs","head"] ["row","many_signs"] (ak gJ):=⟨rfl,rfl,rfl,Z8,rfl,Z8,Z8⟩
theorem lJ (F:Fn K mg "next_head" gJ ["row","many_signs"] f fd)(Z:Prt K mg C CHd cR cH cM cT cZ cC cG):FnOk P w K mg base (CXE P w) 33 f fd ["row","many_signs"] (nX CHd cH):=by
 obtain⟨_,_,O⟩:=Z.headof;obtain⟨t64,h64⟩:=Z.signs;refine F.F.okE scNextHead λ EO A outer st H vs Q E hr h=>?_
 intro _;obtain⟨l,a,b,c,m,o,rfl,hl,hb,hk,k⟩:=h;refine⟨_,ad (ao (i:=2) scNextHead.nd (ai (jl O Z.H) hr Z7 O.m O.F.kp O.b .nil aV (aa (pv 0) ac)))
  (ad (aK (PW.pt (ft (ax pq (pv 2) cF (az _)) (fb (ax cI (ag aI (pv 1) (aP (v:=.int 64) Z7 h64 ⟨t64,rfl⟩)) ae (az _))))) (ah (aW aV (hr.hd Z9) Z7 Z.H.mH Z.H.xH aB)) ay)
  (ah (ar (pv 2)))),?_⟩
 refine am λ _ g=>⟨_,rfl,_,rfl,.inr (.inr ⟨a,b,c,o,⟨l,rfl,hl,hb⟩,hk,?_⟩)⟩
 match o,k with
 | .inr (),k=>exact k
 | .inl none,k=>
  refine λ H1 s1=>g _ _ (am λ _ g=>⟨_,rfl,rfl,_,rfl,bq (bq (g _ _ ⟨_,rfl,k _ s1⟩))⟩)
 | .inl (some (u,v,y)),⟨k1,k2⟩=>
  refine λ p dx H1 np s1 hp=>g _ _ (am λ _ g=>⟨_,rfl,rfl,_,rfl,bR ⟨_,rfl,_,_,rfl,rfl,(by show(0:Int)<64;decide),rfl,_,rfl,?_⟩⟩)
  refine bi (λ h=>?_) (λ h=>g _ _ ⟨_,rfl,?_⟩)
  ·refine k1 (λ z=>?_) _ s1;have e:V.int (((m:Nat):Int)%64)=V.int 0:=AB V.int (by omega);exact absurd h (by show¬((!decide (V.int (((m:Nat):Int)%64)=V.int 0))=true);rw [Ai e];decide)
  ·refine k2 ?_ p dx _ np s1 hp;exact Decidable.byContradiction λ z=>h (by
    have z':¬(V.int (((m:Nat):Int)%64)=V.int 0):=λ e=>by
     have:=V.int.inj e;omega
    show(!decide (V.int (((m:Nat):Int)%64)=V.int 0))=true;rw [AL z'];rfl)
end
theorem zl1:1≤sizeLine:=Z9
theorem zl2:2≤sizeLine:=Z9
theorem zl3:3≤sizeLine:=Z9
theorem sy (h:3≤r.length):∃a b c r',r=a::b::c::r':=by
 match r,h with
 |a::b::c::r',_=>exact⟨a,b,c,r',rfl⟩
 | [],h=>cases h
 | [_],h=>exact absurd h (by show¬3≤1;decide)
 | [_,_],h=>exact absurd h (by show¬3≤2;decide)
section
variable {C CHd cR cH cM cT cZ cC cG:EC}
def vF (CHd:EC)(H:Hp)(t:EC)(p:Nat):Option (Nat×Nat×Nat)->Prop
 |none=>H t=some (.tup [.non,vN (p+11)])
 |some (u,v,y)=>∃h dx,H t=some (.tup [.ref h,vN (p+(y+5))])/\H h=some (.ins CHd dx (fH u v y))
def sN (CHd cH:EC):Sp:=λ vs H Q E=>∃(a:EC) (B:List Nat) (p m:Nat) (o:Nat ⊕ Option (Nat×Nat×Nat)),vs=[.ref a,vN p,vN m]/\H a=some (.lst (B.map vN))/\(∀b∈B,b<256)/\Pt (B.drop p) m o/\match o with
  | .inl 0=>∀H',Same H H'->E (.ref cH) none H'
  | .inl _=>∀H',Same H H'->Q .non H'
  | .inr q=>∀t H',Same H H'->vF CHd H' t p q->Q (.ref t) H'
theorem scPartAt:FnScope ["bale","place","many_signs","head_end","head","end"] ["bale","place","many_signs"] (ak kn):=⟨rfl,rfl,rfl,Z8,rfl,Z8,Z8⟩
theorem qv (F:Fn K mg "part_at" kn ["bale","place","many_signs"] f fd)(Z:Prt K mg C CHd cR cH cM cT cZ cC cG):FnOk P w K mg base (CXE P w) 34 f fd ["bale","place","many_signs"] (sN CHd cH):=by
 have X:=Z.H.N.Y.X;obtain⟨_,_,Nh⟩:=Z.nexth;obtain⟨_,_,Bs⟩:=Z.bsize;obtain⟨t3,h3⟩:=Z.H.three;obtain⟨t11,h11⟩:=Z.tbytes;refine F.F.okE scPartAt λ EO A outer st H vs Q E hr h=>?_
 intro _;obtain⟨a,B,p,m,o,rfl,ha,hb,hk,k⟩:=h;have hr1:Room 1 _:=hr.mono Z9;refine⟨_,ad (ao (i:=3) scPartAt.nd (ag aF (pv 1) (aP (v:=.int 3) Z7 h3 ⟨t3,rfl⟩)))
  (ad (aK (ax fh (aw aq Z7 X.len As (aa (pv 0) ac)) (pv 3) (az _)) (ah (ar cF)) ay)
  (ad (ao (i:=4) scPartAt.nd (ai (lJ Nh Z) hr Z7 Nh.m Nh.F.kp Nh.b .nil aV (aa (aC aL (pv 0) (aA (pv 1)) (aA (pv 3))) (aa (pv 2) ac))))
  (ad (ao (i:=5) scPartAt.nd (ag aF (pv 1) (lA (ax ie (pv 4) cF (az _)) (aP (v:=.int 11) Z7 h11 ⟨t11,rfl⟩) (ai (iW Bs Z.H) hr1 Z7 Bs.m Bs.F.kp Bs.b .nil ap (aa (pv 4) ac)))))
  (ad (aK (ax fh (aw aq Z7 X.len As (aa (pv 0) ac)) (pv 5) (az _)) (ah (ar cF)) ay)
  (ah (ar (bK (aa (pv 4) (aa (pv 5) ac))))))))),?_⟩
 have e3:((p:Nat):Int)+3=((p+3:Nat):Int):=by omega
 refine am λ _ g=>⟨_,rfl,_,_,rfl,rfl,g _ _ ?_⟩
 clear g
 try dsimp only
 rw [e3];have dl:(B.drop p).length=B.length-p:=Ax;refine am λ _ g=>⟨_,rfl,a,_,rfl,.inl (SqL.of ha),_,rfl,_,_,rfl,rfl,_,rfl,bi (λ h=>?_) (λ h=>g _ _ ?_)⟩
 ·have h:=Aq h;rw [z7] at h;have hl:(B.drop p).length<3:=by omega
  have e:o=.inl 1:=by
   have no:∀{x y z:Nat} {r:List Nat},B.drop p=x::y::z::r->False:=λ e=>by rw [e] at hl;exact absurd hl (Nat.not_lt.2 (BG 3 _))
   cases hk with
   |short=>rfl
   |bad e=>exact(no e).elim
   |odd e=>exact(no e).elim
   |cutT e=>exact(no e).elim
   |tail e=>exact(no e).elim
   |cutB e=>exact(no e).elim
   |blk e=>exact(no e).elim
  subst e;exact k _ (Same.refl H)
 clear g;have hl:3≤(B.drop p).length:=by
  rw [dl];rcases A4 B.length (p+3) with q|q
  ·exact absurd (Ai (by rw [z7];omega)) h
  ·omega
 clear h;obtain⟨x0,x1,x2,r,er⟩:=sy hl;have hby:∀z∈ [x0,x1,x2],z<256:=λ z hz=>hb z (A0 (i:=p) (by rw [er];simp at hz ⊢;rcases hz with q|q|q<;>simp [q]))
 obtain⟨q,hq⟩:∃q,HdK x0 x1 x2 q:=by
  cases hk with
  |short h=>omega
  |bad e h=>rw [er] at e;cases e;exact⟨_,h⟩
  |odd e h=>rw [er] at e;cases e;exact⟨_,h⟩
  |cutT e h=>rw [er] at e;cases e;exact⟨_,h⟩
  |tail e h=>rw [er] at e;cases e;exact⟨_,h⟩
  |cutB e h=>rw [er] at e;cases e;exact⟨_,h⟩
  |blk e h=>rw [er] at e;cases e;exact⟨_,h⟩
 have ec:cutV (B.map vN) (some ((p:Nat):Int)) (some ((p+3:Nat):Int))=[x0,x1,x2].map vN:=by
  rw [eW (Bz _ _) (by omega),Cy,er];rw [show p+3-p=3 by omega];rfl
 refine am λ _ g=>⟨_,rfl,_,rfl,_,rfl,_,rfl,_,rfl,a,_,rfl,SqL.of ha,λ l nl=>?_⟩
 try dsimp only
 rw [ec];have s1:=aj (o:=.lst ([x0,x1,x2].map vN)) nl;refine⟨_,rfl,l,x0,x1,x2,m,q,rfl,af,hby,hq,?_⟩;have ha1:=s1 _ _ ha;generalize upd H l (.lst ([x0,x1,x2].map vN))=H1 at*
 match q,hq with
 | .inr (),hq=>
  refine λ H2 s2=>?_
  have e:o=.inl 0:=by
   cases hk with
   |short h=>omega
   |bad e h=>rfl
   |odd e h=>rfl
   |cutT e h=>rw [er] at e;cases e;cases hq.uniq h
   |tail e h=>rw [er] at e;cases e;cases hq.uniq h
   |cutB e h=>rw [er] at e;cases e;cases hq.uniq h
   |blk e h=>rw [er] at e;cases e;cases hq.uniq h
  subst e;exact k _ (s1.trans s2)
 | .inl none,hq=>
  refine λ H2 s2=>g _ _ ?_
  have ha2:=s2 _ _ ha1;refine am λ _ g=>⟨_,rfl,_,rfl,rfl,_,rfl,bR ⟨_,_,rfl,rfl,g _ _ ?_⟩⟩
  have e11:((p:Nat):Int)+11=((p+11:Nat):Int):=by omega
  try dsimp only
  rw [e11];refine am λ _ g=>⟨_,rfl,a,_,rfl,.inl (SqL.of ha2),_,rfl,_,_,rfl,rfl,_,rfl,bi (λ h=>?_) (λ h=>g _ _ ?_)⟩
  ·have h:=Aq h;rw [z7] at h;have e:o=.inl 1:=by
    cases hk with
    |short h=>rfl
    |bad e h=>rw [er] at e;cases e;cases hq.uniq h
    |odd e h=>rw [er] at e;cases e;cases hq.uniq h
    |cutT e h=>rfl
    |tail e h h'=>exfalso;rw [dl] at h';omega
    |cutB e h=>rfl
    |blk e h=>rw [er] at e;cases e;cases hq.uniq h
   subst e;exact k _ (s1.trans s2)
  ·have h11:p+11≤B.length:=by
    rcases A4 B.length (p+11) with q|q
    ·exact absurd (Ai (by rw [z7];omega)) h
    ·exact q
   have e:o=.inr none:=by
    cases hk with
    |short h=>omega
    |bad e h=>rw [er] at e;cases e;cases hq.uniq h
    |odd e h=>rw [er] at e;cases e;cases hq.uniq h
    |cutT e h h'=>rw [dl] at h';omega
    |tail e h h'=>rfl
    |cutB e h=>rw [er] at e;cases e;cases hq.uniq h
    |blk e h=>rw [er] at e;cases e;cases hq.uniq h
   subst e;exact⟨_,rfl,_,rfl,zl2,λ t nt=>k t _ ((s1.trans s2).trans (aj nt)) af⟩
 | .inl (some (u,v,y)),hq=>
  refine⟨λ hm H2 s2=>?_,λ hm ph dx H2 np s2 hph=>g _ _ ?_⟩
  ·have e:o=.inl 0:=by
    cases hk with
    |short h=>omega
    |bad e h=>rfl
    |odd e h=>rfl
    |cutT e h=>rw [er] at e;cases e;cases hq.uniq h
    |tail e h=>rw [er] at e;cases e;cases hq.uniq h
    |cutB e h h'=>exact absurd h' hm
    |blk e h h'=>exact absurd h' hm
   subst e;exact k _ (s1.trans s2)
  have ha2:=s2 _ _ ha1;refine am λ _ g=>⟨_,rfl,_,rfl,rfl,_,rfl,bq ⟨_,rfl,ph,dx,u,v,y,rfl,hph,_,_,rfl,rfl,g _ _ ?_⟩⟩
  have e11:((p:Nat):Int)+((y+5:Nat):Int)=((p+(y+5):Nat):Int):=by omega
  try dsimp only
  rw [e11];refine am λ _ g=>⟨_,rfl,a,_,rfl,.inl (SqL.of ha2),_,rfl,_,_,rfl,rfl,_,rfl,bi (λ h=>?_) (λ h=>g _ _ ?_)⟩
  ·have h:=Aq h;rw [z7] at h;have e:o=.inl 1:=by
    cases hk with
    |short h=>rfl
    |bad e h=>rw [er] at e;cases e;cases hq.uniq h
    |odd e h h'=>exact absurd hm h'
    |cutT e h=>rfl
    |tail e h h'=>rw [er] at e;cases e;cases hq.uniq h
    |cutB e h=>rfl
    |blk e h _ h'=>rw [er] at e;cases e;cases hq.uniq h;rw [dl] at h';omega
   subst e;exact k _ (s1.trans s2)
  ·have h11:p+(y+5)≤B.length:=by
    rcases A4 B.length (p+(y+5)) with q|q
    ·exact absurd (Ai (by rw [z7];omega)) h
    ·exact q
   have e:o=.inr (some (u,v,y)):=by
    cases hk with
    |short h=>omega
    |bad e h=>rw [er] at e;cases e;cases hq.uniq h
    |odd e h h'=>exact absurd hm h'
    |cutT e h h'=>rw [er] at e;cases e;cases hq.uniq h
    |tail e h h'=>rw [er] at e;cases e;cases hq.uniq h
    |cutB e h _ h'=>rw [er] at e;cases e;cases hq.uniq h;rw [dl] at h';omega
    |blk e h=>rw [er] at e;cases e;cases hq.uniq h;rfl
   subst e;exact⟨_,rfl,_,rfl,zl2,λ t nt=>k t _ ((s1.trans s2).trans (aj nt)) ⟨ph,dx,af,aj nt _ _ hph⟩⟩
def nP (CHd cH cC:EC):Sp:=λ vs H Q E=>∃(a:EC) (B:List Nat) (p m:Nat) (o:Nat ⊕ Option (Nat×Nat×Nat)),vs=[.ref a,vN p,vN m]/\H a=some (.lst (B.map vN))/\(∀b∈B,b<256)/\Pt (B.drop p) m o/\match o with
  | .inl i=>∀H',Same H H'->E (.ref (e2 cH cC i)) none H'
  | .inr q=>∀t H',Same H H'->vF CHd H' t p q->Q (.ref t) H'
theorem scNeedPart:FnScope ["bale","place","many_signs","part"] ["bale","place","many_signs"] (ak gN):=⟨rfl,rfl,rfl,Z8,rfl,Z8,Z8⟩
theorem gW (F:Fn K mg "need_part" gN ["bale","place","many_signs"] f fd)(Z:Prt K mg C CHd cR cH cM cT cZ cC cG):FnOk P w K mg base (CXE P w) 35 f fd ["bale","place","many_signs"] (nP CHd cH cC):=by
 obtain⟨_,_,Pa⟩:=Z.partat;refine F.F.okE scNeedPart λ EO A outer st H vs Q E hr h=>?_
 intro _;obtain⟨a,B,p,m,o,rfl,ha,hb,hk,k⟩:=h;refine⟨_,ad (ao (i:=3) scNeedPart.nd (ai (qv Pa Z) hr Z7 Pa.m Pa.F.kp Pa.b .nil aV (aa (pv 0) (aa (pv 1) (aa (pv 2) ac)))))
  (ad (aK (ax ie (pv 3) cF (az _)) (ah (aW aV (hr.hd Z9) Z7 Z.mC Z.xC aB)) ay)
  (ah (ar (pv 3)))),?_⟩
 refine am λ _ g=>⟨_,rfl,_,rfl,_,rfl,a,B,p,m,o,rfl,ha,hb,hk,?_⟩
 match o,k with
 | .inl 0,k=>exact k
 | .inl (i+1),k=>exact λ H1 s1=>g _ _ (am λ _ g=>⟨_,rfl,rfl,_,rfl,bR (k _ s1)⟩)
 | .inr q,k=>exact λ t H1 s1 ht=>g _ _ (am λ _ g=>⟨_,rfl,rfl,_,rfl,bq (g _ _ ⟨_,rfl,k t _ s1 ht⟩)⟩)
def nZ (cZ:EC):Sp:=λ vs H Q E=>∃(a:EC) (xs:List V) (e:Nat),vs=[.ref a,vN e]/\H a=some (.lst xs)/\(xs.length≤e->Q .non H)/\(e<xs.length->E (.ref cZ) none H)
theorem ni:FnScope ["bale","end"] ["bale","end"] (ak gO):=⟨rfl,rfl,rfl,Z8,rfl,Z8,Z8⟩
theorem mf (F:Fn K mg "need_last" gO ["bale","end"] f fd)(Z:Prt K mg C CHd cR cH cM cT cZ cC cG):FnOk P w K mg base (CXE P w) 31 f fd ["bale","end"] (nZ cZ):=by
 have X:=Z.H.N.Y.X;refine F.F.okE ni λ EO A outer st H vs Q E hr h=>?_
 intro _;obtain⟨a,xs,e,rfl,ha,k1,k2⟩:=h;refine⟨_,ah (aK (ax ek (aw aq Z7 X.len As (aa (pv 0) ac)) (pv 1) (az _)) (ah (aW aV (hr.hd Z9) Z7 Z.mZ Z.xZ aB)) ay),?_⟩;refine⟨_,rfl,a,_,rfl,.inl (SqL.of ha),_,rfl,_,_,rfl,rfl,_,rfl,bi (λ h=>?_) (λ h=>?_)⟩
 ·have:=Aq h;exact k2 (by omega)
 ·refine k1 ?_;rcases A4 e xs.length with q|q
  ·exact absurd (Ai (by omega)) h
  ·exact q
def m9 (cT:EC):Sp:=λ vs H Q E=>∃(a:EC) (T:List Nat) (m:Nat),vs=[.ref a,vN m]/\H a=some (.lst (T.map vN))/\(∀b∈T,b<256)/\T.length=11/\(dq T m->∀H',Same H H'->Q .non H')/\(¬dq T m->∀H',Same H H'->E (.ref cT) none H')
theorem nV:FnScope ["tail","many_signs"] ["tail","many_signs"] (ak gK):=⟨rfl,rfl,rfl,Z8,rfl,Z8,Z8⟩
theorem kX (F:Fn K mg "need_tail" gK ["tail","many_signs"] f fd)(Z:Prt K mg C CHd cR cH cM cT cZ cC cG):FnOk P w K mg base (CXE P w) 31 f fd ["tail","many_signs"] (m9 cT):=by
 obtain⟨_,_,Fo⟩:=Z.four;obtain⟨_,_,En⟩:=Z.ends;obtain⟨_,_,Wc⟩:=Z.wcheck;obtain⟨t3,h3⟩:=Z.H.three;obtain⟨t7,h7⟩:=Z.cend;refine F.F.okE nV λ EO A outer st H vs Q E hr h=>?_
 intro _;obtain⟨a,T,m,rfl,ha,hb,hl,k1,k2⟩:=h;have hu:=hr.units;have hr8:Room 8 _:=hr.mono Z9;have hr2:Room 2 _:=hr.mono Z9;refine⟨_,ah (aK (PW.pt (eI (ax (kG hu) (aC aL (pv 0) (aA (aP (v:=.int 3) Z7 h3 ⟨t3,rfl⟩)) (aA (aP (v:=.int 7) Z7 h7 ⟨t7,rfl⟩))) (ai (vI Fo Z.H.Y) hr2 Z7 Fo.m Fo.F.kp Fo.b .nil ap (aa (pv 1) ac)) (az _)) (dQ (bp (bj (ai (jt En Wc Z.H.Y) hr8 Z7 En.m En.F.kp En.b .nil ap (aa (pv 0) ac))))))) (ah (aW aV (hr.hd Z9) Z7 Z.mT Z.xT aB)) ay),?_⟩;refine⟨_,rfl,_,rfl,_,rfl,a,_,rfl,SqL.of ha,λ l nl=>?_⟩;have ec:cutV (T.map vN) (some 3) (some 7)=((T.take 7).drop 3).map vN:=eW (m:=3) (n:=7) (by decide) (by omega);rw [ec];have s1:=aj (o:=.lst (((T.take 7).drop 3).map vN)) nl;have h1:(upd H l (.lst (((T.take 7).drop 3).map vN))) l=some (.lst (((T.take 7).drop 3).map vN)):=af;generalize upd H l (.lst (((T.take 7).drop 3).map vN))=H1 at*;refine⟨_,rfl,m,rfl,λ l2 H2 n2 s2 h2=>?_⟩;have s12:=s1.trans s2;have inj:∀{u v:List Nat},(u.map λ b=>((b:Nat):Int))=(v.map λ b=>((b:Nat):Int))->u=v:=λ h=>Db (f:=λ b:Nat=>(b:Int)) (λ _ _ e=>Ek e)|>.mp h
 refine⟨l,l2,((T.take 7).drop 3).map λ b=>((b:Nat):Int),(four m).map λ b=>((b:Nat):Int),rfl,rfl,by rw [<-Rf.mapI];exact SqL.of (s2 _ _ h1),by rw [<-Rf.mapI];exact SqL.of h2,_,rfl,?_⟩;by_cases e:(T.take 7).drop 3=four m
 rotate_left
 ·rw [AL λ z=>e (inj z)];exact bR (bR (k2 (λ z=>e z.1) _ s12))
 rw [Ai (by rw [e])];refine bq ⟨_,rfl,a,T,rfl,s12 _ _ ha,hb,by omega,λ H3 s3=>⟨_,rfl,?_⟩⟩;by_cases e2:sld (T.take (T.length-2))=T
 ·rw [Ai e2];exact bq (k1 ⟨e,e2⟩ _ (s12.trans s3))
 ·rw [AL e2];exact bR (k2 (λ z=>e2 z.2) _ (s12.trans s3))
def e4 (a b c d:EC):Nat->EC
 |0=>a
 |1=>b
 |2=>c
 |_=>d
def pre (bs:List (Nat×Nat×Nat)):Nat ⊕ List (Nat×Nat×Nat)->Nat ⊕ List (Nat×Nat×Nat)
 | .inl i=>.inl i
 | .inr cs=>.inr (bs++cs)
theorem pM (bs cs:List (Nat×Nat×Nat))(o:Nat ⊕ List (Nat×Nat×Nat)):pre bs (pre cs o)=pre (bs++cs) o:=by
 cases o with
 |inl i=>rfl
 |inr ds=>show Sum.inr (bs++(cs++ds))=Sum.inr (bs++cs++ds);rw [Ab]
def ScR (r:List Nat)(m:Nat):Option (Nat×Nat×Nat)->Nat ⊕ List (Nat×Nat×Nat)->Prop
 |none,o=>11≤r.length/\((¬dq (r.take 11) m/\o=.inl 2)\/(dq (r.take 11) m/\11<r.length/\o=.inl 3)\/(dq (r.take 11) m/\r.length=11/\o=.inr []))
 |some (u,v,y),o=>y+5≤r.length/\∃o',Sc (r.drop (y+5)) (m+v) o'/\o=pre [(u,v,y)] o'
theorem Pt.tl (h:Pt r m (.inr none)):11≤r.length:=by
 cases h with
 |tail _ _ h=>exact h
theorem Pt.bl (h:Pt r m (.inr (some (u,v,y)))):y+5≤r.length:=by
 cases h with
 |blk _ _ _ h=>exact h
theorem Sc.split {o:Nat ⊕ List (Nat×Nat×Nat)}(h:Sc r m o):(∃i,o=.inl i/\Pt r m (.inl i))\/∃q,Pt r m (.inr q)/\ScR r m q o:=by
 cases h with
 |part h=>exact .inl ⟨_,rfl,h⟩
 |tail h1 h2=>exact .inr ⟨none,h1,h1.tl,.inl ⟨h2,rfl⟩⟩
 |behind h1 h2 h3=>exact .inr ⟨none,h1,h1.tl,.inr (.inl ⟨h2,h3,rfl⟩)⟩
 |fin h1 h2 h3=>exact .inr ⟨none,h1,h1.tl,.inr (.inr ⟨h2,h3,rfl⟩)⟩
 |blkE h1 h2=>exact .inr ⟨some _,h1,h1.bl,_,h2,rfl⟩
 |blk h1 h2=>exact .inr ⟨some _,h1,h1.bl,_,h2,rfl⟩
def my (CHd cH cM cT cZ cC:EC):Sp:=λ vs H Q E=>∃(a:EC) (B:List Nat),vs=[.ref a]/\H a=some (.lst (B.map vN))/\(∀b∈B,b<256)/\B.length≤1000/\
 ((B.take 3≠mk3.take B.length/\∀H',Same H H'->E (.ref cM) none H')\/(B.length<3/\B.take 3=mk3.take B.length/\∀H',Same H H'->E (.ref cC) none H')\/
  ∃o,3≤B.length/\B.take 3=mk3.take B.length/\Sc (B.drop 3) 0 o/\match o with
   | .inl i=>∀H',Same H H'->E (.ref (e4 cH cC cT cZ i)) none H'
   | .inr bs=>∀l ts H',H l=none->Same H H'->H' l=some (.lst (ts.map V.ref))->BlAt CHd H' ts 3 bs->Q (.ref l) H')
theorem scBlocksIn:FnScope ["bale","blocks","many_signs","place","part"] ["bale"] (ak gD):=⟨rfl,rfl,rfl,Z8,rfl,Z8,Z8⟩
theorem BlAt.len:∀{ts:List EC} {p:Nat} {bs:List (Nat×Nat×Nat)},BlAt CHd H ts p bs->ts.length=bs.length/\p+5*bs.length≤ends p bs
 | [],_,[],_=>⟨rfl,Al _⟩
 | [],_,_::_,h=>h.elim
 |_::_,_,[],h=>h.elim
 |_::_,p,(_,_,y)::bs,⟨_,r⟩=>by
  obtain⟨h1,h2⟩:=BlAt.len r;refine⟨by rw [Az,Az,h1],?_⟩;rw [Az];show _≤ends (p+(y+5)) bs;omega
theorem BlAt.keep {l:EC}(hl:∃xs,H l=some (.lst xs))(s:∀c o,H c=some o->c≠l->H' c=some o):∀{ts:List EC} {p:Nat} {bs:List (Nat×Nat×Nat)},BlAt CHd H ts p bs->BlAt CHd H' ts p bs
 | [],_,[],_=>trivial
 | [],_,_::_,h=>h.elim
 |_::_,_,[],h=>h.elim
 |t::ts,p,(u,v,y)::bs,⟨⟨h,dx,h1,h2⟩,r⟩=>by
  obtain⟨xs,hl'⟩:=hl;exact⟨⟨h,dx,s _ _ h1 (λ z=>by rw [z,hl'] at h1;cases h1),s _ _ h2 (λ z=>by rw [z,hl'] at h2;cases h2)⟩,BlAt.keep ⟨xs,hl'⟩ s r⟩
theorem lg (F:Fn K mg "blocks_in" gD ["bale"] f fd)(Z:Prt K mg C CHd cR cH cM cT cZ cC cG):FnOk P w K mg base (CXE P w) 36 f fd ["bale"] (my CHd cH cM cT cZ cC):=by
 have X:=Z.H.N.Y.X;obtain⟨_,_,Nm⟩:=Z.nmark;obtain⟨_,_,Np⟩:=Z.npart;obtain⟨_,_,Nt⟩:=Z.ntail;obtain⟨_,_,Nl⟩:=Z.nlast;obtain⟨d,hm,hd⟩:=Z.mark;refine F.F.okE scBlocksIn λ EO A outer st H vs Q E hr h=>?_
 intro _;obtain⟨a,B,rfl,ha,hb,h1000,h⟩:=h;have hr31:Room 31 _:=hr.mono Z9;refine⟨_,ad (bf (ai (lM Nm Z) hr31 Z7 Nm.m Nm.F.kp Nm.b .nil aV (aa (pv 0) ac)))
  (ad (ao (i:=1) scBlocksIn.nd (aD ac))
  (ad (ao (i:=2) scBlocksIn.nd ae)
  (ad (ao (i:=3) scBlocksIn.nd (aw aq Z7 X.len As (aa (aP (v:=.ref d) Z7 hm rfl) ac)))
  (ad (ao (i:=4) scBlocksIn.nd (ai (gW Np Z) hr Z7 Np.m Np.F.kp Np.b .nil aV (aa (pv 0) (aa (pv 3) (aa (pv 2) ac)))))
  (ad (iS Ef (ax pq (ba cE (pv 4) ae (λ _ _=>rfl)) cF (az _))
   (ad (bf (eL A5 BO B2 cv (pv 1) (aa (bK (aa (pv 3) (aa (ba cE (pv 4) ae (λ _ _=>rfl)) ac))) ac)))
   (ad (ao (i:=2) scBlocksIn.nd (ag aF (pv 2) (cw (ba cE (pv 4) ae (λ _ _=>rfl)) rfl)))
   (ad (ao (i:=3) scBlocksIn.nd (ba cE (pv 4) ae (λ _ _=>rfl)))
   (ah (ao (i:=4) scBlocksIn.nd (ai (gW Np Z) hr Z7 Np.m Np.F.kp Np.b .nil aV (aa (pv 0) (aa (pv 3) (aa (pv 2) ac))))))))))
  (ad (bf (ai (kX Nt Z) hr31 Z7 Nt.m Nt.F.kp Nt.b .nil aV (aa (aC aL (pv 0) (aA (pv 3)) (aA (ba cE (pv 4) ae (λ _ _=>rfl)))) (aa (pv 2) ac))))
  (ad (bf (ai (mf Nl Z) hr31 Z7 Nl.m Nl.F.kp Nl.b .nil aV (aa (pv 0) (aa (ba cE (pv 4) ae (λ _ _=>rfl)) ac))))
  (ah (ar (pv 1)))))))))),?_⟩
 have e3:((([vN 184,vN 66,vN 1]:List V).length:Nat):Int)=((3:Nat):Int):=rfl;rcases h with⟨hm0,k⟩|h
 ·exact⟨_,rfl,a,B,rfl,ha,λ z=>absurd z hm0,λ _=>k⟩
 obtain⟨hmk,h⟩:B.take 3=mk3.take B.length/\((B.length<3/\∀H',Same H H'->E (.ref cC) none H')\/∃o,3≤B.length/\Sc (B.drop 3) 0 o/\match o with
   | .inl i=>∀H',Same H H'->E (.ref (e4 cH cC cT cZ i)) none H'
   | .inr bs=>∀l ts H',H l=none->Same H H'->H' l=some (.lst (ts.map V.ref))->BlAt CHd H' ts 3 bs->Q (.ref l) H'):=by
  rcases h with⟨h1,h2,k⟩|⟨o,h1,h2,h3,k⟩
  ·exact⟨h2,.inl ⟨h1,k⟩⟩
  ·exact⟨h2,.inr ⟨o,h1,h3,k⟩⟩
 refine am λ _ g=>⟨_,rfl,a,B,rfl,ha,λ _ H1 s1=>g _ _ ?_,λ z=>absurd hmk z⟩
 clear g;refine am λ _ g=>⟨AZ _,λ l nl=>g _ _ ?_⟩
 clear g;have nl0:H l=none:=none_of s1 nl;have s2:=aj (o:=.lst []) nl;have hl2:(upd H1 l (.lst [])) l=some (.lst []):=af;have s12:=s1.trans s2;generalize upd H1 l (.lst [])=H2 at*;clear s1 s2 nl;refine am λ _ g=>g _ _ ?_
 clear g;refine am λ _ g=>⟨d,_,rfl,.inr (hd H2),g _ _ ?_⟩
 clear g
 try dsimp only
 rw [e3];rcases h with⟨h3,k⟩|⟨o,h3,hsc,k⟩
 ·exact⟨_,rfl,_,rfl,_,rfl,a,B,3,0,.inl 1,rfl,s12 _ _ ha,hb,.short (by rw [Ax];omega),λ H3 s3=>k _ (s12.trans s3)⟩
 refine am λ R g=>⟨_,rfl,_,rfl,_,rfl,a,B,3,0,?_⟩
 rcases hsc.split with⟨i,rfl,hp⟩|⟨q,hp,hq⟩
 ·refine⟨.inl i,rfl,s12 _ _ ha,hb,hp,λ H3 s3=>?_⟩;have hi:e2 cH cC i=e4 cH cC cT cZ i:=by
   cases hp<;>rfl
  rw [hi];exact k _ (s12.trans s3)
 refine⟨.inr q,rfl,s12 _ _ ha,hb,hp,λ t H3 s3 ht=>g _ _ ?_⟩;clear g;have hl3:=s3 _ _ hl2;have s13:=s12.trans s3;clear hp hsc s12 hl2;refine am λ R g=>?_
 refine⟨λ n σ H4=>∃(m p:Nat) (t:EC) (q:Option (Nat×Nat×Nat)) (ts:List EC) (bs:List (Nat×Nat×Nat)) (o':Nat ⊕ List (Nat×Nat×Nat)),n=B.length-p/\p≤B.length/\p=ends 3 bs/\ScR (B.drop p) m q o'/\o=pre bs o'/\σ=[some (.ref a),some (.ref l),some (vN m),some (vN p),some (.ref t)]/\vF CHd H4 t p q/\H4 l=some (.lst (ts.map V.ref))/\BlAt CHd H4 ts 3 bs/\Same H H4,
  ⟨_,0,3,t,q,[],[],o,rfl,h3,rfl,hq,(by cases o<;>rfl),rfl,ht,hl3,trivial,s13⟩,?_⟩
 clear hq ht hl3 s13 s3 t q;rintro n σ H4 ⟨m,p,t,q,ts,bs,o',rfl,hp,ep,hq,eo,rfl,ht,hl4,hbl,s4⟩;have ntl:t≠l:=λ z=>by
  rw [z] at ht
  match q,ht with
  |none,ht=>rw [show H4 l=_ from ht] at hl4;cases hl4
  |some (u,v,y),ht=>
   obtain⟨h,dx,h1,_⟩:=ht;rw [h1] at hl4;cases hl4
 match q,hq,ht with
 |some (u,v,y),⟨hlen,o2,hsc,eo2⟩,⟨h,dx,ht1,ht2⟩=>
  refine⟨_,rfl,t,_,_,_,rfl,rfl,SqT.of ht1,aT (j:=0) rfl,rfl,_,rfl,bR ?_⟩;clear g;rw [Ax] at hlen;refine⟨λ σ' H'=>∃n',n'<B.length-p/\∃(m p:Nat) (t:EC) (q:Option (Nat×Nat×Nat)) (ts:List EC) (bs:List (Nat×Nat×Nat)) (o':Nat ⊕ List (Nat×Nat×Nat)),n'=B.length-p/\p≤B.length/\p=ends 3 bs/\ScR (B.drop p) m q o'/\o=pre bs o'/\σ'=[some (.ref a),some (.ref l),some (vN m),some (vN p),some (.ref t)]/\vF CHd H' t p q/\H' l=some (.lst (ts.map V.ref))/\BlAt CHd H' ts 3 bs/\Same H H',λ σ' H' z=>z,?_⟩;refine am λ _ g=>⟨_,rfl,.inl ⟨rfl,_,SqL.of hl4⟩,_,rfl,_,rfl,t,_,_,_,rfl,rfl,SqT.of ht1,aT (j:=0) rfl,zl2,λ t2 n2=>?_⟩
  have s5:=aj (o:=.tup [vN p,.ref h]) n2;have hl5:=s5 _ _ hl4;have h2t:(upd H4 t2 (.tup [vN p,.ref h])) t2=some (.tup [vN p,.ref h]):=af;have hbl5:=hbl.same s5;have ht15:=s5 _ _ ht1;have ht25:=s5 _ _ ht2;have s45:=s4.trans s5;have bl:=hbl.len;generalize upd H4 t2 (.tup [vN p,.ref h])=H5 at*;refine⟨l,_,_,rfl,rfl,hl5,cz (by rw [z7,bl.1];omega),g _ _ ?_⟩;clear g;have nl2:t2≠l:=λ z=>by rw [z,hl4] at n2;cases n2
  have nhl:h≠l:=λ z=>by rw [z,hl5] at ht25;cases ht25
  have k6:∀c o,H5 c=some o->c≠l->(upd H5 l (.lst (ts.map V.ref++[.ref t2]))) c=some o:=λ c o e n=>by rw [av n];exact e
  have hl6:(upd H5 l (.lst (ts.map V.ref++[.ref t2]))) l=some (.lst ((ts++[t2]).map V.ref)):=by rw [af,At];rfl
  have ht16:=k6 _ _ ht15 ntl;have ht26:=k6 _ _ ht25 nhl;have hbl6:BlAt CHd (upd H5 l (.lst (ts.map V.ref++[.ref t2]))) (ts++[t2]) 3 (bs++[(u,v,y)]):=(BlAt.keep ⟨_,hl5⟩ k6 hbl5).snoc (h:=h) (dx:=dx) (by rw [<-ep];exact k6 _ _ h2t nl2) ht26;have s6:Same H (upd H5 l (.lst (ts.map V.ref++[.ref t2]))):=λ c o e=>k6 _ _ (s45 _ _ e) (au e nl0)
  generalize upd H5 l (.lst (ts.map V.ref++[.ref t2]))=H6 at*;refine am λ _ g=>⟨_,rfl,_,rfl,t,_,_,_,rfl,rfl,SqT.of ht16,aT (j:=0) rfl,h,CHd,dx,_,_,rfl,ht26,Z.H.T.cl,Z.H.T.nC,qS _ _ _,_,_,rfl,rfl,g _ _ ?_⟩
  clear g;have em:((m:Nat):Int)+((v:Nat):Int)=((m+v:Nat):Int):=by omega
  try dsimp only
  rw [em];refine am λ _ g=>⟨_,rfl,t,_,_,_,rfl,rfl,SqT.of ht16,aT (j:=1) rfl,g _ _ ?_⟩
  clear g;have epl:p+(y+5)=ends 3 (bs++[(u,v,y)]):=by rw [eP,<-ep]
  have hsc:Sc (B.drop (p+(y+5))) (m+v) o2:=by rw [<-List.drop_drop];exact hsc
  have eo3:o=pre (bs++[(u,v,y)]) o2:=by rw [<-pM,<-eo2];exact eo
  refine⟨_,rfl,_,rfl,_,rfl,a,B,p+(y+5),m+v,?_⟩;rcases hsc.split with⟨i,rfl,hp2⟩|⟨q2,hp2,hq2⟩
  ·refine⟨.inl i,rfl,s6 _ _ ha,hb,hp2,λ H7 s7=>?_⟩;have hi:e2 cH cC i=e4 cH cC cT cZ i:=by
    cases hp2<;>rfl
   rw [hi];rw [eo3] at k;exact k _ (s6.trans s7)
  ·refine⟨.inr q2,rfl,s6 _ _ ha,hb,hp2,λ t7 H7 s7 ht7=>⟨_,?_,m+v,p+(y+5),t7,q2,ts++[t2],_,o2,rfl,by omega,epl,hq2,eo3,rfl,ht7,s7 _ _ hl6,hbl6.same s7,s6.trans s7⟩⟩;omega
 |none,⟨hlen,hq⟩,ht=>
  have ht:H4 t=some (.tup [.non,vN (p+11)]):=ht;rw [Ax] at hlen;refine⟨_,rfl,t,_,_,_,rfl,rfl,SqT.of ht,aT (j:=0) rfl,rfl,_,rfl,bq (g _ _ ?_)⟩;clear g;have ec:cutV (B.map vN) (some ((p:Nat):Int)) (some ((p+11:Nat):Int))=((B.drop p).take 11).map vN:=by
   rw [eW (Bz _ _) (by omega),Cy,show p+11-p=11 by omega]
  refine am λ _ g=>⟨_,rfl,_,rfl,_,rfl,_,rfl,t,_,_,_,rfl,rfl,SqT.of ht,aT (j:=1) rfl,_,rfl,a,_,rfl,SqL.of (s4 _ _ ha),λ l5 n5=>?_⟩
  try dsimp only
  rw [ec];have s5:=aj (o:=.lst (((B.drop p).take 11).map vN)) n5;have h55:(upd H4 l5 (.lst (((B.drop p).take 11).map vN))) l5=some (.lst (((B.drop p).take 11).map vN)):=af;have s45:=s4.trans s5;have hl5:=s5 _ _ hl4;have ht5:=s5 _ _ ht;have hbl5:=hbl.same s5;generalize upd H4 l5 (.lst (((B.drop p).take 11).map vN))=H5 at*;refine⟨_,rfl,l5,(B.drop p).take 11,m,rfl,h55,λ b hb'=>hb b (A0 (AG hb')),by rw [Aj,Ax];omega,λ hT H6 s6=>g _ _ ?_,λ hT H6 s6=>?_⟩
  rotate_left
  ·rcases hq with⟨_,e⟩|⟨h',_⟩|⟨h',_⟩
   ·rw [eo,e] at k;exact k _ (s45.trans s6)
   ·exact absurd h' hT
   ·exact absurd h' hT
  clear g;have s46:=s45.trans s6;refine am λ _ g=>⟨_,rfl,_,rfl,t,_,_,_,rfl,rfl,SqT.of (s6 _ _ ht5),aT (j:=1) rfl,a,_,p+11,rfl,s46 _ _ ha,λ h'=>g _ _ ?_,λ h'=>?_⟩
  rotate_left
  ·rw [z7] at h';rcases hq with⟨h2,_⟩|⟨_,_,e⟩|⟨_,h2,_⟩
   ·exact absurd hT h2
   ·rw [eo,e] at k;exact k _ s46
   ·rw [Ax] at h2;omega
  rw [z7] at h';rcases hq with⟨h2,_⟩|⟨_,h2,_⟩|⟨_,_,e⟩
  ·exact absurd hT h2
  ·rw [Ax] at h2;omega
  rw [eo,e] at k;have k:∀l ts H',H l=none->Same H H'->H' l=some (.lst (ts.map V.ref))->BlAt CHd H' ts 3 (bs++[])->Q (.ref l) H':=k;rw [AQ] at k;exact⟨_,rfl,k l ts _ nl0 s46 (s6 _ _ hl5) (hbl5.same s6)⟩
end
abbrev dW:EM:=top 127
abbrev iu:EM:=top 128
abbrev pE:EM:=top 129
abbrev Bl:=Nat×Nat×Nat
def tot (bs:List Bl):Nat:=(bs.map λ b=>b.2.1).sum
theorem BlAt.get:∀{i:Nat} {ts:List EC} {p:Nat} {bs:List Bl},BlAt CHd H ts p bs->ts[i]?=some t->∃u v y h dx,bs[i]?=some (u,v,y)/\H t=some (.tup [vN (ends p (bs.take i)),.ref h])/\H h=some (.ins CHd dx (fH u v y))
 |0,t::ts,p,(u,v,y)::bs,⟨⟨h,dx,h1,h2⟩,r⟩,e=>by cases e;exact⟨u,v,y,h,dx,rfl,h1,h2⟩
 |i+1,t::ts,p,(u,v,y)::bs,⟨_,r⟩,e=>BlAt.get (i:=i) r e
 |_,[],_,[],_,e=>by cases e
 |_,[],_,_::_,h,_=>h.elim
 |_,_::_,_,[],h,_=>h.elim
theorem yG:(["place","head"]:List Str).Nodup:=Z8
inductive Rg (B:List Nat):Nat->List Bl->List Nat->Nat ⊕ List Nat->Prop
 |nil {p:Nat} {S:List Nat}:Rg B p [] S (.inr S)
 |err {p u v y i:Nat} {bs:List Bl} {S:List Nat}:p+(y+5)≤B.length->NhK ((B.drop p).take (y+5)) (some (u,v,y))->S.length%256≤192->BkK ((B.drop p).take (y+5)) (S.drop (S.length-S.length%256)) u v (.inl i)->Rg B p ((u,v,y)::bs) S (.inl i)
 |ok {p u v y:Nat} {bs:List Bl} {S T:List Nat} {o:Nat ⊕ List Nat}:p+(y+5)≤B.length->NhK ((B.drop p).take (y+5)) (some (u,v,y))->S.length%256≤192->BkK ((B.drop p).take (y+5)) (S.drop (S.length-S.length%256)) u v (.inr T)->(∀b∈T,b<256)->S.length+T.length≤1000->Rg B (p+(y+5)) bs (S++T) o->Rg B p ((u,v,y)::bs) S o
structure Rng (K:Frag)(mg:Str->Option ED)(C CHd CR cR cH cK cB cN C0 C1 C2 C3 cM cT cZ cC cG:EC):Prop where
 T:Tbk K mg C CHd CR cR cH cK cB cN C0 C1 C2 C3
 P:Prt K mg C CHd cR cH cM cT cZ cC cG
 gb:∃t,mg "GROUP_BLOCKS"=some (.int 4 t)
 take:∃f fd dV,FunD K "take_block" "take_block" fw dV f fd/\mg "take_block"=some (.ref f)/\Binds K fd ["row","before"] []
 within:∃f fd,Fn K mg "need_within" dW ["begin","count","blocks"] f fd
 signsin:∃f fd,Fn K mg "signs_in" iu ["bale","blocks"] f fd
 blocksin:∃f fd,Fn K mg "blocks_in" gD ["bale"] f fd
section
variable {C CHd CR cR cH cK cB cN C0 C1 C2 C3 cM cT cZ cC cG:EC}
def kc (CHd cG:EC):Sp:=λ vs H Q E=>∃(l:EC) (ts:List EC) (bs:List Bl) (p b c:Nat),vs=[vN b,vN c,.ref l]/\H l=some (.lst (ts.map V.ref))/\BlAt CHd H ts p bs/\bs.length≤1000/\(b+c≤tot bs->∀H',Same H H'->Q .non H')/\(tot bs<b+c->∀H',Same H H'->E (.ref cG) none H')
theorem kN:FnScope ["begin","count","blocks"] ["begin","count","blocks"] (ak dW):=⟨rfl,rfl,rfl,Z8,rfl,Z8,Z8⟩
theorem jb (F:Fn K mg "need_within" dW ["begin","count","blocks"] f fd)(Z:Prt K mg C CHd cR cH cM cT cZ cC cG):FnOk P w K mg base (CXE P w) 31 f fd ["begin","count","blocks"] (kc CHd cG):=by
 have X:=Z.H.N.Y.X;have T:=Z.H.T;refine F.F.okE kN λ EO A outer st H vs Q E hr h=>?_
 intro _;obtain⟨l,ts,bs,p,b,c,rfl,hl,hbl,h1000,k1,k2⟩:=h;have hn:=hr.hd Z9;refine⟨_,ah (aK (ax ek (ag aF (pv 0) (pv 1)) (aw (tH hn) Z7 X.sum PyProof.Rows.boot_sum (aa (kh (N:=["place","head"]) (g:=tN K 2 (lE (bM 0) (lE (bM 1) xl))) (te:=wI K (tVar 1) "count") rfl rfl Z8 Z8 Z8 (cy (pv 2)) (λ fp s H=>cb rfl (aM (aG (i:=0) yG) (aM (aG (i:=1) yG) bL))) (λ fp s H=>dU (K:=K) rfl (pv 1) rfl)) ac)) (az _)) (ah (aW aV (hr.hd Z9) Z7 Z.mG Z.xG aB)) ay),?_⟩;refine⟨_,rfl,_,rfl,_,_,rfl,rfl,?_⟩;refine⟨_,rfl,l,rfl,⟨_,SqL.of hl⟩,λ l2 n2=>?_⟩;have len:=hbl.len.1;refine kO (K:=K) (a:=l) (l:=l2) (xs:=ts.map V.ref) (n:=2) (λ i ys H2=>ys=((bs.take i).map λ b=>b.2.1).map vN/\H2 l2=some (.lst ys)/\Same H H2) ⟨rfl,af,aj n2⟩ ?_ ?_ ?_ ?_ ?_
 ·rintro i ys H2 hi ⟨_,_,s2⟩;exact SqL.of (s2 _ _ hl)
 ·rintro i x ys σ H2 hx ⟨rfl,h2,s2⟩ hσ;rw [Au] at hx;obtain⟨t,ht,rfl⟩:=Bq.mp hx;obtain⟨u,v,y,h,dx,e1,e2,e3⟩:=hbl.get ht;obtain⟨v0,v1,rfl⟩:∃v0 v1,σ=[v0,v1]:=by
   match σ,hσ with
   | [v0,v1],_=>exact⟨v0,v1,rfl⟩
  refine⟨t,_,rfl,SqT.of (s2 _ _ e2),rfl,_,_,rfl,_,_,rfl,rfl,?_⟩;refine⟨_,rfl,h,CHd,dx,_,_,rfl,s2 _ _ e3,T.cl,T.nC,qS _ _ _,h2,cz (by rw [z7,z7,Aj];omega),rfl,?_,af,λ c o e=>by rw [av (au e n2)];exact s2 _ _ e⟩;rw [A9,e1,At,At];rfl
 ·rintro ys H2 ⟨rfl,h2,s2⟩;rw [z7,len,Bx] at h2;have es:(((bs.map λ b=>b.2.1).map λ b:Nat=>(b:Int)).sum:Int)=((tot bs:Nat):Int):=by
   unfold tot;generalize (bs.map λ b=>b.2.1)=L
   induction L with
   |nil=>rfl
   |cons x L ih=>rw [AJ,DL,ih,DL];omega
  refine⟨l2,(bs.map λ b=>b.2.1).map λ b:Nat=>(b:Int),rfl,by rw [<-Rf.mapI];exact SqL.of h2,?_⟩;rw [es];refine⟨_,_,rfl,rfl,_,rfl,bi (λ h=>?_) (λ h=>?_)⟩
  ·have:=Aq h;exact k2 (by omega) _ s2
  ·refine k1 ?_ _ s2;rcases A4 (tot bs) (b+c) with q|q
   ·exact absurd (Ai (by show((tot bs:Nat):Int)<((b:Nat):Int)+((c:Nat):Int);omega)) h
   ·exact q
 ·rintro x σ H A B hAB ⟨a',xs',e1,e2,e3,v0,r0,e4,v1,r1,e5,e6,z⟩;exact⟨a',xs',e1,e2,e3,v0,r0,e4,v1,r1,e5,e6,hAB _ _ z⟩
 ·rintro σ H A B hAB ⟨v,e1,a',c',dx',fs',y',e2,e3,e4,e5,e6,z⟩;exact⟨v,e1,a',c',dx',fs',y',e2,e3,e4,e5,e6,hAB _ _ z⟩
def qR (CHd cK cB:EC):Sp:=λ vs H Q E=>∃(a l:EC) (B:List Nat) (ts:List EC) (bs:List Bl) (p:Nat) (o:Nat ⊕ List Nat),vs=[.ref a,.ref l]/\H a=some (.lst (B.map vN))/\(∀b∈B,b<256)/\B.length≤1000/\H l=some (.lst (ts.map V.ref))/\BlAt CHd H ts p bs/\Rg B p bs [] o/\match o with
  | .inl i=>∀H',Same H H'->E (.ref (e2 cK cB i)) none H'
  | .inr S=>∀l' H',H l'=none->Same H H'->H' l'=some (.lst (S.map vN))->Q (.ref l') H'
theorem scSignsIn:FnScope ["bale","blocks","signs","place","head","ahead","window"] ["bale","blocks"] (ak iu):=⟨rfl,rfl,rfl,Z8,rfl,Z8,Z8⟩
theorem nG (F:Fn K mg "signs_in" iu ["bale","blocks"] f fd)(Z:Rng K mg C CHd CR cR cH cK cB cN C0 C1 C2 C3 cM cT cZ cC cG):FnOk P w K mg base (CXE P w) 36 f fd ["bale","blocks"] (qR CHd cK cB):=by
 have X:=Z.P.H.N.Y.X;obtain⟨_,_,Bs⟩:=Z.P.bsize;obtain⟨_,_,_,Tk,mT,bT⟩:=Z.take;obtain⟨t64,h64⟩:=Z.P.signs;obtain⟨t4,h4⟩:=Z.gb;refine F.F.okE scSignsIn λ EO A outer st H vs Q E hr h=>?_
 intro _;obtain⟨a,l,B,ts,bs,p,o,rfl,ha,hb,h1000,hl,hbl,hrg,k⟩:=h;have hr1:Room 1 _:=hr.mono Z9;refine⟨_,ad (ao (i:=2) scSignsIn.nd (aD ac))
  (ad (cr Ef rfl (cy (pv 1)) (cb rfl (aM (aG (i:=3) scSignsIn.nd) (aM (aG (i:=4) scSignsIn.nd) bL)))
   (ad (ao (i:=5) scSignsIn.nd (ag aI (aw aq Z7 X.len As (aa (pv 2) ac)) (ag bE (aP (v:=.int 64) Z7 h64 ⟨t64,rfl⟩) (aP (v:=.int 4) Z7 h4 ⟨t4,rfl⟩))))
   (ad (ao (i:=6) scSignsIn.nd (aC aL (pv 2) (aA (ag aU (aw aq Z7 X.len As (aa (pv 2) ac)) (pv 5))) aY))
   (ah (bf (eL A5 Dm PySem.F.type_list_extend jo (pv 2) (aa (ai (kr Tk Z.T) hr Z7 mT Tk.kp bT .nil aV (aa (aC aL (pv 0) (aA (pv 3)) (aA (ag aF (pv 3) (ai (iW Bs Z.P.H) hr1 Z7 Bs.m Bs.F.kp Bs.b .nil ap (aa (pv 4) ac))))) (aa (pv 6) ac))) ac)))))))
  (ah (ar (pv 2)))),?_⟩
 refine am λ _ g=>⟨AZ _,λ ls ns=>g _ _ ?_⟩
 clear g;refine am λ R g=>⟨_,rfl,l,rfl,⟨_,SqL.of (aj ns _ _ hl)⟩,?_⟩
 refine cX (K:=K) (a:=l) (xs:=ts.map V.ref) (λ i σ H2=>∃(v3 v4 v5 v6:Option V) (S:List Nat),σ=[some (.ref a),some (.ref l),some (.ref ls),v3,v4,v5,v6]/\Rg B (ends p (bs.take i)) (bs.drop i) S o/\(∀b∈S,b<256)/\S.length≤1000/\H2 ls=some (.lst (S.map vN))/\Same H H2) ⟨none,none,none,none,[],rfl,hrg,(λ _ z=>nomatch z),AZ _,af,aj ns⟩ ?_ ?_ ?_
 ·rintro i σ H2 hi ⟨v3,v4,v5,v6,S,rfl,_,_,_,_,s2⟩;exact SqL.of (s2 _ _ hl)
 rotate_left
 ·rintro σ H2 ⟨v3,v4,v5,v6,S,rfl,hr2,hSb,hS,h2,s2⟩;rw [z7,hbl.len.1,Eo] at hr2;cases hr2;exact g _ _ ⟨_,rfl,k ls _ ns s2 h2⟩
 clear g;rintro i x σ H2 hx ⟨v3,v4,v5,v6,S,rfl,hr2,hSb,hS,h2,s2⟩;rw [Au] at hx;obtain⟨t,ht,rfl⟩:=Bq.mp hx;obtain⟨u,v,y,h,dx,e1,e2',e3⟩:=hbl.get ht;have ed:bs.drop i=(u,v,y)::bs.drop (i+1):=by
  obtain⟨hi,e⟩:=Ak.mp e1;rw [BH hi,e]
 have ee:ends p (bs.take (i+1))=ends p (bs.take i)+(y+5):=by rw [A9,e1];exact eP
 rw [ed] at hr2;rw [ee];generalize hq:ends p (bs.take i)=q at*;refine⟨t,_,rfl,SqT.of (s2 _ _ e2'),rfl,_,_,rfl,_,_,rfl,rfl,?_⟩;have em:((((S.map vN).length:Nat):Int))%(64*4)=((S.length%256:Nat):Int):=by rw [z7];omega
 refine am λ _ g=>⟨_,rfl,ls,_,rfl,.inl (SqL.of h2),_,_,rfl,rfl,.inl ⟨Z9,Z9⟩,_,_,rfl,rfl,(by show(0:Int)<64*4;decide),g _ _ ?_⟩
 clear g
 try dsimp only
 rw [em];have es:((((S.map vN).length:Nat):Int))-((S.length%256:Nat):Int)=((S.length-S.length%256:Nat):Int):=by
  rw [z7];have:=Nat.mod_le S.length 256;omega
 refine am λ _ g=>⟨_,rfl,_,rfl,ls,_,rfl,.inl (SqL.of h2),_,rfl,_,_,rfl,rfl,_,rfl,ls,_,rfl,SqL.of h2,λ lw nw=>g _ _ ?_⟩
 clear g
 try dsimp only
 try dsimp only at nw
 rw [es,dB,<-BB];have s3:=aj (o:=.lst ((S.drop (S.length-S.length%256)).map vN)) nw;have hw3:(upd H2 lw (.lst ((S.drop (S.length-S.length%256)).map vN))) lw=some (.lst ((S.drop (S.length-S.length%256)).map vN)):=af;have h3:=s3 _ _ h2;have s23:=s2.trans s3;generalize upd H2 lw (.lst ((S.drop (S.length-S.length%256)).map vN))=H3 at*;obtain⟨hlen,hnh,h192,o2,hbk,ho2⟩:q+(y+5)≤B.length/\NhK ((B.drop q).take (y+5)) (some (u,v,y))/\S.length%256≤192/\∃o2,BkK ((B.drop q).take (y+5)) (S.drop (S.length-S.length%256)) u v o2/\match o2 with
   | .inl i=>o=.inl i
   | .inr T=>(∀b∈T,b<256)/\S.length+T.length≤1000/\Rg B (q+(y+5)) (bs.drop (i+1)) (S++T) o:=by
  cases hr2 with
  |err q1 q2 q3 q4=>exact⟨q1,q2,q3,_,q4,rfl⟩
  |ok q1 q2 q3 q4 q5 q6 q7=>exact⟨q1,q2,q3,_,q4,q5,q6,q7⟩
 have eq5:((q:Nat):Int)+((y+5:Nat):Int)=((q+(y+5):Nat):Int):=by omega
 have ec:cutV (B.map vN) (some ((q:Nat):Int)) (some ((q+(y+5):Nat):Int))=((B.drop q).take (y+5)).map vN:=by
  rw [eW (Bz _ _) hlen,Cy,show q+(y+5)-q=y+5 by omega]
 refine⟨_,rfl,.inl ⟨rfl,_,SqL.of h3⟩,_,rfl,_,rfl,_,rfl,_,rfl,_,rfl,h,dx,u,v,y,rfl,s23 _ _ e3,_,_,rfl,rfl,_,rfl,a,_,rfl,SqL.of (s23 _ _ ha),λ lb nb=>?_⟩
 try dsimp only
 try dsimp only at nb
 rw [eq5,ec];have s4:=aj (o:=.lst (((B.drop q).take (y+5)).map vN)) nb;have hb4:(upd H3 lb (.lst (((B.drop q).take (y+5)).map vN))) lb=some (.lst (((B.drop q).take (y+5)).map vN)):=af;have h4:=s4 _ _ h3;have hw4:=s4 _ _ hw3;have s24:=s23.trans s4;generalize upd H3 lb (.lst (((B.drop q).take (y+5)).map vN))=H4 at*;refine⟨_,rfl,lb,lw,(B.drop q).take (y+5),S.drop (S.length-S.length%256),u,v,y,o2,rfl,hb4,λ b z=>hb b (A0 (AG z)),by rw [Aj,Ax];omega,hw4,λ b z=>hSb b (A0 z),by rw [Ax];omega,hnh,hbk,?_⟩
 match o2,ho2 with
 | .inl j,ho2=>
  subst ho2;exact λ H5 s5=>k _ (s24.trans s5)
 | .inr T,⟨hT1,hT2,hT3⟩=>
  refine λ l' H5 n5 s5 h5=>⟨ls,l',_,_,rfl,rfl,s5 _ _ h4,h5,ck (by rw [z7,z7];omega),_,_,_,_,S++T,rfl,hT3,λ b z=>(Ar.mp z).elim (hSb b) (hT1 b),by rw [z0];exact hT2,by rw [af,At],λ c o' e=>?_⟩
  rw [av (au e ns)];exact s5 _ _ (s24 _ _ e)
end
abbrev gF (nb:Nat):Nat:=nb/64/4*4
abbrev gL (nb nc:Nat):Nat:=(nb+nc-1)/64+1
def cd4:Nat->Nat
 |0=>1
 |1=>5
 |2=>3
 |_=>4
def cd2:Nat->Nat
 |0=>2
 |_=>8
def e9 (a b c d e f g h i:EC):Nat->EC
 |0=>a
 |1=>b
 |2=>c
 |3=>d
 |4=>e
 |5=>f
 |6=>g
 |7=>h
 |_=>i
inductive TrK (B:List Nat) (nb nc:Nat):Nat ⊕ (List Nat×Nat)->Prop
 |mark:B.take 3≠mk3.take B.length->TrK B nb nc (.inl 0)
 |short:B.length<3->B.take 3=mk3.take B.length->TrK B nb nc (.inl 5)
 |scan {i:Nat}:3≤B.length->B.take 3=mk3.take B.length->Sc (B.drop 3) 0 (.inl i)->TrK B nb nc (.inl (cd4 i))
 |range {bs:List Bl}:3≤B.length->B.take 3=mk3.take B.length->Sc (B.drop 3) 0 (.inr bs)->tot bs<nb+nc->TrK B nb nc (.inl 7)
 |none {bs:List Bl}:3≤B.length->B.take 3=mk3.take B.length->Sc (B.drop 3) 0 (.inr bs)->nb+nc≤tot bs->nc=0->TrK B nb nc (.inr ([],0))
 |bad {bs:List Bl} {i:Nat}:3≤B.length->B.take 3=mk3.take B.length->Sc (B.drop 3) 0 (.inr bs)->nb+nc≤tot bs->0<nc->gL nb nc≤bs.length->Rg B (ends 3 (bs.take (gF nb))) ((bs.take (gL nb nc)).drop (gF nb)) [] (.inl i)->TrK B nb nc (.inl (cd2 i))
 |ok {bs:List Bl} {S:List Nat}:3≤B.length->B.take 3=mk3.take B.length->Sc (B.drop 3) 0 (.inr bs)->nb+nc≤tot bs->0<nc->gL nb nc≤bs.length->nb-gF nb*64+nc≤S.length->Rg B (ends 3 (bs.take (gF nb))) ((bs.take (gL nb nc)).drop (gF nb)) [] (.inr S)->TrK B nb nc (.inr ((S.drop (nb-gF nb*64)).take nc,gL nb nc-gF nb))
def TdV (K:Frag)(H:Hp)(x b c:V)(o:Nat ⊕ (List Nat×Nat)):Prop:=(Rf.NoRow K H x/\o=.inl 6)\/∃B,Rf.IsR H x B/\B.length≤1000/\(((NoCt K H b\/(∃n:Nat,b=vN n)/\NoCt K H c)/\o=.inl 7)\/∃nb nc,b=vN nb/\c=vN nc/\TrK B nb nc o)
theorem BlAt.drop:∀{ts:List EC} {p:Nat} {bs:List Bl} (i:Nat),BlAt CHd H ts p bs->BlAt CHd H (ts.drop i) (ends p (bs.take i)) (bs.drop i)
 |_,_,_,0,h=>h
 | [],_,[],_+1,_=>trivial
 | [],_,_::_,_+1,h=>h.elim
 |_::_,_,[],_+1,h=>h.elim
 |_::_,_,(_,_,_)::_,i+1,⟨_,r⟩=>BlAt.drop i r
theorem BlAt.take:∀{ts:List EC} {p:Nat} {bs:List Bl} (i:Nat),BlAt CHd H ts p bs->BlAt CHd H (ts.take i) p (bs.take i)
 |_,_,_,0,h=>trivial
 | [],_,[],_+1,_=>trivial
 | [],_,_::_,_+1,h=>h.elim
 |_::_,_,[],_+1,h=>h.elim
 |_::_,_,(_,_,_)::_,i+1,⟨a,r⟩=>⟨a,BlAt.take i r⟩
theorem Sc.len {o:Nat ⊕ List Bl}(h:Sc r m o):∀{bs:List Bl},o=.inr bs->5*bs.length≤r.length:=by
 induction h with
 |part h=>intro bs e;cases e
 |tail h=>intro bs e;cases e
 |behind h=>intro bs e;cases e
 |fin h=>intro bs e;cases e;exact AZ _
 |blkE h1 h2=>intro bs e;cases e
 |blk h1 h2 ih=>
  intro bs e;cases e;have h3:=h1.bl;have h4:=ih rfl;rw [Ax] at h4;rw [Az];omega
theorem NoCt.same {K:Frag}{x:V}(s:Same H H')(h:NoCt K H x):NoCt K H' x:=by
 rcases h with h|h
 ·exact .inl (h.same s)
 ·exact .inr h
section
variable {C CHd CR cR cH cK cB cN C0 C1 C2 C3 cM cT cZ cC cG:EC}
def wL (K:Frag)(cs:Nat->EC):Sp:=λ vs H Q E=>∃(x b c:V) (o:Nat ⊕ (List Nat×Nat)),vs=[x,b,c]/\TdV K H x b c o/\match o with
  | .inl i=>∀H',Same H H'->E (.ref (cs i)) none H'
  | .inr (S,n)=>∀t l H',H t=none->H l=none->Same H H'->H' t=some (.tup [.ref l,vN n])->H' l=some (.lst (S.map vN))->Q (.ref t) H'
abbrev yD:List Str:=["row","begin","count","bale","blocks","first","end","signs","ahead"]
theorem scTold:FnScope yD ["row","begin","count"] (ak pE):=⟨rfl,rfl,rfl,Z8,rfl,Z8,Z8⟩
theorem oY (F:Fn K mg "told_range" pE ["row","begin","count"] f fd)(Z:Rng K mg C CHd CR cR cH cK cB cN C0 C1 C2 C3 cM cT cZ cC cG):FnOk P w K mg base (CXE P w) 37 f fd ["row","begin","count"] (wL K (e9 cM cH cK cT cZ cC cR cG cB)):=by
 obtain⟨_,_,N,GN'⟩:=Z.P.H.N.ok;have GN:=GN' P w base;obtain⟨_,_,Nc⟩:=Z.P.counts;obtain⟨_,_,Bi⟩:=Z.blocksin;obtain⟨_,_,Nw⟩:=Z.within;obtain⟨_,_,Si⟩:=Z.signsin;obtain⟨t64,h64⟩:=Z.P.signs;obtain⟨t4,h4⟩:=Z.gb;refine F.F.okE scTold λ EO A outer st H vs Q E hr h=>?_
 intro _;obtain⟨x,b,c,o,rfl,h,k⟩:=h;have hr31:Room 31 _:=hr.mono Z9;refine⟨_,ad (ao (i:=3) scTold.nd (ai GN hr31 Z7 N.m N.F.kp N.b .nil aV (aa (pv 0) ac)))
  (ad (bf (ai (je Nc Z.P) hr31 Z7 Nc.m Nc.F.kp Nc.b .nil aV (aa (pv 1) (aa (pv 2) ac))))
  (ad (ao (i:=4) scTold.nd (ai (lg Bi Z.P) hr Z7 Bi.m Bi.F.kp Bi.b .nil aV (aa (pv 3) ac)))
  (ad (bf (ai (jb Nw Z.P) hr31 Z7 Nw.m Nw.F.kp Nw.b .nil aV (aa (pv 1) (aa (pv 2) (aa (pv 4) ac)))))
  (ad (aK (ax bP (pv 2) ae (az _)) (ah (ar (bK (aa (aD ac) (aa ae ac))))) ay)
  (ad (ao (i:=5) scTold.nd (ag bE (ag aQ (ag aQ (pv 1) (aP (v:=.int 64) Z7 h64 ⟨t64,rfl⟩)) (aP (v:=.int 4) Z7 h4 ⟨t4,rfl⟩)) (aP (v:=.int 4) Z7 h4 ⟨t4,rfl⟩)))
  (ad (ao (i:=6) scTold.nd (ag aF (ag aQ (ag aU (ag aF (pv 1) (pv 2)) ae) (aP (v:=.int 64) Z7 h64 ⟨t64,rfl⟩)) ae))
  (ad (ao (i:=7) scTold.nd (ai (nG Si Z) hr Z7 Si.m Si.F.kp Si.b .nil aV (aa (pv 3) (aa (aC aL (pv 4) (aA (pv 5)) (aA (pv 6))) ac))))
  (ad (ao (i:=8) scTold.nd (ag aU (pv 1) (ag bE (pv 5) (aP (v:=.int 64) Z7 h64 ⟨t64,rfl⟩))))
  (ah (ar (bK (aa (aC aL (pv 7) (aA (pv 8)) (aA (ag aF (pv 8) (pv 2)))) (aa (ag aU (pv 6) (pv 5)) ac))))))))))))),?_⟩
 rcases h with⟨hN,rfl⟩|⟨B,⟨a,rfl,ha,hb⟩,h1000,h⟩
 ·exact⟨_,rfl,x,rfl,.inr ⟨hN,k _ (Same.refl H)⟩⟩
 refine am λ _ g=>⟨_,rfl,_,rfl,.inl ⟨B,⟨a,rfl,ha,hb⟩,λ l nl=>g _ _ ?_⟩⟩
 clear g;have s1:=aj (o:=.lst (B.map vN)) nl;have hl:(upd H l (.lst (B.map vN))) l=some (.lst (B.map vN)):=af;generalize upd H l (.lst (B.map vN))=H1 at*;rcases h with⟨h,rfl⟩|⟨nb,nc,rfl,rfl,h⟩
 ·refine⟨_,rfl,_,rfl,_,_,rfl,.inr ⟨?_,k _ s1⟩⟩;rcases h with h|⟨h1,h2⟩
  ·exact .inl (h.same s1)
  ·exact .inr ⟨h1,h2.same s1⟩
 refine am λ _ g=>⟨_,rfl,_,rfl,_,_,rfl,.inl ⟨⟨nb,nc,rfl,rfl⟩,g _ _ ?_⟩⟩
 clear g;refine am λ _ g=>⟨_,rfl,l,B,rfl,hl,hb,h1000,?_⟩
 obtain⟨hmm,ho⟩|⟨hm,h⟩:(B.take 3≠mk3.take B.length/\o=.inl 0)\/(B.take 3=mk3.take B.length/\((B.length<3/\o=.inl 5)\/(3≤B.length/\((∃i,Sc (B.drop 3) 0 (.inl i)/\o=.inl (cd4 i))\/∃bs,Sc (B.drop 3) 0 (.inr bs)/\((tot bs<nb+nc/\o=.inl 7)\/(nb+nc≤tot bs/\((nc=0/\o=.inr ([],0))\/(0<nc/\gL nb nc≤bs.length/\∃o',Rg B (ends 3 (bs.take (gF nb))) ((bs.take (gL nb nc)).drop (gF nb)) [] o'/\match o' with
   | .inl i=>o=.inl (cd2 i)
   | .inr S=>nb-gF nb*64+nc≤S.length/\o=.inr ((S.drop (nb-gF nb*64)).take nc,gL nb nc-gF nb))))))))):=by
  cases h with
  |mark h=>exact .inl ⟨h,rfl⟩
  |short h1 h2=>exact .inr ⟨h2,.inl ⟨h1,rfl⟩⟩
  |scan h1 h2 h3=>exact .inr ⟨h2,.inr ⟨h1,.inl ⟨_,h3,rfl⟩⟩⟩
  |range h1 h2 h3 h4=>exact .inr ⟨h2,.inr ⟨h1,.inr ⟨_,h3,.inl ⟨h4,rfl⟩⟩⟩⟩
  |none h1 h2 h3 h4 h5=>exact .inr ⟨h2,.inr ⟨h1,.inr ⟨_,h3,.inr ⟨h4,.inl ⟨h5,rfl⟩⟩⟩⟩⟩
  |bad h1 h2 h3 h4 h5 h6 h7=>exact .inr ⟨h2,.inr ⟨h1,.inr ⟨_,h3,.inr ⟨h4,.inr ⟨h5,h6,_,h7,rfl⟩⟩⟩⟩⟩
  |ok h1 h2 h3 h4 h5 h6 h7 h8=>exact .inr ⟨h2,.inr ⟨h1,.inr ⟨_,h3,.inr ⟨h4,.inr ⟨h5,h6,_,h8,h7,rfl⟩⟩⟩⟩⟩
 ·subst ho;exact .inl ⟨hmm,λ H2 s2=>k _ (s1.trans s2)⟩
 rcases h with⟨h3,ho⟩|⟨h3,h⟩
 ·subst ho;exact .inr (.inl ⟨h3,hm,λ H2 s2=>k _ (s1.trans s2)⟩)
 rcases h with⟨i,hsc,ho⟩|⟨bs,hsc,h⟩
 ·subst ho;refine .inr (.inr ⟨_,h3,hm,hsc,λ H2 s2=>?_⟩);have e:e4 cH cC cT cZ i=e9 cM cH cK cT cZ cC cR cG cB (cd4 i):=by
   match i with
   |0=>rfl
   |1=>rfl
   |2=>rfl
   |i+3=>rfl
  rw [e];exact k _ (s1.trans s2)
 refine .inr (.inr ⟨_,h3,hm,hsc,λ lb ts H2 nb2 s2 hlb hbl=>g _ _ ?_⟩);clear g;have s12:=s1.trans s2;have hl2:=s2 _ _ hl;have hbn:bs.length≤1000:=by
  have:=hsc.len rfl;rw [Ax] at this;omega
 clear hsc;refine am λ _ g=>⟨_,rfl,_,rfl,_,rfl,lb,ts,bs,3,nb,nc,rfl,hlb,hbl,hbn,λ hle H3 s3=>g _ _ ?_,λ EQ H3 s3=>?_⟩
 rotate_left
 ·rcases h with⟨_,ho⟩|⟨h,_⟩
  ·subst ho;exact k _ (s12.trans s3)
  ·omega
 clear g;have s13:=s12.trans s3;have hlb3:=s3 _ _ hlb;have hbl3:=hbl.same s3;have hl3:=s3 _ _ hl2;rcases h with⟨h,_⟩|⟨_,h⟩
 ·omega
 refine am λ _ g=>⟨_,rfl,rfl,_,rfl,bi (λ h0=>?_) (λ h0=>g _ _ ?_)⟩
 ·have h0:nc=0:=Ek (V.int.inj (Aq h0));rcases h with⟨_,ho⟩|⟨h,_⟩
  ·subst ho;exact⟨AZ _,λ le ne=>⟨zl2,λ t nt=>k t le _ (none_of (s13.trans (aj ne)) nt) (none_of s13 ne) ((s13.trans (aj ne)).trans (aj nt)) af (aj nt _ _ af)⟩⟩
  ·omega
 clear g;rcases h with⟨h,_⟩|⟨hc,hL,o',hrg,ho⟩
 ·exact absurd (by rw [h];rfl) h0
 clear h0;have e1:((nb:Nat):Int)/64/4*4=((gF nb:Nat):Int):=by show _=((nb/64/4*4:Nat):Int);omega
 have e2':(((nb:Nat):Int)+((nc:Nat):Int)-1)/64+1=((gL nb nc:Nat):Int):=by show _=(((nb+nc-1)/64+1:Nat):Int);omega
 have hFL:gF nb≤gL nb nc:=by show nb/64/4*4≤(nb+nc-1)/64+1;omega
 have hF64:gF nb*64≤nb:=by show nb/64/4*4*64≤nb;omega
 refine am λ _ g=>⟨_,rfl,_,_,rfl,rfl,⟨Z9,Z9⟩,_,_,rfl,rfl,⟨Z9,Z9⟩,_,_,rfl,rfl,.inr ⟨Z9,Z9⟩,g _ _ ?_⟩
 clear g
 try dsimp only
 rw [e1];refine am λ _ g=>⟨_,rfl,_,rfl,_,_,rfl,rfl,_,_,rfl,rfl,_,_,rfl,rfl,⟨Z9,Z9⟩,_,_,rfl,rfl,g _ _ ?_⟩
 clear g
 try dsimp only
 rw [e2'];generalize hgF:gF nb=fF at*;generalize hgL:gL nb nc=fL at*;have ec:cutV (ts.map V.ref) (some ((fF:Nat):Int)) (some ((fL:Nat):Int))=((ts.take fL).drop fF).map V.ref:=by
  rw [oS _ hFL (by rw [z7,hbl3.len.1];exact hL),<-BB,<-Bh,Cy]
 refine am λ _ g=>⟨_,rfl,_,rfl,_,rfl,_,rfl,_,rfl,_,rfl,lb,_,rfl,SqL.of hlb3,λ lc nc'=>?_⟩
 try dsimp only
 rw [ec];have s4:=aj (o:=.lst (((ts.take fL).drop fF).map V.ref)) nc';have s14:=s13.trans s4;have hlc:(upd H3 lc (.lst (((ts.take fL).drop fF).map V.ref))) lc=some (.lst (((ts.take fL).drop fF).map V.ref)):=af;generalize upd H3 lc (.lst (((ts.take fL).drop fF).map V.ref))=H4 at*;have hbl4:=((hbl3.same s4).take fL).drop fF;rw [Ed,AM hFL] at hbl4;refine⟨l,lc,B,_,_,_,o',rfl,s4 _ _ hl3,hb,h1000,hlc,hbl4,hrg,?_⟩
 match o',ho with
 | .inl i,ho=>
  subst ho;refine λ H5 s5=>?_
  have e:e2 cK cB i=e9 cM cH cK cT cZ cC cR cG cB (cd2 i):=by
   match i with
   |0=>rfl
   |i+1=>rfl
  rw [e];exact k _ (s14.trans s5)
 | .inr S,⟨hS,ho⟩=>
  subst ho;refine λ l' H5 n5 s5 h5=>g _ _ ?_
  have s15:=s14.trans s5;have e3:((nb:Nat):Int)-((fF:Nat):Int)*64=((nb-fF*64:Nat):Int):=by omega
  have e4':((nb-fF*64:Nat):Int)+((nc:Nat):Int)=((nb-fF*64+nc:Nat):Int):=by omega
  have e5:((fL:Nat):Int)-((fF:Nat):Int)=((fL-fF:Nat):Int):=by omega
  refine am λ _ g=>⟨_,rfl,_,rfl,_,_,rfl,rfl,.inr ⟨Z9,Z9⟩,_,_,rfl,rfl,g _ _ ?_⟩
  try dsimp only
  rw [e3];have ec2:cutV (S.map vN) (some ((nb-fF*64:Nat):Int)) (some ((nb-fF*64+nc:Nat):Int))=((S.drop (nb-fF*64)).take nc).map vN:=by
   rw [eW (Bz _ _) hS,Cy,Df]
  refine⟨_,rfl,_,rfl,_,rfl,_,rfl,_,rfl,_,_,rfl,rfl,_,rfl,l',_,rfl,SqL.of h5,λ l6 n6=>?_⟩
  try dsimp only
  try dsimp only at n6
  rw [e4',ec2];refine⟨_,rfl,_,rfl,_,_,rfl,rfl,zl2,λ t nt=>?_⟩
  try dsimp only
  rw [e5];have s6:=aj (o:=.lst (((S.drop (nb-fF*64)).take nc).map vN)) n6;exact k t l6 _ (none_of (s15.trans s6) nt) (none_of s15 n6) ((s15.trans s6).trans (aj nt)) af (aj nt _ _ af)
end
end K28.Ck
set_option maxHeartbeats 4000000
namespace K28.Ck
open PySem L2 QQ W17 W16 BP
variable {A D K L W r t:List Nat}{a b e j m n nb nc p u u' v w y y':Nat}{Ks:List (List Nat)}
theorem wq {B:List Nat}(hw:WP w p)(hb:∀b∈B,b<256):chk w p B=CK.F w p (8*B.length) (2^w-1) (BP.val B):=by
 unfold chk;rw [wz B.length B rfl hb,CK.G_F hw.facts.1]
theorem uu (hb:b<256)(he:e<8)(hD:∀x∈D,x<256):BP.val (A++(b^^^2^e)::D)=BP.val (A++b::D)^^^(1*2^(8*D.length+e)):=by
 have hd:BP.val D<2^(8*D.length):=by rw [<-gA];exact val_lt hD
 have h2:2^e<256:=Ap (DI (by decide) he) (by decide);have hx:b^^^2^e<2^8:=CD hb h2;have sp:∀c,c<2^8->BP.val (A++c::D)=((BP.val A*2^8)^^^c)*2^(8*D.length)^^^BP.val D:=λ c hc=>by
  rw [CK.mul_pow_xor _ _ _ hd,CK.mul_pow_xor _ _ _ hc,fo,dy,Az,Bu,gA,Ei,BW,BD (2^8),BA]
 rw [sp _ hx,sp _ hb,Nat.one_mul,Cs,BD (2^(8*D.length)),<-Br (BP.val A*2^8),<-CK.xor_mul_pow];rw [Br,Ex (2^e*_),<-Br]
theorem ip (hw:WP w p)(hA:∀x∈A,x<256)(hb:b<256)(he:e<8)(hD:∀x∈D,x<256):chk w p (A++(b^^^2^e)::D)≠chk w p (A++b::D):=by
 have h2:2^e<256:=Ap (DI (by decide) he) (by decide);have hx:b^^^2^e<256:=CD (n:=8) hb h2;have al:∀c,c<256->∀x∈A++c::D,x<256:=λ c hc x h=>by
  rcases Ar.mp h with z|z
  ·exact hA x z
  ·rcases Bc.mp z with z|z
   ·rw [z];exact hc
   ·exact hD x z
 obtain⟨w8,p1,p2⟩:8≤w/\p%2=1/\p<2^w:=by rcases hw with⟨rfl,rfl⟩|⟨rfl,rfl⟩<;>decide
 rw [wq hw (al _ hx),wq hw (al _ hb),<-CK.G_F w8,<-CK.G_F w8,uu hb he hD];have el:(A++(b^^^2^e)::D).length=(A++b::D).length:=by simp
 rw [el];intro h;have h0:=CK.G_xor w p (A++b::D).length (2^w-1) 0 (BP.val (A++b::D)) (1*2^(8*D.length+e));rw [Nat.xor_zero,h] at h0;have h1:CK.G w p (A++b::D).length 0 (1*2^(8*D.length+e))=0:=by
  have:=AB (CK.G w p (A++b::D).length (2^w-1) (BP.val (A++b::D))^^^·) h0;simp only [<-Br,Ey,Nat.zero_xor] at this;exact this.symm
 exact CK.burst (k:=1) w8 p1 p2 (by decide) (by decide) (AT (by decide) w8) (by simp;omega) h1
theorem jP:b^^^2^e≠b:=λ h=>by
 have:=AB (b^^^·) h;simp only [<-Br,Ey,Nat.zero_xor] at this;exact absurd this (Dv (BV (by decide)))
theorem di (R:List Nat):(sld R).length=R.length+2:=by simp [sld,two]
theorem iw (R:List Nat):(sld R).take ((sld R).length-2)=R:=by
 rw [di,Nat.add_sub_cancel];exact BZ rfl
theorem pb (h1:1≤b)(h2:b≤64)(hr:r.length=b+2):NhK (hrow a b++r) (some (a/64,a%64+1,b)):=.ok rfl (.ok rfl h1 h2) (by show r.length+3=b+5;omega)
theorem hI (a b:Nat)(R:List Nat):sld (hrow a b++R)=hrow a b++(R++two (chk 16 45 (hrow a b++R))):=by unfold sld;rw [Ab]
theorem vB (h:two m=two n):m=n:=by
 have e1:m/256=n/256:=(B7 h).1;have e2:m%256=n%256:=(B7 (B7 h).2).1;omega
theorem ug (hj:j<L.length):L.set j v=L.take j++v::L.drop (j+1):=by
 rw [Dg,AV hj]
theorem rX (hj:j<L.length):L=L.take j++L[j]::L.drop (j+1):=by
 rw [<-BH hj,A1]
theorem kZ {X:List Nat}(hall:∀x∈X,x<256)(he:e<8)(hj:j<(sld X).length):sld (((sld X).set j ((sld X)[j]^^^2^e)).take (((sld X).set j ((sld X)[j]^^^2^e)).length-2))≠(sld X).set j ((sld X)[j]^^^2^e):=by
 have hl:=di X;rw [CL,hl,Nat.add_sub_cancel];intro heq;rcases A4 j X.length with hj'|hj'
 ·have e0:(sld X)[j]=X[j]:=by unfold sld;exact List.getElem_append_left hj'
  have e1:(sld X).set j ((sld X)[j]^^^2^e)=X.set j (X[j]^^^2^e)++two (chk 16 45 X):=by
   rw [e0];unfold sld;rw [List.set_append_left _ _ hj']
  rw [e1,BZ (by rw [CL])] at heq;have h4:two (chk 16 45 (X.set j (X[j]^^^2^e)))=two (chk 16 45 X):=List.append_cancel_left heq;have h5:=vB h4;rw [ug hj'] at h5;have sp:=rX hj';refine ip eF (A:=X.take j) (D:=X.drop (j+1)) (b:=X[j]) (e:=e) (λ x h=>hall x (AG h)) (hall _ (CY hj')) he (λ x h=>hall x (A0 h)) ?_;rw [h5,<-sp]
 ·have e1:((sld X).set j ((sld X)[j]^^^2^e)).take X.length=X:=by
   rw [DV hj'];unfold sld;exact BZ rfl
  rw [e1] at heq;have h6:=AB (·[j]?) heq;simp only [List.getElem?_set,AV,hj,Af hj] at h6;exact jP (AY h6).symm
theorem jr (ha:a<256)(hb:b<256)(he:e<8)(hj:j<3):∃x y z,(hrow a b).set j ((hrow a b)[j]'hj^^^2^e)=[x,y,z]/\HdK x y z (.inr ()):=by
 have hd:∀{x y z:Nat},z≠chk 8 29 [x,y]->HdK x y z (.inr ()):=λ h=>.bad h
 rcases j with _|_|_|j
 ·exact⟨_,_,_,rfl,hd (λ z=>ip wp8 (A:=[]) (D:=[b]) (b:=a) (e:=e) (by simp) ha he (by simpa using hb) z.symm)⟩
 ·exact⟨_,_,_,rfl,hd (λ z=>ip wp8 (A:=[a]) (D:=[]) (b:=b) (e:=e) (by simpa using ha) hb he (by simp) z.symm)⟩
 ·exact⟨_,_,_,rfl,hd (λ z=>jP z)⟩
 ·omega
abbrev Blk:=Nat×List Nat×List Nat
def bk (x:Blk):List Nat:=sld (hrow (64*x.1+x.2.1.length-1) x.2.2.length++x.2.2)
def hdB (x:Blk):Bl:=(x.1,x.2.1.length,x.2.2.length)
def txtB (xs:List Blk):List Nat:=(xs.map λ x=>x.2.1).flatten
noncomputable def tl (n c:Nat):List Nat:=sld (hrow 0 0++four n++two c)
def win (xs:List Blk)(i:Nat):List Nat:=(txtB (xs.take i)).drop (256*(i/4))
structure Gx (x:Blk)(W:List Nat):Prop where
 u:x.1<4
 t1:1≤x.2.1.length
 t64:x.2.1.length≤64
 r1:1≤x.2.2.length
 r64:x.2.2.length≤64
 bt:∀b∈x.2.1,b<256
 br:∀b∈x.2.2,b<256
 tx:TxK x.2.2 W x.1 x.2.1.length (some x.2.1)
structure Gd (xs:List Blk):Prop where
 g:∀{i:Nat} {x:Blk},xs[i]?=some x->Gx x (win xs i)
 full:∀{i:Nat} {x:Blk},xs[i]?=some x->i+1<xs.length->x.2.1.length=64
theorem dt (h:Bl)(hs:List Bl):tot (h::hs)=h.2.1+tot hs:=rfl
theorem cS (hs gs:List Bl):tot (hs++gs)=tot hs+tot gs:=by simp [tot]
theorem txt_append (xs ys:List Blk):txtB (xs++ys)=txtB xs++txtB ys:=by simp [txtB]
theorem jR (xs:List Blk):(txtB xs).length=tot (xs.map hdB):=by
 unfold txtB tot;rw [List.length_flatten,Dw,Dw];rfl
theorem Gx.nh {x:Blk}(g:Gx x W):NhK (bk x) (some (hdB x)):=by
 have h:=pb (a:=64*x.1+x.2.1.length-1) (b:=x.2.2.length) (r:=x.2.2++two (chk 16 45 (hrow (64*x.1+x.2.1.length-1) x.2.2.length++x.2.2))) g.r1 g.r64 (by simp [two]);have h1:=g.t1;have h2:=g.t64;rw [show(64*x.1+x.2.1.length-1)/64=x.1 by omega,show(64*x.1+x.2.1.length-1)%64+1=x.2.1.length by omega,<-hI] at h;exact h
theorem Gx.bkk {x:Blk}(g:Gx x W):BkK (bk x) W x.1 x.2.1.length (.inr x.2.1):=by
 have e:(bk x).take ((bk x).length-2)=hrow (64*x.1+x.2.1.length-1) x.2.2.length++x.2.2:=iw _;refine .ok (by rw [e];rfl) ?_;rw [e];exact g.tx
theorem NhK.ln (h:NhK K (some (u,v,y))):K.length=y+5:=by
 cases h with
 |ok _ _ h=>exact h
inductive Bks:List (List Nat)->List Bl->Nat->Prop
 |nil {m:Nat}:Bks [] [] m
 |cons {K:List Nat} {Ks:List (List Nat)} {u v y:Nat} {hs:List Bl} {m:Nat}:NhK K (some (u,v,y))->m%64=0->Bks Ks hs (m+v)->Bks (K::Ks) ((u,v,y)::hs) m
theorem Bks.app {Ls:List (List Nat)}{hs gs:List Bl}(h:Bks Ks hs m)(g:Bks Ls gs (m+tot hs)):Bks (Ks++Ls) (hs++gs) m:=by
 induction h with
 |nil=>exact g
 |cons h1 h2 _ ih=>
  refine .cons h1 h2 (ih ?_);rw [dt,<-BA] at g;exact g
theorem Bks.take {hs:List Bl}(h:Bks Ks hs m):∀i,Bks (Ks.take i) (hs.take i) m:=by
 induction h with
 |nil=>intro i;rw [List.take_nil,List.take_nil];exact .nil
 |cons h1 h2 _ ih=>
  intro i;cases i with
  |zero=>exact .nil
  |succ i=>exact .cons h1 h2 (ih i)
theorem Bks.drop {hs:List Bl}(h:Bks Ks hs m):∀i,Bks (Ks.drop i) (hs.drop i) (m+tot (hs.take i)):=by
 induction h with
 |nil=>intro i;rw [List.drop_nil,List.drop_nil];exact .nil
 |cons h1 h2 h3 ih=>
  intro i;cases i with
  |zero=>exact .cons h1 h2 h3
  |succ i=>
   have:=ih i;rw [BA] at this;exact this
theorem Bks.at {hs:List Bl}{i:Nat}(h:Bks Ks hs m)(e:Ks[i]?=some K):∃u v y,hs[i]?=some (u,v,y)/\NhK K (some (u,v,y))/\(m+tot (hs.take i))%64=0:=by
 induction h generalizing i with
 |nil=>cases e
 |cons h1 h2 _ ih=>
  cases i with
  |zero=>cases e;exact⟨_,_,_,rfl,h1,h2⟩
  |succ i=>
   obtain⟨u,v,y,e1,e2,e3⟩:=ih (i:=i) e;refine⟨u,v,y,e1,e2,?_⟩;rw [BA] at e3;exact e3
theorem Bks.ends {hs:List Bl}(h:Bks Ks hs m)(p:Nat):ends p hs=p+Ks.flatten.length:=by
 induction h generalizing p with
 |nil=>rfl
 |cons h1 h2 _ ih=>
  show K28.Ck.ends _ _=_;rw [K28.Ck.ends,ih,A3,z0,h1.ln];omega
theorem Bks.set {hs:List Bl}{K':List Nat}(h:Bks Ks hs m)(e:hs[j]?=some (u,v,y))(h':NhK K' (some (u',v,y'))):Bks (Ks.set j K') (hs.set j (u',v,y')) m:=by
 induction h generalizing j with
 |nil=>cases e
 |cons h1 h2 h3 ih=>
  cases j with
  |zero=>cases e;exact .cons h' h2 h3
  |succ j=>exact .cons h1 h2 (ih (j:=j) e)
theorem uZ {hs:List Bl}(e:hs[j]?=some (u,v,y)):tot (hs.set j (u',v,y'))=tot hs:=by
 induction hs generalizing j with
 |nil=>cases e
 |cons h hs ih=>
  cases j with
  |zero=>cases e;rfl
  |succ j=>rw [List.set_cons_succ,dt,dt,ih (j:=j) e]
theorem yr (h:NhK K (some (u,v,y)))(hm:m%64=0):Pt (K++r) m (.inr (some (u,v,y))):=by
 cases h with
 |ok e hd hl=>
  refine .blk (r':=_++r) (by rw [e];rfl) hd hm ?_;rw [z0,hl];exact Bz _ _
theorem xQ {o:Nat ⊕ List Bl}(h:Pt r m (.inr (some (u,v,y))))(g:Sc (r.drop (y+5)) (m+v) o):Sc r m (pre [(u,v,y)] o):=by
 cases o with
 |inl i=>exact .blkE h g
 |inr bs=>exact .blk h g
theorem Bks.sc {hs:List Bl}{o:Nat ⊕ List Bl}(h:Bks Ks hs m)(g:Sc r (m+tot hs) o):Sc (Ks.flatten++r) m (pre hs o):=by
 induction h with
 |nil=>cases o<;>exact g
 |cons h1 h2 _ ih=>
  rename_i K Ks u v y hs m h3
  rw [A3,Ab,show pre ((u,v,y)::hs) o=pre [(u,v,y)] (pre hs o) from(pM [(u,v,y)] hs o).symm];refine xQ (yr h1 h2) ?_;rw [DU h1.ln];refine ih ?_;rw [dt,<-BA] at g;exact g
theorem a9 (n c:Nat):(tl n c).length=11:=by unfold tl;rw [di];rfl
theorem wx (n c:Nat):tl n c=0::0::chk 8 29 [0,0]::(four n++two c++two (chk 16 45 (hrow 0 0++four n++two c))):=by
 unfold tl sld;rw [Ab (hrow 0 0),Ab (hrow 0 0)];rfl
theorem tl_ok {c:Nat}:dq (tl n c) m<->four n=four m:=by
 have e:((tl n c).take 7).drop 3=four n:=by rw [wx];rfl
 have e2:sld ((tl n c).take ((tl n c).length-2))=tl n c:=by unfold tl;rw [iw]
 constructor
 ·exact λ h=>e.symm.trans h.1
 ·exact λ h=>⟨e.trans h,e2⟩
theorem fJ (hn:n<4294967296)(hm:m<4294967296)(h:four n=four m):n=m:=by
 have h0:n/65536%65536/256=m/65536%65536/256:=(B7 h).1;have h:=(B7 h).2;have h1:n/65536%65536%256=m/65536%65536%256:=(B7 h).1;have h:=(B7 h).2;have h2:n%65536/256=m%65536/256:=(B7 h).1;have h:=(B7 h).2;have h3:n%65536%256=m%65536%256:=(B7 h).1;omega
theorem kA (h:t.length=11)(h3:t.take 3=hrow 0 0):Pt (t++r) m (.inr none):=by
 have e:t=hrow 0 0++t.drop 3:=by rw [<-h3,A1]
 refine .tail (r':=t.drop 3++r) (by rw [e,Ab];rfl) (.tail rfl rfl rfl) ?_;rw [z0,h];exact Bz _ _
theorem kP (n c:Nat):(tl n c).take 3=hrow 0 0:=by rw [wx];rfl
section
variable {Ks:List (List Nat)}{hs:List Bl}(h:Bks Ks hs 0)
include h
theorem de (hl:t.length=11)(h3:t.take 3=hrow 0 0)(hn:¬dq t (tot hs)):Sc (Ks.flatten++(t++r)) 0 (.inl 2):=
 h.sc (o:=.inl 2) (.tail (kA hl h3) (by rw [BZ hl,BK];exact hn))
theorem qF {c:Nat}:Sc (Ks.flatten++(tl (tot hs) c++[b])) 0 (.inl 3):=
 h.sc (o:=.inl 3) (.behind (kA (a9 _ _) (kP _ _)) (by rw [BZ (a9 _ _),BK];exact tl_ok.mpr rfl) (by rw [z0,a9];show 11<12;decide))
theorem jQ {c:Nat}:Sc (Ks.flatten++tl (tot hs) c) 0 (.inr hs):=by
 have g:=h.sc (o:=.inr []) (r:=tl (tot hs) c) (.fin (by rw [<-AQ (tl _ _)];exact kA (a9 _ _) (kP _ _)) (by rw [AA (CJ (a9 _ _)),BK];exact tl_ok.mpr rfl) (a9 _ _));rw [show pre hs (.inr [])=.inr hs from AB Sum.inr (AQ hs)] at g;exact g
theorem uG {k:Nat}(hl:t.length=11)(h3:t.take 3=hrow 0 0)(hk:k<11):Sc (Ks.flatten++t.take k) 0 (.inl 1):=by
 refine h.sc (o:=.inl 1) (.part ?_);rcases A4 k 3 with q|q
 ·exact .short (by rw [Aj];omega)
 ·have e:t=hrow 0 0++t.drop 3:=by rw [<-h3,A1]
  refine .cutT (r':=(t.drop 3).take (k-3)) ?_ (.tail rfl rfl rfl) (by rw [Aj];omega);rw [e,List.take_append,AA (by show 3≤k;exact q)];rfl
theorem oZ {c:Nat}(hd:HdK a b c (.inr ())):Sc (Ks.flatten++a::b::c::r) 0 (.inl 0):=h.sc (o:=.inl 0) (.part (.bad rfl hd))
theorem yt {x:Bl}(hK:NhK K (some x))(hm:tot hs%64≠0):Sc (Ks.flatten++(K++r)) 0 (.inl 0):=by
 refine h.sc (o:=.inl 0) (.part ?_);cases hK with
 |ok e hd hl=>exact .odd (by rw [e];rfl) hd (by rw [BK];exact hm)
theorem vS {x:Bl}{k:Nat}(hK:NhK K (some x))(hm:tot hs%64=0)(hk:k<K.length):Sc (Ks.flatten++K.take k) 0 (.inl 1):=by
 refine h.sc (o:=.inl 1) (.part ?_);rcases A4 k 3 with q|q
 ·exact .short (by rw [Aj];omega)
 ·cases hK with
  |ok e hd hl=>
   rename_i a b c u v y r
   subst e;refine .cutB (r':=r.take (k-3)) ?_ hd (by rw [BK];exact hm) (by rw [Aj];omega)
   match k,q with
   |k+3,_=>rfl
end
theorem rz:∀{ys:List Blk} {m:Nat},m%64=0->(∀{i:Nat} {x:Blk},ys[i]?=some x->(∃W,Gx x W)/\(i+1<ys.length->x.2.1.length=64))->Bks (ys.map bk) (ys.map hdB) m
 | [],_,_,_=>.nil
 |x::ys,m,hm,h=>by
  obtain⟨⟨W,g⟩,h64⟩:=h (i:=0) rfl;refine .cons g.nh hm ?_;cases ys with
  |nil=>exact .nil
  |cons y ys=>
   refine rz ?_ λ {i z} e=>?_
   ·rw [h64 (by simp)];omega
   ·obtain⟨h1,h2⟩:=h (i:=i+1) e;exact⟨h1,λ q=>h2 (by rw [Az];omega)⟩
theorem Gd.bks {xs:List Blk}(g:Gd xs):Bks (xs.map bk) (xs.map hdB) 0:=rz rfl λ e=>⟨⟨_,g.g e⟩,g.full e⟩
theorem Gd.len {xs:List Blk}(g:Gd xs):∀{i:Nat},i<xs.length->(txtB (xs.take i)).length=64*i
 |0,_=>rfl
 |i+1,h=>by
  have hi:i<xs.length:=by omega
  have e:=Af hi;rw [A9,e,txt_append,z0,Gd.len g hi];have h64:=g.full e h;show _+(txtB [xs[i]]).length=_;have e2:txtB [xs[i]]=xs[i].2.1:=by simp [txtB]
  rw [e2,h64];omega
theorem Gd.snoc {xs:List Blk}{x:Blk}(g:Gd xs)(hf:∀y∈xs,y.2.1.length=64)(hx:Gx x ((txtB xs).drop (256*(xs.length/4)))):Gd (xs++[x]):=by
 refine⟨λ {i y} e=>?_,λ {i y} e h=>?_⟩
 ·rcases A4 i xs.length with q|q
  ·rw [BX q] at e;have:=g.g e;unfold win at this ⊢;rw [B5 (B8 q)];exact this
  ·have hi:i=xs.length:=by
    rcases A4 xs.length i with q2|q2
    ·rw [BY (by rw [z0];show xs.length+1≤i;omega)] at e;cases e
    ·omega
   subst hi;rw [CQ (Al _),D9] at e;cases e;unfold win;rw [List.take_left];exact hx
 ·rw [z0,CI] at h;rw [BX (by omega)] at e;exact hf y (BC e)
theorem Gd.nil:Gd []:=⟨λ e=>by simp at e,λ e=>by simp at e⟩
theorem Gd.byt {xs:List Blk}(g:Gd xs):∀b∈txtB xs,b<256:=λ b hb=>by
 obtain⟨T,hT,hb⟩:=Cv.mp hb;obtain⟨x,hx,rfl⟩:=C6.mp hT;obtain⟨i,hi,e⟩:=Ca hx;exact(g.g (i:=i) (x:=x) (by rw [Af hi,e])).bt b hb
theorem iM {xs:List Blk}(g:Gd xs){i f:Nat}(hf:f≤i)(hi:i<xs.length):txtB ((xs.take i).drop f)=(txtB (xs.take i)).drop (64*f):=by
 have e:txtB (xs.take i)=txtB (xs.take f)++txtB ((xs.take i).drop f):=by
  rw [<-txt_append];congr 1;have:=(A1 f (xs.take i)).symm;rw [Ed,AM hf] at this;exact this
 rw [e,DU (g.len (by omega))]
section
variable {Ks:List (List Nat)}{hs:List Bl}{Cx' B:List Nat}(h:Bks Ks hs 0)(hB:B = mk3 ++ (Ks.flatten ++ Cx'))
include h hB
theorem uv {i:Nat}(e:Ks[i]?=some K)(e':hs[i]?=some (u,v,y)):ends 3 (hs.take i)+(y+5)≤B.length/\(B.drop (ends 3 (hs.take i))).take (y+5)=K/\NhK K (some (u,v,y)):=by
 obtain⟨u',v',y',e1,e2,_⟩:=h.at e;rw [e'] at e1;cases e1;have hE:ends 3 (hs.take i)=3+(Ks.take i).flatten.length:=(h.take i).ends 3;obtain⟨hi,eK⟩:=Ak.mp e;have sp:Ks.flatten=(Ks.take i).flatten++(K++(Ks.drop (i+1)).flatten):=by
  rw [<-eK,<-A3,<-BH hi,<-Bv,A1]
 have eD:B.drop (ends 3 (hs.take i))=K++((Ks.drop (i+1)).flatten++Cx'):=by
  rw [hE,hB,Ep,BF (by show 3≤_;omega),DT,show 3+(Ks.take i).flatten.length-mk3.length=(Ks.take i).flatten.length from Df 3 _,sp,Ab,List.drop_left,Ab]
 refine⟨?_,by rw [eD,BZ e2.ln],e2⟩;have:=AB List.length eD;rw [Ax,z0,e2.ln] at this;omega
variable {xs:List Blk}(g:Gd xs)(h9:xs.length ≤ 9){f:Nat}(hf:f % 4 = 0)
include g h9 hf
theorem sW {i:Nat}(hfi:f≤i)(hi:i<xs.length):(txtB ((xs.take i).drop f)).length=64*(i-f)/\(txtB ((xs.take i).drop f)).length%256≤192/\(txtB ((xs.take i).drop f)).drop ((txtB ((xs.take i).drop f)).length-(txtB ((xs.take i).drop f)).length%256)=win xs i:=by
 have hl:(txtB ((xs.take i).drop f)).length=64*(i-f):=by rw [iM g hfi hi,Ax,g.len hi];omega
 refine⟨hl,by rw [hl];omega,?_⟩;rw [hl,iM g hfi hi,List.drop_drop];unfold win;congr 1;omega
theorem rL {l:Nat}{o:Nat ⊕ List Nat}(hl:l≤xs.length)(hj:j≤l)(hK:∀{i:Nat} {x:Blk},xs[i]?=some x->f≤i->i<j->Ks[i]?=some (bk x)/\hs[i]?=some (hdB x))(fin:Rg B (ends 3 (hs.take j)) ((hs.take l).drop j) (txtB ((xs.take j).drop f)) o):
  ∀{n i:Nat},n=j-i->f≤i->i≤j->Rg B (ends 3 (hs.take i)) ((hs.take l).drop i) (txtB ((xs.take i).drop f)) o
 |0,i,hn,hfi,hij=>by
  have:i=j:=by omega
  subst this;exact fin
 |n+1,i,hn,hfi,hij=>by
  have hix:i<xs.length:=by omega
  have ex:=Af hix;have gx:=g.g ex;obtain⟨k1,k2⟩:=hK ex hfi (by omega);obtain⟨a1,a2,a3⟩:=uv h hB k1 k2;obtain⟨w1,w2,w3⟩:=sW h hB g h9 hf hfi hix;have ih:=rL hl hj hK fin (n:=n) (i:=i+1) (by omega) (by omega) (by omega);have il:i<(hs.take l).length:=by
   obtain⟨q,_⟩:=Ak.mp k2;rw [Aj];omega
  have ed:(hs.take l).drop i=hdB xs[i]::(hs.take l).drop (i+1):=by
   rw [BH il];congr 1;have:(hs.take l)[i]?=some (hdB xs[i]):=by rw [B1 (by omega)];exact k2
   rw [Af il] at this;exact AY this
  have ee:ends 3 (hs.take (i+1))=ends 3 (hs.take i)+(xs[i].2.2.length+5):=by rw [A9,k2];exact eP
  have et:txtB ((xs.take (i+1)).drop f)=txtB ((xs.take i).drop f)++xs[i].2.1:=by
   rw [A9,ex,DC (by rw [Aj];omega),txt_append];congr 1;simp [txtB]
  rw [ee,et] at ih;rw [ed];refine .ok a1 (by rw [a2];exact a3) w2 ?_ gx.bt ?_ ih
  ·rw [a2,w3];exact gx.bkk
  ·rw [w1];have:=gx.t64;omega
end
theorem eU (r:List Nat):(mk3++r).take 3=mk3.take (mk3++r).length/\3≤(mk3++r).length/\(mk3++r).drop 3=r:=by
 refine⟨?_,by rw [z0];exact Bz _ _,rfl⟩;rw [AA (l:=mk3) (by rw [z0];exact Bz _ _)];rfl
theorem bZ {i:Nat}(h:Sc r 0 (.inl i)):TrK (mk3++r) nb nc (.inl (cd4 i)):=
 .scan (eU r).2.1 (eU r).1 h
theorem rO {bs:List Bl}(h:Sc r 0 (.inr bs))(hn:tot bs<nb+nc):TrK (mk3++r) nb nc (.inl 7):=
 .range (eU r).2.1 (eU r).1 h hn
theorem nr {xs:List Blk}(g:Gd xs):(txtB xs).length≤64*xs.length:=by
 rw [jR];have:∀ys:List Blk,(∀x∈ys,x.2.1.length≤64)->tot (ys.map hdB)≤64*ys.length:=λ ys=>by
  induction ys with
  |nil=>intro _;exact Al _
  |cons y ys ih=>
   intro h;have h1:=h y A6;have h2:=ih λ x hx=>h x (AC _ hx)
   rw [AJ,dt,Az];show y.2.1.length+_≤_;omega
 refine this xs λ x hx=>?_
 obtain⟨i,hi,e⟩:=Ca hx;exact(g.g (i:=i) (x:=x) (by rw [Af hi,e])).t64
structure Rr (xs:List Blk)(nb nc:Nat):Prop where
 g:Gd xs
 h9:xs.length≤9
 le:nb+nc≤(txtB xs).length
theorem Rr.gl {xs:List Blk}(h:Rr xs nb nc)(hc:0<nc):gL nb nc≤xs.length/\gF nb≤gL nb nc/\gF nb<xs.length:=by
 have h1:=nr h.g;have h2:=h.le;refine⟨?_,?_,?_⟩
 ·show(nb+nc-1)/64+1≤_;omega
 ·show nb/64/4*4≤(nb+nc-1)/64+1;omega
 ·show nb/64/4*4<_;omega
def due (xs:List Blk)(nb nc:Nat):List Nat×Nat:=(((txtB xs).drop nb).take nc,if nc=0 then 0 else gL nb nc-gF nb)
section
variable {Ks:List (List Nat)}{hs:List Bl}{c:Nat}{xs:List Blk}{nb nc:Nat}(h:Bks Ks hs 0)(R:Rr xs nb nc)(ht:tot hs = (txtB xs).length)(hl:hs.length = xs.length)
include h R ht hl
theorem jW (hK:∀{i:Nat} {x:Blk},xs[i]?=some x->0<nc->gF nb≤i->i<gL nb nc->Ks[i]?=some (bk x)/\hs[i]?=some (hdB x)):TrK (mk3++(Ks.flatten++tl (tot hs) c)) nb nc (.inr (due xs nb nc)):=by
 obtain⟨m1,m2,m3⟩:=eU (Ks.flatten++tl (tot hs) c);have hsc:=jQ h (c:=c);have hle:nb+nc≤tot hs:=by rw [ht];exact R.le
 rcases Nat.eq_zero_or_pos nc with h0|h0
 ·subst h0;have:=TrK.none (nb:=nb) m2 m1 hsc hle rfl;unfold due;rw [AV rfl,EB];exact this
 ·obtain⟨g1,g2,g3⟩:=R.gl h0;have hf4:gF nb%4=0:=by show nb/64/4*4%4=0;omega
  have hF64:gF nb*64≤nb:=by show nb/64/4*4*64≤nb;omega
  have hrd:=rL h (rfl:mk3++(Ks.flatten++tl (tot hs) c)=_) R.g R.h9 hf4 (j:=gL nb nc) (l:=gL nb nc) (o:=.inr (txtB ((xs.take (gL nb nc)).drop (gF nb)))) g1 (Al _) (λ e h1 h2=>hK e h0 h1 h2)
   (by
    have e:(hs.take (gL nb nc)).drop (gL nb nc)=[]:=BF (by rw [Aj];exact De _ _);rw [e];exact .nil) (n:=gL nb nc-gF nb) (i:=gF nb) rfl (Al _) g2
  have e0:txtB ((xs.take (gF nb)).drop (gF nb))=[]:=by
   have e:(xs.take (gF nb)).drop (gF nb)=[]:=BF (by rw [Aj];exact De _ _);rw [e];rfl
  rw [e0] at hrd;have sp:txtB xs=txtB (xs.take (gF nb))++(txtB ((xs.take (gL nb nc)).drop (gF nb))++txtB (xs.drop (gL nb nc))):=by
   rw [<-txt_append,<-txt_append];congr 1;have q1:=A1 (gF nb) (xs.take (gL nb nc));rw [Ed,AM g2] at q1;rw [<-Ab,q1,A1]
  have lF:(txtB (xs.take (gF nb))).length=64*gF nb:=R.g.len g3;have lS:nb-gF nb*64+nc≤(txtB ((xs.take (gL nb nc)).drop (gF nb))).length:=by
   have lt:=AB List.length sp;rw [z0,z0,lF] at lt;have hle:=R.le;rcases A4 (gL nb nc) xs.length with q|q
   ·have l1:=R.g.len q;have l2:=iM R.g g2 q;rw [l2,Ax,l1];have:nb+nc≤64*gL nb nc:=by show nb+nc≤64*((nb+nc-1)/64+1);omega
    omega
   ·have e2:txtB (xs.drop (gL nb nc))=[]:=by rw [BF q];rfl
    rw [e2,Da] at lt;omega
  have:=TrK.ok (nb:=nb) (nc:=nc) m2 m1 hsc hle h0 (by rw [hl];exact g1) lS hrd;have ed:((txtB ((xs.take (gL nb nc)).drop (gF nb))).drop (nb-gF nb*64)).take nc=((txtB xs).drop nb).take nc:=by
   have e3:(txtB xs).drop nb=(txtB ((xs.take (gL nb nc)).drop (gF nb))).drop (nb-gF nb*64)++txtB (xs.drop (gL nb nc)):=by
    rw [sp,Ep,BF (by rw [lF];omega),DT,lF,DC (by rw [show nb-64*gF nb=nb-gF nb*64 by omega];omega),show nb-64*gF nb=nb-gF nb*64 by omega]
   rw [e3,B5 (by rw [Ax];omega)]
  unfold due;rw [AO (Dv h0),<-ed];exact this
theorem kJ (h0:0<nc)(hj1:gF nb≤j)(hj2:j<gL nb nc)(hK:∀{i:Nat} {x:Blk},xs[i]?=some x->gF nb≤i->i<j->Ks[i]?=some (bk x)/\hs[i]?=some (hdB x))(eK:Ks[j]?=some K)(eh:hs[j]?=some (u,v,y))(hb:BkK K (win xs j) u v (.inl e)):TrK (mk3++(Ks.flatten++tl (tot hs) c)) nb nc (.inl (cd2 e)):=by
 obtain⟨m1,m2,m3⟩:=eU (Ks.flatten++tl (tot hs) c);have hsc:=jQ h (c:=c);have hle:nb+nc≤tot hs:=by rw [ht];exact R.le
 obtain⟨g1,g2,g3⟩:=R.gl h0;have hf4:gF nb%4=0:=by show nb/64/4*4%4=0;omega
 obtain⟨a1,a2,a3⟩:=uv h (rfl:mk3++(Ks.flatten++tl (tot hs) c)=_) eK eh;obtain⟨w1,w2,w3⟩:=sW h (rfl:mk3++(Ks.flatten++tl (tot hs) c)=_) R.g R.h9 hf4 hj1 (by omega);have il:j<(hs.take (gL nb nc)).length:=by rw [Aj,hl];omega
 have ed:(hs.take (gL nb nc)).drop j=(u,v,y)::(hs.take (gL nb nc)).drop (j+1):=by
  rw [BH il];congr 1;have:(hs.take (gL nb nc))[j]?=some (u,v,y):=by rw [B1 (by omega)];exact eh
  rw [Af il] at this;exact AY this
 have hrd:=rL h (rfl:mk3++(Ks.flatten++tl (tot hs) c)=_) R.g R.h9 hf4 (j:=j) (l:=gL nb nc) (o:=.inl e) g1 (by omega) hK
  (by
   rw [ed];refine .err a1 (by rw [a2];exact a3) w2 ?_;rw [a2,w3];exact hb) (n:=j-gF nb) (i:=gF nb) rfl (Al _) hj1
 have e0:txtB ((xs.take (gF nb)).drop (gF nb))=[]:=by
  have e:(xs.take (gF nb)).drop (gF nb)=[]:=BF (by rw [Aj];exact De _ _);rw [e];rfl
 rw [e0] at hrd;exact .bad m2 m1 hsc hle h0 (by rw [hl];exact g1) hrd
end
end K28.Ck
set_option maxHeartbeats 4000000
namespace L2
open PySem PySem.Spec PyProof.Rows QQ
theorem ji:∀{ys:List Str} {us:List ED},Vals (ys.map V.str) us->∃l:List (Str×Tok),us=strValues l/\l.map (·.1)=ys
 | [],us,r=>by
  cases r;exact⟨[],rfl,rfl⟩
 |y::ys,us,r=>by
  obtain⟨u,us',rfl,ru,r'⟩:∃u us',us=u::us'/\RelV (V.str y) u/\Vals (ys.map V.str) us':=by
   cases r with
   |cons a b=>exact⟨_,_,rfl,a,b⟩
  obtain⟨t,rfl⟩:=ru;obtain⟨l,rfl,e⟩:=ji r';exact⟨(y,t)::l,rfl,by simp [e]⟩
section
variable {X:Cx}
def yT:V->List V->Hp->VK->Prop:=λ x vs H Q=>∃(sep:Str) (l:EC) (ys:List Str),x=.str sep/\vs=[.ref l]/\H l=some (.lst (ys.map V.str))/\JoinOk sep ys=true/\Q (.str (Txt.join sep ys)) H
theorem kb:MtR X "str.join" yT:=by
 intro EN s σ H x vs v us Q I rx rv h;obtain⟨sep,l,ys,rfl,rfl,hH,ok,q⟩:=h;obtain⟨t,rfl⟩:=rx;obtain⟨u,rfl,ru⟩:=eu rv;cases ru;obtain⟨z,its,n,r,hl,e⟩:=I.lstM hH;obtain⟨l2,rfl,e2⟩:=ji r;refine SC.join (D:=l) (l:=l2) ⟨_,e,rfl,_,rfl⟩ e2 ok λ t' k=>?_
 exact⟨.str (Txt.join sep ys),H,I.tok _,⟨_,rfl⟩,q⟩
end
end L2
set_option maxHeartbeats 4000000
namespace K28.Ck
open PySem L2 QQ W17 W16 BP
seal PE PA PS PSs PT PW PG PI
variable {f:EC}{fd:EH}{x:Str}
abbrev kE:EM:=top 131
abbrev mF:EM:=top 132
abbrev oq:EM:=top 133
abbrev iX:EM:=top 134
abbrev kI:EM:=top 135
abbrev tT:EM:=top 136
abbrev g8:EM:=top 137
abbrev nN:EM:=top 138
abbrev rh:EM:=top 139
abbrev kH:EM:=top 140
abbrev mJ:EM:=top 141
abbrev tf:EM:=top 142
theorem pS:(Str.ofString "":Str)=txt []:=by decide+kernel
theorem uk:(Str.ofString "1":Str)=txt [true]:=by decide+kernel
theorem sV:(Str.ofString "0":Str)=txt [false]:=by decide+kernel
theorem xk (b:Bool):decide (V.str (txt [b])=V.str (Str.ofString "1"))=b:=by
 rw [uk];cases b with
 |true=>exact Ai rfl
 |false=>exact AL λ e=>absurd (txt_inj.mp (V.str.inj e)) (by decide)
theorem wY (k:Nat)(hk:k≤7):MulOk (txt [false]) (k:Int):=by
 match k,hk with
 |0,_=>exact⟨by decide,λ h=>absurd (by decide) h,λ h=>absurd (by decide) h⟩
 |1,_=>exact⟨by decide,λ _ h=>absurd h (by decide),λ _ h=>absurd h (by decide)⟩
 |2,_=>exact⟨by decide,λ _ _=>by decide,λ _ _=>by decide⟩
 |3,_=>exact⟨by decide,λ _ _=>by decide,λ _ _=>by decide⟩
 |4,_=>exact⟨by decide,λ _ _=>by decide,λ _ _=>by decide⟩
 |5,_=>exact⟨by decide,λ _ _=>by decide,λ _ _=>by decide⟩
 |6,_=>exact⟨by decide,λ _ _=>by decide,λ _ _=>by decide⟩
 |7,_=>exact⟨by decide,λ _ _=>by decide,λ _ _=>by decide⟩
theorem oX (k:Nat)(hk:k≤7):Txt.mul (txt [false]) (k:Int)=txt (List.replicate k false):=by
 match k,hk with
 |0,_=>decide+kernel
 |1,_=>decide+kernel
 |2,_=>decide+kernel
 |3,_=>decide+kernel
 |4,_=>decide+kernel
 |5,_=>decide+kernel
 |6,_=>decide+kernel
 |7,_=>decide+kernel
theorem bh {n:Nat}(h:n≤2000):n≤sizeLine:=AT h (by decide)
theorem xt (m:Nat)(h:m≤1000):Builtin.Range.small 0 ((8*m:Nat):Int) 8=true/\Builtin.Range.rangeSize 0 ((8*m:Nat):Int) 8=(m:Int):=by
 have e:Builtin.Range.rangeSize 0 ((8*m:Nat):Int) 8=(m:Int):=by
  unfold Builtin.Range.rangeSize;rw [AV (by decide)]
  split<;>omega
 refine⟨?_,e⟩;have f:∀i:Int,0≤i->i<100000->Builtin.Range.rangeFitsLong i=true:=λ i h0 h1=>by
  unfold Builtin.Range.rangeFitsLong;rw [Ai (by omega),Ai (by omega)];rfl
 unfold Builtin.Range.small;rw [e]
 try dsimp only
 rw [f 0 (by decide) (by decide),f ((8*m:Nat):Int) (by omega) (by omega),f 8 (by decide) (by decide),f (m:Int) (by omega) (by omega),AV (by decide),f (((8*m:Nat):Int)+(8-1)) (by omega) (by omega)];simp
theorem qk (B:List Bool):Txt.join (Str.ofString "") (B.map λ b=>txt [b])=txt B:=by
 have e0:(Str.ofString "")=⟨#[]⟩:=by decide+kernel
 show Builtin.Str.glued _ _=_;rw [StrLaws.glued_eq_join,e0];have key:∀(B:List Bool) (b:Bool),Str.join ⟨#[]⟩ ((b::B).map λ b=>txt [b])=txt (b::B):=by
  intro B
  induction B with
  |nil=>intro b;rfl
  |cons a B ih=>
   intro b;show txt [b]++⟨#[]⟩++Str.join ⟨#[]⟩ ((a::B).map λ b=>txt [b])=_;rw [ih a];have e:txt [b]++(⟨#[]⟩:Str)=txt [b]:=Str.append_right_empty rfl;rw [e,L2.txt_append];rfl
 cases B with
 |nil=>rfl
 |cons b B=>exact key B b
theorem tW (B:List Bool):((B.map λ b=>txt [b]).map (·.length)).sum=B.length:=by
 induction B with
 |nil=>rfl
 |cons b B ih=>
  have e:(txt [b]).length=1:=aE [b];rw [AJ,AJ,DL,ih,e,Az];omega
theorem vO {B:List Bool}(h:B.length≤1000):JoinOk (Str.ofString "") (B.map λ b=>txt [b])=true:=by
 refine DD ?_ (by decide+kernel);rw [tW,z7];omega
theorem vi (c k:Nat):(Str.ofString (toString (Builtin.bitAnd (((c/2^k:Nat):Int)) 1)))=txt [decide (c/2^k%2=1)]:=by
 have e:=cW (c/2^k) 1;have e1:((2^1-1:Nat):Int)=1:=by decide
 rw [e1] at e;rw [e,Nat.pow_one];have h2:=AK (c/2^k) (show 0<2 by decide);by_cases h:c/2^k%2=1
 ·rw [h];decide+kernel
 ·rw [show c/2^k%2=0 by omega];decide+kernel
theorem uN (c k:Nat):(Builtin.bitAnd (((c/2^k:Nat):Int)) 1).natAbs.log2<1920:=by
 have e:=cW (c/2^k) 1;have e1:((2^1-1:Nat):Int)=1:=by decide
 rw [e1] at e;rw [e,Nat.pow_one];have h2:=AK (c/2^k) (show 0<2 by decide);by_cases h:c/2^k%2=1
 ·rw [h];decide+kernel
 ·rw [show c/2^k%2=0 by omega];decide+kernel
theorem rY (n:Nat):∀{s k:Nat},k<s->(dig n s)[k]?=some (decide (n/2^(s-1-k)%2=1))
 |s+1,0,_=>rfl
 |s+1,k+1,h=>by
  show(dig n s)[k]?=_;rw [rY n (by omega),show s+1-1-(k+1)=s-1-k by omega]
theorem zf:(["_law_k","_law_number","_law_size"]:List Str).Nodup:=Z8
section
def wX (K:Frag):Sp:=λ vs H Q _=>∃(a:EC) (ns:List Int) (k:Nat),vs=[.ref a,vN k]/\SqL K H a (ns.map V.int)/\Q (.int (ns.getD k 0)) H
theorem xw:FnScope ["_law_script","_law_k"] ["_law_script","_law_k"] (ak kE):=⟨rfl,rfl,rfl,Z8,rfl,Z8,Z8⟩
theorem oQ (F:Fn K mg "_law_cell_at" kE ["_law_script","_law_k"] f fd)(X:K28.Txt K mg):FnOk P w K mg base CX0 1 f fd ["_law_script","_law_k"] (wX K):=by
 refine F.F.ok xw λ EO A outer st H vs Q E hr h=>?_
 intro _;obtain⟨a,ns,k,rfl,hS,q⟩:=h;refine⟨_,ad (aK (ax fh (pv 1) (aw aq Z7 X.len As (aa (pv 0) ac)) (az _)) (ah (ar (ba bd (pv 0) (pv 1) (λ _ _=>rfl)))) ay)
  (ah (ar ae)),?_⟩
 refine⟨_,rfl,_,rfl,a,_,rfl,.inl hS,_,_,rfl,rfl,_,rfl,?_⟩;refine bi (λ h1=>?_) (λ h1=>?_)
 ·have h2:k<ns.length:=by have:=Aq h1;rw [z7] at this;omega
  refine⟨_,rfl,_,rfl,a,_,_,V.int (ns.getD k 0),rfl,rfl,hS,aT ?_,q⟩;rw [Au,Af h2,A7,Af h2];rfl
 ·have h1':decide ((k:Int)<((ns.map V.int).length:Int))≠true:=h1;have h2:ns.length≤k:=by
   rw [z7] at h1';by_cases h:(k:Int)<(ns.length:Int)
   ·exact absurd (Ai h) h1'
   ·omega
  try dsimp only
  rw [A7,BY h2] at q;exact q
noncomputable def mixI (c k:Int):Int:=((c+7919*k*k+104729*k)*48271%2147483647*69621)%2147483629
def mixN (c k:Int):Nat:=(mixI c k).toNat
theorem vV (c k:Int):((mixN c k:Nat):Int)=mixI c k:=Int.toNat_of_nonneg (Int.emod_nonneg _ (by decide))
def vy:Sp:=λ vs H Q _=>∃(c k:Int),vs=[.int c,.int k]/\0≤k/\k≤1000/\Q (vN (mixN c k)) H
theorem uI:FnScope ["_law_cell","_law_k"] ["_law_cell","_law_k"] (ak mF):=⟨rfl,rfl,rfl,Z8,rfl,Z8,Z8⟩
theorem mn (F:Fn K mg "_law_mixed" mF ["_law_cell","_law_k"] f fd):FnOk P w K mg base CX0 1 f fd ["_law_cell","_law_k"] vy:=by
 refine F.F.ok uI λ EO A outer st H vs Q E hr h=>?_
 intro _;obtain⟨c,k,rfl,h0,h1,q⟩:=h;refine⟨_,ah (ar (ag aI (ag bE (ag aI (ag bE (ag aF (ag aF (pv 0) (ag bE (ag bE ae (pv 1)) (pv 1))) (ag bE ae (pv 1))) ae) ae) ae) ae)),?_⟩;refine⟨_,rfl,_,rfl,_,_,rfl,rfl,.inl ⟨Z9,Z9⟩,_,rfl,_,_,rfl,rfl,.inr ⟨by omega,by omega⟩,_,_,rfl,rfl,_,rfl,_,_,rfl,rfl,.inl ⟨Z9,Z9⟩,_,_,rfl,rfl,_,_,rfl,rfl,.inr ⟨Z9,Z9⟩,_,_,rfl,rfl,(by show(0:Int)<2147483647;decide),_,_,rfl,rfl,.inr ⟨Z9,Z9⟩,_,_,rfl,rfl,(by show(0:Int)<2147483629;decide),?_⟩;have e:vN (mixN c k)=V.int (mixI c k):=AB V.int (vV c k);rw [e] at q;exact q
def zo:TE:=tCB (λ xs H Q=>∃i:Int,xs=[.int i]/\i.natAbs.log2<1920/\Q (.str (toString i)) H) (tCons (tOp (rI0 λ i j=>.int (Builtin.bitAnd i j)) (tOp (rI (λ _ j=>0≤j) λ i j=>.int (i/2^j.toNat)) (tVar 1) (tOp (rI0 λ i j=>.int (i-j)) (tOp (rI0 λ i j=>.int (i-j)) (tVar 2) (tC (.int 1))) (tVar 0))) (tC (.int 1))) tNil)
theorem lookup_two {y z:Str}{a b c:EC}(h:List.lookup x [(y,a),(z,b)]=some c):(x=y/\c=a)\/(x=z/\c=b):=by
 unfold List.lookup at h
 split at h
 ·rename_i e
  cases h;exact .inl ⟨by simpa using e,rfl⟩
 ·unfold List.lookup at h
  split at h
  ·rename_i e
   cases h;exact .inr ⟨by simpa using e,rfl⟩
  ·cases h
theorem slots3 {a b c:Str}{i j k l:Nat}(h1: [a,b,c][i]?=some x)(h2: [none,some k,some l][i]?=some (some j)):(x=b/\j=k)\/(x=c/\j=l):=by
 match i,h1,h2 with
 |0,_,h2=>cases h2
 |1,h1,h2=>cases h1;cases h2;exact .inl ⟨rfl,rfl⟩
 |2,h1,h2=>cases h1;cases h2;exact .inr ⟨rfl,rfl⟩
 |i+3,h1,_=>cases h1
def ib:Sp:=λ vs H Q _=>∃n s:Nat,vs=[vN n,vN s]/\s≤1000/\∀H',Same H H'->Q (.str (txt (dig n s))) H'
theorem vP:FnScope ["_law_number","_law_size"] ["_law_number","_law_size"] (ak iX):=⟨rfl,rfl,rfl,Z8,rfl,Z8,Z8⟩
theorem fM (F:Fn K mg "_law_bits" iX ["_law_number","_law_size"] f fd)(X:K28.Txt K mg)(hstr:mg "str"=none):FnOk P w K mg base CX0 1 f fd ["_law_number","_law_size"] ib:=by
 refine F.F.ok vP λ EO A outer st H vs Q E hr h=>?_
 intro _;obtain⟨n,s,rfl,hs,k⟩:=h;refine⟨_,ah (ar (eL Dn Dy Dz kb aB (aa
  (rR (N:=["_law_k","_law_number","_law_size"]) (js:=[none,some 0,some 1]) (cl:=[("_law_size",st.heap.objs.size+1+1),("_law_number",st.heap.objs.size+1)]) (g:=bM 0) (te:=zo) rfl
   ⟨rfl,Z8,Z8,Z7,λ x c h=>?c0,λ x hx=>?c1,rfl,λ i x j h1 h2=>?c2⟩
   (cO Z7 X.range (aa (pv 1) ac)) (λ fp s H=>aG (i:=0) zf)
   (λ fp s H=>bD kB Z7 hstr PyProof.Rows.boot_str (aa (ag gv (ag iD (pv 1) (ag aU (ag aU (pv 2) ae) (pv 0))) ae) ac))) ac))),?_⟩
 case c0=>rcases lookup_two h with⟨rfl,rfl⟩|⟨rfl,rfl⟩<;>rfl
 case c1=>
  rcases hx with hx|hx
  ·have m':(x,NameKind.cell)∈([(".0",.local),("_law_k",.local),("str",.globalImplicit),("_law_number",.cell),("_law_size",.cell)]:List (Str×NameKind)):=AU hx;have e:x="_law_number"\/x="_law_size":=by simpa using m'
   rcases e with rfl|rfl<;>exact⟨_,rfl⟩
  ·have m':(x,NameKind.free)∈([(".0",.local),("_law_k",.local),("str",.globalImplicit),("_law_number",.cell),("_law_size",.cell)]:List (Str×NameKind)):=AU hx;simp at m'
 case c2=>rcases slots3 h1 h2 with⟨rfl,rfl⟩|⟨rfl,rfl⟩<;>exact⟨rfl,rfl,rfl,λ c h=>h⟩
 refine⟨rfl,_,rfl,((s:Nat):Int),rfl,by omega,by omega,λ lj nlj=>?_⟩;rw [Ay];refine gM (lo:=0) (l:=lj) (k:=s) (g:=bM 0) (te:=zo) (λ i ys σ' H'=>∃v0:Option V,ys=(((dig n s).take i).map λ b=>txt [b]).map V.str/\σ'=[v0,some (vN n),some (vN s)]/\H' lj=some (.lst ys)/\Same H H')
  ⟨none,rfl,rfl,af,aj nlj⟩ ?_ ?_ (λ x σ H A B h z=>h _ _ z) ?_
 ·rintro i ys σ' H' hi ⟨v0,rfl,rfl,hlj,s3⟩;have en:(0:Int)+((i:Nat):Int)=((i:Nat):Int):=by omega
  have es:((s:Nat):Int)-1-((i:Nat):Int)=((s-1-i:Nat):Int):=by omega
  try dsimp only
  rw [en];refine⟨_,rfl,_,rfl,_,_,rfl,rfl,_,rfl,_,_,rfl,rfl,?_⟩
  try dsimp only
  rw [es];refine⟨_,_,rfl,rfl,(by show(0:Int)≤((s-1-i:Nat):Int);omega),_,_,rfl,rfl,?_⟩
  try dsimp only
  rw [ka];refine⟨_,rfl,uN _ _,hlj,cz (by rw [z7,z7,Aj,aH];omega),_,?_,rfl,af,λ d o e=>by rw [av (au e nlj)];exact s3 _ _ e⟩;rw [A9,rY n hi,At,At];have:=vi n (s-1-i);exact AB (λ z=>List.map V.str (List.map (λ b=>txt [b]) ((dig n s).take i))++[V.str z]) this
 ·rintro ys σ' H3 ⟨v0,rfl,rfl,hlj,s3⟩;rw [AA (CJ (aH n s))] at hlj;refine⟨_,lj,_,rfl,rfl,hlj,vO (by rw [aH];exact hs),?_⟩
  try dsimp only
  rw [qk];exact k _ s3
 ·rintro σ H A B h ⟨v,e1,v2,e2,i1,j1,f1,f2,v3,e3,i2,j2,f3,f4,i3,j3,f5,f6,f7,i4,j4,f8,f9,i5,f10,f11,z⟩;exact⟨v,e1,v2,e2,i1,j1,f1,f2,v3,e3,i2,j2,f3,f4,i3,j3,f5,f6,f7,i4,j4,f8,f9,i5,f10,f11,h _ _ z⟩
def spLBytes:Sp:=λ vs H Q _=>∃bs:List Bool,vs=[.str (txt bs)]/\bs.length≤1500/\∀(l:EC) (R:List Nat) (H':Hp),H l=none->RowOf (num bs) bs.length R->H' l=some (.lst (R.map vN))->Same H H'->Q (.ref l) H'
theorem scLBytes:FnScope ["_law_bits_here","_law_whole","_law_row","_law_at","_law_byte","_law_bit"] ["_law_bits_here"] (ak kI):=⟨rfl,rfl,rfl,Z8,rfl,Z8,Z8⟩
theorem gS (F:Fn K mg "_law_bytes" kI ["_law_bits_here"] f fd)(X:K28.Txt K mg):FnOk P w K mg base CX0 1 f fd ["_law_bits_here"] spLBytes:=by
 refine F.F.ok scLBytes λ EO A outer st H vs Q E hr h=>?_
 intro _;obtain⟨bs,rfl,hz,k⟩:=h;refine⟨_,ad (ao (i:=1) scLBytes.nd (ag bg (pv 0) (ag oj aB (ag aI (cf bG (aw fV Z7 X.len As (aa (pv 0) ac))) ae))))
  (ad (ao (i:=2) scLBytes.nd (aD ac))
  (ad (cr Bj rfl (jC rfl X.range (aa ae (aa (aw fV Z7 X.len As (aa (pv 1) ac)) (aa ae ac)))) (aG (i:=3) scLBytes.nd)
   (ad (ao (i:=4) scLBytes.nd ae)
   (ad (cr Bj rfl (yf (aC wF (pv 1) (aA (pv 3)) (aA (ag aF (pv 3) ae)))) (aG (i:=5) scLBytes.nd)
    (ah (ao (i:=4) scLBytes.nd (ag aF (ag bE ae (pv 4)) (bD eZ Z7 X.int BM (aa (bz bP (pv 5) aB (az _)) ac))))))
   (ah (bf (eL A5 BO B2 cv (pv 2) (aa (pv 4) ac)))))))
  (ah (ar (pv 2))))),?_⟩
 obtain⟨pad,hp7,hpm,hpad⟩:∃pad:Nat,pad≤7/\bs.length+pad=8*((bs.length+7)/8)/\(-((bs.length:Nat):Int))%8=(pad:Int):=⟨7-(bs.length+7)%8,by omega,by omega,by omega⟩;generalize hm:(bs.length+7)/8=m at*;refine am λ R1 g1=>?_
 refine⟨_,rfl,_,rfl,txt bs,rfl,bh (by rw [aE];omega),_,rfl,_,_,rfl,rfl,(by show(0:Int)<8;decide),?_⟩
 try dsimp only
 rw [aE,hpad,sV];refine⟨_,_,rfl,rfl,wY pad hp7,_,_,rfl,rfl,?_,?_⟩
 ·rw [oX pad hp7,aE,aE,AR];exact bh (by omega)
 try dsimp only
 rw [oX pad hp7,L2.txt_append];refine g1 _ _ ?_;clear g1;have hfl:(bs++List.replicate pad false).length=8*m:=by rw [z0,AR];exact hpm
 have hfn:num (bs++List.replicate pad false)=num bs*2^pad:=by rw [dJ,qD,AR,C5]
 generalize bs++List.replicate pad false=fs at*;refine am λ R2 g2=>⟨AZ _,λ l hl=>g2 _ _ ?_⟩
 clear g2;refine am λ R3 g3=>?_
 have sm8:=xt m (by omega);refine⟨_,rfl,txt fs,rfl,bh (by rw [aE];omega),0,_,8,m,rfl,by decide,?_,?_,CB (by decide),iT (D:=⟨_,_,λ _ _=>False,λ _ _=>False⟩) (lo:=0) (c:=8) (n:=m)
  (λ i σ H2=>∃(B:List Nat) (v3 v4 v5:Option V),σ=[some (.str (txt bs)),some (.str (txt fs)),some (.ref l),v3,v4,v5]/\B.length=i/\(∀b∈B,b<256)/\val B=num (fs.take (8*i))/\H2 l=some (.lst (B.map vN))/\Same H H2)
  ⟨[],none,none,none,rfl,rfl,(λ _ h=>nomatch h),by rw [Nat.mul_zero,EB];rfl,af,aj hl⟩ ?_ ?_⟩
 ·rw [aE,hfl];exact sm8.1
 ·rw [aE,hfl];exact sm8.2
 ·clear g3;rintro i σ H2 hi ⟨B,v3,v4,v5,rfl,hBl,hBb,hBv,hl2,sm⟩;have ei:(0:Int)+(i:Int)*8=((8*i:Nat):Int):=by omega
  rw [ei];refine am λ R4 g4=>g4 _ _ ?_
  clear g4;refine am λ R5 g5=>?_
  have e8:((8*i:Nat):Int)+8=((8*i+8:Nat):Int):=by omega
  refine⟨_,rfl,_,rfl,_,rfl,_,rfl,_,_,rfl,rfl,_,rfl,txt fs,rfl,bh (by rw [aE];omega),?_⟩
  try dsimp only
  rw [e8,qi (by omega) (by omega),show 8*i+8-8*i=8 by omega];have hpl:((fs.drop (8*i)).take 8).length=8:=by rw [Aj,Ax];omega
  have hpt:fs.take (8*(i+1))=fs.take (8*i)++(fs.drop (8*i)).take 8:=by rw [show 8*(i+1)=8*i+8 by omega,List.take_add]
  generalize (fs.drop (8*i)).take 8=ps at*;refine⟨_,rfl,uF (D:=⟨_,_,λ _ _=>False,λ _ _=>False⟩) (y:=txt ps) (λ j σ H3=>∃v5:Option V,σ=[some (.str (txt bs)),some (.str (txt fs)),some (.ref l),some (vN (8*i)),some (vN (num (ps.take j))),v5]/\H3=H2)
   ⟨v5,rfl,rfl⟩ ?_ ?_⟩
  ·rintro j ch σ H3 hj ⟨u5,rfl,rfl⟩;obtain⟨b,hb,ech⟩:=uJ hj;rw [ech];refine⟨_,rfl,_,_,rfl,rfl,.inl ⟨by decide,by decide⟩,_,rfl,rfl,.inr ⟨_,rfl,?_⟩⟩;rw [xk b];refine⟨_,_,rfl,rfl,some (V.str (txt [b])),?_,rfl⟩;have e1:(2:Int)*((num (ps.take j):Nat):Int)+(if b=true then 1 else 0)=((num (ps.take (j+1)):Nat):Int):=by
    rw [A9,hb];show _=((num (ps.take j++[b]):Nat):Int);rw [sU];cases b<;>simp<;>omega
   try dsimp only
   rw [e1];rfl
  ·rintro σ H3 ⟨u5,rfl,rfl⟩;refine g5 _ _ ?_;clear g5;rw [rF,Bx];have EQ:=ym ps;rw [hpl] at EQ;refine⟨_,rfl,.inl ⟨rfl,_,SqL.of hl2⟩,_,rfl,l,_,_,rfl,rfl,hl2,?_,B++[num ps],_,_,_,rfl,by rw [z0,hBl];rfl,λ x hx=>?_,?_,?_,λ c o e=>?_⟩
   ·rw [z7];exact Ap (show B.length<2000 by omega) (bh (Al _))
   ·rcases Ar.mp hx with z|z
    ·exact hBb x z
    ·rw [AD.mp z];exact EQ
   ·rw [val_snoc,hBv,hpt,dJ,hpl]
   ·rw [af,At];rfl
   ·rw [av (au e hl)];exact sm _ _ e
 ·rintro σ H2 ⟨B,v3,v4,v5,rfl,hBl,hBb,hBv,hl2,sm⟩;refine g3 _ _ ?_;refine⟨_,rfl,k l B H2 hl ⟨by rw [hBl,hm],hBb,?_⟩ hl2 sm⟩;rw [hBv,hBl,<-hfl,Bx,hfn,hfl];congr 2;omega
end
end K28.Ck
set_option maxHeartbeats 4000000
namespace K28.Ck
open PySem L2 QQ W17 W16 BP
variable {post ps:List (Nat×Nat)}{e v:Nat}{R W:List Nat}
theorem iP (h:RowOf (num (bitsP ps)) (bitsP ps).length R)(g:Good ps):RdOf R (ps++[(0,8*R.length-tots ps)])/\8*R.length-tots ps<8/\tots ps≤8*R.length:=by
 have hl:=h.len;rw [aS] at hl;have hn:=h.num;rw [aS,jJ g] at hn;refine⟨⟨?_,?_,?_,h.byt⟩,by omega,by omega⟩
 ·rw [aR];have:tots [(0,8*R.length-tots ps)]=8*R.length-tots ps:=by simp [tots]
  rw [this];omega
 ·rw [hn,dZ];show _=nums ps 0*2^(8*R.length-tots ps)+0;rw [C5]
 ·intro q hq;rcases Ar.mp hq with hq|hq
  ·exact g q hq
  ·rw [AD.mp hq];exact pow_pos2 _
theorem gi {a c:List (Nat×Nat)}{n s:Nat}(h:RdOf R ps)(e:ps=a++(n,s)::c):tots a+s≤8*R.length/\bt R (tots a) s=n:=h.at e
theorem ui (h:RowOf (num (bitsP ps)) (bitsP ps).length R)(g:Good ps):8*R.length-tots ps<8/\val R%2^(8*R.length-tots ps)=0:=by
 obtain⟨_,h2,_⟩:=iP h g;refine⟨h2,?_⟩;have hn:=h.num;rw [aS] at hn;rw [hn,El]
theorem yq {T:List Nat}(h:RowOf (num (bitsP (T.map λ s=>(s,8)))) (bitsP (T.map λ s=>(s,8))).length R)(hb:∀b∈T,b<256):TxK R W 0 T.length (some T):=by
 have g:Good (T.map λ s=>(s,8)):=λ q hq=>by
  obtain⟨s,hs,rfl⟩:=C6.mp hq;exact hb s hs
 have ht:tots (T.map λ s=>(s,8))=8*T.length:=iR T;have hl:=h.len;have hn:=h.num;rw [aS,ht] at hl hn;have hR:R.length=T.length:=by omega
 rw [jJ g,hR,D9,Ez,Nat.mul_one] at hn;have ev:∀(T:List Nat) (N:Nat),nums (T.map λ s=>(s,8)) N=N*256^T.length+val T:=λ T=>by
  induction T with
  |nil=>intro N;simp [nums,pL]
  |cons x T ih=>
   intro N;show nums (T.map λ s=>(s,8)) (N*2^8+x)=_;have e8:(256:Nat)^(x::T).length=256*256^T.length:=by rw [Az,Bu,BD]
   rw [ih,dy,e8,show(2:Nat)^8=256 from rfl,Ei,BW,BA]
 have e:R=T:=oM h.byt hb hR (by rw [hn,ev,D8,BK]);subst e;exact .raw
theorem wC (h:RdOf R ps):∀{e:Nat} {rs:List (Nat×Nat)} {pre:List (Nat×Nat)} {S:List Nat},ps=pre++(pR rs++post)->(∀q∈rs,1≤q.2)->S.length+(exp rs).length=e->RnR R e (tots pre) S (tots pre+tots (pR rs)) (S++exp rs)
 |e,[],pre,S,_,_,hl=>by
  have e1:S++exp []=S:=AQ S;rw [e1];exact .done hl
 |e,(s,n)::rs,pre,S,e0,hq,hl=>by
  have hn:1≤n:=hq (s,n) A6;rw [eS] at e0;obtain⟨a1,a2⟩:=gi h (a:=pre) (n:=n-1) (s:=6) (c:=(s,8)::(pR rs++post)) e0;obtain⟨b1,b2⟩:=gi h (a:=pre++[(n-1,6)]) (n:=s) (s:=8) (c:=pR rs++post) (by rw [Ab];exact e0);have et:tots (pre++[(n-1,6)])=tots pre+6:=by rw [aR];rfl
  rw [et] at b1 b2;have en:bt R (tots pre) 6+1=n:=by omega
  rw [eG,z0,AR] at hl;have ih:=wC h (rs:=rs) (pre:=pre++[(n-1,6),(s,8)]) (S:=S++List.replicate n s) (e:=e) (by rw [Ab];exact e0) (λ q hq'=>hq q (AC _ hq')) (by rw [z0,AR];omega);have et2:tots (pre++[(n-1,6),(s,8)])=tots pre+14:=by rw [aR];rfl
  rw [et2,Ab,<-eG (s,n)] at ih;refine .run (by omega) (by omega) (by omega) ?_;rw [en,b2,eS,bO,bO];have e14:tots pre+((n-1,6).2+((s,8).2+tots (pR rs)))=tots pre+14+tots (pR rs):=by show tots pre+(6+(8+_))=_;omega
  rw [e14];exact ih
theorem tD {rs:List (Nat×Nat)}(h:RowOf (num (bitsP (pR rs))) (bitsP (pR rs)).length R)(g:Good (pR rs))(hq:∀q∈rs,1≤q.2):TxK R W 1 (exp rs).length (some (exp rs)):=by
 obtain⟨h1,_,_⟩:=iP h g;obtain⟨r1,r2⟩:=ui h g;have:=wC h1 (rs:=rs) (pre:=[]) (S:=[]) (post:=[(0,8*R.length-tots (pR rs))]) (e:=(exp rs).length) rfl hq (BK _);rw [DT,show tots []+tots (pR rs)=tots (pR rs) from BK _] at this;exact .run this r1 r2
def pcB:Pc->List (Nat×Nat)
 | .sg s=>[(0,1),(s,8)]
 | .cp b z=>[(1,1),(b,8),(z-3,4)]
def pB (P:List Pc):List (Nat×Nat):=P.flatMap pcB
def GP (e:Nat):List Nat->List Pc->List Nat->Prop
 |S,[],S'=>S=S'/\S.length=e
 |S,.sg s::P,S'=>s<256/\S.length<e/\GP e (S++[s]) P S'
 |S,.cp b z::P,S'=>1≤b/\b≤255/\b≤S.length/\3≤z/\z≤18/\S.length+z≤e/\GP e (cpy S b z) P S'
theorem GP.good:∀{P:List Pc} {S S':List Nat},GP e S P S'->Good (pB P)
 | [],_,_,_=>λ q hq=>by cases hq
 | .sg s::P,S,S',⟨h1,h2,h3⟩=>λ q hq=>by
  rcases Ar.mp (show q∈ [(0,1),(s,8)]++pB P from hq) with z|z
  ·simp at z;rcases z with rfl|rfl
   ·decide
   ·exact h1
  ·exact h3.good q z
 | .cp b z::P,S,S',⟨h1,h2,h3,h4,h5,h6,h7⟩=>λ q hq=>by
  rcases Ar.mp (show q∈ [(1,1),(b,8),(z-3,4)]++pB P from hq) with y|y
  ·simp at y;rcases y with rfl|rfl|rfl
   ·decide
   ·show b<2^8;omega
   ·show z-3<2^4;omega
  ·exact h7.good q y
theorem uo (h:RdOf R ps):∀{P:List Pc} {pre:List (Nat×Nat)} {S S':List Nat},ps=pre++(pB P++post)->GP e S P S'->CpR R e (tots pre) S (some (tots pre+tots (pB P),S'))
 | [],pre,S,S',_,⟨h1,h2⟩=>by
  subst h1;exact .done h2
 | .sg s::P,pre,S,S',e0,⟨h1,h2,h3⟩=>by
  have e0:ps=pre++((0,1)::(s,8)::(pB P++post)):=e0;obtain⟨a1,a2⟩:=gi h (a:=pre) (n:=0) (s:=1) (c:=(s,8)::(pB P++post)) e0;obtain⟨b1,b2⟩:=gi h (a:=pre++[(0,1)]) (n:=s) (s:=8) (c:=pB P++post) (by rw [Ab];exact e0);have et:tots (pre++[(0,1)])=tots pre+1:=by rw [aR];rfl
  rw [et] at b1 b2;have ih:=uo h (P:=P) (pre:=pre++[(0,1),(s,8)]) (by rw [Ab];exact e0) h3;have et2:tots (pre++[(0,1),(s,8)])=tots pre+9:=by rw [aR];rfl
  rw [et2] at ih;refine .sg h2 (by omega) a2 ?_;rw [b2,show tots pre+tots (pB (.sg s::P))=tots pre+9+tots (pB P) from by
   show tots pre+tots ([(0,1),(s,8)]++pB P)=_;rw [aR,<-BA];rfl]
  exact ih
 | .cp b z::P,pre,S,S',e0,⟨h1,h2,h3,h4,h5,h6,h7⟩=>by
  have e0:ps=pre++((1,1)::(b,8)::(z-3,4)::(pB P++post)):=e0;obtain⟨a1,a2⟩:=gi h (a:=pre) (n:=1) (s:=1) (c:=(b,8)::(z-3,4)::(pB P++post)) e0;obtain⟨b1,b2⟩:=gi h (a:=pre++[(1,1)]) (n:=b) (s:=8) (c:=(z-3,4)::(pB P++post)) (by rw [Ab];exact e0);obtain⟨c1,c2⟩:=gi h (a:=pre++[(1,1),(b,8)]) (n:=z-3) (s:=4) (c:=pB P++post) (by rw [Ab];exact e0);have et:tots (pre++[(1,1)])=tots pre+1:=by rw [aR];rfl
  have et1:tots (pre++[(1,1),(b,8)])=tots pre+9:=by rw [aR];rfl
  rw [et] at b1 b2;rw [et1] at c1 c2;have ih:=uo h (P:=P) (pre:=pre++[(1,1),(b,8),(z-3,4)]) (by rw [Ab];exact e0) h7;have et2:tots (pre++[(1,1),(b,8),(z-3,4)])=tots pre+13:=by rw [aR];rfl
  rw [et2] at ih;have ez:bt R (tots pre+9) 4+3=z:=by omega
  refine .cp (by omega) (by omega) a2 (by omega) (by omega) (by omega) ?_;rw [b2,ez,show tots pre+tots (pB (.cp b z::P))=tots pre+13+tots (pB P) from by
   show tots pre+tots ([(1,1),(b,8),(z-3,4)]++pB P)=_;rw [aR,<-BA];rfl]
  exact ih
theorem x4 {S:List Nat}{P:List Pc}(h:RowOf (num (bitsP (pB P))) (bitsP (pB P)).length R)(g:GP (W.length+v) W P S):TxK R W 2 v (some (S.drop W.length)):=by
 obtain⟨h1,_,_⟩:=iP h g.good;obtain⟨r1,r2⟩:=ui h g.good;have:=uo h1 (P:=P) (pre:=[]) (post:=[(0,8*R.length-tots (pB P))]) (e:=W.length+v) rfl g;rw [show tots []+tots (pB P)=tots (pB P) from BK _] at this;exact .cpy this r1 r2
theorem yg {b z:Nat}(h:RowOf (num (bitsP [(1,1),(b,8),(z,4)])) (bitsP [(1,1),(b,8),(z,4)]).length R)(hb:b<256)(hz:z<16)(hv:1≤v)(hW:W.length<b):TxK R W 2 v none:=by
 have g:Good [(1,1),(b,8),(z,4)]:=λ q hq=>by
  simp at hq;rcases hq with rfl|rfl|rfl
  ·decide
  ·exact hb
  ·exact hz
 obtain⟨h1,_,h3⟩:=iP h g;have ht:tots [(1,1),(b,8),(z,4)]=13:=rfl;obtain⟨a1,a2⟩:=gi h1 (a:=[]) (n:=1) (s:=1) rfl;obtain⟨b1,b2⟩:=gi h1 (a:=[(1,1)]) (n:=b) (s:=8) rfl;refine .far (.far (by omega) ?_ a2 (.inr (.inr ?_)))
 ·show 13≤_;rw [ht] at h3;exact h3
 ·rw [show(0:Nat)+1=tots [(1,1)] from rfl,b2];exact hW
end K28.Ck
set_option maxHeartbeats 4000000
namespace K28.Ck
open PySem L2 QQ W17 W16 BP
seal PE PA PS PSs PT PW PG PI
variable {f:EC}{fd:EH}
theorem vR {n:Nat}(h:n<65536): [V.int (((n:Nat):Int)/256),V.int (((n:Nat):Int)%256)]=(two n).map vN:=by
 show _=[vN (n/256),vN (n%256)];rw [show((n:Nat):Int)/256=((n/256:Nat):Int) by omega,show((n:Nat):Int)%256=((n%256:Nat):Int) by omega]
theorem jD (L:List (List Bool)):Txt.join (Str.ofString "") (L.map txt)=txt L.flatten:=by
 have e0:(Str.ofString "")=⟨#[]⟩:=by decide+kernel
 show Builtin.Str.glued _ _=_;rw [StrLaws.glued_eq_join,e0];have key:∀(L:List (List Bool)) (b:List Bool),Str.join ⟨#[]⟩ ((b::L).map txt)=txt (b::L).flatten:=by
  intro L
  induction L with
  |nil=>
   intro b;have:(b::([]:List (List Bool))).flatten=b:=by simp
   rw [this];rfl
  |cons a L ih=>
   intro b;show txt b++⟨#[]⟩++Str.join ⟨#[]⟩ ((a::L).map txt)=_;rw [ih a];have e:txt b++(⟨#[]⟩:Str)=txt b:=Str.append_right_empty rfl;rw [e,L2.txt_append];rfl
 cases L with
 |nil=>rfl
 |cons b L=>exact key L b
theorem rk (L:List (List Bool)):((L.map txt).map (·.length)).sum=L.flatten.length:=by
 induction L with
 |nil=>rfl
 |cons b L ih=>rw [AJ,AJ,DL,ih,aE,A3,z0]
theorem lW {L:List (List Bool)}(h:L.flatten.length≤1000)(h2:L.length≤1000):JoinOk (Str.ofString "") (L.map txt)=true:=by
 refine DD ?_ (by decide+kernel);rw [rk,z7];omega
def chk18 (b:Nat)(Ch:List Nat):List Pc:=if 2<Ch.length then [.cp b Ch.length] else Ch.map .sg
def cps (b:Nat)(T:List Nat)(i:Nat):List Pc:=(List.range i).flatMap λ j=>chk18 b ((T.drop (18*j)).take 18)
theorem mj (b:Nat)(T:List Nat)(i:Nat):cps b T (i+1)=cps b T i++chk18 b ((T.drop (18*i)).take 18):=by
 unfold cps;rw [List.range_succ,List.flatMap_append];simp
theorem gH (P Q:List Pc):pB (P++Q)=pB P++pB Q:=by simp [pB]
theorem vk (n m:Nat)(h:n≤1000)(e0:m=(n+17)/18):Builtin.Range.small 0 ((n:Nat):Int) 18=true/\Builtin.Range.rangeSize 0 ((n:Nat):Int) 18=(m:Int):=by
 have e:Builtin.Range.rangeSize 0 ((n:Nat):Int) 18=(m:Int):=by
  unfold Builtin.Range.rangeSize;rw [AV (by decide)]
  split<;>omega
 refine⟨?_,e⟩;have f:∀i:Int,0≤i->i<100000->Builtin.Range.rangeFitsLong i=true:=λ i h0 h1=>by
  unfold Builtin.Range.rangeFitsLong;rw [Ai (by omega),Ai (by omega)];rfl
 unfold Builtin.Range.small;rw [e]
 try dsimp only
 rw [f 0 (by decide) (by decide),f ((n:Nat):Int) (by omega) (by omega),f 18 (by decide) (by decide),f (m:Int) (by omega) (by omega),AV (by decide),f (((n:Nat):Int)+(18-1)) (by omega) (by omega)];simp
theorem pP (P:List Pc):tots (pB P)≤13*P.length:=by
 induction P with
 |nil=>exact Al _
 |cons x P ih=>
  show tots (pcB x++pB P)≤_;rw [aR,Az];have:tots (pcB x)≤13:=by
   cases x with
   |sg s=>exact(show 9≤13 by decide)
   |cp b z=>exact Al 13
  omega
theorem uR (b:Nat)(Ch:List Nat):(chk18 b Ch).length≤2:=by
 unfold chk18
 split
 ·exact(show 1≤2 by decide)
 ·rw [z7];omega
theorem oR (b:Nat)(T:List Nat)(i:Nat):(cps b T i).length≤2*i:=by
 induction i with
 |zero=>exact Al _
 |succ i ih=>
  rw [mj,z0];have:=uR b ((T.drop (18*i)).take 18);omega
theorem uW (xs:List V){a b:Nat}(h:a≤b):cutV xs (some ((a:Nat):Int)) (some ((b:Nat):Int))=(xs.drop a).take (b-a):=by
 unfold cutV;rw [HT.sIx_nat,HT.sIx_nat];rcases EA a xs.length with h1|h1
 ·rw [AM h1];rcases EA b xs.length with h2|h2
  ·rw [AM h2]
  ·rw [BS h2,AA (by rw [Ax];omega),AA (by rw [Ax];omega)]
 ·rw [BS h1,BS (AT h1 h),List.drop_eq_nil_of_le h1,Eo];simp
theorem y1:(["_law_sign"]:List Str).Nodup:=Z8
section
def su:Sp:=λ vs H Q _=>∃n:Nat,vs=[vN n]/\n<65536/\∀l,H l=none->Q (.ref l) (upd H l (.lst ((two n).map vN)))
theorem wN:FnScope ["_law_number"] ["_law_number"] (ak tT):=⟨rfl,rfl,rfl,Z8,rfl,Z8,Z8⟩
theorem hU (F:Fn K mg "_law_two" tT ["_law_number"] f fd):FnOk P w K mg base CX0 1 f fd ["_law_number"] su:=by
 refine F.F.ok wN λ EO A outer st H vs Q E hr h=>?_
 intro _;obtain⟨n,rfl,hn,k⟩:=h;refine⟨_,ah (ar (aD (aa (ag aQ (pv 0) ae) (aa (ag aI (pv 0) ae) ac)))),?_⟩;refine⟨_,rfl,_,_,rfl,rfl,⟨Z9,Z9⟩,_,rfl,_,_,rfl,rfl,(by show(0:Int)<256;decide),zl2,λ l nl=>?_⟩
 try dsimp only
 rw [vR hn];exact k l nl
def rG:Sp:=λ vs H Q _=>∃(b:Nat) (a:EC) (T:List Nat),vs=[vN b,.ref a]/\H a=some (.lst (T.map vN))/\T.length≤64/\∀H',Same H H'->Q (.str (txt (bitsP (pB (cps b T ((T.length+17)/18)))))) H'
theorem scCopied:FnScope ["_law_back","_law_signs","_law_bits_here","_law_at","_law_some"] ["_law_back","_law_signs"] (ak g8):=⟨rfl,rfl,rfl,Z8,rfl,Z8,Z8⟩
theorem qT {fB:EC}{fdB:EH}(F:Fn K mg "_law_copied" g8 ["_law_back","_law_signs"] f fd)(Lb:Fn K mg "_law_bits" iX ["_law_number","_law_size"] fB fdB)(X:K28.Txt K mg)(hstr:mg "str"=none):FnOk P w K mg base CX0 2 f fd ["_law_back","_law_signs"] rG:=by
 have GB:=fM (P:=P) (w:=w) (base:=base) Lb X hstr;refine F.F.ok scCopied λ EO A outer st H vs Q E hr h=>?_
 intro _;obtain⟨b,a,T,rfl,ha,hT,k⟩:=h;refine⟨_,ad (ao (i:=2) scCopied.nd aB)
  (ad (cr Bj rfl (jC rfl X.range (aa ae (aa (aw aq Z7 X.len As (aa (pv 1) ac)) (aa ae ac)))) (aG (i:=3) scCopied.nd)
   (ad (ao (i:=4) scCopied.nd (aC aL (pv 1) (aA (pv 3)) (aA (ag aF (pv 3) ae))))
   (ah (aK (ax ek (aw aq Z7 X.len As (aa (pv 4) ac)) ae (az _))
    (ah (ao (i:=2) scCopied.nd (ag bg (ag bg (ag bg (pv 2) aB) (ai GB hr Z7 Lb.m Lb.F.kp Lb.b .nil ap (aa (pv 0) (aa ae ac)))) (ai GB hr Z7 Lb.m Lb.F.kp Lb.b .nil ap (aa (ag aU (aw aq Z7 X.len As (aa (pv 4) ac)) ae) (aa ae ac))))))
    (ah (ao (i:=2) scCopied.nd (ag bg (pv 2) (eL Dn Dy Dz kb aB (aa (kh (N:=["_law_sign"]) (g:=bM 0) rfl rfl Z8 Z8 Z8 (cy (pv 4)) (λ fp s H=>aG (i:=0) y1) (λ fp s H=>ag bg aB (ai GB hr Z7 Lb.m Lb.F.kp Lb.b .nil ap (aa (pv 0) (aa ae ac))))) ac)))))))))
  (ah (ar (pv 2)))),?_⟩
 rw [pS];refine am λ _ g=>g _ _ ?_
 clear g;obtain⟨m,em⟩:∃m,m=(T.length+17)/18:=⟨_,rfl⟩;have hm:m≤4:=by omega
 rw [<-em] at k;have bl:∀i,i≤4->(bitsP (pB (cps b T i))).length≤104:=λ i hi=>by
  rw [aS];have h1:=pP (cps b T i);have h2:=oR b T i;omega
 refine am λ R3 g3=>?_
 have sm:=vk T.length m (by omega) em;refine⟨_,rfl,a,_,rfl,.inl (SqL.of ha),0,_,18,m,rfl,by decide,?_,?_,CB (by decide),iT (D:=⟨_,_,λ _ _=>False,λ _ _=>False⟩) (lo:=0) (c:=18) (n:=m)
  (λ i σ H2=>∃(v3 v4:Option V),σ=[some (vN b),some (.ref a),some (.str (txt (bitsP (pB (cps b T i))))),v3,v4]/\Same H H2)
  ⟨none,none,rfl,Same.refl H⟩ ?_ ?_⟩
 ·rw [z7];exact sm.1
 ·rw [z7];exact sm.2
 rotate_left
 ·rintro σ H2 ⟨v3,v4,rfl,s2⟩;exact g3 _ _ ⟨_,rfl,k _ s2⟩
 clear g3;rintro i σ H2 hi ⟨v3,v4,rfl,s2⟩;have bli:=bl i (by omega);have ei:(0:Int)+(i:Int)*18=((18*i:Nat):Int):=by omega
 have e18:((18*i:Nat):Int)+18=((18*i+18:Nat):Int):=by omega
 rw [ei];refine am λ _ g=>⟨_,rfl,_,rfl,_,rfl,_,rfl,_,_,rfl,rfl,_,rfl,a,_,rfl,SqL.of (s2 _ _ ha),λ lc nc=>g _ _ ?_⟩
 clear g
 try dsimp only
 try dsimp only at nc
 rw [e18,uW _ (by omega),show 18*i+18-18*i=18 by omega,<-BB,<-Bh];have s3:=aj (o:=.lst (((T.drop (18*i)).take 18).map vN)) nc;have hc3:(upd H2 lc (.lst (((T.drop (18*i)).take 18).map vN))) lc=some (.lst (((T.drop (18*i)).take 18).map vN)):=af;have s23:=s2.trans s3;generalize upd H2 lc (.lst (((T.drop (18*i)).take 18).map vN))=H3 at*;have hch:((T.drop (18*i)).take 18).length≤18:=by rw [Aj];exact De _ _
 have ecs:=mj b T i;generalize (T.drop (18*i)).take 18=Ch at*;refine⟨_,rfl,lc,_,rfl,.inl (SqL.of hc3),_,_,rfl,rfl,_,rfl,?_⟩
 try dsimp only
 rw [z7];refine bi (λ h=>?_) (λ h=>?_)
 ·have h2:2<Ch.length:=by have:=Aq h;omega
  rw [uk];refine⟨_,rfl,_,_,rfl,rfl,bh (by rw [aE,aE];show _+1≤2000;omega),?_⟩;rw [L2.txt_append];refine⟨_,rfl,b,8,rfl,by decide,λ H4 s4=>⟨_,_,rfl,rfl,bh (by rw [aE,aE,aH,z0];show _+1+8≤2000;omega),?_⟩⟩;rw [L2.txt_append];have e3:((Ch.length:Nat):Int)-3=((Ch.length-3:Nat):Int):=by omega
  refine⟨_,rfl,lc,_,rfl,.inl (SqL.of (s4 _ _ hc3)),_,_,rfl,rfl,?_⟩
  try dsimp only
  rw [z7,e3];refine⟨Ch.length-3,4,rfl,by decide,λ H5 s5=>⟨_,_,rfl,rfl,bh (by rw [aE,aE,aH,z0,z0,aH];show _+1+8+4≤2000;omega),some (vN (18*i)),some (.ref lc),?_,(s23.trans s4).trans s5⟩⟩;rw [L2.txt_append,ecs,gH,dO];have e4:bitsP (pB (chk18 b Ch))=[true]++dig b 8++dig (Ch.length-3) 4:=by
   unfold chk18;rw [AV h2];show bitsP [(1,1),(b,8),(Ch.length-3,4)]=_;rw [bF,bF,bF];show dig 1 1++(dig b 8++(dig (Ch.length-3) 4++[]))=_;rw [AQ,Ab];rfl
  rw [e4,Ab,Ab,Ab];rfl
 ·have h2:Ch.length≤2:=by
   rcases A4 2 Ch.length with q|q
   ·exact absurd (Ai (by omega)) h
   ·exact q
  refine⟨_,rfl,rfl,_,rfl,lc,rfl,⟨_,SqL.of hc3⟩,λ lj nj=>?_⟩;refine kO (K:=K) (a:=lc) (l:=lj) (xs:=Ch.map vN) (n:=1) (λ i ys H4=>ys=(((Ch.take i).map λ s=>false::dig s 8).map txt).map V.str/\H4 lj=some (.lst ys)/\Same H3 H4) ⟨rfl,af,aj nj⟩ ?_ ?_ ?_ ?_ ?_
  ·rintro i ys H4 hi ⟨_,_,s4⟩;exact SqL.of (s4 _ _ hc3)
  ·rintro i x ys σ H4 hx ⟨rfl,h4,s4⟩ hσ;rw [Au] at hx;obtain⟨s,hs,rfl⟩:=Bq.mp hx;obtain⟨v0,rfl⟩:∃v0,σ=[v0]:=by
    match σ,hσ with
    | [v0],_=>exact⟨v0,rfl⟩
   rw [sV];refine⟨_,rfl,s,8,rfl,by decide,λ H5 s5=>⟨_,_,rfl,rfl,bh (by rw [aE,aE,aH];show 1+8≤2000;decide),s5 _ _ h4,cz (by rw [z7,z7,z7,Aj];omega),rfl,?_,af,λ c o e=>by rw [av (au e nj)];exact s5 _ _ (s4 _ _ e)⟩⟩;rw [L2.txt_append,A9,hs,At,At,At];rfl
  ·rintro ys H4 ⟨rfl,h4,s4⟩;rw [z7,Bx] at h4;have fl:((Ch.map λ s=>false::dig s 8).flatten).length≤18:=by
    rw [List.length_flatten,Dw];have:∀L:List Nat,((L.map (List.length∘λ s=>false::dig s 8)).sum)=9*L.length:=λ L=>by
     induction L with
     |nil=>rfl
     |cons x L ih=>rw [AJ,DL,ih,Az];show(dig x 8).length+1+_=_;rw [aH];omega
    rw [this];omega
   refine⟨_,lj,_,rfl,rfl,h4,lW (by omega) (by rw [z7];omega),?_⟩
   try dsimp only
   rw [<-pS,jD];refine⟨_,_,rfl,rfl,bh (by rw [aE,aE];omega),some (vN (18*i)),some (.ref lc),?_,s23.trans s4⟩;rw [L2.txt_append,ecs,gH,dO];have e4:bitsP (pB (chk18 b Ch))=(Ch.map λ s=>false::dig s 8).flatten:=by
    unfold chk18;rw [AO (Nat.not_lt.2 h2)];have:∀L:List Nat,bitsP (pB (L.map .sg))=(L.map λ s=>false::dig s 8).flatten:=λ L=>by
     induction L with
     |nil=>rfl
     |cons x L ih=>
      show bitsP ([(0,1),(x,8)]++pB (L.map .sg))=(false::dig x 8)++_;rw [dO,ih];show(dig 0 1++(dig x 8++[]))++_=_;rw [AQ];rfl
    exact this Ch
   rw [e4];rfl
  ·exact λ x σ H A B h z=>h _ _ z
  ·rintro σ H A B hAB ⟨v,e1,n',s',e2,e3,z⟩;refine⟨v,e1,n',s',e2,e3,λ H' s'=>?_⟩;obtain⟨i,j,f1,f2,f3,f4⟩:=z H' s';exact⟨i,j,f1,f2,f3,hAB _ _ f4⟩
end
end K28.Ck
set_option maxHeartbeats 4000000
namespace K28.Ck
open PySem L2 QQ W17 W16 BP
variable {b:Nat}{W:List Nat}
theorem p8 {T:List Nat}{p:Nat}(hb:b≤W.length)(hT:T.length≤b)(h:∀i<T.length,T[i]?=W[W.length-b+i]?):∀{z:Nat},p+z≤T.length->cpy (W++T.take p) b z=W++T.take (p+z)
 |0,_=>rfl
 |z+1,hz=>by
  have ih:=p8 hb hT h (p:=p) (z:=z) (by omega);have hl:(W++T.take (p+z)).length=W.length+(p+z):=by rw [z0,Aj,AM (by omega)]
  rw [cpy,ih,hl,A7,show W.length+(p+z)-b=W.length-b+(p+z) by omega,BX (by omega),<-h (p+z) (by omega)];rw [show p+(z+1)=p+z+1 by omega,A9,Ab];rw [Af (show p+z<T.length by omega)];rfl
theorem ww {e:Nat}{P:List Pc}{S':List Nat}:∀{L S:List Nat},(∀b∈L,b<256)->S.length+L.length≤e->GP e (S++L) P S'->GP e S (L.map .sg++P) S'
 | [],S,_,_,h=>by rw [AQ] at h;exact h
 |x::L,S,hb,hl,h=>by
  rw [Az] at hl;refine⟨hb x A6,by omega,ww (λ b z=>hb b (AC _ z)) (by rw [z0,CI];omega) ?_⟩;rw [Ab];exact h
def cpsR (b:Nat)(T:List Nat)(i k:Nat):List Pc:=(List.range' i k).flatMap λ j=>chk18 b ((T.drop (18*j)).take 18)
theorem rq {T:List Nat}(hb1:1≤b)(hb2:b≤255)(hb:b≤W.length)(hT:T.length≤b)(hby:∀x∈T,x<256)(h:∀i<T.length,T[i]?=W[W.length-b+i]?):∀{k i:Nat},i+k=(T.length+17)/18->GP (W.length+T.length) (W++T.take (18*i)) (cpsR b T i k) (W++T)
 |0,i,hi=>by
  have e:T.take (18*i)=T:=AA (by omega);rw [e];exact⟨rfl,z0⟩
 |k+1,i,hi=>by
  have ih:=rq hb1 hb2 hb hT hby h (k:=k) (i:=i+1) (by omega);have EQ:18*i<T.length:=by omega
  have er:cpsR b T i (k+1)=chk18 b ((T.drop (18*i)).take 18)++cpsR b T (i+1) k:=by
   unfold cpsR;rw [Er,List.flatMap_cons]
  have ech:((T.drop (18*i)).take 18).length=min 18 (T.length-18*i):=by rw [Aj,Ax]
  have et:T.take (18*(i+1))=T.take (18*i+min 18 (T.length-18*i)):=by
   rcases EA (18*(i+1)) T.length with q|q
   ·rw [AM (by omega)];rfl
   ·rw [AA q,BS (by omega),AA (by omega)]
  rw [er];unfold chk18
  split
  ·rename_i h2
   rw [ech] at h2 ⊢;have hl:(W++T.take (18*i)).length=W.length+18*i:=by rw [z0,Aj,AM (by omega)]
   refine⟨hb1,hb2,by rw [hl];omega,by omega,by omega,by rw [hl];omega,?_⟩;rw [p8 hb hT h (by omega),<-et];exact ih
  ·rename_i h2
   refine ww (λ x hx=>hby x (A0 (AG hx))) (by rw [z0,Aj (l:=T),ech];omega) ?_;have e2:T.take (18*i)++(T.drop (18*i)).take 18=T.take (18*(i+1)):=by rw [show 18*(i+1)=18*i+18 by omega,List.take_add]
   rw [Ab,e2];exact ih
theorem qY {R T:List Nat}(hb1:1≤b)(hb2:b≤255)(hb:b≤W.length)(hT:T.length≤b)(hby:∀x∈T,x<256)(h:∀i<T.length,T[i]?=W[W.length-b+i]?)(hR:RowOf (num (bitsP (pB (cps b T ((T.length+17)/18))))) (bitsP (pB (cps b T ((T.length+17)/18)))).length R):TxK R W 2 T.length (some T):=by
 have e:cps b T ((T.length+17)/18)=cpsR b T 0 ((T.length+17)/18):=by
  unfold cps cpsR;rw [DJ]
 have g:=rq hb1 hb2 hb hT hby h (k:=(T.length+17)/18) (i:=0) (BK _);rw [EB,AQ,<-e] at g;have:=x4 hR g;rw [List.drop_left] at this;exact this
theorem vQ {T:List Nat}{i:Nat}(h:1≤T.length)(hi:1≤i):1≤(bitsP (pB (cps b T i))).length:=by
 obtain⟨j,rfl⟩:∃j,i=j+1:=⟨i-1,by omega⟩;have e:cps b T (j+1)=chk18 b (T.take 18)++(cpsR b T 1 j):=by
  unfold cps cpsR;rw [DJ,Er,List.flatMap_cons];rfl
 rw [e,aS,gH,aR];have:1≤tots (pB (chk18 b (T.take 18))):=by
  unfold chk18
  split
  ·exact(show 1≤13 by decide)
  ·match T,h with
   |x::T,_=>
    show 1≤tots ([(0,1),(x,8)]++_);rw [aR];show 1≤9+_;omega
 omega
structure Bod (W:List Nat)(n u:Nat)(T:List Nat)(bs:List Bool):Prop where
 u4:u<4
 len:T.length=n
 byt:∀b∈T,b<256
 b1:1≤bs.length
 b512:bs.length≤512
 tx:∀R,RowOf (num bs) bs.length R->TxK R W u n (some T)
theorem zF:(["_law_j","_law_first"]:List Str).Nodup:=Z8
seal PE PA PS PSs PT PW PG PI
section
def wB:TE:=tOp (rI (λ _ j=>0<j) λ i j=>.int (i%j)) (tOp (rI0 λ i j=>.int (i+j)) (tVar 1) (tOp (rI CMul λ i j=>.int (i*j)) (tC (.int 7)) (tVar 0))) (tC (.int 256))
def wa:Sp:=λ vs H Q _=>∃(m n:Nat) (a:EC) (W:List Nat),vs=[vN m,vN n,.ref a]/\1≤n/\n≤64/\H a=some (.lst (W.map vN))/\(∀b∈W,b<256)/\W.length%64=0/\W.length≤192/\∀(t l:EC) (u:Nat) (T:List Nat) (bs:List Bool) (H':Hp),Same H H'->H' t=some (.tup [vN u,.ref l,.str (txt bs)])->H' l=some (.lst (T.map vN))->Bod W n u T bs->Q (.ref t) H'
abbrev wZ:List Str:=["_law_number","_law_count","_law_ahead","_law_first","_law_second","_law_back","_law_signs","_law_cut","_law_bits_here"]
theorem scLBody:FnScope wZ ["_law_number","_law_count","_law_ahead"] (ak nN):=⟨rfl,rfl,rfl,Z8,rfl,Z8,Z8⟩
theorem tP {f fB fC:EC}{fd fdB fdC:EH}(F:Fn K mg "_law_body" nN ["_law_number","_law_count","_law_ahead"] f fd)(Lb:Fn K mg "_law_bits" iX ["_law_number","_law_size"] fB fdB)(Co:Fn K mg "_law_copied" g8 ["_law_back","_law_signs"] fC fdC)(X:K28.Txt K mg)(hstr:mg "str"=none):FnOk P w K mg base CX0 3 f fd ["_law_number","_law_count","_law_ahead"] wa:=by
 have GB:=fM (P:=P) (w:=w) (base:=base) Lb X hstr;have GC:=qT (P:=P) (w:=w) (base:=base) Co Lb X hstr;refine F.F.ok scLBody λ EO A outer st H vs Q E hr h=>?_
 intro _;obtain⟨m,n,a,W,rfl,hn1,hn64,ha,hWb,hW64,hW192,k⟩:=h;have hu:=hr.units;have hr1:Room 1 _:=hr.mono Z9;refine⟨_,ad (ao (i:=3) scLBody.nd (ag aI (ag aQ (pv 0) ae) ae))
  (ad (ao (i:=4) scLBody.nd (ag aI (ag aF (ag aF (pv 3) ae) (ag aI (ag aQ (pv 0) ae) ae)) ae))
  (ad (aK (PW.pt (ft (ax (kG hu) (pv 2) (aD ac) (az _)) (fb (ax ek (ag aI (pv 0) ae) ae (az _)))))
   (ad (ao (i:=5) scLBody.nd (ag bE ae (ag aF ae (ag aI (ag aQ (pv 0) ae) (ag aQ (aw aq Z7 X.len As (aa (pv 2) ac)) ae)))))
   (ad (ao (i:=6) scLBody.nd (aC aL (aC aL (pv 2) (aA (ag aU (aw aq Z7 X.len As (aa (pv 2) ac)) (pv 5))) aY) aY (aA (pv 1))))
   (ah (ar (bK (aa ae (aa (pv 6) (aa (ai GC hr Z7 Co.m Co.F.kp Co.b .nil ap (aa (pv 5) (aa (pv 6) ac))) ac)))))))) ay)
  (ad (aK (PW.pt (ft (ax fh (pv 1) ae (az _)) (fb (ax bP (ag aI (pv 0) ae) ae (az _)))))
   (ad (tR (N:=["_law_j","_law_first"]) (js:=[none,some 3]) (cl:=[("_law_first",st.heap.objs.size+1)]) (g:=bM 0) (te:=wB) (i:=6) scLBody.nd rfl (Or.inl rfl) rfl
    ⟨rfl,Z8,Z8,Z7,λ x c h=>(by obtain⟨rfl,rfl⟩:=fz h;rfl),λ x hx=>?c1,rfl,λ i x j h1 h2=>?c2⟩
    (cO Z7 X.range (aa (pv 1) ac)) (λ fp s H=>aG (i:=0) zF) (λ fp s H=>ag aI (ag aF (pv 1) (ag bE ae (pv 0))) ae) Z7)
   (ah (ar (bK (aa ae (aa (pv 6) (aa (eL Dn Dy Dz kb aB (aa (kh (N:=["_law_sign"]) (g:=bM 0) rfl rfl Z8 Z8 Z8 (cy (pv 6)) (λ fp s H=>aG (i:=0) y1) (λ fp s H=>ai GB hr1 Z7 Lb.m Lb.F.kp Lb.b .nil ap (aa (pv 0) (aa ae ac)))) ac)) ac))))))) ay)
  (ad (ao (i:=7) scLBody.nd (ag aF ae (ag aI (ag aQ (pv 0) ae) (pv 1))))
  (ad (ao (i:=8) scLBody.nd (ag bg (ai GB hr1 Z7 Lb.m Lb.F.kp Lb.b .nil ap (aa (ag aU (pv 7) ae) (aa ae ac))) (ai GB hr1 Z7 Lb.m Lb.F.kp Lb.b .nil ap (aa (pv 3) (aa ae ac)))))
  (ad (aK (ax fh (pv 7) (pv 1) (az _)) (ah (ao (i:=8) scLBody.nd (ag bg (ag bg (pv 8) (ai GB hr1 Z7 Lb.m Lb.F.kp Lb.b .nil ap (aa (ag aU (ag aU (pv 1) (pv 7)) ae) (aa ae ac)))) (ai GB hr1 Z7 Lb.m Lb.F.kp Lb.b .nil ap (aa (pv 4) (aa ae ac)))))) ay)
  (ah (ar (bK (aa ae (aa (ag aJ (ag ke (aD (aa (pv 3) ac)) (pv 7)) (ag ke (aD (aa (pv 4) ac)) (ag aU (pv 1) (pv 7)))) (aa (pv 8) ac)))))))))))),?_⟩
 case c1=>
  rcases hx with hx|hx
  ·have m':(x,NameKind.cell)∈([(".0",.local),("_law_j",.local),("_law_first",.cell)]:List (Str×NameKind)):=AU hx;have e:x="_law_first":=by simpa using m'
   subst e;exact⟨_,rfl⟩
  ·have m':(x,NameKind.free)∈([(".0",.local),("_law_j",.local),("_law_first",.cell)]:List (Str×NameKind)):=AU hx;simp at m'
 case c2=>obtain⟨rfl,rfl⟩:=on h1 h2;exact⟨rfl,rfl,rfl,λ c h=>h⟩
 refine am λ _ g=>⟨_,rfl,_,_,rfl,rfl,⟨Z9,Z9⟩,_,_,rfl,rfl,(by show(0:Int)<256;decide),g _ _ ?_⟩
 clear g;obtain⟨fi,hfi,efi⟩:∃q:Nat,q<256/\((m:Nat):Int)/40%256=((q:Nat):Int):=⟨m/40%256,by omega,by omega⟩
 try dsimp only
 rw [efi];refine am λ _ g=>⟨_,rfl,_,_,rfl,rfl,_,rfl,_,_,rfl,rfl,⟨Z9,Z9⟩,_,_,rfl,rfl,(by show(0:Int)<255;decide),_,_,rfl,rfl,_,_,rfl,rfl,(by show(0:Int)<256;decide),g _ _ ?_⟩
 clear g;obtain⟨se,hse,ese⟩:∃q:Nat,q<256/\(((fi:Nat):Int)+1+((m:Nat):Int)/10240%255)%256=((q:Nat):Int):=⟨(fi+1+m/10240%255)%256,by omega,by omega⟩
 try dsimp only
 rw [ese];refine am λ R g=>?_
 refine(λ(J:∀H':Hp,Same H H'->R [some (vN m),some (vN n),some (.ref a),some (vN fi),some (vN se),none,none,none,none] H')=>?_) (λ H1 s1=>g _ _ ?_)
 ·clear g;refine⟨_,rfl,AZ _,λ le ne=>?_⟩;have s1:=aj (o:=.lst []) ne;have he:(upd H le (.lst [])) le=some (.lst []):=af;generalize upd H le (.lst [])=H1 at*;refine⟨a,le,W.map λ b=>((b:Nat):Int),[],rfl,rfl,by rw [<-Rf.mapI];exact SqL.of (s1 _ _ ha),SqL.of he,_,rfl,?_⟩;by_cases hW0:W=[]
  ·subst hW0;exact bq (bq (J _ s1))
  rw [AL λ z=>hW0 (List.map_eq_nil_iff.mp z)];refine bR ⟨_,rfl,_,_,rfl,rfl,(by show(0:Int)<4;decide),_,_,rfl,rfl,_,rfl,bi (λ _=>?_) (λ _=>J _ s1)⟩;have hWp:1≤W.length:=List.length_pos_iff.mpr hW0;have hq:1≤W.length/64:=by omega
  obtain⟨b,hb1,hb2,eb⟩:∃b:Nat,64≤b/\b≤W.length/\(64:Int)*(1+((m:Nat):Int)/16%((W.length:Int)/64))=((b:Nat):Int):=by
   have EQ:=AK (m/16) hq;refine⟨64*(1+m/16%(W.length/64)),by omega,by omega,?_⟩;rw [DR,Cm,AN,BI,BI];rfl
  refine am λ _ g=>⟨_,rfl,_,_,rfl,rfl,⟨Z9,Z9⟩,_,rfl,a,_,rfl,.inl (SqL.of (s1 _ _ ha)),_,_,rfl,rfl,⟨Z9,Z9⟩,_,_,rfl,rfl,?_,_,_,rfl,rfl,_,_,rfl,rfl,.inl ⟨Z9,Z9⟩,g _ _ ?_⟩
  ·show(0:Int)<((W.map vN).length:Int)/64;rw [z7];omega
  clear g
  try dsimp only
  rw [z7,eb];have es:((W.length:Nat):Int)-((b:Nat):Int)=((W.length-b:Nat):Int):=by omega
  refine am λ _ g=>⟨_,rfl,_,rfl,a,_,rfl,.inl (SqL.of (s1 _ _ ha)),_,rfl,_,_,rfl,rfl,_,rfl,a,_,rfl,SqL.of (s1 _ _ ha),λ l2 n2=>?_⟩
  try dsimp only
  try dsimp only at n2
  rw [z7,es,dB,<-BB];have s2:=aj (o:=.lst ((W.drop (W.length-b)).map vN)) n2;have h22:(upd H1 l2 (.lst ((W.drop (W.length-b)).map vN))) l2=some (.lst ((W.drop (W.length-b)).map vN)):=af;have s12:=s1.trans s2;generalize upd H1 l2 (.lst ((W.drop (W.length-b)).map vN))=H2 at*;refine⟨_,rfl,_,rfl,l2,_,rfl,SqL.of h22,λ l3 n3=>g _ _ ?_⟩;clear g;rw [dF,<-Bh];have s3:=aj (o:=.lst (((W.drop (W.length-b)).take n).map vN)) n3;have h33:(upd H2 l3 (.lst (((W.drop (W.length-b)).take n).map vN))) l3=some (.lst (((W.drop (W.length-b)).take n).map vN)):=af;have s13:=s12.trans s3;generalize upd H2 l3 (.lst (((W.drop (W.length-b)).take n).map vN))=H3 at*;have hTl:((W.drop (W.length-b)).take n).length=n:=by rw [Aj,Ax];omega
  have hTb:∀x∈(W.drop (W.length-b)).take n,x<256:=λ x hx=>hWb x (A0 (AG hx))
  have hTi:∀i<((W.drop (W.length-b)).take n).length,((W.drop (W.length-b)).take n)[i]?=W[W.length-b+i]?:=λ i hi=>by
   rw [hTl] at hi;rw [B1 hi,List.getElem?_drop]
  generalize (W.drop (W.length-b)).take n=T at*;refine⟨_,rfl,_,rfl,_,rfl,b,l3,T,rfl,h33,by omega,λ H4 s4=>⟨zl3,λ t nt=>?_⟩⟩;have s5:=aj (o:=.tup [V.int 2,.ref l3,.str (txt (bitsP (pB (cps b T ((T.length+17)/18)))))]) nt;refine k t l3 2 T _ _ ((s13.trans s4).trans s5) af (s5 _ _ (s4 _ _ h33)) ⟨by decide,hTl,hTb,vQ (by omega) (by omega),?_,λ R hR=>?_⟩
  ·rw [aS];have h1:=pP (cps b T ((T.length+17)/18));have h2:=oR b T ((T.length+17)/18);omega
  ·have:=qY (W:=W) (by omega) (by omega) hb2 (by omega) hTb hTi hR;rw [hTl] at this;exact this
 clear g;have ha1:=s1 _ _ ha;refine am λ R g=>?_
 refine(λ(J:R [some (vN m),some (vN n),some (.ref a),some (vN fi),some (vN se),none,none,none,none] H1)=>?_) (g _ _ ?_)
 ·clear g;refine⟨_,rfl,_,_,rfl,rfl,_,rfl,bi (λ h12=>⟨_,rfl,_,_,rfl,rfl,(by show(0:Int)<4;decide),rfl,_,rfl,bi (λ _=>?_) (λ _=>J)⟩) (λ _=>bq J)⟩;have h12:n<12:=by have:=Aq h12;omega
  refine am λ _ g=>⟨_,rfl,((n:Nat):Int),rfl,by omega,by omega,λ lt nlt=>?_⟩
  rw [Ay];refine gM (g:=bM 0) (te:=wB) (lo:=0) (l:=lt) (k:=n) (λ p ys σ H2=>∃(v0:Option V) (S:List Nat),σ=[v0,some (vN fi)]/\ys=S.map vN/\S.length=p/\(∀b∈S,b<256)/\H2 lt=some (.lst ys)/\Same H1 H2)
   ⟨none,[],rfl,rfl,rfl,(λ _ h=>nomatch h),af,aj nlt⟩ ?_ ?_ (λ x σ H A B h z=>h _ _ z) ?_
  ·rintro p ys σ H2 hp ⟨v0,S,rfl,rfl,hl,hb,h2,sm⟩;have e:(0:Int)+((p:Nat):Int)=((p:Nat):Int):=by omega
   rw [e];refine⟨_,rfl,_,rfl,_,_,rfl,rfl,.inl ⟨Z9,Z9⟩,_,_,rfl,rfl,_,_,rfl,rfl,(by show(0:Int)<256;decide),?_⟩
   try dsimp only
   rw [show(((fi:Nat):Int)+7*((p:Nat):Int))%256=(((fi+7*p)%256:Nat):Int) by omega];refine⟨h2,cz (by rw [z7];omega),_,S++[(fi+7*p)%256],rfl,by rw [At];rfl,by rw [z0,hl];rfl,λ x hx=>?_,af,λ d o e=>by rw [av (au e nlt)];exact sm _ _ e⟩;rcases Ar.mp hx with z|z
   ·exact hb _ z
   ·rw [AD.mp z];exact AK _ Z9
  rotate_left
  ·rintro σ H A B h ⟨v,e1,v2,e2,i,j,f1,f2,f3,i2,j2,f4,f5,i3,j3,f6,f7,f8,z⟩;exact⟨v,e1,v2,e2,i,j,f1,f2,f3,i2,j2,f4,f5,i3,j3,f6,f7,f8,h _ _ z⟩
  rintro ys σ H2 ⟨v0,T,rfl,rfl,hTl,hTb,h2,s2⟩;refine g _ _ ?_;clear g;refine⟨_,rfl,rfl,_,rfl,lt,rfl,⟨_,SqL.of h2⟩,λ lj nj=>?_⟩;refine kO (K:=K) (a:=lt) (l:=lj) (xs:=T.map vN) (n:=1) (λ i ys H4=>ys=(((T.take i).map λ s=>dig s 8).map txt).map V.str/\H4 lj=some (.lst ys)/\Same H2 H4) ⟨rfl,af,aj nj⟩ ?_ ?_ ?_ ?_ ?_
  ·rintro i ys H4 hi ⟨_,_,s4⟩;exact SqL.of (s4 _ _ h2)
  ·rintro i x ys σ H4 hx ⟨rfl,h4,s4⟩ hσ;rw [Au] at hx;obtain⟨s,hs,rfl⟩:=Bq.mp hx;obtain⟨v0,rfl⟩:∃v0,σ=[v0]:=by
    match σ,hσ with
    | [v0],_=>exact⟨v0,rfl⟩
   refine⟨_,rfl,s,8,rfl,by decide,λ H5 s5=>⟨s5 _ _ h4,cz (by rw [z7,z7,z7,Aj];omega),rfl,?_,af,λ c o e=>by rw [av (au e nj)];exact s5 _ _ (s4 _ _ e)⟩⟩;rw [A9,hs,At,At,At];rfl
  ·rintro ys H4 ⟨rfl,h4,s4⟩;rw [z7,Bx] at h4;have e4:∀L:List Nat,(L.map λ s=>dig s 8).flatten=bitsP (L.map λ s=>(s,8)):=λ L=>by
    induction L with
    |nil=>rfl
    |cons x L ih=>rw [AJ,A3,ih,AJ,bF]
   have fl:((T.map λ s=>dig s 8).flatten).length=8*n:=by rw [e4,aS,<-hTl];exact iR T
   refine⟨_,lj,_,rfl,rfl,h4,lW (by omega) (by rw [z7];omega),?_⟩;rw [jD];refine⟨zl3,λ t nt=>?_⟩;have s5:=aj (o:=.tup [V.int 0,.ref lt,.str (txt (T.map λ s=>dig s 8).flatten)]) nt;refine k t lt 0 T _ _ ((((s1.trans s2).trans s4)).trans s5) af (s5 _ _ (s4 _ _ h2)) ⟨by decide,hTl,hTb,by omega,by omega,λ R hR=>?_⟩;rw [e4] at hR;have:=yq (W:=W) hR hTb;rw [hTl] at this;exact this
  ·exact λ x σ H A B h z=>h _ _ z
  ·rintro σ H A B hAB ⟨v,e1,n',s',e2,e3,z⟩;exact⟨v,e1,n',s',e2,e3,λ H' s'=>hAB _ _ (z H' s')⟩
 clear g;obtain⟨cu,hcu1,hcun,ecu⟩:∃q:Nat,1≤q/\q≤n/\(1:Int)+((m:Nat):Int)/160%((n:Nat):Int)=((q:Nat):Int):=by
  have EQ:=AK (m/160) hn1;refine⟨1+m/160%n,by omega,by omega,?_⟩;rw [Cm,AN,BI];rfl
 refine am λ _ g=>⟨_,rfl,_,_,rfl,rfl,⟨Z9,Z9⟩,_,rfl,_,_,rfl,rfl,(by show(0:Int)<((n:Nat):Int);omega),_,_,rfl,rfl,g _ _ ?_⟩
 clear g
 try dsimp only
 rw [ecu];have e1:((cu:Nat):Int)-1=((cu-1:Nat):Int):=by omega
 refine am λ _ g=>⟨_,rfl,_,_,rfl,rfl,?_⟩
 try dsimp only
 rw [e1];refine⟨cu-1,6,rfl,by decide,λ H2 s2=>⟨_,rfl,fi,8,rfl,by decide,λ H3 s3=>⟨_,_,rfl,rfl,bh (by rw [aE,aE,aH,aH];decide),g _ _ ?_⟩⟩⟩;clear g;rw [L2.txt_append];have s13:=(s1.trans s2).trans s3;refine am λ R g=>?_
 refine(λ(J:∀(bs:List Bool) (H4:Hp),Same H H4->(1≤bs.length/\bs.length≤512/\∀R,RowOf (num bs) bs.length R->TxK R W 1 n (some (List.replicate cu fi++List.replicate (n-cu) se)))->R [some (vN m),some (vN n),some (.ref a),some (vN fi),some (vN se),none,none,some (vN cu),some (.str (txt bs))] H4)=>?_) (λ bs H4 s4 hbs=>g _ _ ?_)
 ·clear g;refine⟨_,rfl,_,rfl,_,_,rfl,rfl,_,rfl,bi (λ h=>?_) (λ h=>?_)⟩
  ·have EQ:cu<n:=by have:=Aq h;omega
   have e2:((n:Nat):Int)-((cu:Nat):Int)-1=((n-cu-1:Nat):Int):=by omega
   refine⟨_,rfl,_,rfl,_,rfl,_,_,rfl,rfl,_,_,rfl,rfl,?_⟩
   try dsimp only
   rw [e2];refine⟨n-cu-1,6,rfl,by decide,λ H4 s4=>⟨_,_,rfl,rfl,bh (by rw [aE,aE,z0,aH,aH,aH];decide),?_⟩⟩;rw [L2.txt_append];refine⟨_,rfl,se,8,rfl,by decide,λ H5 s5=>⟨_,_,rfl,rfl,bh (by rw [aE,aE,z0,z0,aH,aH,aH,aH];decide),?_⟩⟩;rw [L2.txt_append];have eb:dig (cu-1) 6++dig fi 8++dig (n-cu-1) 6++dig se 8=bitsP (pR [(fi,cu),(se,n-cu)]):=by
    rw [eS,eS];show _=dig (cu-1) 6++(dig fi 8++(dig (n-cu-1) 6++(dig se 8++[])));rw [AQ,Ab,Ab]
   refine J _ _ ((s13.trans s4).trans s5) ⟨by rw [eb,aS,fX];exact(show 1≤28 by decide),by rw [eb,aS,fX];exact(show 28≤512 by decide),λ R hR=>?_⟩;rw [eb] at hR;have hex:exp [(fi,cu),(se,n-cu)]=List.replicate cu fi++List.replicate (n-cu) se:=by rw [eG,eG];show _++(_++[])=_;rw [AQ]
   have:=tD (W:=W) hR (λ q hq=>by
    simp [pR] at hq;rcases hq with rfl|rfl|rfl|rfl
    ·show cu-1<2^6;omega
    ·exact hfi
    ·show n-cu-1<2^6;omega
    ·exact hse) (λ q hq=>by
    simp at hq;rcases hq with rfl|rfl
    ·exact hcu1
    ·show 1≤n-cu;omega)
   rw [hex] at this;have hl:(List.replicate cu fi++List.replicate (n-cu) se).length=n:=by rw [z0,AR,AR];omega
   rw [hl] at this;exact this
  ·have hge:cu=n:=by
    rcases A4 cu n with q|q
    ·exact absurd (Ai (by omega)) h
    ·omega
   have eb:dig (cu-1) 6++dig fi 8=bitsP (pR [(fi,cu)]):=by
    rw [eS];show _=dig (cu-1) 6++(dig fi 8++[]);rw [AQ]
   refine J _ _ s13 ⟨by rw [eb,aS,fX];exact(show 1≤14 by decide),by rw [eb,aS,fX];exact(show 14≤512 by decide),λ R hR=>?_⟩;rw [eb] at hR;have hex:exp [(fi,cu)]=List.replicate cu fi++List.replicate (n-cu) se:=by rw [eG,hge,D9];rfl
   have:=tD (W:=W) hR (λ q hq=>by
    simp [pR] at hq;rcases hq with rfl|rfl
    ·show cu-1<2^6;omega
    ·exact hfi) (λ q hq=>by
    simp at hq;rw [hq];exact hcu1)
   rw [hex] at this;have hl:(List.replicate cu fi++List.replicate (n-cu) se).length=n:=by rw [z0,AR,AR];omega
   rw [hl] at this;exact this
 clear g;refine⟨_,rfl,zl1,λ l5 n5=>?_⟩;have s5:=aj (o:=.lst [vN fi]) n5;have h55:(upd H4 l5 (.lst [vN fi])) l5=some (.lst [vN fi]):=af;have s45:=s4.trans s5;generalize upd H4 l5 (.lst [vN fi])=H5 at*;refine⟨_,rfl,l5,_,_,rfl,rfl,h55,by omega,by omega,ck (by show 1*_≤2000;omega),λ l6 n6=>?_⟩;rw [Ay,iJ];have s6:=aj (o:=.lst ((List.replicate cu fi).map vN)) n6;have h66:(upd H5 l6 (.lst ((List.replicate cu fi).map vN))) l6=some (.lst ((List.replicate cu fi).map vN)):=af;have s46:=s45.trans s6;generalize upd H5 l6 (.lst ((List.replicate cu fi).map vN))=H6 at*;refine⟨_,rfl,zl1,λ l7 n7=>?_⟩;have s7:=aj (o:=.lst [vN se]) n7;have h77:(upd H6 l7 (.lst [vN se])) l7=some (.lst [vN se]):=af;have s47:=s46.trans s7;have h67:=s7 _ _ h66;generalize upd H6 l7 (.lst [vN se])=H7 at*;have e3:((n:Nat):Int)-((cu:Nat):Int)=((n-cu:Nat):Int):=by omega
 refine⟨_,rfl,_,rfl,_,_,rfl,rfl,?_⟩
 try dsimp only
 rw [e3];refine⟨l7,_,_,rfl,rfl,h77,by omega,by omega,ck (by show 1*_≤2000;omega),λ l8 n8=>?_⟩;rw [Ay,iJ];have s8:=aj (o:=.lst ((List.replicate (n-cu) se).map vN)) n8;have h88:(upd H7 l8 (.lst ((List.replicate (n-cu) se).map vN))) l8=some (.lst ((List.replicate (n-cu) se).map vN)):=af;have s48:=s47.trans s8;have h68:=s8 _ _ h67;generalize upd H7 l8 (.lst ((List.replicate (n-cu) se).map vN))=H8 at*;refine⟨l6,l8,_,_,rfl,rfl,h68,h88,ck (by simp;omega),λ l9 n9=>⟨_,rfl,zl3,λ t nt=>?_⟩⟩;have s9:=aj (o:=.lst ((List.replicate cu fi).map vN++(List.replicate (n-cu) se).map vN)) n9;have h99:(upd H8 l9 (.lst ((List.replicate cu fi).map vN++(List.replicate (n-cu) se).map vN))) l9=some (.lst ((List.replicate cu fi++List.replicate (n-cu) se).map vN)):=by rw [af,At]
 have sT:=aj (o:=.tup [V.int 1,.ref l9,.str (txt bs)]) nt;refine k t l9 1 _ bs _ ((s48.trans s9).trans sT) af (sT _ _ h99) ⟨by decide,by rw [z0,AR,AR];omega,λ x hx=>?_,hbs.1,hbs.2.1,hbs.2.2⟩;rcases Ar.mp hx with z|z
 ·rw [List.eq_of_mem_replicate z];exact hfi
 ·rw [List.eq_of_mem_replicate z];exact hse
end
end K28.Ck
set_option maxHeartbeats 4000000
namespace K28.Ck
open PySem L2 QQ W17 W16 BP
seal PE PA PS PSs PT PW PG PI
variable {H H':Hp}{t:EC}
def PlAt (H:Hp):List EC->Nat->List Blk->Prop
 | [],_,[]=>True
 |t::ts,p,x::xs=>H t=some (.tup [vN p,vN (p+(bk x).length)])/\PlAt H ts (p+(bk x).length) xs
 |_,_,_=>False
theorem PlAt.same (s:Same H H'):∀{ts:List EC} {p:Nat} {xs:List Blk},PlAt H ts p xs->PlAt H' ts p xs
 | [],_,[],_=>trivial
 | [],_,_::_,h=>h.elim
 |_::_,_,[],h=>h.elim
 |t::ts,p,x::xs,⟨h1,r⟩=>⟨s _ _ h1,PlAt.same s r⟩
theorem PlAt.keep {l:EC}(hl:∃xs,H l=some (.lst xs))(s:∀c o,H c=some o->c≠l->H' c=some o):∀{ts:List EC} {p:Nat} {xs:List Blk},PlAt H ts p xs->PlAt H' ts p xs
 | [],_,[],_=>trivial
 | [],_,_::_,h=>h.elim
 |_::_,_,[],h=>h.elim
 |t::ts,p,x::xs,⟨h1,r⟩=>by
  obtain⟨ys,hl'⟩:=hl;exact⟨s _ _ h1 (λ z=>by rw [z,hl'] at h1;cases h1),PlAt.keep ⟨ys,hl'⟩ s r⟩
theorem PlAt.snoc {x:Blk}:∀{ts:List EC} {p:Nat} {xs:List Blk},PlAt H ts p xs->H t=some (.tup [vN (p+(xs.map bk).flatten.length),vN (p+(xs.map bk).flatten.length+(bk x).length)])->PlAt H (ts++[t]) p (xs++[x])
 | [],_,[],_,h=>⟨h,trivial⟩
 | [],_,_::_,h,_=>h.elim
 |_::_,_,[],h,_=>h.elim
 |_::_,p,y::ys,⟨h1,r⟩,h=>⟨h1,PlAt.snoc r (by
   rw [AJ,A3,z0,<-BA] at h;exact h)⟩
theorem PlAt.len:∀{ts:List EC} {p:Nat} {xs:List Blk},PlAt H ts p xs->ts.length=xs.length
 | [],_,[],_=>rfl
 | [],_,_::_,h=>h.elim
 |_::_,_,[],h=>h.elim
 |_::_,_,_::_,⟨_,r⟩=>AB (·+1) (PlAt.len r)
theorem PlAt.get:∀{i:Nat} {ts:List EC} {p:Nat} {xs:List Blk},PlAt H ts p xs->ts[i]?=some t->∃x,xs[i]?=some x/\H t=some (.tup [vN (p+((xs.take i).map bk).flatten.length),vN (p+((xs.take i).map bk).flatten.length+(bk x).length)])
 |0,t::ts,p,x::xs,⟨h1,r⟩,e=>by cases e;exact⟨x,rfl,h1⟩
 |i+1,t::ts,p,x::xs,⟨_,r⟩,e=>by
  obtain⟨y,e1,e2⟩:=PlAt.get (i:=i) r e;refine⟨y,e1,?_⟩;rw [List.take_succ_cons,AJ,A3,z0,<-BA];exact e2
 |_,[],_,[],_,e=>by cases e
 |_,[],_,_::_,h,_=>h.elim
 |_,_::_,_,[],h,_=>h.elim
def rowB (xs:List Blk)(c:Nat):List Nat:=mk3++((xs.map bk).flatten++tl (txtB xs).length c)
theorem mX {x:Blk}{W:List Nat}(g:Gx x W):∀b∈bk x,b<256:=by
 have hr:=g.r64;have ht:=g.t64;have ht1:=g.t1;have hu:=g.u;have ha:64*x.1+x.2.1.length-1<256:=by omega
 have hX:∀b∈hrow (64*x.1+x.2.1.length-1) x.2.2.length++x.2.2,b<256:=λ b hb=>by
  rcases Ar.mp hb with z|z
  ·have hc:chk 8 29 [64*x.1+x.2.1.length-1,x.2.2.length]<256:=bJ wp8 (by intro y hy;simp at hy;omega);have z:b=64*x.1+x.2.1.length-1\/b=x.2.2.length\/b=chk 8 29 [64*x.1+x.2.1.length-1,x.2.2.length]:=by simpa [hrow] using z
   rcases z with rfl|rfl|rfl
   ·exact ha
   ·omega
   ·exact hc
  ·exact g.br b z
 intro b hb;rcases Ar.mp hb with z|z
 ·exact hX b z
 ·exact bH (bJ eF hX) b z
theorem gE {x:Blk}:(bk x).length=x.2.2.length+5:=by unfold bk;rw [di,z0];show 3+_+2=_;omega
theorem hZ:∀{xs:List Blk},(∀x∈xs,x.2.2.length≤64)->(xs.map bk).flatten.length≤69*xs.length
 | [],_=>Al _
 |x::xs,h=>by
  have h1:=h x A6;have h2:=hZ (xs:=xs) λ y hy=>h y (AC _ hy)
  rw [AJ,A3,z0,gE,Az];omega
theorem iA {n:Nat}(h:n<65536):four n=[0,0]++two n:=by
 unfold four;rw [show n/65536%65536=0 by omega,show n%65536=n by omega];rfl
structure Lw (K:Frag)(mg:Str->Option ED)(C:EC):Prop where
 Y:Cks K mg C
 str:mg "str"=none
 cell:∃f fd,Fn K mg "_law_cell_at" kE ["_law_script","_law_k"] f fd
 mixed:∃f fd,Fn K mg "_law_mixed" mF ["_law_cell","_law_k"] f fd
 bits:∃f fd,Fn K mg "_law_bits" iX ["_law_number","_law_size"] f fd
 bytes:∃f fd,Fn K mg "_law_bytes" kI ["_law_bits_here"] f fd
 two:∃f fd,Fn K mg "_law_two" tT ["_law_number"] f fd
 copied:∃f fd,Fn K mg "_law_copied" g8 ["_law_back","_law_signs"] f fd
 body:∃f fd,Fn K mg "_law_body" nN ["_law_number","_law_count","_law_ahead"] f fd
section
variable {C:EC}
def xy (K:Frag):Sp:=λ vs H Q _=>∃(a:EC) (ns:List Int),vs=[.ref a]/\SqL K H a (ns.map V.int)/\∀(t lr lt lp:EC) (ts:List EC) (xs:List Blk) (c:Nat) (H':Hp),Same H H'->H' t=some (.tup [.ref lr,.ref lt,.ref lp])->H' lr=some (.lst ((rowB xs c).map vN))->H' lt=some (.lst ((txtB xs).map vN))->H' lp=some (.lst (ts.map V.ref))->PlAt H' ts 3 xs->Gd xs->xs.length≤9->c<65536->Q (.ref t) H'
abbrev zr:List Str:=["_law_script","_law_row","_law_text","_law_places","_law_many","_law_k","_law_number","_law_count","_law_ahead","_law_way","_law_signs","_law_bits_here","_law_body_here","_law_head","_law_block","_law_tail"]
theorem scBale:FnScope zr ["_law_script"] (ak rh):=⟨rfl,rfl,rfl,Z8,rfl,Z8,Z8⟩
theorem vY {f:EC}{fd:EH}(F:Fn K mg "_law_bale" rh ["_law_script"] f fd)(Z:Lw K mg C):FnOk P w K mg base CX0 7 f fd ["_law_script"] (xy K):=by
 have X:=Z.Y.Z.X.R.X;obtain⟨_,_,Ce⟩:=Z.cell;obtain⟨_,_,Mi⟩:=Z.mixed;obtain⟨_,_,Lb⟩:=Z.bits;obtain⟨_,_,By⟩:=Z.bytes;obtain⟨_,_,Tw⟩:=Z.two;obtain⟨_,_,Cp⟩:=Z.copied;obtain⟨_,_,Bo⟩:=Z.body;obtain⟨_,_,Co⟩:=Z.Y.checkof;obtain⟨_,FC⟩:=Co.F;obtain⟨t16,B16⟩:=Co.d;have GC:=oQ (P:=P) (w:=w) (base:=base) Ce X;have GM:=mn (P:=P) (w:=w) (base:=base) Mi;have GY:=gS (P:=P) (w:=w) (base:=base) By X;have GW:=hU (P:=P) (w:=w) (base:=base) Tw;have GB:=tP (P:=P) (w:=w) (base:=base) Bo Lb Cp X Z.str;have GK:=cn (P:=P) (w:=w) (mg:=mg) (base:=base) FC Z.Y.Z;refine F.F.ok scBale λ EO A outer st H vs Q E hr h=>?_
 intro _;obtain⟨a,ns,rfl,hS,k⟩:=h;have hr1:Room 1 _:=hr.mono Z9;have hr3:Room 3 _:=hr.mono Z9;refine⟨_,ad (ao (i:=1) scBale.nd (aD (aa ae (aa ae (aa ae ac)))))
   (ad (ao (i:=2) scBale.nd (aD ac))
   (ad (ao (i:=3) scBale.nd (aD ac))
   (ad (ao (i:=4) scBale.nd (ag aI (ai GC hr1 Z7 Ce.m Ce.F.kp Ce.b .nil ap (aa (pv 0) (aa ae ac))) ae))
   (ad (cr Bj rfl (cO Z7 X.range (aa (pv 4) ac)) (aG (i:=5) scBale.nd) (ad (ao (i:=6) scBale.nd (ai GM hr1 Z7 Mi.m Mi.F.kp Mi.b .nil ap (aa (ai GC hr1 Z7 Ce.m Ce.F.kp Ce.b .nil ap (aa (pv 0) (aa (ag aF ae (pv 5)) ac))) (aa (pv 5) ac))))
   (ad (ao (i:=7) scBale.nd ae)
   (ad (aK (ax bP (pv 5) (ag aU (pv 4) ae) (az _)) (ah (ao (i:=7) scBale.nd (ag aF ae (ag aI (ag aQ (ai GC hr1 Z7 Ce.m Ce.F.kp Ce.b .nil ap (aa (pv 0) (aa ae ac))) ae) ae)))) ay)
   (ad (ao (i:=8) scBale.nd (aC aL (pv 2) (aA (ag bE ae (ag aQ (pv 5) ae))) aY))
   (ad (cV (ai GB hr3 Z7 Bo.m Bo.F.kp Bo.b .nil ap (aa (pv 6) (aa (pv 7) (aa (pv 8) ac)))) (cb rfl (aM (aG (i:=9) scBale.nd) (aM (aG (i:=10) scBale.nd) (aM (aG (i:=11) scBale.nd) bL)))))
   (ad (ao (i:=12) scBale.nd (ai GY hr1 Z7 By.m By.F.kp By.b .nil ap (aa (pv 11) ac)))
   (ad (ao (i:=13) scBale.nd (aD (aa (ag aU (ag aF (ag bE ae (pv 9)) (pv 7)) ae) (aa (aw aq Z7 X.len As (aa (pv 12) ac)) ac))))
   (ad (ao (i:=14) scBale.nd (ag aJ (ag aJ (pv 13) (aD (aa (ai GK hr Z7 Co.m Co.kp Co.b .nil ap (aa (pv 13) (aa ae ac))) ac))) (pv 12)))
   (ad (bf (eL A5 BO B2 cv (pv 3) (aa (bK (aa (aw aq Z7 X.len As (aa (pv 1) ac)) (aa (ag aF (ag aF (aw aq Z7 X.len As (aa (pv 1) ac)) (aw aq Z7 X.len As (aa (pv 14) ac))) ae) ac))) ac)))
   (ad (ao (i:=1) scBale.nd (ag aJ (ag aJ (pv 1) (pv 14)) (ai GW hr1 Z7 Tw.m Tw.F.kp Tw.b .nil ap (aa (ai GK hr Z7 Co.m Co.kp B16 (.cons (a:=V.int 16) ⟨_,rfl⟩ .nil) ap (aa (pv 14) ac)) ac))))
   (ah (ao (i:=2) scBale.nd (ag aJ (pv 2) (pv 10)))))))))))))))
   (ad (ao (i:=15) scBale.nd (ag aJ (ag aJ (aD (aa ae (aa ae (aa (ai GK hr Z7 Co.m Co.kp Co.b .nil ap (aa (aD (aa ae (aa ae ac))) (aa ae ac))) (aa ae (aa ae ac)))))) (ai GW hr1 Z7 Tw.m Tw.F.kp Tw.b .nil ap (aa (aw aq Z7 X.len As (aa (pv 2) ac)) ac))) (ai GW hr1 Z7 Tw.m Tw.F.kp Tw.b .nil ap (aa (ag aI (ai GM hr1 Z7 Mi.m Mi.F.kp Mi.b .nil ap (aa (pv 4) (aa ae ac))) ae) ac))))
   (ah (ar (bK (aa (ag aJ (ag aJ (pv 1) (pv 15)) (ai GW hr1 Z7 Tw.m Tw.F.kp Tw.b .nil ap (aa (ai GK hr Z7 Co.m Co.kp B16 (.cons (a:=V.int 16) ⟨_,rfl⟩ .nil) ap (aa (pv 15) ac)) ac))) (aa (pv 2) (aa (pv 3) ac))))))))))),?_⟩
 have sq:∀H',Same H H'->SqL K H' a (ns.map V.int):=λ H' s=>by
  rcases hS with(e|⟨o,e⟩)|h
  ·exact .inl (.inl (s _ _ e))
  ·exact .inl (.inr ⟨o,s _ _ e⟩)
  ·exact .inr h
 refine am λ _ g=>⟨zl3,λ lr0 n1=>g _ _ ?_⟩
 clear g;have s1:=aj (o:=.lst [.int 184,.int 66,.int 1]) n1;have hr1':(upd H lr0 (.lst [.int 184,.int 66,.int 1])) lr0=some (.lst (mk3.map vN)):=af;generalize upd H lr0 (.lst [.int 184,.int 66,.int 1])=H1 at*;refine am λ _ g=>⟨AZ _,λ lt0 n2=>g _ _ ?_⟩
 clear g;have s2:=aj (o:=.lst []) n2;have ht2:(upd H1 lt0 (.lst [])) lt0=some (.lst []):=af;have hr2:=s2 _ _ hr1';have s12:=s1.trans s2;generalize upd H1 lt0 (.lst [])=H2 at*;refine am λ _ g=>⟨AZ _,λ lp n3=>g _ _ ?_⟩
 clear g;have nlp:H lp=none:=none_of s12 n3;have nrp0:lr0≠lp:=au hr2 n3;have ntp0:lt0≠lp:=au ht2 n3;have s3:=aj (o:=.lst []) n3;have hp3:(upd H2 lp (.lst [])) lp=some (.lst []):=af;have hr3':=s3 _ _ hr2;have ht3:=s3 _ _ ht2;have s13:=s12.trans s3;generalize upd H2 lp (.lst [])=H3 at*;clear hr1' hr2 ht2 s1 s2 s3 n1 n2 n3 s12;refine am λ _ g=>⟨_,rfl,a,ns,0,rfl,sq _ s13,_,_,rfl,rfl,(by show(0:Int)<10;decide),g _ _ ?_⟩
 clear g;obtain⟨mm,hmm,emm⟩:∃q:Nat,q≤9/\ns.getD 0 0%10=((q:Nat):Int):=⟨(ns.getD 0 0%10).toNat,by omega,by omega⟩
 try dsimp only
 rw [emm];refine am λ R g=>⟨_,rfl,((mm:Nat):Int),rfl,by omega,by omega,?_⟩
 rw [Ay];refine gu (D:=⟨_,_,λ _ _=>False,λ _ _=>False⟩) (lo:=0) (n:=mm) (λ i σ H4=>∃(lr lt:EC) (ts:List EC) (xs:List Blk) (v5 v6 v7 v8 v9 v10 v11 v12 v13 v14:Option V),σ=[some (.ref a),some (.ref lr),some (.ref lt),some (.ref lp),some (vN mm),v5,v6,v7,v8,v9,v10,v11,v12,v13,v14,none]/\lr≠lp/\lt≠lp/\xs.length=i/\Gd xs/\(i<mm->∀y∈xs,y.2.1.length=64)/\H4 lr=some (.lst ((mk3++(xs.map bk).flatten).map vN))/\H4 lt=some (.lst ((txtB xs).map vN))/\H4 lp=some (.lst (ts.map V.ref))/\PlAt H4 ts 3 xs/\Same H H4)
  ⟨lr0,lt0,[],[],none,none,none,none,none,none,none,none,none,none,rfl,nrp0,ntp0,rfl,.nil,(λ _ _ z=>nomatch z),hr3',ht3,hp3,trivial,s13⟩ ?_ ?_
 ·clear g;rintro i σ H4 hi ⟨lr,lt,ts,xs,v5,v6,v7,v8,v9,v10,v11,v12,v13,v14,rfl,nrl,ntl,hxi,hg,h64,hr4,ht4,hp4,hpl,s4⟩;have h64:=h64 hi;have e0:(0:Int)+((i:Nat):Int)=((i:Nat):Int):=by omega
  have e4:(4:Int)+((i:Nat):Int)=((4+i:Nat):Int):=by omega
  rw [e0];refine am λ _ g=>⟨_,rfl,_,rfl,_,_,rfl,rfl,?_⟩
  try dsimp only
  rw [e4];refine⟨a,ns,4+i,rfl,sq _ s4,_,rfl,_,_,rfl,by omega,by omega,g _ _ ?_⟩;clear g;generalize mixN (ns.getD (4+i) 0) ((i:Nat):Int)=nu;refine am λ _ g=>g _ _ ?_
  clear g;refine am λ R g=>?_
  refine(λ(J:∀n:Nat,1≤n->n≤64->(n=64\/i+1=mm)->R [some (.ref a),some (.ref lr),some (.ref lt),some (.ref lp),some (vN mm),some (vN i),some (vN nu),some (vN n),v8,v9,v10,v11,v12,v13,v14,none] H4)=>?_) (λ n hn1 hn64 hlast=>g _ _ ?_)
  ·clear g;refine⟨_,rfl,_,rfl,_,_,rfl,rfl,rfl,_,rfl,bi (λ h=>?_) (λ h=>J 64 (by decide) (by decide) (.inl rfl))⟩;have h:((i:Nat):Int)=((mm:Nat):Int)-1:=V.int.inj (Aq h);obtain⟨q,hq,eq⟩:∃q:Nat,q<64/\ns.getD 0 0/10%64=((q:Nat):Int):=⟨(ns.getD 0 0/10%64).toNat,by omega,by omega⟩;refine⟨_,rfl,a,ns,0,rfl,sq _ s4,_,_,rfl,rfl,⟨Z9,Z9⟩,_,_,rfl,rfl,(by show(0:Int)<64;decide),_,_,rfl,rfl,?_⟩
   try dsimp only
   rw [eq,show(1:Int)+((q:Nat):Int)=((1+q:Nat):Int) by omega];exact J (1+q) (by omega) (by omega) (.inr (by omega))
  clear g;have ltx:(txtB xs).length=64*i:=by
   rw [jR];have:∀ys:List Blk,(∀y∈ys,y.2.1.length=64)->tot (ys.map hdB)=64*ys.length:=λ ys=>by
    induction ys with
    |nil=>intro _;rfl
    |cons y ys ih=>
     intro h;rw [AJ,dt,ih λ z hz=>h z (AC _ hz),Az];show y.2.1.length+_=_;rw [h y A6];omega
   rw [this xs h64,hxi]
  have ew:(256:Int)*(((i:Nat):Int)/4)=((256*(i/4):Nat):Int):=by omega
  refine am λ _ g=>⟨_,rfl,_,rfl,_,_,rfl,rfl,⟨Z9,Z9⟩,_,_,rfl,rfl,.inl ⟨Z9,Z9⟩,_,rfl,lt,_,rfl,SqL.of ht4,λ lw nw=>g _ _ ?_⟩
  clear g
  try dsimp only
  try dsimp only at nw
  rw [ew,dB,<-BB];have s5:=aj (o:=.lst (((txtB xs).drop (256*(i/4))).map vN)) nw;have hw5:(upd H4 lw (.lst (((txtB xs).drop (256*(i/4))).map vN))) lw=some (.lst (((txtB xs).drop (256*(i/4))).map vN)):=af;have s45:=s4.trans s5;have hr5:=s5 _ _ hr4;have ht5:=s5 _ _ ht4;have hp5:=s5 _ _ hp4;have hpl5:=hpl.same s5;generalize upd H4 lw (.lst (((txtB xs).drop (256*(i/4))).map vN))=H5 at*;refine am λ _ g=>⟨_,rfl,_,rfl,_,rfl,nu,n,lw,_,rfl,hn1,hn64,hw5,λ b hb=>hg.byt b (A0 hb),by rw [Ax,ltx];omega,by rw [Ax,ltx];omega,λ t l u T bs H6 s6 ht6 hl6 bod=>⟨t,_,rfl,SqT.of ht6,rfl,_,_,rfl,_,_,rfl,_,_,rfl,rfl,g _ _ ?_⟩⟩
  clear g;have s46:=s45.trans s6;refine am λ _ g=>⟨_,rfl,bs,rfl,by have:=bod.b512;omega,λ lb R' H7 nb7 hR' hb7 s7=>g _ _ ?_⟩
  clear g;have s47:=s46.trans s7;have hRl:=hR'.len;have hb1:=bod.b1;have hb512:=bod.b512;have hR1:1≤R'.length:=by omega
  have hR64:R'.length≤64:=by omega
  have hu4:=bod.u4;have hgx:Gx (u,T,R') ((txtB xs).drop (256*(xs.length/4))):=⟨hu4,by show 1≤T.length;rw [bod.len];exact hn1,by show T.length≤64;rw [bod.len];exact hn64,hR1,hR64,bod.byt,hR'.byt,by
   show TxK R' _ u T.length (some T);rw [bod.len,hxi];exact bod.tx R' hR'⟩
  have hgs:Gd (xs++[(u,T,R')]):=hg.snoc h64 hgx;have ea:(64:Int)*((u:Nat):Int)+((n:Nat):Int)-1=((64*u+n-1:Nat):Int):=by omega
  refine am λ _ g=>⟨_,rfl,_,_,rfl,rfl,.inl ⟨Z9,Z9⟩,_,rfl,_,_,rfl,rfl,_,_,rfl,rfl,_,rfl,lb,_,rfl,.inl (SqL.of hb7),zl2,λ lh nh=>g _ _ ?_⟩
  clear g
  try dsimp only
  try dsimp only at nh
  rw [ea,z7];have s8:=aj (o:=.lst ([64*u+n-1,R'.length].map vN)) nh;have hh8:(upd H7 lh (.lst ([64*u+n-1,R'.length].map vN))) lh=some (.lst ([64*u+n-1,R'.length].map vN)):=af;have s48:=s47.trans s8;have hb8:=s8 _ _ hb7;have hl8:=s8 _ _ (s7 _ _ hl6);have sX:Same H5 (upd H7 lh (.lst ([64*u+n-1,R'.length].map vN))):=(s6.trans s7).trans s8;have hr8:=sX _ _ hr5;have ht8:=sX _ _ ht5;have hp8:=sX _ _ hp5;have hpl8:=hpl5.same sX;change rN _ _ _ _ (upd H7 lh (.lst ([64*u+n-1,R'.length].map vN)));generalize upd H7 lh (.lst ([64*u+n-1,R'.length].map vN))=H8 at*;clear hr5 ht5 hp5 hpl5 hr4 ht4 hp4 hpl s5 s6 s7 s8 sX hw5 hb7 hl6 ht6 s45 s46 s47 s4;have hby2:∀z∈ [64*u+n-1,R'.length],z<256:=λ z hz=>by simp at hz;omega
  refine am λ _ g=>⟨_,rfl,_,rfl,lh,8,29,_,rfl,wp8,hh8,hby2,λ H9 s9=>⟨zl1,λ lc nc=>?_⟩⟩
  have s10:=aj (o:=.lst [vN (chk 8 29 [64*u+n-1,R'.length])]) nc;have hc10:(upd H9 lc (.lst [vN (chk 8 29 [64*u+n-1,R'.length])])) lc=some (.lst [vN (chk 8 29 [64*u+n-1,R'.length])]):=af;have s8a:=s9.trans s10;generalize upd H9 lc (.lst [vN (chk 8 29 [64*u+n-1,R'.length])])=H10 at*;refine⟨lh,lc,_,_,rfl,rfl,s8a _ _ hh8,hc10,(by show 2+1≤sizeLine;decide),λ ld nd=>?_⟩;have s11:=aj (o:=.lst ([64*u+n-1,R'.length].map vN++[vN (chk 8 29 [64*u+n-1,R'.length])])) nd;have hd11:(upd H10 ld (.lst ([64*u+n-1,R'.length].map vN++[vN (chk 8 29 [64*u+n-1,R'.length])]))) ld=some (.lst ((hrow (64*u+n-1) R'.length).map vN)):=af;have s8b:=s8a.trans s11;generalize upd H10 ld (.lst ([64*u+n-1,R'.length].map vN++[vN (chk 8 29 [64*u+n-1,R'.length])]))=H11 at*;refine⟨_,rfl,ld,lb,_,_,rfl,rfl,hd11,s8b _ _ hb8,ck (by rw [z7,z7];show 3+_≤2000;omega),λ lk nk=>g _ _ ?_⟩;clear g;rw [<-At];have s12:=aj (o:=.lst ((hrow (64*u+n-1) R'.length++R').map vN)) nk;have hk12:(upd H11 lk (.lst ((hrow (64*u+n-1) R'.length++R').map vN))) lk=some (.lst ((hrow (64*u+n-1) R'.length++R').map vN)):=af;have s8c:=s8b.trans s12;generalize upd H11 lk (.lst ((hrow (64*u+n-1) R'.length++R').map vN))=H12 at*;have hbk:bk (u,T,R')=sld (hrow (64*u+n-1) R'.length++R'):=by
   unfold bk;show sld (hrow (64*u+T.length-1) R'.length++R')=_;rw [bod.len]
  have hbl:(hrow (64*u+n-1) R'.length++R').length=R'.length+3:=by rw [z0];show 3+_=_;omega
  have hbb:∀b∈hrow (64*u+n-1) R'.length++R',b<256:=λ b hb=>mX hgx b (by rw [hbk];exact Bn _ hb)
  have hbl2:=hZ (xs:=xs) λ x hx=>by
   obtain⟨j,hj,e⟩:=Ca hx;exact(hg.g (i:=j) (x:=x) (by rw [Af hj,e])).r64
  have hr12:=s8c _ _ hr8;have ht12:=s8c _ _ ht8;have hp12:=s8c _ _ hp8;have hpl12:=hpl8.same s8c;have hl12:=s8c _ _ hl8;have sA:=s48.trans s8c;clear hr8 ht8 hp8 hpl8 hl8 hb8 hh8 s8a s8b s8c s9 s10 s11 s12 hc10 hd11 s48;have hrl:(mk3++(xs.map bk).flatten).length=3+(xs.map bk).flatten.length:=by rw [z0];rfl
  refine am λ _ g=>⟨_,rfl,.inl ⟨rfl,_,SqL.of hp12⟩,_,rfl,lr,_,rfl,.inl (SqL.of hr12),_,rfl,lr,_,rfl,.inl (SqL.of hr12),_,rfl,lk,_,rfl,.inl (SqL.of hk12),_,_,rfl,rfl,_,_,rfl,rfl,zl2,λ tp ntp=>?_⟩
  try dsimp only
  try dsimp only at ntp
  rw [z7,z7,hrl,hbl,show((3+(xs.map bk).flatten.length:Nat):Int)+((R'.length+3:Nat):Int)+2=((3+(xs.map bk).flatten.length+(R'.length+5):Nat):Int) by omega];have s13':=aj (o:=.tup [vN (3+(xs.map bk).flatten.length),vN (3+(xs.map bk).flatten.length+(R'.length+5))]) ntp;have htp:(upd H12 tp (.tup [vN (3+(xs.map bk).flatten.length),vN (3+(xs.map bk).flatten.length+(R'.length+5))])) tp=some (.tup [vN (3+(xs.map bk).flatten.length),vN (3+(xs.map bk).flatten.length+(R'.length+5))]):=af;have hr13:=s13' _ _ hr12;have ht13:=s13' _ _ ht12;have hp13:=s13' _ _ hp12;have hpl13:=hpl12.same s13';have hl13:=s13' _ _ hl12;have hk13:=s13' _ _ hk12;have sB:=sA.trans s13';have ntp':tp≠lp:=λ z=>by rw [z,hp12] at ntp;cases ntp
  change tNil _ (upd H12 tp (.tup [vN (3+(xs.map bk).flatten.length),vN (3+(xs.map bk).flatten.length+(R'.length+5))])) _;generalize upd H12 tp (.tup [vN (3+(xs.map bk).flatten.length),vN (3+(xs.map bk).flatten.length+(R'.length+5))])=H13 at*;refine⟨lp,_,_,rfl,rfl,hp13,cz (by rw [z7,hpl13.len];omega),g _ _ ?_⟩;clear g;have k14:∀c o,H13 c=some o->c≠lp->(upd H13 lp (.lst (ts.map V.ref++[.ref tp]))) c=some o:=λ c o e n=>by rw [av n];exact e
  have hp14:(upd H13 lp (.lst (ts.map V.ref++[.ref tp]))) lp=some (.lst ((ts++[tp]).map V.ref)):=by rw [af,At];rfl
  have hr14:=k14 _ _ hr13 nrl;have ht14:=k14 _ _ ht13 ntl;have nkl:lk≠lp:=λ z=>by
   rw [z,hp13] at hk13;have h1:=AB (λ o=>match o with|some (HO.lst (V.ref _::_))=>true|some (HO.lst [])=>true|_=>false) hk13;rw [show hrow (64*u+n-1) R'.length++R'=(64*u+n-1)::(R'.length::chk 8 29 [64*u+n-1,R'.length]::R') from rfl,AJ] at h1;cases ts<;>simp at h1
  have hk14:=k14 _ _ hk13 nkl;have nll:l≠lp:=λ z=>by
   rw [z,hp13] at hl13;have h1:=AB (λ o=>match o with|some (HO.lst (V.int _::_))=>true|_=>false) hl13;obtain⟨x,T2,eT⟩:∃x T2,T=x::T2:=List.exists_cons_of_length_pos (by rw [bod.len];exact hn1);rw [eT,AJ] at h1;cases ts<;>simp at h1
  have hl14:=k14 _ _ hl13 nll;have hpl14:PlAt (upd H13 lp (.lst (ts.map V.ref++[.ref tp]))) (ts++[tp]) 3 (xs++[(u,T,R')]):=(PlAt.keep ⟨_,hp13⟩ k14 hpl13).snoc (by rw [gE];exact k14 _ _ htp ntp');have sC:Same H (upd H13 lp (.lst (ts.map V.ref++[.ref tp]))):=λ c o e=>k14 _ _ (sB _ _ e) (au e nlp)
  generalize upd H13 lp (.lst (ts.map V.ref++[.ref tp]))=H14 at*;refine am λ _ g=>⟨_,rfl,_,rfl,lr,lk,_,_,rfl,rfl,hr14,hk14,ck (by rw [z7,z7,hrl,hbl];omega),λ l15 n15=>?_⟩
  rw [<-At];have s15:=aj (o:=.lst ((mk3++(xs.map bk).flatten++(hrow (64*u+n-1) R'.length++R')).map vN)) n15;have h15:(upd H14 l15 (.lst ((mk3++(xs.map bk).flatten++(hrow (64*u+n-1) R'.length++R')).map vN))) l15=some (.lst ((mk3++(xs.map bk).flatten++(hrow (64*u+n-1) R'.length++R')).map vN)):=af;have hk15:=s15 _ _ hk14;generalize upd H14 l15 (.lst ((mk3++(xs.map bk).flatten++(hrow (64*u+n-1) R'.length++R')).map vN))=H15 at*;refine⟨_,rfl,lk,16,45,_,rfl,eF,hk15,hbb,λ H16 s16=>⟨_,rfl,bJ eF hbb,λ l17 n17=>?_⟩⟩;have s17:=aj (o:=.lst ((two (chk 16 45 (hrow (64*u+n-1) R'.length++R'))).map vN)) n17;have h17:(upd H16 l17 (.lst ((two (chk 16 45 (hrow (64*u+n-1) R'.length++R'))).map vN))) l17=some (.lst ((two (chk 16 45 (hrow (64*u+n-1) R'.length++R'))).map vN)):=af;have h157:=s17 _ _ (s16 _ _ h15);have s147:=(s15.trans s16).trans s17;generalize upd H16 l17 (.lst ((two (chk 16 45 (hrow (64*u+n-1) R'.length++R'))).map vN))=H17 at*;refine⟨l15,l17,_,_,rfl,rfl,h157,h17,ck (by rw [z7,z7,z0,hrl,hbl];show _+2≤2000;omega),λ l18 n18=>g _ _ ?_⟩;clear g;have er:(mk3++(xs.map bk).flatten++(hrow (64*u+n-1) R'.length++R')).map vN++(two (chk 16 45 (hrow (64*u+n-1) R'.length++R'))).map vN=(mk3++((xs++[(u,T,R')]).map bk).flatten).map vN:=by
   rw [<-At];congr 1;rw [At,Bv,List.map_singleton,List.flatten_singleton,hbk];unfold sld;simp [Ab]
  rw [er];have s18:=aj (o:=.lst ((mk3++((xs++[(u,T,R')]).map bk).flatten).map vN)) n18;have h18:(upd H17 l18 (.lst ((mk3++((xs++[(u,T,R')]).map bk).flatten).map vN))) l18=some (.lst ((mk3++((xs++[(u,T,R')]).map bk).flatten).map vN)):=af;have s148:=s147.trans s18;generalize upd H17 l18 (.lst ((mk3++((xs++[(u,T,R')]).map bk).flatten).map vN))=H18 at*;have hp18:=s148 _ _ hp14;refine⟨_,rfl,_,rfl,lt,l,_,_,rfl,rfl,s148 _ _ ht14,s148 _ _ hl14,ck (by rw [z7,z7,ltx,bod.len];omega),λ l19 n19=>?_⟩;have s19:=aj (o:=.lst ((txtB xs).map vN++T.map vN)) n19;have h19:(upd H18 l19 (.lst ((txtB xs).map vN++T.map vN))) l19=some (.lst ((txtB (xs++[(u,T,R')])).map vN)):=by
   rw [af,txt_append,At];simp [txtB]
  refine⟨l18,l19,ts++[tp],xs++[(u,T,R')],_,_,_,_,_,_,_,_,_,_,rfl,?_,?_,by rw [z0,hxi];rfl,hgs,λ EQ y hy=>?_,s19 _ _ h18,h19,s19 _ _ hp18,(hpl14.same s148).same s19,(sC.trans s148).trans s19⟩
  ·exact λ z=>by rw [z,s147 _ _ hp14] at n18;cases n18
  ·exact λ z=>by rw [z,hp18] at n19;cases n19
  ·rcases Ar.mp hy with z|z
   ·exact h64 y z
   ·rw [AD.mp z];show T.length=64;rw [bod.len];rcases hlast with h|h
    ·exact h
    ·omega
 ·rintro σ H4 ⟨lr,lt,ts,xs,v5,v6,v7,v8,v9,v10,v11,v12,v13,v14,rfl,nrl,ntl,hxi,hg,_,hr4,ht4,hp4,hpl,s4⟩;refine g _ _ ?_;clear g;have hN:=nr hg;have hbl2:=hZ (xs:=xs) λ x hx=>by
   obtain⟨j,hj,e⟩:=Ca hx;exact(hg.g (i:=j) (x:=x) (by rw [Af hj,e])).r64
  refine am λ _ g=>⟨zl2,λ l1 n1=>?_⟩
  have t1:=aj (o:=.lst [.int 0,.int 0]) n1;have h1:(upd H4 l1 (.lst [.int 0,.int 0])) l1=some (.lst ([0,0].map vN)):=af;generalize upd H4 l1 (.lst [.int 0,.int 0])=G1 at*;refine⟨l1,8,29,[0,0],rfl,wp8,h1,(λ z hz=>by simp at hz;omega),λ G2 t2=>⟨(by show 5≤sizeLine;decide),λ l3 n3=>?_⟩⟩;have t3:=aj (o:=.lst [.int 0,.int 0,vN (chk 8 29 [0,0]),.int 0,.int 0]) n3;have h3:(upd G2 l3 (.lst [.int 0,.int 0,vN (chk 8 29 [0,0]),.int 0,.int 0])) l3=some (.lst ((hrow 0 0++[0,0]).map vN)):=af;have u3:=(t1.trans t2).trans t3;generalize upd G2 l3 (.lst [.int 0,.int 0,vN (chk 8 29 [0,0]),.int 0,.int 0])=G3 at*;refine⟨_,rfl,lt,_,rfl,.inl (SqL.of (u3 _ _ ht4)),?_⟩;rw [z7];refine⟨(txtB xs).length,rfl,by omega,λ l4 n4=>?_⟩;have t4:=aj (o:=.lst ((two (txtB xs).length).map vN)) n4;have h4:(upd G3 l4 (.lst ((two (txtB xs).length).map vN))) l4=some (.lst ((two (txtB xs).length).map vN)):=af;have h34:=t4 _ _ h3;have u4:=u3.trans t4;generalize upd G3 l4 (.lst ((two (txtB xs).length).map vN))=G4 at*;refine⟨l3,l4,_,_,rfl,rfl,h34,h4,(by show 5+2≤sizeLine;decide),λ l5 n5=>?_⟩;rw [<-At];have t5:=aj (o:=.lst ((hrow 0 0++[0,0]++two (txtB xs).length).map vN)) n5;have h5:(upd G4 l5 (.lst ((hrow 0 0++[0,0]++two (txtB xs).length).map vN))) l5=some (.lst ((hrow 0 0++[0,0]++two (txtB xs).length).map vN)):=af;have u5:=u4.trans t5;generalize upd G4 l5 (.lst ((hrow 0 0++[0,0]++two (txtB xs).length).map vN))=G5 at*;refine⟨_,rfl,_,_,rfl,Z9,Z9,_,_,rfl,rfl,(by show(0:Int)<65536;decide),?_⟩;generalize mixN ((mm:Nat):Int) 9=q
  try dsimp only
  rw [show((q:Nat):Int)%65536=((q%65536:Nat):Int) by omega];have hc:q%65536<65536:=AK _ Z9;generalize q%65536=c at*;refine⟨c,rfl,hc,λ l6 n6=>?_⟩;have t6:=aj (o:=.lst ((two c).map vN)) n6;have h6:(upd G5 l6 (.lst ((two c).map vN))) l6=some (.lst ((two c).map vN)):=af;have h56:=t6 _ _ h5;have u6:=u5.trans t6;generalize upd G5 l6 (.lst ((two c).map vN))=G6 at*;refine⟨l5,l6,_,_,rfl,rfl,h56,h6,(by show 7+2≤sizeLine;decide),λ l7 n7=>g _ _ ?_⟩;clear g;rw [<-At];have ef:hrow 0 0++[0,0]++two (txtB xs).length++two c=hrow 0 0++four (txtB xs).length++two c:=by rw [iA (by omega)];simp [Ab]
  rw [ef];have t7:=aj (o:=.lst ((hrow 0 0++four (txtB xs).length++two c).map vN)) n7;have h7:(upd G6 l7 (.lst ((hrow 0 0++four (txtB xs).length++two c).map vN))) l7=some (.lst ((hrow 0 0++four (txtB xs).length++two c).map vN)):=af;have u7:=u6.trans t7;generalize upd G6 l7 (.lst ((hrow 0 0++four (txtB xs).length++two c).map vN))=G7 at*;have htb:∀b∈hrow 0 0++four (txtB xs).length++two c,b<256:=λ b hb=>by
   rcases Ar.mp hb with z|z
   ·rcases Ar.mp z with z|z
    ·have hc0:chk 8 29 [0,0]<256:=bJ wp8 (by intro y hy;simp at hy;omega);have z:b=0\/b=0\/b=chk 8 29 [0,0]:=by simpa [hrow] using z
     rcases z with rfl|rfl|rfl
     ·decide
     ·decide
     ·exact hc0
    ·exact(Ar.mp z).elim (bH (AK _ Z9) b) (bH (AK _ Z9) b)
   ·exact bH hc b z
  refine⟨_,rfl,_,rfl,lr,l7,_,_,rfl,rfl,u7 _ _ hr4,h7,ck (by rw [z7,z7,z0];show 3+_+9≤2000;omega),λ l8 n8=>?_⟩;rw [<-At];have t8:=aj (o:=.lst ((mk3++(xs.map bk).flatten++(hrow 0 0++four (txtB xs).length++two c)).map vN)) n8;have h8:(upd G7 l8 (.lst ((mk3++(xs.map bk).flatten++(hrow 0 0++four (txtB xs).length++two c)).map vN))) l8=some (.lst ((mk3++(xs.map bk).flatten++(hrow 0 0++four (txtB xs).length++two c)).map vN)):=af;have h78:=t8 _ _ h7;have u8:=u7.trans t8;generalize upd G7 l8 (.lst ((mk3++(xs.map bk).flatten++(hrow 0 0++four (txtB xs).length++two c)).map vN))=G8 at*;refine⟨_,rfl,l7,16,45,_,rfl,eF,h78,htb,λ G9 t9=>⟨_,rfl,bJ eF htb,λ l10 n10=>?_⟩⟩;have t10:=aj (o:=.lst ((two (chk 16 45 (hrow 0 0++four (txtB xs).length++two c))).map vN)) n10;have h10:(upd G9 l10 (.lst ((two (chk 16 45 (hrow 0 0++four (txtB xs).length++two c))).map vN))) l10=some (.lst ((two (chk 16 45 (hrow 0 0++four (txtB xs).length++two c))).map vN)):=af;have h810:=t10 _ _ (t9 _ _ h8);have u10:=(u8.trans t9).trans t10;generalize upd G9 l10 (.lst ((two (chk 16 45 (hrow 0 0++four (txtB xs).length++two c))).map vN))=G10 at*;refine⟨l8,l10,_,_,rfl,rfl,h810,h10,ck (by rw [z7,z7,z0,z0];show 3+_+9+2≤2000;omega),λ l11 n11=>⟨_,rfl,_,rfl,zl3,λ t nt=>?_⟩⟩;have er:(mk3++(xs.map bk).flatten++(hrow 0 0++four (txtB xs).length++two c)).map vN++(two (chk 16 45 (hrow 0 0++four (txtB xs).length++two c))).map vN=(rowB xs c).map vN:=by
   rw [<-At];congr 1;unfold rowB tl sld;simp [Ab]
  rw [er] at nt ⊢;have t11:=aj (o:=.lst ((rowB xs c).map vN)) n11;have t12:=aj (o:=.tup [.ref l11,.ref lt,.ref lp]) nt;have u12:=(u10.trans t11).trans t12;exact k t l11 lt lp ts xs c _ (s4.trans u12) af (t12 _ _ af) (u12 _ _ ht4) (u12 _ _ hp4) (hpl.same u12) hg (by omega) hc
end
end K28.Ck
set_option maxHeartbeats 4000000
namespace QQ
open PySem PySem.Spec PyProof.Rows
section
variable {prog:EF}{w:EG}{K:Type}[DecidableEq K]{knd:KeyKind prog w K}{A:EI}{E:ED -> EE -> Prop}{s:EE}
theorem dict_end_q {it d:EC}{i ep:Nat}{kvs:List (K×ED)}{Q:Option ED->EE->Prop}(hq:Hq A s.heap)(hit:s.heap.IsKeyIter it d i kvs.length ep)
  (hm:s.heap.DictAt knd d kvs ep) (hx:kvs[i]?=none)
  (hQ:∀h',Heap.ExtBut it s.heap h'->Q none {s with heap:=h'}):wpAny (model prog w) A (pyNext (.ref it)) Q E s:=by
 obtain⟨o,ho,hc,hd⟩:=id hit;obtain⟨od,es,hod,hcd,hdd,hk,hp,hn⟩:=id hm;unfold pyNext;refine Aa (Ct (Bg (name:=Str.ofString "__next__") hit.typeIs F.slot_dict_keyiterator_next
  (B4 F.slot_dict_keyiterator_next hit.typeIs F.entry_dict_keyiterator_next ?_ (F.args_dict_keyiterator_next_1 _))))
 refine Aa (Am ?_);refine Aa ?_;refine Aa ?_
 first|refine Aa (wpAny_typeNameOfWhole_keyiter hit.typeIs (Am ?_))|refine Aa (wpAny_typeNameOf_keyiter hit.typeIs (Am ?_))
 refine Aa (wpAny_fieldsOf ho hd ?_);have hown:Builtin.Dict_items.ownsTuple "dict_keyiterator"=false:=by decide
 simp only [hown,CG,if_false];show wpAny _ _ (if(Value.ref d==Value.none)=true then _ else _) _ _ s;rw [AO (show¬((Value.ref d==Value.none)=true) from Av)];refine Aa (Am ?_);refine Aa (wpAny_dictEntries hod hdd ?_);have hsz:es.size=kvs.length:=by rw [<-hp.length];simp
 rw [AO (by rw [hsz];simp)];refine Aa (Am ?_);refine Aa (wpAny_dictEpoch hod hdd ?_);rw [AO (by simp)];refine Am ?_;have hge:es.size≤i:=by rw [hsz];simpa using hx
 simp only [show¬((i:Int)<0) from by omega,if_false,Ay,Array.getElem?_eq_none hge];refine Aa ?_
 first|refine Aa (wpAny_typeNameOfWhole_keyiter hit.typeIs (Am ?_))|refine Aa (wpAny_typeNameOf_keyiter hit.typeIs (Am ?_))
 show wpAny _ _ (setField (.ref it) 0 .none>>= _) _ _ s;refine Aa (Bm ho hd (by simp) ?_);have sb1:=Cc (h:=s.heap) it (Obj.mapFields (·.setIfInBounds 0 Value.none));refine cq (A:=A.in1) (hq.keep λ a o' us e d' z'=>sb1.extBut a o' (iG ho hd (by simp) e d' z') e) λ h' e k z9=>?_
 obtain⟨o',ge,ce⟩:=z9;refine Aa (Cw (T:="StopIteration") (b:=true) ⟨_,ge,ce⟩ CU ?_);exact Am (hQ _ λ b ob hb e1=>k b ob (sb1.extBut b ob hb e1))
end
end QQ
namespace L2
open PySem PySem.Spec PyProof.Rows QQ
variable {kvs:List (Key×V)}{X:Cx}{ob:EL}{a:EC}{w:EG}{P:EF}
def Itd (a:EC)(ob:EL)(kvs:List (Key×V)):It:=
 ⟨λ i H=>i<kvs.length/\H a=some (.frz ob (.dK kvs)),λ i H x H'=>H'=H/\∃p,kvs[i]?=some p/\x=kV p.1,λ i H=>kvs.length≤i/\H a=some (.frz ob (.dK kvs))⟩
theorem wJ {k:Key}{u:ED}(h:(bu P w).is k u=true):RelV (kV k) u:=by
 cases k with
 |inl i=>
  cases u with
  |int j t=>
   have e:j=i:=by
    have h':(j==i)=true\/(i==j)=true:=by first|exact .inl h|exact .inr h
    rcases h' with h'|h'
    ·exact eq_of_beq h'
    ·exact(eq_of_beq h').symm
   subst e;exact⟨t,rfl⟩
  |_=>exact absurd h (by intro z;cases z)
 |inr x=>
  cases u with
  |str y t=>
   have e:y=x:=by
    have h':(y==x)=true\/(x==y)=true:=by first|exact .inl h|exact .inr h
    rcases h' with h'|h'
    ·exact eq_of_beq h'
    ·exact(eq_of_beq h').symm
   subst e;exact⟨t,rfl⟩
  |_=>exact absurd h (by intro z;cases z)
theorem qf {K:Frag}{tg:EK}{ep:Nat}{es:Array DictEntry}(it:EC)(hob:ob.data=.dict es ep):Turn P w K tg (Itd a ob kvs) [it] it (λ i h=>h.IsKeyIter it a i kvs.length ep) where
 mem:=Z6
 obj:=λ i h st b hb=>by
  have e:b=it:=by simpa using hb
  subst e;obtain⟨o,e,c,d⟩:=st;exact⟨o,e,λ v z=>by rw [d] at z;cases z⟩
 keep:=λ i h h' st k=>st.at λ o e=>k it Z6 o e
 item:=by
  intro X hP hw hK hc i EN s σ H E I hf st hg;subst hP hw hK;obtain⟨hi,hH⟩:=hg;obtain⟨ge,_,hne,vs,rel,dd⟩:=(show s.heap.get? a=some ob/\ObjOk X.prog X.w H s.heap a (.dK kvs) from I.hok a _ hH);obtain⟨o,es',ep',h1,h2,h3,h4⟩:=dd;rw [ge] at h1;cases h1;rw [hob] at h3;cases h3;have hl:=rel.length;obtain⟨f0,f1,f2,f3,f4,f5⟩:=hf it Z6;have hi':i<vs.length:=by omega
  rw [hl] at st;refine wpAny_pyNext_dict_item (knd:=bu X.prog X.w) (k:=vs[i].1) (v:=vs[i].2) st ⟨_,_,ge,h2,hob,h4⟩ (Af hi') λ key h' hk st' sb=>?_
  have I1:Inv X EN σ H {s with heap:=h'}:=I.turned (t':=s.toks) (λ b o hb e=>(sb.2 b hb).trans e) f0 f1 f3 f4 f5;obtain⟨o,e,c,d⟩:=id st';have hkey:kvs[i].1=vs[i].1:=by
   have e:=AB (λ l=>l[i]?) rel.keys;simp only [Au,Af hi,Af hi',Option.map_some,Option.some.injEq] at e;exact e
  rw [<-hl] at st';exact⟨key,rfl,jk (s:={s with heap:=h'}) e c d Z9 ⟨kV kvs[i].1,H,I1,by rw [hkey];exact wJ hk,⟨rfl,_,Af hi,rfl⟩,st',λ b hb=>(hf b hb).1⟩⟩
 done:=by
  intro X hP hw hK hc i EN s σ H E I hf st hg;subst hP hw hK;obtain⟨hi,hH⟩:=hg;obtain⟨ge,_,hne,vs,rel,dd⟩:=(show s.heap.get? a=some ob/\ObjOk X.prog X.w H s.heap a (.dK kvs) from I.hok a _ hH);obtain⟨o,es',ep',h1,h2,h3,h4⟩:=dd;rw [ge] at h1;cases h1;rw [hob] at h3;cases h3;have hl:=rel.length;obtain⟨f0,f1,f2,f3,f4,f5⟩:=hf it Z6;rw [hl] at st hi;exact QQ.dict_end_q (knd:=bu X.prog X.w) (kvs:=vs) I.hq st ⟨_,_,ge,h2,hob,h4⟩ (BY hi) λ h' eb=>⟨rfl,I.turned (t':=s.toks) (λ b o hb e=>eb b o hb e) f0 f1 f3 f4 f5⟩
 self:=λ _ _ _ _ _ st h=>wpAny_pyIter_keyiter st h
section
variable {X:Cx}{tg:EK}
def yY (tl:TE):TI:=λ σ H R=>tl σ H λ x H1=>∃a kvs,x=.ref a/\H1 a=some (.dK kvs)/\∀ob,R (Itd a ob kvs) (upd H1 a (.frz ob (.dK kvs)))
theorem vK {l:EK}{tl:TE}(hl:PE X l tl):PI X tg l (yY tl):=by
 intro EN s σ H R I h;refine thn (hl EN s σ H _ I h) λ v s1 z9=>?_
 obtain⟨x,H1,I1,r1,q1⟩:=z9;obtain⟨a,kvs,e,hH,q⟩:=q1;subst e;cases r1;obtain⟨z,hne,vs,rel,dd⟩:=tE I1.hok hH;obtain⟨ob,es,ep,h1,h2,h3,h4⟩:=id dd;refine wpAny_pyIter_dict (knd:=bu X.prog X.w) (kvs:=vs) (ep:=ep) hne ⟨_,_,h1,h2,h3,h4⟩ ?_;have I2:Inv X EN σ (upd H1 a (.frz ob (.dK kvs))) s1:=hG (h':=s1.heap) (t':=s1.toks) (ob:=.frz ob (.dK kvs)) I1 (by rw [hH];exact True.intro) ⟨rfl,λ _ _=>rfl⟩ ⟨ob,h1⟩ (show s1.heap.get? a=some ob/\ObjOk X.prog X.w _ s1.heap a (.dK kvs) from⟨h1,mE z hne rel dd⟩);refine⟨s1.heap.objs.size,[s1.heap.objs.size],_,Itd a ob kvs,upd H1 a (.frz ob (.dK kvs)),rfl,I2.kept (t':=s1.toks) λ b o e=>Ag _ e,qf _ h3,⟨_,AF _ rfl,rfl,by rw [rel.length];rfl⟩,λ b hb=>?_,q ob⟩;have e:b=s1.heap.objs.size:=by simpa using hb
 subst e;exact I2.fpOk (Al _) (I2.hok.fresh (Al _))
theorem sw {g:TG}{tb:TS}{D:Ends}{σ:St}{H:Hp}(Pv:Nat->St->Hp->Prop)(h0:Pv 0 σ H)(hl:∀i σ H,Pv i σ H->H a=some (.frz ob (.dK kvs)))
  (hs:∀i p σ H,kvs[i]?=some p->Pv i σ H->g (kV p.1) σ H λ σ2 H2=>tb {D with nx:=Pv (i+1),ct:=Pv (i+1),bk:=D.nx} σ2 H2) (hd:∀σ H,Pv kvs.length σ H->D.nx σ H):
  ∃W:Nat->Nat->St->Hp->Prop,(∃m,W 0 m σ H)/\∀i m σ H,W i m σ H->
   ((Itd a ob kvs).stop i H/\D.nx σ H)\/((Itd a ob kvs).go i H/\∃N:St->Hp->Prop,(∀σ' H',N σ' H'->∃m',m'<m/\W (i+1) m' σ' H')/\∀x H',(Itd a ob kvs).yld i H x H'->g x σ H' λ σ2 H2=>tb {D with nx:=N,ct:=N,bk:=D.nx} σ2 H2):=by
 refine⟨λ i m σ H=>m=kvs.length-i/\i≤kvs.length/\Pv i σ H,⟨kvs.length,Z6,AZ _,h0⟩,?_⟩;rintro i m σ H ⟨rfl,hi,p⟩;by_cases EQ:i<kvs.length
 ·refine .inr ⟨⟨EQ,hl i σ H p⟩,Pv (i+1),λ σ' H' p'=>⟨kvs.length-(i+1),Z4,rfl,EQ,p'⟩,λ x H' z=>?_⟩;obtain⟨e,c,hc,rfl⟩:=z;subst e;exact hs i c σ _ hc p
 ·have e:i=kvs.length:=Z4;subst e;exact .inl ⟨⟨Al _,hl _ σ H p⟩,hd σ H p⟩
def xm (x y:Str)(t1 t2:TE):TE:=λ σ H Q=>∀p,H p=none->t1 σ (upd H p (.dK [])) λ v1 H1=>t2 σ H1 λ v2 H2=>H2 p=some (.dK [])/\Q (.ref p) (upd H2 p (.dK (putK (putK [] (.inr x) v1) (.inr y) v2)))
theorem uq {k1 k2 e1 e2:EK}{x y:Str}{t1 t2:TE}{pos:Pos}(hk1:PE X k1 (λ _ H Q=>Q (.str x) H))(h1:PE X e1 t1)(hk2:PE X k2 (λ _ H Q=>Q (.str y) H))(h2:PE X e2 t2):PE X (.Dict [some k1,some k2] [e1,e2] pos) (xm x y t1 t2):=by
 intro EN s σ H Q I h;have hn:H s.heap.objs.size=none:=I.hok.fresh (Al _);have I0:Inv X EN σ (upd H s.heap.objs.size (.dK [])) {s with heap:=s.heap.push {cls:=.type "dict",data:=.dict #[]}}:=I.laid (a:=s.heap.objs.size) (o:=.dK []) (t':=s.toks) (λ _ _ q=>Ag _ q) (Al _) (sd s.heap I.big);have hm:((s.heap.objs.size:EC)==sysModules)=false:=Cb.mpr (B0 (A2 I.big));refine wpAny_Dict_walk (knd:=bu X.prog X.w) rfl rfl (by simp) (by show 2≤15;decide) (pairTrees_cons_walk (thn (hk1 EN _ σ _ (λ v H'=>v=.str x/\t1 σ H' λ v1 H1=>t2 σ H1 λ v2 H2=>H2 s.heap.objs.size=some (.dK [])/\Q (.ref s.heap.objs.size) (upd H2 s.heap.objs.size (.dK (putK (putK [] (.inr x) v1) (.inr y) v2)))) I0 ⟨rfl,h _ hn⟩) λ u1 s1 ⟨a1,G1,I1,r1,ea1,q1⟩=>thn (h1 EN s1 σ G1 _ I1 q1) λ u2 s2 ⟨v1,H1,I2,r2,q2⟩=>pairTrees_cons_walk (thn (hk2 EN s2 σ H1 (λ v H'=>v=.str y/\t2 σ H' λ v2 H2=>H2 s.heap.objs.size=some (.dK [])/\Q (.ref s.heap.objs.size) (upd H2 s.heap.objs.size (.dK (putK (putK [] (.inr x) v1) (.inr y) v2)))) I2 ⟨rfl,q2⟩) λ u3 s3 ⟨a3,G3,I3,r3,ea3,q3⟩=>thn (h2 EN s3 σ G3 _ I3 q3) λ u4 s4 ⟨v2,H2,I4,r4,hH,q4⟩=>pairTrees_nil_walk ?_)));subst ea1 ea3;obtain⟨z,hd,vs,rel,dd⟩:=tE I4.hok hH;have ev:vs=[]:=List.length_eq_zero_iff.mp rel.length.symm;subst ev;refine⟨[(.inr x,u2),(.inr y,u4)],⟨mi (k:=Sum.inr x) r1,rfl,mi (k:=Sum.inr y) r3,rfl,trivial⟩,dd,λ h' dd' hs=>?_⟩;refine⟨.ref s.heap.objs.size,_,?_,rfl,q4⟩;have he:∃q,h'.get? s.heap.objs.size=some q:=let⟨q,_,_,hq,_⟩:=dd';⟨q,hq⟩;have r0:KV ([]:List (Key×V)) ([]:List (Key×ED)):=.nil;have rr:KV (putK (putK [] (.inr x) v1) (.inr y) v2) (stored (stored ([]:List (Key×ED)) (.inr x) u2) (.inr y) u4):=(r0.put (.inr x) r2).put (.inr y) r4;refine hG I4 (by rw [hH];exact True.intro) hs he (mE ?_ hd rr dd');have l1:=dk ([]:List (Key×V)) (.inr x) v1;have l2:=dk (putK ([]:List (Key×V)) (.inr x) v1) (.inr y) v2;have hsl:2≤sizeLine:=by decide
 rw [Da] at l1;omega
theorem iz (k:Bool):∀{ns:List Bool} {us:List ED},Vals (ns.map V.bl) us->us.countP (eqU (.bl k))=ns.count k
 | [],_,.nil=>rfl
 |n::ns,_,.cons r t=>by
  cases r;rw [List.countP_cons,iz k t,List.count_cons];cases n<;>cases k<;>rfl
def pc (K:Frag):V->List V->Hp->VK->Prop:=λ x vs H Q=>∃(l:EC) (ns:List Bool) (k:Bool),x=.ref l/\vs=[.bl k]/\H l=some (.lst (ns.map V.bl))/\Q (.int ((ns.count k:Nat):Int)) H
theorem qZ:MtR X "list.count" (pc X.K):=by
 intro EN s σ H x vs v us Q I rx rv h;obtain⟨l,ns,k,rfl,rfl,hH,q⟩:=h;cases rx;obtain⟨u,rfl,ru⟩:=eu rv;cases ru;obtain⟨z,its,n,r,hl,e⟩:=I.lstM hH;have hf:(ns.map V.bl).all flatV=true:=by simp [flatV]
 have g:=SeqAt.list_countAt l its.toArray n none #[] (.bool k) (eqU (.bl k));refine DO F.slot_list_count ⟨_,e,rfl⟩ F.entry_list_count (F.args_list_count_2 (.ref l) (.bool k)) g ⟨e,λ y hy=>cQ (x:=.bl k) rfl rfl r hf y (by simpa using hy),?_⟩;refine⟨.int ((ns.count k:Nat):Int),H,I.tok _,⟨s.toks,?_⟩,q⟩;rw [show its.toArray.toList=its from rfl,iz k r]
def pO (K:Frag):V->List V->Hp->VK->Prop:=λ x vs H Q=>∃(l:EC) (ns:List Bool) (k:Bool) (j:Nat),x=.ref l/\vs=[.bl k]/\H l=some (.lst (ns.map V.bl))/\ns[j]?=some k/\(∀i<j,ns[i]?≠some k)/\Q (.int ((j:Nat):Int)) H
theorem qc:MtR X "list.index" (pO X.K):=by
 intro EN s σ H x vs v us Q I rx rv h;obtain⟨l,ns,k,j,rfl,rfl,hH,hj,hno,q⟩:=h;cases rx;obtain⟨u,rfl,ru⟩:=eu rv;cases ru;obtain⟨z,its,n,r,hl,e⟩:=I.lstM hH;rw [z7] at hl z;have hjl:j<ns.length:=(Ak.mp hj).1;have hjs:((j:Nat):Int)<2^63-1:=by
  have hsl:sizeLine≤16777216:=Z9;omega
 have key:∀i (hi:i<its.length),its[i]=.bool (ns[i]' Z4):=λ i hi=>by
  have k1:i<ns.length:=Z4;obtain⟨u1,e1,r1⟩:=r.get (i:=i) (x:=.bl ns[i]) (by simp [k1]);cases r1;obtain⟨_,z⟩:=Ak.mp e1;exact z
 have hf:(ns.map V.bl).all flatV=true:=by simp [flatV]
 have ejv:ns[j]=k:=by rw [Af hjl] at hj;exact AY hj
 have g:=SeqAt.list_indexAt l its.toArray n none #[] (.bool k) (eqU (.bl k)) j (by rw [An];omega) hjs (by
   have e1:=key j Z4;have e2:its.toArray[j]'(by rw [An];omega)=its[j]' Z4:=Z6;rw [e2,e1,ejv];cases k<;>rfl) (λ m hm hmj=>by
   have e1:=key m Z4;have e2:its.toArray[m]=its[m]' Z4:=Z6;rw [e2,e1];have h1:=hno m hmj;have hm':m<ns.length:=Z4;rw [Af hm'] at h1;have h2:ns[m]≠k:=λ z=>h1 (by rw [z])
   revert h2
   generalize ns[m]=b;intro h2;cases b<;>cases k<;>first|rfl|exact absurd rfl h2)
 refine DO F.slot_list_index ⟨_,e,rfl⟩ F.entry_list_index (F.args_list_index_2 (.ref l) (.bool k)) g ⟨e,λ y hy=>cQ (x:=.bl k) rfl rfl r hf y (by simpa using hy),?_⟩;exact⟨.int ((j:Nat):Int),H,I.tok _,⟨_,rfl⟩,q⟩
end
theorem na (K:Frag)(hK:autoParam (X.K=K) Z0):MtR X "list.count" (pc K):=by
 subst hK;exact qZ
theorem nL (K:Frag)(hK:autoParam (X.K=K) Z0):MtR X "list.index" (pO K):=by
 subst hK;exact qc
theorem jf (K:Frag)(hK:autoParam (X.K=K) Z0):OpR X (compareOp .NotIn) (rIn K true):=by
 subst hK;exact jS
theorem r6 {o e:EK}{es:List EK}{to:TE}{t:TA}{name:Str}{apos cpos:Pos}{T id:String}{r:V->List V->Hp->VK->Prop}(K:Frag)(hK:X.K=K)(pa:PlainAttrs T)(slot:Slot T name id)(hty:typeOf (.builtin id)=pure (.type "method_descriptor"))(hm:MtR X id r)(ho:PE X o to)(ha:PA X (e::es) t)
  (hbase:autoParam (attributeBase o name X.env (eval o X.env)=eval o X.env) Z0)
  (hfew:autoParam (((backTo cpos (starEach (e::es) X.env)).all (λ x=> !x.1)&&(backToKw cpos (keywordEach [] X.env)).all (λ x=>x.1.isSome)
   &&decide ((e::es).length+([]:List Keyword).length+(if([]:List Keyword).isEmpty then 0 else 1)<30))=true) Z0)
  (hline:autoParam ((apos.endLine==cpos.line)=true) Z0) (hs:autoParam (starEach (e::es) X.env=(false,eval e X.env)::starEach es X.env) Z0) (hplain:autoParam ((backTo cpos (starEach es X.env)).any (·.1)=false) Z0):
  PE X (.Call (.Attribute o name apos) (e::es) [] cpos) (tBM K T r to t):=by
 subst hK;exact eL pa slot hty hm ho ha hbase hfew hline hs hplain
end L2
set_option maxHeartbeats 4000000
namespace K28.Ck
open PySem L2 QQ W17 W16 BP
seal PE PA PS PSs PT PW PG PI
variable {C a f:EC}{fd:EH}{X:Cx}{H:Hp}{xs:List V}{l m:Nat}{σ:St}{j:Int}
theorem g9 {n d k:Nat}{i:Int}(e:i=-((k:Nat):Int))(h1:1≤k)(h:k≤n):HT.sIx n d (some i)=n-k:=by
 subst e;show(if(-(k:Int))<0 then((-(k:Int))+(n:Int)).toNat else _)=_;rw [AV (by omega)];omega
theorem vH {k:Nat}{i:Int}(e:i=-((k:Nat):Int))(h1:1≤k)(h:k≤xs.length):cutV xs none (some i)=xs.take (xs.length-k):=by
 unfold cutV;rw [HT.sIx_none,g9 e h1 h,Du,Nat.sub_zero]
theorem uT {k:Nat}{i:Int}(e:i=-((k:Nat):Int))(e':j=-((l:Nat):Int))(h1:1≤l)(h2:l≤k)(h:k≤xs.length):cutV xs (some i) (some j)=(xs.drop (xs.length-k)).take (k-l):=by
 unfold cutV;rw [g9 e (by omega) h,g9 e' h1 (by omega)];congr 1;omega
theorem uO {p:Nat}(e':j=-((l:Nat):Int))(h1:1≤l)(h2:p+l≤xs.length):cutV xs (some ((p:Nat):Int)) (some j)=(xs.drop p).take (xs.length-l-p):=by
 unfold cutV;rw [HT.sIx_nat,g9 e' h1 (by omega),AM (by omega)]
section
def uE:Sp:=λ vs H Q _=>∃n:Int,vs=[.int n]/\Q (.bl true) H
abbrev yu:List Str:=["_law_thing"]
theorem vT:FnScope yu ["_law_thing"] (ak oq):=⟨rfl,rfl,rfl,Z8,rfl,Z8,Z8⟩
theorem tJ (F:Fn K mg "_law_is_number" oq ["_law_thing"] f fd)(X:K28.Txt K mg):FnOk P w K mg base CX0 1 f fd ["_law_thing"] uE:=by
 refine F.F.ok vT λ EO A outer st H vs Q E hr h=>?_
 intro _;obtain⟨n,rfl,q⟩:=h;refine⟨_,ah (ar (dH (aw bU Z7 X.isi AH (aa (pv 0) (aa (b7 (v:=.ty "int") Z7 X.int BM rfl) ac))) (dP (oo (aw bU Z7 X.isi AH (aa (pv 0) (aa (b7 (v:=.ty "bool") Z7 X.bool Dj rfl) ac))))))),?_⟩;refine⟨_,rfl,_,_,_,_,rfl,.int _,oi K,_,rfl,?_⟩;exact bR ⟨_,rfl,_,_,_,_,rfl,.int _,nM K,_,rfl,q⟩
def sQ:Sp:=λ vs H Q _=>∃c m:Nat,vs=[vN c,vN m]/\∀(t:EC) (b n:Nat),H t=none->b+n≤m->Q (.ref t) (upd H t (.tup [vN b,vN n]))
abbrev vZ:List Str:=["_law_cell","_law_many","_law_kind","_law_begin"]
theorem scLRange:FnScope vZ ["_law_cell","_law_many"] (ak kH):=⟨rfl,rfl,rfl,Z8,rfl,Z8,Z8⟩
theorem qo (F:Fn K mg "_law_range" kH ["_law_cell","_law_many"] f fd):FnOk P w K mg base CX0 1 f fd ["_law_cell","_law_many"] sQ:=by
 refine F.F.ok scLRange λ EO A outer st H vs Q E hr h=>?_
 intro _;obtain⟨c,m,rfl,k⟩:=h;refine⟨_,ad (ao (i:=2) scLRange.nd (ag aI (pv 0) ae))
   (ad (ao (i:=3) scLRange.nd (ag aI (ag aQ (pv 0) ae) (ag aF (pv 1) ae)))
   (ad (aK (ax bP (pv 2) ae (az _)) (ah (ar (bK (aa (pv 3) (aa ae ac))))) ay)
   (ad (aK (ax bP (pv 2) ae (az _)) (ah (ar (bK (aa ae (aa (pv 1) ac))))) ay)
   (ad (aK (PW.pt (ft (ax bP (pv 2) ae (az _)) (fb (ax ek (pv 1) ae (az _))))) (ah (ar (bK (aa ae (aa (ag aF ae (ag aI (ag aQ (pv 0) ae) (ag aU (pv 1) ae))) ac))))) ay)
   (ah (ar (bK (aa (pv 3) (aa (ag aI (ag aQ (ag aQ (pv 0) ae) ae) (ag aU (ag aF (pv 1) ae) (pv 3))) ac))))))))),?_⟩
 refine am λ _ g=>⟨_,rfl,_,_,rfl,rfl,(by show(0:Int)<8;decide),g _ _ ?_⟩
 clear g;refine am λ _ g=>⟨_,rfl,_,_,rfl,rfl,⟨Z9,Z9⟩,_,rfl,_,_,rfl,rfl,_,_,rfl,rfl,(by show(0:Int)<((m:Nat):Int)+1;omega),g _ _ ?_⟩
 clear g;obtain⟨b,hb,eb⟩:∃b:Nat,b≤m/\((c:Nat):Int)/8%(((m:Nat):Int)+1)=((b:Nat):Int):=⟨c/8%(m+1),Nat.le_of_lt_succ (AK _ (Nat.succ_pos _)),by rw [AN,BI,Cm];rfl⟩
 try dsimp only
 rw [eb];refine am λ R g=>?_
 refine(λ(J:R [some (vN c),some (vN m),some (V.int (((c:Nat):Int)%8)),some (vN b)] H)=>?_) (g _ _ ?_)
 ·clear g;refine⟨_,rfl,rfl,_,rfl,bi (λ _=>?_) (λ _=>J)⟩;exact⟨_,rfl,(by show 2≤sizeLine;decide),λ t nt=>k t b 0 nt (by omega)⟩
 clear g;refine am λ R g=>?_
 refine(λ(J:R [some (vN c),some (vN m),some (V.int (((c:Nat):Int)%8)),some (vN b)] H)=>?_) (g _ _ ?_)
 ·clear g;refine⟨_,rfl,rfl,_,rfl,bi (λ _=>?_) (λ _=>J)⟩;exact⟨_,rfl,(by show 2≤sizeLine;decide),λ t nt=>k t 0 m nt (by omega)⟩
 clear g;refine am λ R g=>?_
 refine(λ(J:R [some (vN c),some (vN m),some (V.int (((c:Nat):Int)%8)),some (vN b)] H)=>?_) (g _ _ ?_)
 ·clear g;refine⟨_,rfl,rfl,_,rfl,bi (λ _=>⟨_,rfl,_,_,rfl,rfl,_,rfl,bi (λ h2=>?_) (λ _=>J)⟩) (λ _=>bq J)⟩;have h2:256<m:=by have:=Aq h2;omega
  refine⟨_,rfl,_,_,rfl,rfl,⟨Z9,Z9⟩,_,rfl,_,_,rfl,rfl,_,_,rfl,rfl,(by show(0:Int)<((m:Nat):Int)-255;omega),_,_,rfl,rfl,(by show 2≤sizeLine;decide),λ t nt=>?_⟩;obtain⟨n,hn,en⟩:∃n:Nat,n+255≤m/\1+((c:Nat):Int)/8%(((m:Nat):Int)-255)=((n:Nat):Int):=by
   have hl:=AK (c/8) (show 0<m-255 by omega);refine⟨1+c/8%(m-255),by omega,?_⟩;rw [Cm,AN,BI,Int.natCast_sub (by omega)];rfl
  try dsimp only
  rw [en];exact k t 255 n nt (by omega)
 clear g;refine⟨_,rfl,_,rfl,_,_,rfl,rfl,⟨Z9,Z9⟩,_,_,rfl,rfl,⟨Z9,Z9⟩,_,rfl,_,_,rfl,rfl,_,rfl,_,_,rfl,rfl,_,_,rfl,rfl,(by show(0:Int)<((m:Nat):Int)+1-((b:Nat):Int);omega),(by show 2≤sizeLine;decide),λ t nt=>?_⟩;obtain⟨n,hn,en⟩:∃n:Nat,b+n≤m/\((c:Nat):Int)/8/601%(((m:Nat):Int)+1-((b:Nat):Int))=((n:Nat):Int):=by
  have hl:=AK (c/8/601) (show 0<m+1-b by omega);refine⟨c/8/601%(m+1-b),by omega,?_⟩;rw [AN,BI,BI,Int.natCast_sub (by omega),Cm];rfl
 try dsimp only
 rw [en];exact k t b n nt hn
def bent (B:List Nat)(j b:Nat):List Nat:=B.take j++[B.getD j 0^^^2^b]++B.drop (j+1)
def tO (K:Frag):Sp:=λ vs H Q _=>∃(a:EC) (B:List Nat) (j b:Nat),vs=[.ref a,vN j,vN b]/\SqL K H a (B.map vN)/\j<B.length/\B.length≤1000/\b<8/\∀(l:EC) (H':Hp),H l=none->Same H H'->H' l=some (.lst ((bent B j b).map vN))->Q (.ref l) H'
abbrev zh:List Str:=["_law_row","_law_at","_law_bit"]
theorem xv:FnScope zh ["_law_row","_law_at","_law_bit"] (ak tf):=⟨rfl,rfl,rfl,Z8,rfl,Z8,Z8⟩
theorem jZ (F:Fn K mg "_law_bent" tf ["_law_row","_law_at","_law_bit"] f fd):FnOk P w K mg base CX0 1 f fd ["_law_row","_law_at","_law_bit"] (tO K):=by
 refine F.F.ok xv λ EO A outer st H vs Q E hr h=>?_
 intro _;obtain⟨a,B,j,b,rfl,ha,hj,hB,hb,k⟩:=h;refine⟨_,ah (ar (ag aJ (ag aJ (aC aL (pv 0) aY (aA (pv 1))) (aD (aa (ag oE (ba bd (pv 0) (pv 1) (λ _ _=>rfl)) (ag ij ae (pv 2))) ac))) (aC aL (pv 0) (aA (ag aF (pv 1) ae)) aY))),?_⟩;have sq:∀H',Same H H'->SqL K H' a (B.map vN):=λ H' s=>by
  rcases ha with(e|⟨o,e⟩)|h
  ·exact .inl (.inl (s _ _ e))
  ·exact .inl (.inr ⟨o,s _ _ e⟩)
  ·exact .inr h
 refine⟨_,rfl,_,rfl,_,rfl,a,_,rfl,ha,λ l1 n1=>?_⟩;rw [dF,<-Bh];have s1:=aj (o:=.lst ((B.take j).map vN)) n1;have h1:(upd H l1 (.lst ((B.take j).map vN))) l1=some (.lst ((B.take j).map vN)):=af;generalize upd H l1 (.lst ((B.take j).map vN))=H1 at*;have ex:∀x:Nat,(Builtin.bitXor ((x:Nat):Int) (1*2^(((b:Nat):Int)).toNat):Int)=((x^^^2^b:Nat):Int):=λ x=>by
  rw [Ay,Int.one_mul,show((2:Int)^b)=((2^b:Nat):Int) by rw [Int.natCast_pow];rfl,ic]
 refine⟨_,rfl,_,rfl,a,_,_,vN (B.getD j 0),rfl,rfl,sq _ s1,aT ?_,_,rfl,_,_,rfl,rfl,⟨by omega,by omega,Z9⟩,_,_,rfl,rfl,(by show 1≤sizeLine;decide),λ l2 n2=>?_⟩
 ·rw [Au,Af hj,A7,Af hj];rfl
 try dsimp only
 rw [ex];have s2:=aj (o:=.lst [vN (B.getD j 0^^^2^b)]) n2;have h2:(upd H1 l2 (.lst [vN (B.getD j 0^^^2^b)])) l2=some (.lst [vN (B.getD j 0^^^2^b)]):=af;have h12:=s2 _ _ h1;have s12:=s1.trans s2;generalize upd H1 l2 (.lst [vN (B.getD j 0^^^2^b)])=H2 at*;refine⟨l1,l2,_,_,rfl,rfl,h12,h2,by rw [z7,Aj];exact bh (by show min j B.length+1≤2000;omega),λ l3 n3=>?_⟩;have s3:=aj (o:=.lst ((B.take j).map vN++[vN (B.getD j 0^^^2^b)])) n3;have h3:(upd H2 l3 (.lst ((B.take j).map vN++[vN (B.getD j 0^^^2^b)]))) l3=some (.lst ((B.take j++[B.getD j 0^^^2^b]).map vN)):=by rw [af,At];rfl
 have s13:=s12.trans s3;generalize upd H2 l3 (.lst ((B.take j).map vN++[vN (B.getD j 0^^^2^b)]))=H3 at*;refine⟨_,rfl,_,rfl,_,_,rfl,rfl,_,rfl,a,_,rfl,sq _ s13,λ l4 n4=>?_⟩;have e1:(((j:Nat):Int)+1)=((j+1:Nat):Int):=rfl
 try dsimp only
 try dsimp only at n4
 rw [e1,dB,<-BB];have s4:=aj (o:=.lst ((B.drop (j+1)).map vN)) n4;have h4:(upd H3 l4 (.lst ((B.drop (j+1)).map vN))) l4=some (.lst ((B.drop (j+1)).map vN)):=af;have h34:=s4 _ _ h3;have s14:=s13.trans s4;generalize upd H3 l4 (.lst ((B.drop (j+1)).map vN))=H4 at*;refine⟨l3,l4,_,_,rfl,rfl,h34,h4,?_,λ l5 n5=>?_⟩
 ·rw [z7,z7,z0,Aj,Ax];exact bh (by show min j B.length+1+(B.length-(j+1))≤2000;omega)
 refine k l5 _ (none_of s14 n5) (s14.trans (aj n5)) ?_;rw [af,<-At];rfl
end
def InH (H:Hp)(a C:EC):Prop:=∃vx,H a=some (.frz (exO (.ref C) vx) (.own a))
structure Exc1 (K:Frag)(mg:Str->Option ED)(cP c:EC):Prop where
 x:ExC K c
 n:c≠cP
 s:mroIn K c (.ref cP)=some true
def wd:Nat->Str
 |0=>Str.ofString "mark"
 |1=>Str.ofString "head"
 |2=>Str.ofString "check"
 |3=>Str.ofString "tail"
 |4=>Str.ofString "behind"
 |5=>Str.ofString "cut"
 |6=>Str.ofString "row"
 |7=>Str.ofString "range"
 |_=>Str.ofString "body"
theorem yv:∀i,wd (i+8)=wd 8
 |_=>rfl
theorem wK (i:Nat):∃m,m<9/\min i 8=m/\wd i=wd m:=by
 refine⟨min i 8,by omega,rfl,?_⟩;rcases A4 i 8 with q|q
 ·rw [AM (by omega)]
 ·obtain⟨j,rfl⟩:∃j,i=j+8:=⟨i-8,by omega⟩;rw [BS q,yv]
def wdO:Nat ⊕ (List Nat×Nat)->Str
 | .inl i=>wd i
 | .inr _=>Str.ofString "told"
def bs9 (m:Nat):List Bool:=[decide (0=m),decide (1=m),decide (2=m),decide (3=m),decide (4=m),decide (5=m),decide (6=m),decide (7=m),decide (8=m)]
def ws9:List Str:=["mark","head","check","tail","behind","cut","row","range","body"]
theorem lt9 {p:Nat->Prop}(h0:p 0)(h1:p 1)(h2:p 2)(h3:p 3)(h4:p 4)(h5:p 5)(h6:p 6)(h7:p 7)(h8:p 8):∀{m:Nat},m<9->p m
 |0,_=>h0
 |1,_=>h1
 |2,_=>h2
 |3,_=>h3
 |4,_=>h4
 |5,_=>h5
 |6,_=>h6
 |7,_=>h7
 |8,_=>h8
 |_+9,h=>by omega
theorem zx (h:m<9):(bs9 m).count true=1:=lt9 (p:=λ m=>(bs9 m).count true=1) rfl rfl rfl rfl rfl rfl rfl rfl rfl h
theorem zH (h:m<9):(bs9 m)[m]?=some true/\∀i<m,(bs9 m)[i]?≠some true:=
 lt9 (p:=λ m=>(bs9 m)[m]?=some true/\∀i<m,(bs9 m)[i]?≠some true) (by decide) (by decide) (by decide) (by decide) (by decide) (by decide) (by decide) (by decide) (by decide) h
theorem yc (h:m<9):(ws9.map V.str)[m]?=some (V.str (wd m)):=lt9 (p:=λ m=>(ws9.map V.str)[m]?=some (V.str (wd m))) rfl rfl rfl rfl rfl rfl rfl rfl rfl h
structure Ers (K:Frag)(mg:Str->Option ED)(cP:EC)(cs:Nat->EC):Prop where
 verr:mg "ValueError"=none
 mP:mg "PressError"=some (.ref cP)
 xP:ExC K cP
 m0:mg "BadMark"=some (.ref (cs 0))
 m1:mg "BadHead"=some (.ref (cs 1))
 m2:mg "BadCheck"=some (.ref (cs 2))
 m3:mg "BadTail"=some (.ref (cs 3))
 m4:mg "Behind"=some (.ref (cs 4))
 m5:mg "Cut"=some (.ref (cs 5))
 m6:mg "BadRow"=some (.ref (cs 6))
 m7:mg "NoRange"=some (.ref (cs 7))
 m8:mg "BadBody"=some (.ref (cs 8))
 ds:∃d0 d1 d2 d3 d4 d5 d6 d7 d8:EC,mg "BadBits"=some (.ref d0)/\mg "BadCode"=some (.ref d1)/\mg "BadLengths"=some (.ref d2)/\mg "Over"=some (.ref d3)/\mg "BadLetters"=some (.ref d4)/\mg "BadPieces"=some (.ref d5)/\mg "BadShares"=some (.ref d6)/\mg "BadTable"=some (.ref d7)/\mg "NoBits"=some (.ref d8)/\
  ∀i,∀d∈ [d0,d1,d2,d3,d4,d5,d6,d7,d8],kitOne K (.ref (cs i)) (.ref d)=some false
 k:∀i,Exc1 K mg cP (cs i)/\ExI K (cs i)/\kitOne K (.ref (cs i)) (.type "ValueError")=some true/\∀j<9,kitOne K (.ref (cs i)) (.ref (cs j))=some (decide (j=min i 8))
section
variable (K:Frag)
def zp:List V->Hp->VK->Prop:=λ xs H Q=>∃a C vs c b,xs=[.ref a,zi c]/\(∃n,c=.ref n\/∃t,c=.type t)/\H a=some (.frz (exO (.ref C) vs) (.own a))/\ExI K C/\kitOne K (.ref C) c=some b/\Q (.bl b) H
theorem oH (hK:autoParam (X.K=K) Z0):dg X (.builtin "isinstance") (zp K):=by
 subst hK;exact jg
def tIs (c:EC):TE:=tCB (zp K) (tCons (tVar 3) (tCons (tC (.ref c)) tNil))
def ve:List EC->TA
 | []=>tNil
 |x::r=>tCons (tIs K x) (ve r)
variable {K}
theorem cg {x:Str}{c:EC}{p2 p3 p4 p5:Pos}(hK:X.K=K)(hi:X.mg "isinstance"=none)(hm:X.mg x=some (.ref c))(hN:autoParam (X.N[3]?=some ("e":Str)) Z0)(hv:autoParam (Vis X.env.scope "e") ZT)
  (hg1:autoParam (Gl X "isinstance") Z0) (hg2:autoParam (Gl X x) Z0) (hd:autoParam ((x==("__debug__":Str))=false) ZZ)
  (hs1:autoParam (starEach [.Name "e" p3,.Name x p4] X.env=(false,eval (.Name "e" p3) X.env)::starEach [.Name x p4] X.env) Z0) (hs2:autoParam (starEach [.Name x p4] X.env=(false,eval (.Name x p4) X.env)::starEach [] X.env) Z0)
  (hpl:autoParam ((backTo p5 (starEach [.Name x p4] X.env)).any (·.1)=false) Z0):
  PE X (.Call (.Name "isinstance" p2) [.Name "e" p3,.Name x p4] [] p5) (tIs K c):=by
 subst hK;exact aw jg hg1 hi AH (aa (sj hN hv) (aa (aP (v:=.ref c) hg2 hm rfl hd) ac hs2) hs1) Z9 Z9 hs1 hpl
theorem nJ (ci:ExI K C)(h0:σ[3]?=some (some (.ref a))):∀(l:List EC) (bs:List Bool) (H:Hp) (Q:List V->Hp->Prop),Paired (λ(x:EC) b=>kitOne K (.ref C) (.ref x)=some b) l bs->InH H a C->Q (bs.map V.bl) H->ve K l σ H Q
 | [],_,H,Q,.nil,_,k=>k
 |x::l,_,H,Q,.cons r rr,hE,k=>by
  obtain⟨vx,e⟩:=hE;exact⟨_,h0,a,C,vx,.ref x,_,rfl,⟨x,.inl rfl⟩,e,ci,r,nJ ci h0 l _ H _ rr ⟨vx,e⟩ k⟩
theorem lU {D:Ends}{i:Nat}(ci:ExI K C)(h0:σ[3]?=some (some (.ref a)))(l:List EC)(bs:List Bool)(pr:Paired (λ(x:EC) b=>kitOne K (.ref C) (.ref x)=some b) l bs)(hE:InH H a C)(hn:l.length≤4)
  (k:∀b H',Same H H'->H' b=some (.lst (bs.map V.bl))->D.nx (σ.set i (some (.ref b))) H'):jd (tLst (ve K l)) (bM i) D σ H:=by
 refine nJ ci h0 l bs H _ pr hE ⟨?_,λ b hb=>k b _ (aj hb) af⟩;have e:=DK pr;rw [z7,<-e];exact bh (by omega)
theorem ia {D:Ends}{b:EC}{i:Nat}{xs:List Bool}(ci:ExI K C)(h0:σ[3]?=some (some (.ref a)))(h1:σ[i]?=some (some (.ref b)))(hb:H b=some (.lst (xs.map V.bl)))(hx:xs.length≤20)(l:List EC)(bs:List Bool)(pr:Paired (λ(x:EC) b=>kitOne K (.ref C) (.ref x)=some b) l bs)(hE:InH H a C)(hn:l.length≤4)
  (k:∀b' H',Same H H'->H' b'=some (.lst ((xs++bs).map V.bl))->D.nx (σ.set i (some (.ref b'))) H'):jd (tOp rCat (tVar i) (tLst (ve K l))) (bM i) D σ H:=by
 refine⟨_,h1,nJ ci h0 l bs H _ pr hE ?_⟩;have e:=DK pr;refine⟨by rw [z7,<-e];exact bh (by omega),λ b1 hb1=>?_⟩;have s1:=aj (o:=.lst (bs.map V.bl)) hb1;refine⟨b,b1,_,_,rfl,rfl,s1 _ _ hb,af,by rw [z7,z7,<-e];exact bh (by omega),λ p hp=>k p _ (s1.trans (aj hp)) ?_⟩;rw [af,At]
end
section
variable {C CHd CR cR cH cK cB cN C0 C1 C2 C3 cM cT cZ cC cG cP:EC}
def spLWord (K:Frag):Sp:=λ vs H Q _=>∃(x b c:V) (o:Nat ⊕ (List Nat×Nat)),vs=[x,b,c]/\TdV K H x b c o/\∀H',Same H H'->Q (.str (wdO o)) H'
abbrev w6:List Str:=["_law_row","_law_begin","_law_count","e","_law_some","_law_others"]
theorem scLWord:FnScope w6 ["_law_row","_law_begin","_law_count"] (ak mJ):=⟨rfl,rfl,rfl,Z8,rfl,Z8,Z8⟩
theorem dw {fT:EC}{fdT:EH}(F:Fn K mg "_law_word" mJ ["_law_row","_law_begin","_law_count"] f fd)(To:Fn K mg "told_range" pE ["row","begin","count"] fT fdT)(Z:Rng K mg C CHd CR cR cH cK cB cN C0 C1 C2 C3 cM cT cZ cC cG)(Y:Ers K mg cP (e9 cM cH cK cT cZ cC cR cG cB)):FnOk P w K mg base CX0 38 f fd ["_law_row","_law_begin","_law_count"] (spLWord K):=by
 have GT:=oY (P:=P) (w:=w) (base:=base) To Z;generalize e9 cM cH cK cT cZ cC cR cG cB=cs at*;have X:=Z.P.H.N.Y.X;obtain⟨d0,d1,d2,d3,d4,d5,d6,d7,d8,q0,q1,q2,q3,q4,q5,q6,q7,q8,kd⟩:=Y.ds;refine F.F.ok scLWord λ EO A outer st H vs Q E hr h=>?_
 intro _;obtain⟨x,b,c,o,rfl,h,k⟩:=h;refine⟨_,ad (xL (i:=3) scLWord.nd rfl rfl Z7 Y.mP Y.xP rfl rfl rfl
   (λ pn σ0 E=>ah (bf (rS GT hr Z7 To.m To.F.kp To.b .nil (ut rfl) (aa (pv 0) (aa (pv 1) (aa (pv 2) ac))))))
   (λ e G=>ad (ao (i:=4) scLWord.nd (aD (aa (cg (K:=K) rfl X.isi Y.m0) (aa (cg (K:=K) rfl X.isi Y.m1) (aa (cg (K:=K) rfl X.isi Y.m2) (aa (cg (K:=K) rfl X.isi Y.m3) ac))))))
    (ad (ao (i:=4) scLWord.nd (ag aJ (pv 4) (aD (aa (cg (K:=K) rfl X.isi Y.m4) (aa (cg (K:=K) rfl X.isi Y.m5) (aa (cg (K:=K) rfl X.isi Y.m6) (aa (cg (K:=K) rfl X.isi Y.m7) ac)))))))
    (ad (ao (i:=4) scLWord.nd (ag aJ (pv 4) (aD (aa (cg (K:=K) rfl X.isi Y.m8) ac))))
    (ad (ao (i:=5) scLWord.nd (aD (aa (cg (K:=K) rfl X.isi q0) (aa (cg (K:=K) rfl X.isi q1) (aa (cg (K:=K) rfl X.isi q2) (aa (cg (K:=K) rfl X.isi q3) ac))))))
    (ad (ao (i:=5) scLWord.nd (ag aJ (pv 5) (aD (aa (cg (K:=K) rfl X.isi q4) (aa (cg (K:=K) rfl X.isi q5) (aa (cg (K:=K) rfl X.isi q6) ac))))))
    (ad (ao (i:=5) scLWord.nd (ag aJ (pv 5) (aD (aa (cg (K:=K) rfl X.isi q7) (aa (cg (K:=K) rfl X.isi q8) ac)))))
    (ad (aK (PW.pt (ft (ax bP (r6 K rfl A5 PySem.F.slot_list_count PySem.F.type_list_count (na K) (pv 4) (aa bo ac)) ae (az _)) (ft (ax (jf K) bo (pv 5) Z7) (fb (bj (aw (oH K) Z7 X.isi AH (aa (pv 3) (aa (b7 (v:=.ty "ValueError") Z7 Y.verr PyProof.Rows.Boot.«ValueError» rfl) ac))))))))
     (ah (ar (ba (lI (K:=K) rfl) (aD (aa aB (aa aB (aa aB (aa aB (aa aB (aa aB (aa aB (aa aB (aa aB ac)))))))))) (r6 K rfl A5 PySem.F.slot_list_index PySem.F.type_list_index (nL K) (pv 4) (aa bo ac)) (λ _ _=>rfl)))) ay)
    (ah (ar aB))))))))))
  (ah (ar aB)),?_⟩
 refine am λ R g=>⟨rfl,_,rfl,_,rfl,_,rfl,x,b,c,o,rfl,h,?_⟩
 match o,k with
 | .inr (S,n),k=>exact λ t l H' _ _ s1 _ _=>g _ _ (k H' s1)
 | .inl i,k=>
 clear g;obtain⟨e1,ci,hv,kk⟩:=Y.k i;refine λ H1 s1=>⟨_,rfl,e1.x,e1.n,e1.s,λ e vx he=>?_⟩
 have s2:=aj (o:=.frz (exO (.ref (cs i)) vx) (.own e)) he;have hE:InH (upd H1 e (.frz (exO (.ref (cs i)) vx) (.own e))) e (cs i):=⟨vx,af⟩;have s12:=s1.trans s2;generalize upd H1 e (.frz (exO (.ref (cs i)) vx) (.own e))=H2 at*;have pk:∀j,j<9->kitOne K (.ref (cs i)) (.ref (cs j))=some (decide (j=min i 8)):=kk;have pd:=kd i;have mv:∀{H H':Hp},Same H H'->InH H e (cs i)->InH H' e (cs i):=λ s ⟨v,h⟩=>⟨v,s _ _ h⟩
 refine am λ _ g=>lU ci rfl [cs 0,cs 1,cs 2,cs 3] [decide (0=min i 8),decide (1=min i 8),decide (2=min i 8),decide (3=min i 8)] (.cons (pk 0 (by decide)) (.cons (pk 1 (by decide)) (.cons (pk 2 (by decide)) (.cons (pk 3 (by decide)) .nil)))) hE (Al _) λ b1 H3 s3 h3=>g _ _ ?_
 clear g;have hE3:=mv s3 hE;refine am λ _ g=>ia ci rfl rfl h3 (by show 4≤20;decide) [cs 4,cs 5,cs 6,cs 7] [decide (4=min i 8),decide (5=min i 8),decide (6=min i 8),decide (7=min i 8)] (.cons (pk 4 (by decide)) (.cons (pk 5 (by decide)) (.cons (pk 6 (by decide)) (.cons (pk 7 (by decide)) .nil)))) hE3 (Al _) λ b2 H4 s4 h4=>g _ _ ?_
 clear g;have hE4:=mv s4 hE3;refine am λ _ g=>ia ci rfl rfl h4 (by show 8≤20;decide) [cs 8] [decide (8=min i 8)] (.cons (pk 8 (by decide)) .nil) hE4 (by show 1≤4;decide) λ b3 H5 s5 h5=>g _ _ ?_
 clear g;have hE5:=mv s5 hE4;refine am λ _ g=>lU ci rfl [d0,d1,d2,d3] [false,false,false,false] (.cons (pd _ (by simp)) (.cons (pd _ (by simp)) (.cons (pd _ (by simp)) (.cons (pd _ (by simp)) .nil)))) hE5 (Al _) λ b4 H6 s6 h6=>g _ _ ?_
 clear g;have hE6:=mv s6 hE5;have h56:=s6 _ _ h5;refine am λ _ g=>ia ci rfl rfl h6 (by show 4≤20;decide) [d4,d5,d6] [false,false,false] (.cons (pd _ (by simp)) (.cons (pd _ (by simp)) (.cons (pd _ (by simp)) .nil))) hE6 (by show 3≤4;decide) λ b5 H7 s7 h7=>g _ _ ?_
 clear g;have hE7:=mv s7 hE6;have h57:=s7 _ _ h56;refine am λ _ g=>ia ci rfl rfl h7 (by show 7≤20;decide) [d7,d8] [false,false] (.cons (pd _ (by simp)) (.cons (pd _ (by simp)) .nil)) hE7 (by show 2≤4;decide) λ b6 H8 s8 h8=>g _ _ ?_
 clear g;obtain⟨v8,hE8⟩:=mv s8 hE7;have h58:=s8 _ _ h57;have s18:=s12.trans (s3.trans (s4.trans (s5.trans (s6.trans (s7.trans s8)))));clear s3 s4 s5 s6 s7 s8 h3 h4 h5 h6 h7 h56 h57 hE3 hE4 hE5 hE6 hE7 hE pk pd kk mv;obtain⟨m,hm,e8,ew⟩:=wK i;have kq:∀H',Same H H'->Q (.str (wd m)) H':=λ H' s=>by rw [<-ew];exact k H' s
 have e58:H8 b3=some (.lst ((bs9 m).map V.bl)):=by rw [<-e8];exact h58
 refine am λ _ g=>⟨_,rfl,.inl ⟨rfl,_,SqL.of e58⟩,b3,bs9 m,true,rfl,rfl,e58,?_⟩
 rw [zx hm];refine⟨rfl,_,rfl,bR ?_⟩;refine⟨_,rfl,b6,_,rfl,.inl (SqL.of h8),rfl,rfl,_,rfl,bR ?_⟩;refine⟨_,rfl,e,_,v8,.type "ValueError",true,rfl,⟨0,.inr ⟨_,rfl⟩⟩,hE8,ci,hv,_,rfl,bR ?_⟩;refine⟨(by show 9≤sizeLine;decide),λ lw nw=>?_⟩;have s9:=aj (o:=.lst (ws9.map V.str)) nw;obtain⟨i1,i2⟩:=zH hm;refine⟨_,rfl,.inl ⟨rfl,_,SqL.of (s9 _ _ e58)⟩,b3,bs9 m,true,m,rfl,rfl,s9 _ _ e58,i1,i2,lw,_,_,.str (wd m),rfl,rfl,SqL.of af,aT (yc hm),kq _ (s18.trans s9)⟩
end
end K28.Ck
set_option maxHeartbeats 4000000
namespace K28.Ck
open PySem L2 QQ W17 W16 BP
variable {b j l n nb nc v:Nat}{A D K K' L R R' W r:List Nat}{Ks:List (List Nat)}
theorem bA (h:j<L.length):bent L j b=L.set j (L[j]^^^2^b):=by
 unfold bent;rw [ug h,A7,Af h,Ab];rfl
theorem aZ (h:j<L.length):(bent L j b).length=L.length:=by rw [bA h,CL]
theorem dD (h:j<A.length):bent (A++D) j b=bent A j b++D:=by
 rw [bA (by rw [z0];omega),bA h,List.set_append_left _ _ h,List.getElem_append_left h]
theorem fj {i:Nat}(e:i=A.length+j)(h:j<D.length):bent (A++D) i b=A++bent D j b:=by
 subst e;rw [bA (by rw [z0];omega),bA h,List.set_append_right _ _ (by omega),List.getElem_append_right (by omega)];simp
theorem bB (h:j<L.length)(hb:b<8)(hL:∀x∈L,x<256):∀x∈bent L j b,x<256:=λ x hx=>by
 rw [bA h] at hx;rcases Ee hx with z|rfl
 ·exact hL x z
 ·exact CD (n:=8) (hL _ (CY h)) (DI (by decide) hb)
def pos (Ks:List (List Nat))(j:Nat):Nat:=3+(Ks.take j).flatten.length
theorem bv (Ks:List (List Nat))(j:Nat):Ks.flatten=(Ks.take j).flatten++(Ks.drop j).flatten:=by rw [<-Bv,A1]
theorem dY (Ks:List (List Nat))(r:List Nat)(j:Nat):(mk3++(Ks.flatten++r)).take (pos Ks j)=mk3++(Ks.take j).flatten:=by
 rw [bv Ks j,Ab,<-Ab mk3];exact BZ (by rw [z0];rfl)
theorem eE (Ks:List (List Nat))(r:List Nat)(j:Nat):(mk3++(Ks.flatten++r)).drop (pos Ks j)=(Ks.drop j).flatten++r:=by
 rw [bv Ks j,Ab,<-Ab mk3];exact DU (by rw [z0];rfl)
theorem cA (e:Ks[j]?=some K):pos Ks (j+1)=pos Ks j+K.length:=by
 unfold pos;rw [A9,e,Bv,z0,<-BA];simp
theorem fE (e:Ks[j]?=some K):(Ks.set j K').flatten=(Ks.take j).flatten++(K'++(Ks.drop (j+1)).flatten):=by
 have h:=(Ak.mp e).1;rw [Dg,AV h,Bv,A3]
theorem dX (e:Ks[j]?=some K):(Ks.drop j).flatten=K++(Ks.drop (j+1)).flatten:=by
 obtain⟨h,e'⟩:=Ak.mp e;rw [BH h,A3,e']
theorem wb (e:Ks[j]?=some K):(mk3++(Ks.flatten++r)).take (pos Ks j)++K'++(mk3++(Ks.flatten++r)).drop (pos Ks j+K.length)=mk3++((Ks.set j K').flatten++r):=by
 rw [<-cA e,dY,eE,fE e];simp [Ab]
theorem eJ {i k:Nat}(e:Ks[j]?=some K)(hk:k<K.length)(hi:i=pos Ks j+k):bent (mk3++(Ks.flatten++r)) i b=mk3++((Ks.set j (bent K k b)).flatten++r):=by
 rw [fE e,bv Ks j,dX e,Ab,Ab,Ab,Ab,<-Ab mk3,fj (j:=k) (by rw [hi,z0];rfl) (by rw [z0];omega),dD hk,Ab]
theorem dv {F t:List Nat}{i k:Nat}(hk:k<t.length)(hi:i=3+F.length+k):bent (mk3++(F++(t++r))) i b=mk3++(F++(bent t k b++r)):=by
 rw [<-Ab mk3,fj (j:=k) (by rw [hi,z0];rfl) (by rw [z0];omega),dD hk,Ab]
theorem pQ {k:Nat}(hk:k<3):TrK (bent (mk3++R) k b) nb nc (.inl 0):=by
 refine .mark ?_;have hk':k<mk3.length:=hk;rw [dD hk',BZ (by rw [aZ hk'];rfl),AA (by rw [z0,aZ hk'];exact Bz _ _),bA hk'];intro e;have:=AB (λ l=>l[k]?) e;rw [BE hk',Af hk'] at this;exact jP (AY this)
theorem tS {k:Nat}(hk:k<2):TrK (bent [184,66] k b) nb nc (.inl 0):=by
 refine .mark ?_;have hk':k<([184,66]:List Nat).length:=hk;have hl:(bent [184,66] k b).length=2:=aZ hk';rw [hl,AA (by rw [hl];decide),bA hk'];intro e;have:=AB (λ l=>l[k]?) e;rw [BE hk',show mk3.take 2=[184,66] from rfl,Af hk'] at this;exact jP (AY this)
theorem sP {k:Nat}(hk:k<3):TrK ((mk3++R).take k) nb nc (.inl 5):=by
 have e:(mk3++R).take k=mk3.take k:=B5 (show k≤3 by omega);have hl:(mk3.take k).length=k:=by rw [Aj];show min k 3=k;omega
 rw [e];refine .short (by rw [hl];exact hk) ?_;rw [hl,AA (by rw [hl];omega)]
section
variable {Ks:List (List Nat)}{hs:List Bl}(h:Bks Ks hs 0){c nb nc:Nat}
include h
theorem gz {y:Nat}:TrK (mk3++(Ks.flatten++tl (tot hs) c)++[y]) nb nc (.inl 4):=by
 rw [Ab,Ab];exact bZ (i:=3) (qF h)
theorem pN {k:Nat}(hk:k<11):TrK (mk3++(Ks.flatten++(tl (tot hs) c).take k)) nb nc (.inl 5):=bZ (i:=1) (uG h (a9 _ _) (kP _ _) hk)
theorem uz {k:Nat}(hc:c<65536)(hn:tot hs<65536)(hb:b<8)(h3:3≤k)(hk:k<11):TrK (mk3++(Ks.flatten++(bent (tl (tot hs) c) k b++r))) nb nc (.inl 3):=by
 have hk':k<(tl (tot hs) c).length:=by rw [a9];exact hk
 have hX:∀x∈hrow 0 0++four (tot hs)++two c,x<256:=by
  intro x hx;rcases Ar.mp hx with hx|hx
  ·rcases Ar.mp hx with hx|hx
   ·have hc8:chk 8 29 [0,0]<256:=bJ wp8 (by intro y hy;simp at hy;omega);have hx:x=0\/x=0\/x=chk 8 29 [0,0]:=by simpa [hrow] using hx
    omega
   ·rw [iA hn] at hx;rcases Ar.mp hx with hx|hx
    ·simp at hx;omega
    ·exact bH hn x hx
  ·exact bH hc x hx
 refine bZ (i:=2) (de h (by rw [aZ hk',a9]) ?_ λ hz=>?_)
 ·rw [bA hk',DV h3,kP]
 ·have e:=hz.2;rw [bA hk'] at e;exact kZ hX hb hk' e
theorem sH {k:Nat}(hb:b<8)(hk:k<3):TrK (mk3++(Ks.flatten++(bent (tl n c) k b++r))) nb nc (.inl 1):=by
 obtain⟨x,y,z,e,hd⟩:=jr (a:=0) (b:=0) (j:=k) (e:=b) (by decide) (by decide) hb hk;have e2:tl n c=hrow 0 0++(tl n c).drop 3:=by rw [<-kP n c,A1]
 rw [e2,dD hk,bA hk,e];exact bZ (i:=0) (oZ h hd)
end
theorem rd (x:Blk):bk x=hrow (64*x.1+x.2.1.length-1) x.2.2.length++(x.2.2++two (chk 16 45 (hrow (64*x.1+x.2.1.length-1) x.2.2.length++x.2.2))):=by
 unfold bk;rw [hI]
theorem Gx.nhB {x:Blk}(g:Gx x W){k:Nat}(h3:3≤k)(hk:k<(bk x).length):NhK (bent (bk x) k b) (some (hdB x)):=by
 have e:=rd x;generalize hr:x.2.2++two (chk 16 45 (hrow (64*x.1+x.2.1.length-1) x.2.2.length++x.2.2))=r at e;have hl:r.length=x.2.2.length+2:=by rw [<-hr,z0];rfl
 have hk':k-3<r.length:=by rw [e,z0] at hk;have:(hrow (64*x.1+x.2.1.length-1) x.2.2.length).length=3:=rfl;omega
 have h1:=g.t1;have h2:=g.t64;rw [e,fj (j:=k-3) (by show k=3+_;omega) hk'];have h:=pb (a:=64*x.1+x.2.1.length-1) (b:=x.2.2.length) (r:=bent r (k-3) b) g.r1 g.r64 (by rw [aZ hk'];exact hl);rw [show(64*x.1+x.2.1.length-1)/64=x.1 by omega,show(64*x.1+x.2.1.length-1)%64+1=x.2.1.length by omega] at h;exact h
theorem Gx.bkB {x:Blk}(g:Gx x W){V:List Nat}{u k:Nat}(hb:b<8)(hk:k<(bk x).length):BkK (bent (bk x) k b) V u v (.inl 0):=by
 refine .check ?_;have hX:∀y∈hrow (64*x.1+x.2.1.length-1) x.2.2.length++x.2.2,y<256:=λ y hy=>mX g y (by unfold bk;exact Bn _ hy)
 rw [bA hk];unfold bk at hk ⊢;exact kZ hX hb hk
theorem Gx.hdB {x:Blk}(g:Gx x W){k:Nat}(hb:b<8)(hk:k<3):∃a y z r,bent (bk x) k b=a::y::z::r/\HdK a y z (.inr ()):=by
 have hu:=g.u;have h1:=g.t1;have h2:=g.t64;have h3:=g.r64;obtain⟨a,y,z,e,hd⟩:=jr (a:=64*x.1+x.2.1.length-1) (b:=x.2.2.length) (j:=k) (e:=b) (by omega) (by omega) hb hk;refine⟨a,y,z,x.2.2++two (chk 16 45 (hrow (64*x.1+x.2.1.length-1) x.2.2.length++x.2.2)),?_,hd⟩;have hk':k<(hrow (64*x.1+x.2.1.length-1) x.2.2.length).length:=hk;have e2:bent (hrow (64*x.1+x.2.1.length-1) x.2.2.length) k b=[a,y,z]:=(bA hk').trans e;rw [rd,dD hk',e2];rfl
def fB (v:Nat)(R:List Nat):List Nat:=sld (hrow (128+(v-1)) 2++R)
theorem y0 (h1:1≤v)(h2:v≤64)(hR:R.length=2):NhK (fB v R) (some (2,v,2)):=by
 have h:=pb (a:=128+(v-1)) (b:=2) (r:=R++two (chk 16 45 (hrow (128+(v-1)) 2++R))) (by decide) (by decide) (by rw [z0,hR];rfl);rw [show(128+(v-1))/64=2 by omega,show(128+(v-1))%64+1=v by omega,<-hI] at h;exact h
theorem wv (h:TxK R W 2 v none):BkK (fB v R) W 2 v (.inl 1):=by
 have e:(fB v R).take ((fB v R).length-2)=hrow (128+(v-1)) 2++R:=iw _;refine .body (by rw [e];rfl) ?_;rw [e];exact h
theorem yW (hR:R.length=2):NhK (sld (hrow 68 2++R)) (some (1,5,2)):=by
 have h:=pb (a:=68) (b:=2) (r:=R++two (chk 16 45 (hrow 68 2++R))) (by decide) (by decide) (by rw [z0,hR];rfl);rw [<-hI] at h;exact h
theorem iL {α:Type}{L:List α}{x:α}(e:L[j]?=some x):L.set j x=L:=by
 obtain⟨h,rfl⟩:=Ak.mp e;exact List.set_getElem_self h
theorem Bks.up {hs:List Bl}{m:Nat}(h:Bks Ks hs m):∀{n:Nat},n%64=m%64->Bks Ks hs n:=by
 induction h with
 |nil=>intro n _;exact .nil
 |cons h1 h2 _ ih=>intro n e;exact .cons h1 (by omega) (ih (by omega))
def rdB (nb nc j:Nat):Bool:=decide (0<nc/\gF nb≤j/\j<gL nb nc)
section
variable {xs:List Blk}{c nb nc:Nat}(RR:Rr xs nb nc)
include RR
theorem bw {x:Blk}(e:xs[j]?=some x):(xs.map bk)[j]?=some (bk x)/\(xs.map hdB)[j]?=some (hdB x):=⟨by rw [Au,e];rfl,by rw [Au,e];rfl⟩
theorem cj:tot (xs.map hdB)=(txtB xs).length:=(jR xs).symm
theorem yE {k:Nat}{x:Blk}(e:xs[j]?=some x)(hb:b<8)(hk:k<3):TrK (mk3++(((xs.map bk).set j (bent (bk x) k b)).flatten++r)) nb nc (.inl 1):=by
 obtain⟨a,y,z,r',e',hd⟩:=(RR.g.g e).hdB hb hk;rw [fE (bw RR e).1,e',Ab,Ab];exact bZ (i:=0) (oZ (RR.g.bks.take j) hd)
theorem kS {k:Nat}{x:Blk}(e:xs[j]?=some x)(h3:3≤k)(hk:k<(bk x).length):Bks ((xs.map bk).set j (bent (bk x) k b)) (xs.map hdB) 0:=by
 have h:=RR.g.bks.set (bw RR e).2 ((RR.g.g e).nhB (b:=b) h3 hk);rw [show((xs.map hdB).set j (x.1,x.2.1.length,x.2.2.length))=xs.map hdB from iL (bw RR e).2] at h;exact h
theorem bX {α:Type}{L:List α}{i:Nat}{a b:α}(e:L[i]?=some b)(h:j≠i):(L.set j a)[i]?=some b:=by rw [Cf h];exact e
theorem dz {α:Type}{L:List α}{a b:α}(e:L[j]?=some b):(L.set j a)[j]?=some a:=by rw [BE (Ak.mp e).1]
theorem zg {k:Nat}{x:Blk}(e:xs[j]?=some x)(hb:b<8)(h3:3≤k)(hk:k<(bk x).length):TrK (mk3++(((xs.map bk).set j (bent (bk x) k b)).flatten++tl (txtB xs).length c)) nb nc (if rdB nb nc j=true then .inl 2 else .inr (due xs nb nc)):=by
 have h:=kS RR e (b:=b) h3 hk;have ht:=cj RR;have hl:(xs.map hdB).length=xs.length:=z7 _;rw [<-ht]
 split
 ·rename_i q
  obtain⟨h0,h1,h2⟩:=Aq q;exact kJ h RR ht hl (c:=c) h0 h1 h2 (λ {i y} e' _ h2=>⟨bX RR (bw RR e').1 (by omega),(bw RR e').2⟩) (dz RR (bw RR e).1) (bw RR e).2 ((RR.g.g e).bkB hb hk)
 ·rename_i q
  refine jW h RR ht hl (c:=c) λ {i y} e' h0 h1 h2=>⟨bX RR (bw RR e').1 λ z=>?_,(bw RR e').2⟩
  subst z;exact q (Ai ⟨h0,h1,h2⟩)
theorem gQ {x:Blk}(e:xs[j]?=some x)(hR:R'.length=2):Bks ((xs.map bk).set j (fB x.2.1.length R')) ((xs.map hdB).set j (2,x.2.1.length,2)) 0/\tot ((xs.map hdB).set j (2,x.2.1.length,2))=(txtB xs).length:=by
 have g:=RR.g.g e;exact⟨RR.g.bks.set (bw RR e).2 (y0 g.t1 g.t64 hR),(uZ (bw RR e).2).trans (cj RR)⟩
theorem yH {x:Blk}(e:xs[j]?=some x)(hR:R'.length=2)(hT:TxK R' (win xs j) 2 x.2.1.length none):TrK (mk3++(((xs.map bk).set j (fB x.2.1.length R')).flatten++tl (txtB xs).length c)) nb nc (if rdB nb nc j=true then .inl 8 else .inr (due xs nb nc)):=by
 obtain⟨h,ht⟩:=gQ RR e hR;have hl:((xs.map hdB).set j (2,x.2.1.length,2)).length=xs.length:=by rw [CL,z7]
 rw [<-ht]
 split
 ·rename_i q
  obtain⟨h0,h1,h2⟩:=Aq q;exact kJ h RR ht hl (c:=c) h0 h1 h2 (λ {i y} e' _ h2=>⟨bX RR (bw RR e').1 (by omega),bX RR (bw RR e').2 (by omega)⟩) (dz RR (bw RR e).1) (dz RR (bw RR e).2) (wv hT)
 ·rename_i q
  refine jW h RR ht hl (c:=c) λ {i y} e' h0 h1 h2=>?_
  have z:j≠i:=λ z=>by subst z;exact q (Ai ⟨h0,h1,h2⟩)
  exact⟨bX RR (bw RR e').1 z,bX RR (bw RR e').2 z⟩
theorem xx {k:Nat}{x y:Blk}(h0:0<nc)(hj:j=gF nb)(hjk:j<k)(hk:k<gL nb nc)(e:xs[j]?=some x)(e':xs[k]?=some y)(hR:R'.length=2)(hT:TxK R' (win xs j) 2 x.2.1.length none)(h3:3≤l)(hl:l<(bk y).length):
  TrK (mk3++((((xs.map bk).set j (fB x.2.1.length R')).set k (bent (bk y) l b)).flatten++tl (txtB xs).length c)) nb nc (.inl 8):=by
 obtain⟨h,ht⟩:=gQ RR e hR;have e2:=bX RR (a:=(2,x.2.1.length,2)) (bw RR e').2 (by omega:j≠k);have h2:=h.set e2 ((RR.g.g e').nhB (b:=b) h3 hl);rw [show(((xs.map hdB).set j (2,x.2.1.length,2)).set k (y.1,y.2.1.length,y.2.2.length))=(xs.map hdB).set j (2,x.2.1.length,2) from iL e2] at h2;have hl:((xs.map hdB).set j (2,x.2.1.length,2)).length=xs.length:=by rw [CL,z7]
 rw [<-ht];exact kJ h2 RR ht hl (c:=c) (j:=j) (e:=1) h0 (by omega) (by omega) (λ {i z} _ h1 h2=>by omega) (bX RR (dz RR (bw RR e).1) (by omega)) (dz RR (bw RR e).2) (wv hT)
theorem xW {k:Nat}{x y:Blk}(h0:0<nc)(hj:j=gF nb)(hjk:j<k)(hk:k<gL nb nc)(e:xs[j]?=some x)(e':xs[k]?=some y)(hR:R'.length=2)(hb:b<8)(h3:3≤l)(hl:l<(bk x).length):
  TrK (mk3++((((xs.map bk).set k (fB y.2.1.length R')).set j (bent (bk x) l b)).flatten++tl (txtB xs).length c)) nb nc (.inl 2):=by
 obtain⟨h,ht⟩:=gQ RR e' hR;have e2:=bX RR (a:=(2,y.2.1.length,2)) (bw RR e).2 (by omega:k≠j);have h2:=h.set e2 ((RR.g.g e).nhB (b:=b) h3 hl);rw [show(((xs.map hdB).set k (2,y.2.1.length,2)).set j (x.1,x.2.1.length,x.2.2.length))=(xs.map hdB).set k (2,y.2.1.length,2) from iL e2] at h2;have hl':((xs.map hdB).set k (2,y.2.1.length,2)).length=xs.length:=by rw [CL,z7]
 rw [<-ht];exact kJ h2 RR ht hl' (c:=c) (j:=j) (e:=0) h0 (by omega) (by omega) (λ {i z} _ h1 h2=>by omega) (dz RR (bX RR (a:=fB y.2.1.length R') (bw RR e).1 (by omega))) e2 ((RR.g.g e).bkB hb hl)
theorem si {x:Blk}(e:xs[j]?=some x):tot ((xs.map hdB).take (j+1))=tot ((xs.map hdB).take j)+x.2.1.length:=by
 rw [A9,(bw RR e).2,cS];rfl
theorem jx (j:Nat):tot (xs.map hdB)=tot ((xs.map hdB).take j)+tot ((xs.map hdB).drop j):=by rw [<-cS,A1]
theorem dM:(txtB xs).length≤576:=by
 have h1:=nr RR.g;have h2:=RR.h9;omega
theorem qp (hn:n<4294967296)(h:n≠(txtB xs).length):TrK (mk3++((xs.map bk).flatten++tl n c)) nb nc (.inl 3):=by
 have hs:=dM RR;rw [<-AQ (tl n c)];refine bZ (i:=2) (de RR.g.bks (a9 _ _) (kP _ _) λ hz=>?_);have:=fJ hn (by rw [cj RR];omega) (tl_ok.mp hz);rw [cj RR] at this;exact h this
theorem xU {x:Blk}(e:xs[j]?=some x)(h64:x.2.1.length=64):TrK (mk3++(((xs.map bk).take j++(xs.map bk).drop (j+1)).flatten++tl (txtB xs).length c)) nb nc (.inl 3):=by
 have hs:=dM RR;have t1:=si RR e;have t2:=jx RR (j+1);have t3:=cj RR;have hb:=(RR.g.bks.take j).app (((RR.g.bks.drop (j+1)).up (n:=0+tot ((xs.map hdB).take j))) (by omega));have tt:tot ((xs.map hdB).take j++(xs.map hdB).drop (j+1))+64=(txtB xs).length:=by rw [cS];omega
 rw [<-AQ (tl _ c)];refine bZ (i:=2) (de hb (a9 _ _) (kP _ _) λ hz=>?_);have:=fJ (by omega) (by omega) (tl_ok.mp hz);omega
theorem sk {x:Blk}(e:xs[j]?=some x)(h64:x.2.1.length=64):TrK (mk3++(((xs.map bk).take (j+1)++(xs.map bk).drop j).flatten++tl (txtB xs).length c)) nb nc (.inl 3):=by
 have hs:=dM RR;have t1:=si RR e;have t2:=jx RR j;have t3:=cj RR;have hb:=(RR.g.bks.take (j+1)).app (((RR.g.bks.drop j).up (n:=0+tot ((xs.map hdB).take (j+1)))) (by omega));have tt:tot ((xs.map hdB).take (j+1)++(xs.map hdB).drop j)=(txtB xs).length+64:=by rw [cS];omega
 rw [<-AQ (tl _ c)];refine bZ (i:=2) (de hb (a9 _ _) (kP _ _) λ hz=>?_);have:=fJ (by omega) (by omega) (tl_ok.mp hz);omega
theorem vG {x:Blk}(e:xs[j]?=some x)(hR:R'.length=2):TrK (mk3++((xs.map bk).take j).flatten++sld (hrow 68 2++R')++(((xs.map bk).drop j).flatten++r)) nb nc (.inl 1):=by
 obtain⟨_,_,_,_,_,h64⟩:=RR.g.bks.at (bw RR e).1;have hb:=(RR.g.bks.take j).app (.cons (yW hR) h64 .nil);have g:=yt hb (K:=bk x) (r:=((xs.map bk).drop (j+1)).flatten++r) (RR.g.g e).nh (by
  rw [cS];have:tot [((1,5,2):Bl)]=5:=rfl;omega)
 rw [dX (bw RR e).1];rw [Bv] at g;have:TrK _ nb nc (.inl 1):=bZ (i:=0) g;simpa [Ab] using this
theorem yw {k:Nat}{x:Blk}(e:xs[j]?=some x)(hk:k<(bk x).length):TrK ((mk3++((xs.map bk).flatten++r)).take (pos (xs.map bk) j+k)) nb nc (.inl 5):=by
 obtain⟨_,_,_,_,_,h64⟩:=RR.g.bks.at (bw RR e).1;have g:=vS (RR.g.bks.take j) (K:=bk x) (k:=k) (RR.g.g e).nh (by omega) hk;have e2:(mk3++((xs.map bk).flatten++r)).take (pos (xs.map bk) j+k)=mk3++(((xs.map bk).take j).flatten++(bk x).take k):=by
  rw [List.take_add,dY,eE,dX (bw RR e).1,Ab,Ab,B5 (by omega)]
 rw [e2];exact bZ (i:=1) g
end
end K28.Ck
set_option maxHeartbeats 4000000
namespace K28.Ck
open PySem L2 QQ W17 W16 BP
seal PE PA PS PSs PT PW PG PI
variable {fd:EH}{A:List Nat}{Q:VK}{a b hi lo t tb te ti:TE}{v x y:V}{j:Int}{f:EC}{g:Int->Int->V}{ta:TA}{l n p:Nat}{Φ:V->Hp->Prop}{E:XK}
def Ev (te:TE)(σ:St)(H:Hp)(Φ:V->Hp->Prop):Prop:=∀H1,Same H H1->∀Q:VK,(∀v H',Same H1 H'->Φ v H'->Q v H')->te σ H1 Q
def LsV (A:List Nat):V->Hp->Prop:=λ v H=>∃l,v=.ref l/\H l=some (.lst (A.map vN))
abbrev Ls (te:TE)(σ:St)(H:Hp)(A:List Nat):Prop:=Ev te σ H (LsV A)
abbrev Vl (te:TE)(σ:St)(H:Hp)(v:V):Prop:=Ev te σ H λ x _=>x=v
def Ta (ta:TA)(σ:St)(H:Hp)(vs:List V):Prop:=∀H1,Same H H1->∀Q:List V->Hp->Prop,(∀H',Same H1 H'->Q vs H')->ta σ H1 Q
def Po (t:TO)(σ:St)(H:Hp)(o:Option Int):Prop:=∀H1,Same H H1->∀Q:Option Int->Hp->Prop,(∀H',Same H1 H'->Q o H')->t σ H1 Q
def Ts (t:TT)(σ:St)(H:Hp)(b:Bool):Prop:=∀H1,Same H H1->∀Q:Bool->Hp->Prop,(∀H',Same H1 H'->Q b H')->t σ H1 Q
section
variable {K:Frag}{σ:St}{H:Hp}
theorem Ev.go (h:Ev te σ H Φ)(k:∀v H',Same H H'->Φ v H'->Q v H'):te σ H Q:=h H (Same.refl H) Q k
theorem Ls.go (h:Ls te σ H A)(k:∀l H',Same H H'->H' l=some (.lst (A.map vN))->Q (.ref l) H'):te σ H Q:=h H (Same.refl H) Q λ v H' s z9=>by obtain⟨l,e,hl⟩:=z9;exact by subst e;exact k l H' s hl
theorem Vl.go (h:Vl te σ H v)(k:∀H',Same H H'->Q v H'):te σ H Q:=h H (Same.refl H) Q λ x H' s e=>by subst e;exact k H' s
theorem Ts.go {t:TT}{b:Bool}{Q:Bool->Hp->Prop}(h:Ts t σ H b)(k:∀H',Same H H'->Q b H'):t σ H Q:=h H (Same.refl H) Q k
theorem Ls.var {i:Nat}{a:EC}(h:σ[i]?=some (some (.ref a)))(ha:H a=some (.lst (A.map vN))):Ls (tVar i) σ H A:=λ H1 s Q k=>⟨_,h,k _ H1 (Same.refl H1) ⟨a,rfl,s _ _ ha⟩⟩
theorem Vl.var {i:Nat}(h:σ[i]?=some (some v)):Vl (tVar i) σ H v:=λ H1 s Q k=>⟨_,h,k _ H1 (Same.refl H1) rfl⟩
theorem Vl.c:Vl (tC v) σ H v:=λ H1 s Q k=>k _ H1 (Same.refl H1) rfl
theorem Vl.op0 {i:Int}(ha:Vl a σ H (.int i))(hb:Vl b σ H (.int j))(e:g i j=v):Vl (tOp (rI0 g) a b) σ H v:=λ H1 s Q k=>by
 subst e;exact ha H1 s _ λ x H2 s2 e2=>hb H2 (s.trans s2) _ λ y H3 s3 e3=>⟨i,j,e2,e3,k _ H3 (s2.trans s3) rfl⟩
theorem Vl.op {C:Int->Int->Prop}{i:Int}(ha:Vl a σ H (.int i))(hb:Vl b σ H (.int j))(hc:C i j)(e:g i j=v):Vl (tOp (rI C g) a b) σ H v:=λ H1 s Q k=>by
 subst e;exact ha H1 s _ λ x H2 s2 e2=>hb H2 (s.trans s2) _ λ y H3 s3 e3=>⟨i,j,e2,e3,hc,k _ H3 (s2.trans s3) rfl⟩
theorem Vl.len (h:Ls t σ H A)(e:v=vN A.length):Vl (tCB (λ xs H Q=>∃p ys,xs=[.ref p]/\(SqL K H p ys\/SqT K H p ys)/\Q (.int ys.length) H) (tCons t tNil)) σ H v:=λ H1 s Q k=>by
 subst e;refine h H1 s _ λ x H2 s2 ⟨l,e2,hl⟩=>⟨l,_,by rw [e2],.inl (SqL.of hl),?_⟩
 rw [z7];exact k _ H2 s2 rfl
theorem Ls.cat {B:List Nat}(ha:Ls a σ H A)(hb:Ls b σ H B)(hl:A.length+B.length≤2000):Ls (tOp rCat a b) σ H (A++B):=λ H1 s Q k=>by
 refine ha H1 s _ λ x H2 s2 ⟨l,e2,h2⟩=>hb H2 (s.trans s2) _ λ y H3 s3 ⟨m,e3,h3⟩=>⟨l,m,_,_,e2,e3,s3 _ _ h2,h3,by rw [z7,z7];exact bh hl,λ p hp=>k _ _ ((s2.trans s3).trans (aj hp)) ⟨p,rfl,?_⟩⟩
 rw [af,At]
theorem Ta.nil:Ta tNil σ H []:=λ H1 _ Q k=>k H1 (Same.refl H1)
theorem Ta.cons {vs:List V}(h:Vl t σ H v)(g:Ta ta σ H vs):Ta (tCons t ta) σ H (v::vs):=λ H1 s Q k=>by
 refine h H1 s _ λ x H2 s2 e=>?_
 subst e;exact g H2 (s.trans s2) _ λ H3 s3=>k H3 (s2.trans s3)
theorem Ls.lst (h:Ta ta σ H (A.map vN))(hl:A.length≤2000):Ls (tLst ta) σ H A:=λ H1 s Q k=>by
 exact h H1 s _ λ H2 s2=>⟨by rw [z7];exact bh hl,λ p hp=>k _ _ (s2.trans (aj hp)) ⟨p,rfl,af⟩⟩
theorem Po.no:Po tNoPart σ H none:=λ H1 _ Q k=>k H1 (Same.refl H1)
theorem Po.at {i:Int}(h:Vl t σ H (.int i)):Po (tPart t) σ H (some i):=λ H1 s Q k=>h H1 s _ λ x H2 s2 e=>⟨i,e,k H2 s2⟩
theorem Ls.sl {lo hi:TO}{B:List Nat}{o p:Option Int}(h:Ls t σ H A)(hl:Po lo σ H o)(hh:Po hi σ H p)(e:cutV (A.map vN) o p=B.map vN):Ls (tSl (rSlL K) t lo hi) σ H B:=λ H1 s Q k=>by
 refine h H1 s _ λ x H2 s2 ⟨l,e2,h2⟩=>hl H2 (s.trans s2) _ λ H3 s3=>hh H3 ((s.trans s2).trans s3) _ λ H4 s4=>⟨l,_,e2,SqL.of (s4 _ _ (s3 _ _ h2)),λ q hq=>?_⟩
 rw [e];exact k _ _ ((s2.trans s3).trans (s4.trans (aj hq))) ⟨q,rfl,af⟩
theorem Ls.upto (h:Ls t σ H A)(hh:Vl hi σ H (vN n)):Ls (tSl (rSlL K) t tNoPart (tPart hi)) σ H (A.take n):=h.sl .no (.at hh) (by rw [dF,Bh])
theorem Ls.from (h:Ls t σ H A)(hh:Vl lo σ H (vN n)):Ls (tSl (rSlL K) t (tPart lo) tNoPart) σ H (A.drop n):=h.sl (.at hh) .no (by rw [dB,BB])
theorem Vl.ix {x:Nat}(h:Ls t σ H A)(hi:Vl ti σ H (vN n))(e:A[n]?=some x):Vl (tOp (rIxL K) t ti) σ H (vN x):=λ H1 s Q k=>by
 refine h H1 s _ λ y H2 s2 ⟨l,e2,h2⟩=>hi H2 (s.trans s2) _ λ z H3 s3 e3=>⟨l,_,_,vN x,e2,e3,SqL.of (s3 _ _ h2),aT ?_,k _ H3 (s2.trans s3) rfl⟩
 rw [Au,e];rfl
theorem Ls.two (h:Vl t σ H (vN n))(hn:n<65536):Ls (tCall su [] E (tCons t tNil)) σ H (two n):=λ H1 s Q k=>by
 refine h H1 s _ λ x H2 s2 e=>⟨n,by rw [e];rfl,hn,λ l hl=>k _ _ (s2.trans (aj hl)) ⟨l,rfl,af⟩⟩
theorem Vl.check (h:Ls t σ H A)(hb:∀b∈A,b<256):Vl (tCall spCheckOf [.int 16] E (tCons t tNil)) σ H (vN (chk 16 45 A)):=λ H1 s Q k=>
 h H1 s _ λ x H2 s2 z9=>by obtain⟨l,e,hl⟩:=z9;exact⟨l,16,45,A,by rw [e];rfl,eF,hl,hb,λ H3 s3=>k _ H3 (s2.trans s3) rfl⟩
theorem Vl.check8 {t8:TE}(h:Ls t σ H A)(h8:Vl t8 σ H (.int 8))(hb:∀b∈A,b<256):Vl (tCall spCheckOf [] E (tCons t (tCons t8 tNil))) σ H (vN (chk 8 29 A)):=λ H1 s Q k=>
 h H1 s _ λ x H2 s2 z9=>by obtain⟨l,e,hl⟩:=z9;exact h8 H2 (s.trans s2) _ λ y H3 s3 e3=>⟨l,8,29,A,by rw [e,e3];rfl,wp8,s3 _ _ hl,hb,λ H4 s4=>k _ H4 ((s2.trans s3).trans s4) rfl⟩
theorem Ls.bent {tj:TE}{j b:Nat}(h:Ls t σ H A)(hj:Vl tj σ H (vN j))(hb:Vl tb σ H (vN b))(l1:j<A.length)(l2:A.length≤1000)(l3:b<8):Ls (tCall (tO K) [] E (tCons t (tCons tj (tCons tb tNil)))) σ H (bent A j b):=λ H1 s Q k=>
 h H1 s _ λ x H2 s2 z9=>by obtain⟨l,e,hl⟩:=z9;exact hj H2 (s.trans s2) _ λ y H3 s3 e3=>hb H3 ((s.trans s2).trans s3) _ λ z H4 s4 e4=>⟨l,A,j,b,by rw [e,e3,e4];rfl,SqL.of (s4 _ _ (s3 _ _ hl)),l1,l2,l3,λ m H5 _ s5 h5=>k _ H5 ((s2.trans s3).trans (s4.trans s5)) ⟨m,rfl,h5⟩⟩
theorem Vl.word {tc:TE}{nb nc:Nat}{o:Nat ⊕ (List Nat×Nat)}(h:Ls t σ H A)(hb:Vl tb σ H (vN nb))(hc:Vl tc σ H (vN nc))(hA:∀b∈A,b<256)(hl:A.length≤1000)(hT:TrK A nb nc o):Vl (tCall (spLWord K) [] E (tCons t (tCons tb (tCons tc tNil)))) σ H (.str (wdO o)):=λ H1 s Q k=>
 h H1 s _ λ x H2 s2 z9=>by obtain⟨l,e,hx⟩:=z9;exact hb H2 (s.trans s2) _ λ y H3 s3 e3=>hc H3 ((s.trans s2).trans s3) _ λ z H4 s4 e4=>⟨x,y,z,o,rfl,.inr ⟨A,⟨l,e,s4 _ _ (s3 _ _ hx),hA⟩,hl,.inr ⟨nb,nc,e3,e4,hT⟩⟩,λ H5 s5=>k _ H5 ((s2.trans s3).trans (s4.trans s5)) rfl⟩
theorem Ts.ne {c:Bool}(ha:Vl a σ H x)(hb:Vl b σ H y)(hs:vC x y=true)(e:c= !decide (x=y)):Ts (ju (tOp rNe a b)) σ H c:=λ H1 s Q k=>by
 subst e;exact ha H1 s _ λ v H2 s2 e2=>hb H2 (s.trans s2) _ λ u H3 s3 e3=>by
  subst e2 e3;exact⟨hs,_,rfl,k H3 (s2.trans s3)⟩
theorem Vl.eqv (ha:Vl a σ H x)(hb:Vl b σ H y)(hs:vC x y=true)(e:v=.bl (decide (x=y))):Vl (tOp rEq a b) σ H v:=λ H1 s Q k=>by
 subst e;exact ha H1 s _ λ v H2 s2 e2=>hb H2 (s.trans s2) _ λ u H3 s3 e3=>by
  subst e2 e3;exact⟨hs,k _ H3 (s2.trans s3) rfl⟩
theorem Ts.fits {z:Str}(ha:Vl a σ H (.str z))(hb:Vl b σ H (.str z)):Ts (ju (tOp rNe a b)) σ H false:=.ne ha hb rfl (by rw [Ai rfl];rfl)
end
theorem dC {t:TT}{u v:TS}{D:Ends}{σ:St}{H:Hp}(h:Ts t σ H false)(k:∀H',Same H H'->v D σ H'):yo t u v D σ H:=h.go λ H' s=>by
 show(if false=true then _ else _);rw [AO Av];exact k H' s
abbrev ny:EM:=top 143
abbrev nn:EM:=top 144
abbrev kF:EM:=top 145
section
variable {K:Frag}{σ:St}{H:Hp}
theorem Vl.neg {i:Int}(h:Vl t σ H (.int i))(e:j=-i):Vl (tUn (rU λ i=>.int (-i)) t) σ H (.int j):=λ H1 s Q k=>by
 subst e;exact h H1 s _ λ x H2 s2 e=>⟨i,e,k _ H2 s2 rfl⟩
theorem dR {i:Nat}{D:Ends}(h:Ls te σ H A)(k:∀l H',Same H H'->H' l=some (.lst (A.map vN))->D.nx (σ.set i (some (.ref l))) H'):jd te (bM i) D σ H:=h.go k
theorem mD {D:Ends}(h:Ls te σ H A)(k:∀l H',Same H H'->H' l=some (.lst (A.map vN))->D.rt (.ref l) H'):vt te D σ H:=h.go k
theorem eM {i:Nat}{D:Ends}(h:Vl te σ H v)(k:∀H',Same H H'->D.nx (σ.set i (some v)) H'):jd te (bM i) D σ H:=h.go k
theorem ir {D:Ends}(h:Vl te σ H v)(k:∀H',Same H H'->D.rt v H'):vt te D σ H:=h.go k
theorem Ls.ends {B:List Nat}{k:Nat}{i:Int}(h:Ls t σ H A)(hl:Vl lo σ H (.int i))(hh:Vl hi σ H (.int j))(e:i=-((k:Nat):Int))(e':j=-((l:Nat):Int))(h1:1≤l)(h2:l≤k)(h3:k≤A.length)(eB:(A.drop (A.length-k)).take (k-l)=B):Ls (tSl (rSlL K) t (tPart lo) (tPart hi)) σ H B:=
 h.sl (.at hl) (.at hh) (by rw [uT e e' h1 h2 (by rw [z7];exact h3),z7,<-BB,<-Bh,eB])
theorem Ls.uptoE {B:List Nat}(h:Ls t σ H A)(hh:Vl hi σ H (.int j))(e':j=-((l:Nat):Int))(h1:1≤l)(h3:l≤A.length)(eB:A.take (A.length-l)=B):Ls (tSl (rSlL K) t tNoPart (tPart hi)) σ H B:=
 h.sl .no (.at hh) (by rw [vH e' h1 (by rw [z7];exact h3),z7,<-Bh,eB])
theorem Ls.midE {B:List Nat}(h:Ls t σ H A)(hl:Vl lo σ H (vN p))(hh:Vl hi σ H (.int j))(e':j=-((l:Nat):Int))(h1:1≤l)(h3:p+l≤A.length)(eB:(A.drop p).take (A.length-l-p)=B):Ls (tSl (rSlL K) t (tPart lo) (tPart hi)) σ H B:=
 h.sl (.at hl) (.at hh) (by rw [uO e' h1 (by rw [z7];exact h3),z7,<-BB,<-Bh,eB])
end
theorem bC (F t:List Nat):(mk3++(F++t)).length=3+F.length+t.length:=by rw [z0,z0];show 3+_=_;omega
theorem fc {F t:List Nat}{k:Nat}(h:t.length=11)(hk:k≤11):(mk3++(F++t)).drop ((mk3++(F++t)).length-k)=t.drop (11-k):=by
 rw [bC,h,<-Ab,show 3+F.length+11-k=(mk3++F).length+(11-k) by rw [z0];show _=3+_+_;omega,Ep];simp
theorem gP {F t:List Nat}{k:Nat}(h:t.length=11)(hk:k≤11):(mk3++(F++t)).take ((mk3++(F++t)).length-k)=mk3++(F++t.take (11-k)):=by
 rw [bC,h,<-Ab,show 3+F.length+11-k=(mk3++F).length+(11-k) by rw [z0];show _=3+_+_;omega,List.take_append,AA (by omega),Ab];simp
theorem iE (n c:Nat):tl n c=[0,0,chk 8 29 [0,0],n/65536%65536/256,n/65536%65536%256,n%65536/256,n%65536%256,c/256,c%256]++two (chk 16 45 (hrow 0 0++four n++two c)):=by
 unfold tl sld;rfl
theorem cU {c:Nat}(hc:c<65536):(∀x∈hrow 0 0++four n++two c,x<256)/\∀x∈tl n c,x<256:=by
 have hX:∀x∈hrow 0 0++four n++two c,x<256:=by
  intro x hx;rcases Ar.mp hx with hx|hx
  ·rcases Ar.mp hx with hx|hx
   ·have hc8:chk 8 29 [0,0]<256:=bJ wp8 (by intro y hy;simp at hy;omega);have hx:x=0\/x=0\/x=chk 8 29 [0,0]:=by simpa [hrow] using hx
    omega
   ·rcases Ar.mp hx with hx|hx
    ·exact bH (AK _ (by decide)) x hx
    ·exact bH (AK _ (by decide)) x hx
  ·exact bH hc x hx
 refine⟨hX,λ x hx=>?_⟩;rcases Ar.mp hx with z|z
 ·exact hX x z
 ·exact bH (bJ eF hX) x z
section
variable {C:EC}
def kT:Sp:=λ vs H Q _=>∃(a:EC) (F:List Nat) (n m c:Nat),vs=[.ref a,vN m]/\H a=some (.lst ((mk3++(F++tl n c)).map vN))/\F.length≤700/\c<65536/\m<4294967296/\∀(l:EC) (H':Hp),Same H H'->H' l=some (.lst ((mk3++(F++tl m c)).map vN))->Q (.ref l) H'
abbrev wf:List Str:=["_law_row","_law_count","_law_high","_law_low","_law_tail"]
theorem scSealed:FnScope wf ["_law_row","_law_count"] (ak kF):=⟨rfl,rfl,rfl,Z8,rfl,Z8,Z8⟩
theorem jF (F:Fn K mg "_law_sealed" kF ["_law_row","_law_count"] f fd)(Z:Lw K mg C)(dm:mg "divmod"=none):FnOk P w K mg base CX0 7 f fd ["_law_row","_law_count"] kT:=by
 have X:=Z.Y.Z.X.R.X;obtain⟨_,_,Tw⟩:=Z.two;obtain⟨_,_,Co⟩:=Z.Y.checkof;obtain⟨_,FC⟩:=Co.F;obtain⟨t16,B16⟩:=Co.d;have GW:=hU (P:=P) (w:=w) (base:=base) Tw;have GK:=cn (P:=P) (w:=w) (mg:=mg) (base:=base) FC Z.Y.Z;refine F.F.ok scSealed λ EO A outer st H vs Q E hr h=>?_
 intro _;obtain⟨a,F,n,m,c,rfl,ha,hF,hc,hm,k⟩:=h;have hr1:Room 1 _:=hr.mono Z9;have hr3:Room 3 _:=hr.mono Z9;refine⟨_,ad (cV (aw lN Z7 dm PyProof.Rows.boot_divmod (aa (pv 1) (aa ae ac))) (cb rfl (aM (aG (i:=2) scSealed.nd) (aM (aG (i:=3) scSealed.nd) bL))))
   (ad (ao (i:=4) scSealed.nd (ag aJ (ag aJ (ag aJ (aC aL (pv 0) (aA (cf bG ae)) (aA (cf bG ae))) (ai GW hr1 Z7 Tw.m Tw.F.kp Tw.b .nil ap (aa (pv 2) ac))) (ai GW hr1 Z7 Tw.m Tw.F.kp Tw.b .nil ap (aa (pv 3) ac))) (aC aL (pv 0) (aA (cf bG ae)) (aA (cf bG ae)))))
   (ah (ar (ag aJ (ag aJ (aC aL (pv 0) aY (aA (cf bG ae))) (pv 4)) (ai GW hr1 Z7 Tw.m Tw.F.kp Tw.b .nil ap (aa (ai GK hr Z7 Co.m Co.kp B16 (.cons (a:=V.int 16) ⟨_,rfl⟩ .nil) ap (aa (pv 4) ac)) ac)))))),?_⟩
 refine am λ _ g=>⟨_,rfl,_,_,rfl,⟨Z9,Z9⟩,λ t nt=>?_⟩
 have s1:=aj (o:=.tup [V.int (((m:Nat):Int)/65536),V.int (((m:Nat):Int)%65536)]) nt;have h1:(upd H t (.tup [V.int (((m:Nat):Int)/65536),V.int (((m:Nat):Int)%65536)])) t=some (.tup [vN (m/65536),vN (m%65536)]):=by
  rw [af,show((m:Nat):Int)/65536=((m/65536:Nat):Int) by omega,show((m:Nat):Int)%65536=((m%65536:Nat):Int) by omega]
 have ha1:=s1 _ _ ha;change tN K 2 _ _ _ (upd H t (.tup [V.int (((m:Nat):Int)/65536),V.int (((m:Nat):Int)%65536)])) _;generalize upd H t (.tup [V.int (((m:Nat):Int)/65536),V.int (((m:Nat):Int)%65536)])=H1 at*;refine⟨t,_,rfl,SqT.of h1,rfl,_,_,rfl,_,_,rfl,rfl,g _ _ ?_⟩;clear g;have hl:=bC F (tl n c);have ht:=a9 n c;have e3:((mk3++(F++tl n c)).drop ((mk3++(F++tl n c)).length-11)).take (11-8)=hrow 0 0:=by rw [fc ht (by decide),iE];rfl
 have e2:((mk3++(F++tl n c)).drop ((mk3++(F++tl n c)).length-4)).take (4-2)=two c:=by rw [fc ht (by decide),iE];rfl
 have e0:(mk3++(F++tl n c)).take ((mk3++(F++tl n c)).length-11)=mk3++F:=by rw [gP ht (by decide)];show _++(_++[])=_;rw [AQ]
 have et:hrow 0 0++two (m/65536)++two (m%65536)++two c=hrow 0 0++four m++two c:=by
  unfold four;rw [B3 (show m/65536<65536 by omega)];simp [Ab]
 refine am λ _ g=>dR (A:=hrow 0 0++two (m/65536)++two (m%65536)++two c) (Ls.cat (Ls.cat (Ls.cat (Ls.ends (k:=11) (l:=8) (Ls.var rfl ha1) (Vl.neg Vl.c rfl) (Vl.neg Vl.c rfl) rfl rfl (by decide) (by decide) (by omega) e3) (Ls.two (Vl.var rfl) (by omega)) (by show 3+2≤2000;decide)) (Ls.two (Vl.var rfl) (by omega)) (by show 5+2≤2000;decide)) (Ls.ends (k:=4) (l:=2) (Ls.var rfl ha1) (Vl.neg Vl.c rfl) (Vl.neg Vl.c rfl) rfl rfl (by decide) (by decide) (by omega) e2) (by show 7+2≤2000;decide)) λ l2 H2 s2 h2=>g _ _ ?_
 clear g;rw [et] at h2;have hX:=(cU (n:=m) hc).1;have ha2:=s2 _ _ ha1;refine mD (A:=mk3++F++(hrow 0 0++four m++two c)++two (chk 16 45 (hrow 0 0++four m++two c))) (Ls.cat (Ls.cat (Ls.uptoE (l:=11) (Ls.var rfl ha2) (Vl.neg Vl.c rfl) rfl (by decide) (by omega) e0) (Ls.var rfl h2) ?_) (Ls.two (Vl.check (Ls.var rfl h2) hX) (bJ eF hX)) ?_) λ l3 H3 s3 h3=>k l3 H3 (s1.trans (s2.trans s3)) ?_
 ·rw [z0];show 3+F.length+9≤2000;omega
 ·rw [z0,z0];show 3+F.length+9+2≤2000;omega
 ·rw [h3];unfold tl sld;simp [Ab]
end
section
variable {K:Frag}{σ:St}{H:Hp}
theorem Vl.txt1:Vl (tC (.str (Str.ofString "1"))) σ H (.str (txt [true])):=by rw [<-uk];exact Vl.c
theorem Vl.cats {A B:List Bool}(ha:Vl a σ H (.str (txt A)))(hb:Vl b σ H (.str (txt B)))(hl:A.length+B.length≤2000):Vl (tOp (λ x y H Q=>∃(a b:Str),x=.str a/\y=.str b/\a.length+b.length≤sizeLine/\Q (.str (a++b)) H) a b) σ H (.str (txt (A++B))):=λ H1 s Q k=>by
 refine ha H1 s _ λ x H2 s2 e2=>hb H2 (s.trans s2) _ λ y H3 s3 e3=>⟨_,_,e2,e3,by rw [aE,aE];exact bh hl,?_⟩
 rw [L2.txt_append];exact k _ H3 (s2.trans s3) rfl
theorem Vl.bits {tn ts:TE}{s:Nat}(hn:Vl tn σ H (vN n))(hs:Vl ts σ H (vN s))(h:s≤1000):Vl (tCall ib [] E (tCons tn (tCons ts tNil))) σ H (.str (txt (dig n s))):=λ H1 z Q k=>
 hn H1 z _ λ x H2 s2 e2=>hs H2 (z.trans s2) _ λ y H3 s3 e3=>⟨n,s,by rw [e2,e3];rfl,h,λ H4 s4=>k _ H4 ((s2.trans s3).trans s4) rfl⟩
theorem Ev.bytes {bs:List Bool}(h:Vl t σ H (.str (txt bs)))(hl:bs.length≤1500):Ev (tCall spLBytes [] E (tCons t tNil)) σ H (λ v H'=>∃R,RowOf (num bs) bs.length R/\LsV R v H'):=λ H1 s Q k=>
 h H1 s _ λ x H2 s2 e2=>⟨bs,by rw [e2];rfl,hl,λ l R H3 _ hR h3 s3=>k _ H3 (s2.trans s3) ⟨R,hR,l,rfl,h3⟩⟩
theorem kD {i:Nat}{D:Ends}(h:Ev te σ H Φ)(k:∀v H',Same H H'->Φ v H'->D.nx (σ.set i (some v)) H'):jd te (bM i) D σ H:=h.go k
theorem dG {i j:Nat}{D:Ends}(h:Ev te σ H λ v H'=>∃t,v=.ref t/\H' t=some (.tup [x,y]))(k:∀H',Same H H'->D.nx ((σ.set i (some x)).set j (some y)) H'):jd te (tN K 2 (lE (bM i) (lE (bM j) xl))) D σ H:=
 h.go λ v H' s z9=>by obtain⟨t,e,ht⟩:=z9;exact⟨t,_,e,SqT.of ht,rfl,_,_,rfl,_,_,rfl,rfl,k H' s⟩
theorem Ev.place {tp:TE}{lp:EC}{ts:List EC}{xs:List Blk}{j:Nat}{x:Blk}(hp:Vl tp σ H (.ref lp))(hi:Vl ti σ H (vN j))(h1:H lp=some (.lst (ts.map V.ref)))(h2:PlAt H ts p xs)(e:xs[j]?=some x):Ev (tOp (rIxL K) tp ti) σ H λ v H'=>∃t,v=.ref t/\H' t=some (.tup [vN (p+((xs.take j).map bk).flatten.length),vN (p+((xs.take j).map bk).flatten.length+(bk x).length)]):=λ H1 s Q k=>by
 have hj:j<ts.length:=by rw [h2.len];exact(Ak.mp e).1
 obtain⟨y,ey,ht⟩:=h2.get (i:=j) (t:=ts[j]) (Af hj);rw [e] at ey;cases ey;refine hp H1 s _ λ z H2 s2 e2=>hi H2 (s.trans s2) _ λ u H3 s3 e3=>⟨lp,_,_,.ref ts[j],e2,e3,SqL.of (s3 _ _ (s2 _ _ (s _ _ h1))),aT ?_,k _ H3 (s2.trans s3) ⟨ts[j],rfl,s3 _ _ (s2 _ _ (s _ _ ht))⟩⟩
 rw [Au,Af hj];rfl
end
theorem vJ {xs:List Blk}(g:Gd xs){j:Nat}(h:j<xs.length):(win xs j).length=64*(j%4):=by
 unfold win;rw [Ax,g.len h];omega
theorem eV (xs:List Blk)(j:Nat):3+((xs.take j).map bk).flatten.length=pos (xs.map bk) j:=by
 unfold pos;rw [Bh]
theorem lO {xs:List Blk}{r:List Nat}{j:Nat}{x:Blk}(e:xs[j]?=some x):(mk3++((xs.map bk).flatten++r))[pos (xs.map bk) j]?=some (64*x.1+x.2.1.length-1):=by
 have h:=eE (xs.map bk) r j;rw [dX (K:=bk x) (by rw [Au,e];rfl),rd] at h;have h2:=AB (λ l=>l[0]?) h;simp only [List.getElem?_drop,C5] at h2;rw [h2];rfl
theorem bV {xs:List Blk}(g:Gd xs):∀b∈(xs.map bk).flatten,b<256:=λ b hb=>by
 obtain⟨L,hL,hb⟩:=Cv.mp hb;obtain⟨x,hx,rfl⟩:=C6.mp hL;obtain⟨i,hi,e⟩:=Ca hx;exact mX (g.g (i:=i) (x:=x) (by rw [Af hi,e])) b hb
theorem fI {xs:List Blk}(g:Gd xs)(h9:xs.length≤9):(xs.map bk).flatten.length≤621:=by
 have:=hZ (xs:=xs) λ x hx=>by
  obtain⟨j,hj,e⟩:=Ca hx;exact(g.g (i:=j) (x:=x) (by rw [Af hj,e])).r64
 omega
section
variable {C:EC}
def spWrong:Sp:=λ vs H Q _=>∃(a lp:EC) (ts:List EC) (xs:List Blk) (x:Blk) (j z:Nat) (r:List Nat),vs=[.ref a,.ref lp,vN j,vN z]/\H a=some (.lst ((mk3++((xs.map bk).flatten++r)).map vN))/\H lp=some (.lst (ts.map V.ref))/\PlAt H ts 3 xs/\xs[j]?=some x/\Gd xs/\xs.length≤9/\r.length≤20/\
 ∀(l:EC) (R:List Nat) (H':Hp),Same H H'->R.length=2->(∀b∈fB x.2.1.length R,b<256)->TxK R (win xs j) 2 x.2.1.length none->H' l=some (.lst ((mk3++(((xs.map bk).set j (fB x.2.1.length R)).flatten++r)).map vN))->Q (.ref l) H'
abbrev yh:List Str:=["_law_row","_law_places","_law_number","_law_cell","_law_place","_law_end","_law_back","_law_body_here","_law_head","_law_block"]
theorem scWrong:FnScope yh ["_law_row","_law_places","_law_number","_law_cell"] (ak ny):=⟨rfl,rfl,rfl,Z8,rfl,Z8,Z8⟩
theorem mh (F:Fn K mg "_law_wrong_body" ny ["_law_row","_law_places","_law_number","_law_cell"] f fd)(Z:Lw K mg C):FnOk P w K mg base CX0 7 f fd ["_law_row","_law_places","_law_number","_law_cell"] spWrong:=by
 have X:=Z.Y.Z.X.R.X;obtain⟨_,_,Tw⟩:=Z.two;obtain⟨_,_,Lb⟩:=Z.bits;obtain⟨_,_,By⟩:=Z.bytes;obtain⟨_,_,Co⟩:=Z.Y.checkof;obtain⟨_,FC⟩:=Co.F;obtain⟨t16,B16⟩:=Co.d;have GW:=hU (P:=P) (w:=w) (base:=base) Tw;have GB:=fM (P:=P) (w:=w) (base:=base) Lb X Z.str;have GY:=gS (P:=P) (w:=w) (base:=base) By X;have GK:=cn (P:=P) (w:=w) (mg:=mg) (base:=base) FC Z.Y.Z;refine F.F.ok scWrong λ EO A outer st H vs Q E hr h=>?_
 intro _;obtain⟨a,lp,ts,xs,x,j,z,r,rfl,ha,hlp,hpl,ex,hg,h9,hr20,k⟩:=h;have hr1:Room 1 _:=hr.mono Z9;refine⟨_,ad (cV (ba bd (pv 1) (pv 2) (λ _ _=>rfl)) (cb rfl (aM (aG (i:=4) scWrong.nd) (aM (aG (i:=5) scWrong.nd) bL))))
   (ad (ao (i:=6) scWrong.nd (ag aF (ag aF (ag bE ae (ag aI (pv 2) ae)) ae) (ag aI (ag aQ (pv 3) ae) (ag aU ae (ag bE ae (ag aI (pv 2) ae))))))
   (ad (ao (i:=7) scWrong.nd (ai GY hr1 Z7 By.m By.F.kp By.b .nil ap (aa (ag bg (ag bg aB (ai GB hr1 Z7 Lb.m Lb.F.kp Lb.b .nil ap (aa (pv 6) (aa ae ac)))) (ai GB hr1 Z7 Lb.m Lb.F.kp Lb.b .nil ap (aa (ag aI (pv 3) ae) (aa ae ac)))) ac)))
   (ad (ao (i:=8) scWrong.nd (aD (aa (ag aF ae (ag aI (ba bd (pv 0) (pv 4) (λ _ _=>rfl)) ae)) (aa (aw aq Z7 X.len As (aa (pv 7) ac)) ac))))
   (ad (ao (i:=9) scWrong.nd (ag aJ (ag aJ (pv 8) (aD (aa (ai GK hr Z7 Co.m Co.kp Co.b .nil ap (aa (pv 8) (aa ae ac))) ac))) (pv 7)))
   (ah (ar (ag aJ (ag aJ (ag aJ (aC aL (pv 0) aY (aA (pv 4))) (pv 9)) (ai GW hr1 Z7 Tw.m Tw.F.kp Tw.b .nil ap (aa (ai GK hr Z7 Co.m Co.kp B16 (.cons (a:=V.int 16) ⟨_,rfl⟩ .nil) ap (aa (pv 9) ac)) ac))) (aC aL (pv 0) (aA (pv 5)) aY)))))))),?_⟩
 have hj:j<xs.length:=(Ak.mp ex).1;have gx:=hg.g ex;have h1:=gx.t1;have h2:=gx.t64;have hu:=gx.u;refine am λ _ g=>dG (Ev.place (Vl.var rfl) (Vl.var rfl) hlp hpl ex) λ H1 s1=>g _ _ ?_
 clear g;rw [eV];have ha1:=s1 _ _ ha;obtain⟨b,hb1,hb2,eb⟩:∃b:Nat,64*(j%4)+1≤b/\b≤255/\(64:Int)*(((j:Nat):Int)%4)+1+((z:Nat):Int)/9%(255-64*(((j:Nat):Int)%4))=((b:Nat):Int):=by
  have hl:=AK (z/9) (show 0<255-64*(j%4) by omega);refine⟨64*(j%4)+1+z/9%(255-64*(j%4)),by omega,by omega,?_⟩;have e1:(255:Int)-64*(((j:Nat):Int)%4)=((255-64*(j%4):Nat):Int):=by omega
  rw [e1,Cm,AN,BI,Cm,DR,AN];rfl
 have hv:Vl (tOp (rI (λ _ j=>0<j) λ i j=>.int (i%j)) (tVar 2) (tC (.int 4))) [some (.ref a),some (.ref lp),some (vN j),some (vN z),some (vN (pos (xs.map bk) j)),some (vN (pos (xs.map bk) j+(bk x).length)),none,none,none,none] H1 (.int (((j:Nat):Int)%4)):=Vl.op (Vl.var rfl) Vl.c (by show(0:Int)<4;decide) rfl;have h4:(0:Int)≤((j:Nat):Int)%4/\((j:Nat):Int)%4<4:=⟨by omega,by omega⟩;refine am λ _ g=>eM (v:=vN b) (Vl.op0 (Vl.op0 (Vl.op Vl.c hv (.inl ⟨Z9,Z9⟩) rfl) Vl.c rfl) (Vl.op (Vl.op (Vl.var rfl) Vl.c ⟨Z9,Z9⟩ rfl) (Vl.op0 Vl.c (Vl.op Vl.c hv (.inl ⟨Z9,Z9⟩) rfl) rfl) (by show(0:Int)<255-64*(((j:Nat):Int)%4);omega) rfl) (AB V.int eb)) λ H2 s2=>g _ _ ?_
 clear g hv;have e13:bitsP [(1,1),(b,8),(z%16,4)]=[true]++dig b 8++dig (z%16) 4:=by
  rw [bF,bF,bF];show dig 1 1++(dig b 8++(dig (z%16) 4++[]))=_;rw [AQ,Ab];rfl
 have l13:([true]++dig b 8++dig (z%16) 4).length=13:=by rw [z0,z0,aH,aH];rfl
 refine am λ _ g=>kD (Ev.bytes (Vl.cats (Vl.cats Vl.txt1 (Vl.bits (Vl.var rfl) (Vl.c (v:=vN 8)) (by decide)) (by rw [aH];show 1+8≤2000;decide)) (Vl.bits (n:=z%16) (Vl.op (Vl.var rfl) Vl.c (by show(0:Int)<16;decide) (AB V.int (AN z 16).symm)) (Vl.c (v:=vN 4)) (by decide)) (by rw [z0,aH,aH];show 1+8+4≤2000;decide)) (by rw [l13];decide)) λ v H3 s3 hv3=>?_
 obtain⟨R,hR,l3,rfl,h3⟩:=hv3;refine g _ _ ?_;clear g;rw [<-e13] at hR;have hR2:R.length=2:=by have:=hR.len;rw [e13,l13] at this;omega
 have hT:TxK R (win xs j) 2 x.2.1.length none:=yg hR (by omega) (AK _ (by decide)) h1 (by rw [vJ hg hj];omega);have ha3:=s3 _ _ (s2 _ _ ha1);have eh:((64*x.1+x.2.1.length-1:Nat):Int)%64=((x.2.1.length-1:Nat):Int):=by omega
 refine am λ _ g=>dR (A:=[128+(x.2.1.length-1),2]) (Ls.lst (Ta.cons (Vl.op0 Vl.c (Vl.op (Vl.ix (Ls.var rfl ha3) (Vl.var rfl) (lO ex)) Vl.c (by show(0:Int)<64;decide) (AB V.int eh)) rfl) (Ta.cons (Vl.len (Ls.var rfl h3) (by rw [hR2])) Ta.nil)) (by show 2≤2000;decide)) λ l4 H4 s4 h4'=>g _ _ ?_
 clear g;have hh:∀b∈ [128+(x.2.1.length-1),2],b<256:=λ b hb=>by simp at hb;omega
 have h34:=s4 _ _ h3;refine am λ _ g=>dR (A:=[128+(x.2.1.length-1),2]++[chk 8 29 [128+(x.2.1.length-1),2]]++R) (Ls.cat (Ls.cat (Ls.var rfl h4') (Ls.lst (A:=[chk 8 29 [128+(x.2.1.length-1),2]]) (Ta.cons (Vl.check8 (Ls.var rfl h4') Vl.c hh) Ta.nil) (by show 1≤2000;decide)) (by show 2+1≤2000;decide)) (Ls.var rfl h34) (by show 3+R.length≤2000;omega)) λ l5 H5 s5 h5=>g _ _ ?_
 clear g;change H5 l5=some (.lst ((hrow (128+(x.2.1.length-1)) 2++R).map vN)) at h5;have hX:∀b∈hrow (128+(x.2.1.length-1)) 2++R,b<256:=λ b hb=>by
  rcases Ar.mp hb with q|q
  ·have hc:chk 8 29 [128+(x.2.1.length-1),2]<256:=bJ wp8 hh;have q:b=128+(x.2.1.length-1)\/b=2\/b=chk 8 29 [128+(x.2.1.length-1),2]:=by simpa [hrow] using q
   omega
  ·exact hR.byt b q
 have ha5:=s5 _ _ (s4 _ _ ha3);have hL:=fI hg h9;have hrl:(mk3++((xs.map bk).flatten++r)).length≤644:=by rw [bC];omega
 refine mD (A:=(mk3++((xs.map bk).flatten++r)).take (pos (xs.map bk) j)++(hrow (128+(x.2.1.length-1)) 2++R)++two (chk 16 45 (hrow (128+(x.2.1.length-1)) 2++R))++(mk3++((xs.map bk).flatten++r)).drop (pos (xs.map bk) j+(bk x).length)) (Ls.cat (Ls.cat (Ls.cat (Ls.upto (Ls.var rfl ha5) (Vl.var rfl)) (Ls.var rfl h5) ?_) (Ls.two (Vl.check (Ls.var rfl h5) hX) (bJ eF hX)) ?_) (Ls.from (Ls.var rfl ha5) (Vl.var rfl)) ?_) λ l6 H6 s6 h6=>k l6 R H6 (s1.trans (s2.trans (s3.trans (s4.trans (s5.trans s6))))) hR2 ?_ hT ?_
 ·rw [Aj,z0 (as:=hrow _ _),hR2];show _+(3+2)≤2000;omega
 ·rw [z0,Aj,z0 (as:=hrow _ _),hR2];show _+(3+2)+2≤2000;omega
 ·rw [z0,z0,Aj,z0 (as:=hrow _ _),hR2,Ax];show _+(3+2)+2+_≤2000;omega
 ·intro b hb;rcases Ar.mp hb with q|q
  ·exact hX b q
  ·exact bH (bJ eF hX) b q
 ·rw [h6,Ab (List.take _ _)];congr 3;exact wb (by rw [Au,ex];rfl)
def spShort:Sp:=λ vs H Q _=>∃(a:EC) (xs:List Blk) (x:Blk) (j n c:Nat),vs=[.ref a,vN (pos (xs.map bk) j),vN n]/\H a=some (.lst ((mk3++((xs.map bk).flatten++tl n c)).map vN))/\xs[j]?=some x/\Gd xs/\xs.length≤9/\n≤1000/\c<65536/\
 ∀(l:EC) (R r:List Nat) (H':Hp),Same H H'->R.length=2->(∀b∈mk3++((xs.map bk).take j).flatten++sld (hrow 68 2++R)++(((xs.map bk).drop j).flatten++r),b<256)->r.length≤20->H' l=some (.lst ((mk3++((xs.map bk).take j).flatten++sld (hrow 68 2++R)++(((xs.map bk).drop j).flatten++r)).map vN))->Q (.ref l) H'
abbrev x9:List Str:=["_law_row","_law_place","_law_many","_law_head","_law_block","_law_tail","_law_end"]
theorem scShort:FnScope x9 ["_law_row","_law_place","_law_many"] (ak nn):=⟨rfl,rfl,rfl,Z8,rfl,Z8,Z8⟩
theorem uw (F:Fn K mg "_law_short_ahead" nn ["_law_row","_law_place","_law_many"] f fd)(Z:Lw K mg C):FnOk P w K mg base CX0 7 f fd ["_law_row","_law_place","_law_many"] spShort:=by
 have X:=Z.Y.Z.X.R.X;obtain⟨_,_,Tw⟩:=Z.two;obtain⟨_,_,Lb⟩:=Z.bits;obtain⟨_,_,By⟩:=Z.bytes;obtain⟨_,_,Co⟩:=Z.Y.checkof;obtain⟨_,FC⟩:=Co.F;obtain⟨t16,B16⟩:=Co.d;have GW:=hU (P:=P) (w:=w) (base:=base) Tw;have GB:=fM (P:=P) (w:=w) (base:=base) Lb X Z.str;have GY:=gS (P:=P) (w:=w) (base:=base) By X;have GK:=cn (P:=P) (w:=w) (mg:=mg) (base:=base) FC Z.Y.Z;refine F.F.ok scShort λ EO A outer st H vs Q E hr h=>?_
 intro _;obtain⟨a,xs,x,j,n,c,rfl,ha,ex,hg,h9,hn,hc,k⟩:=h;have hr1:Room 1 _:=hr.mono Z9;refine⟨_,ad (ao (i:=3) scShort.nd (aD (aa (ag aF ae ae) (aa ae ac))))
   (ad (ao (i:=4) scShort.nd (ag aJ (ag aJ (pv 3) (aD (aa (ai GK hr Z7 Co.m Co.kp Co.b .nil ap (aa (pv 3) (aa ae ac))) ac))) (ai GY hr1 Z7 By.m By.F.kp By.b .nil ap (aa (ag bg (ai GB hr1 Z7 Lb.m Lb.F.kp Lb.b .nil ap (aa ae (aa ae ac))) (ai GB hr1 Z7 Lb.m Lb.F.kp Lb.b .nil ap (aa (ag aI (pv 2) ae) (aa ae ac)))) ac))))
   (ad (ao (i:=5) scShort.nd (ag aJ (ag aJ (aC aL (pv 0) (aA (cf bG ae)) (aA (cf bG ae))) (ai GW hr1 Z7 Tw.m Tw.F.kp Tw.b .nil ap (aa (ag aF (pv 2) ae) ac))) (aC aL (pv 0) (aA (cf bG ae)) (aA (cf bG ae)))))
   (ad (ao (i:=6) scShort.nd (ag aJ (pv 5) (ai GW hr1 Z7 Tw.m Tw.F.kp Tw.b .nil ap (aa (ai GK hr Z7 Co.m Co.kp B16 (.cons (a:=V.int 16) ⟨_,rfl⟩ .nil) ap (aa (pv 5) ac)) ac))))
   (ah (ar (ag aJ (ag aJ (ag aJ (ag aJ (aC aL (pv 0) aY (aA (pv 1))) (pv 4)) (ai GW hr1 Z7 Tw.m Tw.F.kp Tw.b .nil ap (aa (ai GK hr Z7 Co.m Co.kp B16 (.cons (a:=V.int 16) ⟨_,rfl⟩ .nil) ap (aa (pv 4) ac)) ac))) (aC aL (pv 0) (aA (pv 1)) (aA (cf bG ae)))) (pv 6))))))),?_⟩
 have hL:=fI hg h9;have hrl:=bC (xs.map bk).flatten (tl n c);have ht:=a9 n c;have hrow:∀b∈mk3++((xs.map bk).flatten++tl n c),b<256:=λ b hb=>by
  rcases Ar.mp hb with q|q
  ·have q:b=184\/b=66\/b=1:=by simpa [mk3] using q
   omega
  ·rcases Ar.mp q with q|q
   ·exact bV hg b q
   ·exact(cU hc).2 b q
 have hps:pos (xs.map bk) j≤3+(xs.map bk).flatten.length:=by
  unfold pos;have:=AB List.length (bv (xs.map bk) j);rw [z0] at this;omega
 refine am λ _ g=>dR (A:=[68,2]) (Ls.lst (Ta.cons (Vl.op0 Vl.c Vl.c rfl) (Ta.cons Vl.c Ta.nil)) (by show 2≤2000;decide)) λ l1 H1 s1 h1=>g _ _ ?_
 clear g;have hh:∀b∈ [68,2],b<256:=λ b hb=>by simp at hb;omega
 have l14:(dig 4 6++dig (n%256) 8).length=14:=by rw [z0,aH,aH]
 refine am λ _ g=>?_
 have hcat:Ev (tOp rCat (tOp rCat (tVar 3) (tLst (tCons (tCall spCheckOf [] E0 (tCons (tVar 3) (tCons (tC (.int 8)) tNil))) tNil))) (tCall spLBytes [] E0 (tCons (tOp (λ x y H Q=>∃(a b:Str),x=.str a/\y=.str b/\a.length+b.length≤sizeLine/\Q (.str (a++b)) H) (tCall ib [] E0 (tCons (tC (.int 4)) (tCons (tC (.int 6)) tNil))) (tCall ib [] E0 (tCons (tOp (rI (λ _ j=>0<j) λ i j=>.int (i%j)) (tVar 2) (tC (.int 256))) (tCons (tC (.int 8)) tNil)))) tNil))) [some (.ref a),some (vN (pos (xs.map bk) j)),some (vN n),some (.ref l1),none,none,none] H1 (λ v H'=>∃R,R.length=2/\(∀b∈R,b<256)/\LsV (Ck.hrow 68 2++R) v H'):=λ G1 t1 Q q=>by
  refine Ls.cat (Ls.var rfl h1) (Ls.lst (A:=[chk 8 29 [68,2]]) (Ta.cons (Vl.check8 (Ls.var rfl h1) Vl.c hh) Ta.nil) (by show 1≤2000;decide)) (by show 2+1≤2000;decide) G1 t1 _ λ u G2 t2 hu2=>?_
  obtain⟨lu,rfl,hu⟩:=hu2;refine Ev.bytes (H:=G2) (Vl.cats (Vl.bits (n:=4) (s:=6) Vl.c Vl.c (by decide)) (Vl.bits (n:=n%256) (s:=8) (Vl.op (Vl.var rfl) Vl.c (by show(0:Int)<256;decide) (AB V.int (AN n 256).symm)) Vl.c (by decide)) (by rw [aH,aH];decide)) (by rw [l14];decide) G2 (Same.refl _) _ λ v G3 t3 hv3=>?_
  obtain⟨R,hR,lv,rfl,hv⟩:=hv3;have hR2:R.length=2:=by have:=hR.len;rw [l14] at this;omega
  refine⟨lu,lv,_,_,rfl,rfl,t3 _ _ hu,hv,by rw [z7,z7,hR2];exact bh (by show 3+2≤2000;decide),λ p hp=>q _ _ ((t2.trans t3).trans (aj hp)) ⟨R,hR2,hR.byt,p,rfl,?_⟩⟩;rw [af,<-At];rfl
 refine kD hcat λ v H2 s2 hv2=>?_
 obtain⟨R,hR2,hRb,l2,rfl,h2⟩:=hv2;refine g _ _ ?_;clear g hcat;have hX:∀b∈Ck.hrow 68 2++R,b<256:=λ b hb=>by
  rcases Ar.mp hb with q|q
  ·have hc:chk 8 29 [68,2]<256:=bJ wp8 hh;have q:b=68\/b=2\/b=chk 8 29 [68,2]:=by simpa [Ck.hrow] using q
   omega
  ·exact hRb b q
 have ha2:=s2 _ _ (s1 _ _ ha);have e5:((mk3++((xs.map bk).flatten++tl n c)).drop ((mk3++((xs.map bk).flatten++tl n c)).length-11)).take (11-6)=(tl n c).take 5:=by rw [fc ht (by decide)];rfl
 have e2:((mk3++((xs.map bk).flatten++tl n c)).drop ((mk3++((xs.map bk).flatten++tl n c)).length-4)).take (4-2)=two c:=by rw [fc ht (by decide),iE];rfl
 have l5:((tl n c).take 5).length=5:=by rw [Aj,ht];rfl
 refine am λ _ g=>dR (A:=(tl n c).take 5++two (n+5)++two c) (Ls.cat (Ls.cat (Ls.ends (k:=11) (l:=6) (Ls.var rfl ha2) (Vl.neg Vl.c rfl) (Vl.neg Vl.c rfl) rfl rfl (by decide) (by decide) (by omega) e5) (Ls.two (Vl.op0 (Vl.var rfl) Vl.c rfl) (by omega)) (by rw [l5];show 5+2≤2000;decide)) (Ls.ends (k:=4) (l:=2) (Ls.var rfl ha2) (Vl.neg Vl.c rfl) (Vl.neg Vl.c rfl) rfl rfl (by decide) (by decide) (by omega) e2) (by rw [z0,l5];show 7+2≤2000;decide)) λ l3 H3 s3 h3=>g _ _ ?_
 clear g;have lT:((tl n c).take 5++two (n+5)++two c).length=9:=by rw [z0,z0,l5];rfl
 have hY:∀b∈(tl n c).take 5++two (n+5)++two c,b<256:=λ b hb=>by
  rcases Ar.mp hb with q|q
  ·rcases Ar.mp q with q|q
   ·exact(cU hc).2 b (AG q)
   ·exact bH (by omega) b q
  ·exact bH hc b q
 generalize (tl n c).take 5++two (n+5)++two c=T at*;refine am λ _ g=>dR (A:=T++two (chk 16 45 T)) (Ls.cat (Ls.var rfl h3) (Ls.two (Vl.check (Ls.var rfl h3) hY) (bJ eF hY)) (by rw [lT];show 9+2≤2000;decide)) λ l4 H4 s4 h4=>g _ _ ?_
 clear g;have ha4:=s4 _ _ (s3 _ _ ha2);have h24:=s4 _ _ (s3 _ _ h2);have hYb:∀b∈T++two (chk 16 45 T),b<256:=λ b hb=>by
  rcases Ar.mp hb with q|q
  ·exact hY b q
  ·exact bH (bJ eF hY) b q
 have lY:(T++two (chk 16 45 T)).length=11:=by rw [z0,lT];rfl
 have em:((mk3++((xs.map bk).flatten++tl n c)).drop (pos (xs.map bk) j)).take ((mk3++((xs.map bk).flatten++tl n c)).length-11-pos (xs.map bk) j)=((xs.map bk).drop j).flatten:=by
  rw [eE,hrl,ht];refine BZ ?_;have:=AB List.length (bv (xs.map bk) j);rw [z0] at this;unfold pos;omega
 have EQ:(((xs.map bk).take j).flatten).length+(((xs.map bk).drop j).flatten).length=(xs.map bk).flatten.length:=by rw [<-z0,<-bv]
 refine mD (A:=(mk3++((xs.map bk).flatten++tl n c)).take (pos (xs.map bk) j)++(Ck.hrow 68 2++R)++two (chk 16 45 (Ck.hrow 68 2++R))++((xs.map bk).drop j).flatten++(T++two (chk 16 45 T))) (Ls.cat (Ls.cat (Ls.cat (Ls.cat (Ls.upto (Ls.var rfl ha4) (Vl.var rfl)) (Ls.var rfl h24) ?_) (Ls.two (Vl.check (Ls.var rfl h24) hX) (bJ eF hX)) ?_) (Ls.midE (l:=11) (Ls.var rfl ha4) (Vl.var rfl) (Vl.neg Vl.c rfl) rfl (by decide) (by omega) em) ?_) (Ls.var rfl h4) ?_) λ l6 H6 s6 h6=>k l6 R (T++two (chk 16 45 T)) H6 (s1.trans (s2.trans (s3.trans (s4.trans s6)))) hR2 ?_ (by rw [lY];decide) ?_
 ·rw [Aj,z0 (as:=Ck.hrow _ _),hR2];show _+(3+2)≤2000;omega
 ·rw [z0,Aj,z0 (as:=Ck.hrow _ _),hR2];show _+(3+2)+2≤2000;omega
 ·rw [z0,z0,Aj,z0 (as:=Ck.hrow _ _),hR2];show _+(3+2)+2+_≤2000;omega
 ·rw [z0,z0,z0,Aj,z0 (as:=Ck.hrow _ _),hR2,lY];show _+(3+2)+2+_+11≤2000;omega
 ·intro b hb;rcases Ar.mp hb with q|q
  ·rcases Ar.mp q with q|q
   ·exact hrow b (AG (by rw [dY];exact q))
   ·rcases Ar.mp q with q|q
    ·exact hX b q
    ·exact bH (bJ eF hX) b q
  ·rcases Ar.mp q with q|q
   ·exact bV hg b (by rw [bv (xs.map bk) j];exact AE _ q)
   ·exact hYb b q
 ·rw [h6,dY];unfold sld;simp only [Ab]
end
end K28.Ck
set_option maxHeartbeats 4000000
namespace L2
open PySem PySem.Spec PyProof.Rows QQ
variable {p q:EC}{s:EE}{A:EI}{H:Hp}{EN:List (EC×EL)}{σ:St}
section
variable {X:Cx}
theorem va (I:Inv X EN σ H s){a b:EC}(h:SameGs X.K H a b)(hu:A.units+1<cLine):SeqAt.EqAt A s (.ref a) (.ref b) true:=by
 by_cases e:a=b
 ·subst e;exact .same _
 ·refine .of_refs e ?_;obtain⟨its,its2,pl,pl2,hz,he⟩:=gr (A:=A.in1) I h (by show A.units+1<_;omega);have R:=SeqAt.RcAt.lists (A:=A) (e:=λ _=>true) pl pl2 hz (by omega) he;have e2:(List.range its.toArray.size).all (λ _=>true)=true:=by simp
  rw [e2] at R;exact R
def ot (K:Frag)(H:Hp)(p q:EC):Prop:=∃(n:Int) (l m:EC),SqT K H p [.ref l,.int n]/\SqT K H q [.ref m,.int n]/\SameGs K H l m
theorem jy (I:Inv X EN σ H s)(h:ot X.K H p q)(hu:A.units+1<cLine):∃its its2:List ED,s.heap.IsTuple p its.toArray/\s.heap.IsTuple q its2.toArray/\its.toArray.size=its2.toArray.size/\∀j (h1:j<its.toArray.size) (h2:j<its2.toArray.size),SeqAt.EqAt A s its.toArray[j] its2.toArray[j] true:=by
 obtain⟨n,l,m,h1,h2,hs⟩:=h;obtain⟨its,rv,pl,hz⟩:=I.tuple h1;obtain⟨its2,rv2,pl2,hz2⟩:=I.tuple h2;obtain⟨u1,v1,rfl,r1,w1⟩:∃u1 v1,its=[u1,v1]/\RelV (.ref l) u1/\RelV (.int n) v1:=by
  cases rv with
  |cons a b=>cases b with|cons c d=>cases d;exact⟨_,_,rfl,a,c⟩
 obtain⟨u2,v2,rfl,r2,w2⟩:∃u2 v2,its2=[u2,v2]/\RelV (.ref m) u2/\RelV (.int n) v2:=by
  cases rv2 with
  |cons a b=>cases b with|cons c d=>cases d;exact⟨_,_,rfl,a,c⟩
 cases r1;cases r2;refine⟨_,_,pl,pl2,rfl,λ j h1 h2=>?_⟩;have f:flatV (.int n)=true:=rfl
 match j,h1 with
 |0,_=>exact va I hs hu
 |1,_=>
  have R:=iF (A:=A) (s:=s) w1 w2 f f;rw [io _ f] at R;exact R
def zv (K:Frag):R2:=λ x y H Q=>∃(p q:EC),x=.ref p/\y=.ref q/\ot K H p q/\Q (.bl false) H
theorem we (hu:X.A.units+64<cLine):OpR X (compareOp .NotEq) (zv X.K):=by
 intro EN s σ H x y v u Q I rx ry h;obtain⟨p,q,rfl,rfl,h,k⟩:=h;cases rx;cases ry;obtain⟨its,its2,pl,pl2,hz,he⟩:=jy (A:=X.A.in1) I h (by show X.A.units+1+1<_;omega);refine SeqAt.RcNeAt.tuples (e:=λ _=>true) pl pl2 (by omega) he _ _ _ _ ?_;refine⟨.bl false,H,I,?_,k⟩;show Value.bool _=Value.bool _;rw [hz];simp
theorem SameGs.flat {K:Frag}{xs:List V}(h1:H p=some (.lst xs))(h2:H q=some (.lst xs))(f:∀x∈xs,flatV x=true):SameGs K H p q:=
 ⟨xs,xs,SqL.of h1,SqL.of h2,rfl,λ i x y e1 e2=>by
  rw [e1] at e2;cases e2;exact .inl ⟨rfl,.inl (f x (BC e1))⟩⟩
def zj (K:Frag):R2:=λ x y H Q=>∃(p q:EC),x=.ref p/\y=.ref q/\ot K H p q/\Q (.bl true) H
theorem uH (hu:X.A.units+64<cLine):OpR X (compareOp .Eq) (zj X.K):=by
 intro EN s σ H x y v u Q I rx ry h;obtain⟨p,q,rfl,rfl,h,k⟩:=h;cases rx;cases ry;obtain⟨its,its2,pl,pl2,hz,he⟩:=jy (A:=X.A.in1) I h (by show X.A.units+1+1<_;omega);refine SeqAt.RcAt.tuples (e:=λ _=>true) pl pl2 (by omega) he _ _ _ _ ?_;refine⟨.bl true,H,I,?_,k⟩;show Value.bool _=Value.bool _;rw [hz];simp
def zJ (K:Frag):R2:=λ x y H Q=>∃(p q:EC) (xs:List V),x=.ref p/\y=.ref q/\SqL K H p xs/\SqL K H q []/\Q (.bl xs.isEmpty) H
theorem tG (hu:X.A.units+64<cLine):OpR X (compareOp .Eq) (zJ X.K):=by
 intro EN s σ H x y v u Q I rx ry h;obtain⟨p,q,xs,rfl,rfl,h1,h2,k⟩:=h;cases rx;cases ry;obtain⟨its,rv,pl,hz⟩:=I.list h1;obtain⟨its2,rv2,pl2,hz2⟩:=I.list h2;have l1:=rv.length;have l2:=rv2.length;cases xs with
 |nil=>
  refine SeqAt.RcAt.lists (e:=λ _=>true) pl.isList pl2.isList (by rw [An,An,<-l1,<-l2]) (by omega) (λ j h1 _=>?_) _ _ _ _ ⟨.bl true,H,I,?_,k⟩
  ·rw [An,<-l1] at h1;exact absurd h1 (Nat.not_lt_zero _)
  ·show Value.bool _=Value.bool _;simp
 |cons x xs=>
  refine SeqAt.RcAt.lists_lengths pl.isList pl2.isList ?_ (by omega) _ _ _ _ ⟨.bl false,H,I,rfl,k⟩;rw [An,An,<-l1,<-l2];simp
end
end L2
set_option maxHeartbeats 4000000
namespace K28.Ck
open PySem L2 QQ W17 W16 BP
seal PE PA PS PSs PT PW PG PI
variable {fd:EH}{A r:List Nat}{z:Str}{K:Frag}{a b t tb ti tp:TE}{v x y:V}{j m n nb nc:Nat}{d f l lp:EC}{vs ys:List V}{Ks:List (List Nat)}{E:XK}{H H':Hp}{es:List (Nat×EC)}{σ:St}{ts:List EC}
abbrev ki:EM:=top 146
abbrev pK:EM:=top 147
abbrev og:EM:=top 148
abbrev kK:EM:=top 149
abbrev xF:EM:=top 150
structure Lv (K:Frag)(mg:Str->Option ED)(C CHd CR cR cH cK cB cN C0 C1 C2 C3 cM cT cZ cC cG cP:EC):Prop where
 Z:Lw K mg C
 N:Rng K mg C CHd CR cR cH cK cB cN C0 C1 C2 C3 cM cT cZ cC cG
 Y:Ers K mg cP (e9 cM cH cK cT cZ cC cR cG cB)
 dm:mg "divmod"=none
 mx:mg "max"=none
 told:∃f fd,Fn K mg "told_range" pE ["row","begin","count"] f fd
 word:∃f fd,Fn K mg "_law_word" mJ ["_law_row","_law_begin","_law_count"] f fd
 bent:∃f fd,Fn K mg "_law_bent" tf ["_law_row","_law_at","_law_bit"] f fd
 wrong:∃f fd,Fn K mg "_law_wrong_body" ny ["_law_row","_law_places","_law_number","_law_cell"] f fd
 short:∃f fd,Fn K mg "_law_short_ahead" nn ["_law_row","_law_place","_law_many"] f fd
 sealed:∃f fd,Fn K mg "_law_sealed" kF ["_law_row","_law_count"] f fd
theorem lG {F:List Nat}(hF:∀b∈F,b<256)(hr:∀b∈r,b<256):∀b∈mk3++(F++r),b<256:=λ b hb=>by
 rcases Ar.mp hb with q|q
 ·have q:b=184\/b=66\/b=1:=by simpa [mk3] using q
  omega
 ·rcases Ar.mp q with q|q
  ·exact hF b q
  ·exact hr b q
theorem fG {B:List Nat}(hA:∀b∈A,b<256)(hB:∀b∈B,b<256):∀b∈A++B,b<256:=λ b hb=>(Ar.mp hb).elim (hA b) (hB b)
section
variable {K:Frag}{σ:St}{H:Hp}
theorem Ls.sealed {tm:TE}{F:List Nat}{c:Nat}(h:Ls t σ H (mk3++(F++tl n c)))(hm:Vl tm σ H (vN m))(hF:F.length≤700)(hc:c<65536)(hm2:m<4294967296):Ls (tCall kT [] E (tCons t (tCons tm tNil))) σ H (mk3++(F++tl m c)):=λ H1 s Q k=>
 h H1 s _ λ x H2 s2 z9=>by obtain⟨l,e,hl⟩:=z9;exact hm H2 (s.trans s2) _ λ y H3 s3 e3=>⟨l,F,n,m,c,by rw [e,e3];rfl,s3 _ _ hl,hF,hc,hm2,λ p H4 s4 h4=>k _ H4 ((s2.trans s3).trans s4) ⟨p,rfl,h4⟩⟩
theorem Ev.pair {i:Nat}{t:EC}(h:σ[i]?=some (some (.ref t)))(ht:H t=some (.tup [x,y])):Ev (tVar i) σ H λ v H'=>∃t,v=.ref t/\H' t=some (.tup [x,y]):=λ H1 s Q k=>⟨_,h,k _ H1 (Same.refl H1) ⟨t,rfl,s _ _ ht⟩⟩
theorem Ts.or {t u:TT}{b:Bool}(ht:Ts t σ H false)(hu:Ts u σ H b):Ts (tOr t u) σ H b:=λ H1 s Q k=>ht H1 s _ λ H2 s2=>by
 show(if false=true then _ else _);rw [AO Av];exact hu H2 (s.trans s2) _ λ H3 s3=>k H3 (s2.trans s3)
theorem Ts.neL (ha:Ls a σ H A)(hb:Ls b σ H A):Ts (ju (tOp (zw K) a b)) σ H false:=λ H1 s Q k=>
 ha H1 s _ λ x H2 s2 z9=>by obtain⟨l,e,hl⟩:=z9;exact hb H2 (s.trans s2) _ λ y H3 s3 ⟨m,e3,hm⟩=>⟨l,m,A.map λ b=>((b:Nat):Int),A.map λ b=>((b:Nat):Int),e,e3,by rw [<-Rf.mapI];exact SqL.of (s3 _ _ hl),by rw [<-Rf.mapI];exact SqL.of hm,_,by rw [Ai rfl];rfl,k H3 (s2.trans s3)⟩
theorem Vl.max {i j:Int}(ha:Vl a σ H (.int i))(hb:Vl b σ H (.int j))(e:v=.int (if j>i then j else i)):Vl (tCB (λ xs H Q=>∃i j,xs=[.int i,.int j]/\Q (.int (if j>i then j else i)) H) (tCons a (tCons b tNil))) σ H v:=λ H1 s Q k=>by
 subst e;exact ha H1 s _ λ x H2 s2 e=>hb H2 (s.trans s2) _ λ y H3 s3 e3=>⟨i,j,by rw [e,e3],k _ H3 (s2.trans s3) rfl⟩
theorem Vl.intB {b:Bool}(h:Vl t σ H (.bl b))(e:v=.int (if b then 1 else 0)):Vl (tCB (λ xs H Q=>(∃i,xs=[.int i]/\Q (.int i) H)\/∃k,xs=[.bl k]/\Q (.int (if k then 1 else 0)) H) (tCons t tNil)) σ H v:=λ H1 s Q k=>by
 subst e;exact h H1 s _ λ x H2 s2 e=>.inr ⟨b,by rw [e],k _ H2 s2 rfl⟩
end
theorem Vl.fitsV (ha:Vl a σ H (.str z))(hb:Vl b σ H (.str z)):Vl (tOp rEq a b) σ H (.bl true):=.eqv ha hb rfl (by rw [Ai rfl])
theorem wQ {t:EC}(hp:Vl tp σ H (.ref lp))(hi:Vl ti σ H (vN n))(h1:H lp=some (.lst ys))(e:ys[n]?=some (.ref t))(ht:H t=some (.tup [x,y])):Ev (tOp (rIxL K) tp ti) σ H λ v H'=>∃t,v=.ref t/\H' t=some (.tup [x,y]):=λ H1 s Q k=>
 hp H1 s _ λ z H2 s2 e2=>hi H2 (s.trans s2) _ λ u H3 s3 e3=>⟨lp,_,_,.ref t,e2,e3,SqL.of (s3 _ _ (s2 _ _ (s _ _ h1))),aT e,k _ H3 (s2.trans s3) ⟨t,rfl,s3 _ _ (s2 _ _ (s _ _ ht))⟩⟩
theorem jY (h:Vl t σ H (.ref l))(hl:H l=some (.lst ys)):Vl (tCB (λ xs H Q=>∃p ys,xs=[.ref p]/\(SqL K H p ys\/SqT K H p ys)/\Q (.int ys.length) H) (tCons t tNil)) σ H (vN ys.length):=λ H1 s Q k=>
 h H1 s _ λ x H2 s2 e2=>⟨l,_,by rw [e2],.inl (SqL.of (s2 _ _ (s _ _ hl))),k _ H2 s2 rfl⟩
theorem zG:(["_law_place","_law_row"]:List Str).Nodup:=Z8
def oth (m:Nat):List Nat:=[m+1,m+65536,m+64,(if m=0 then 2 else m-1),16777216+m]
theorem yj {i:Nat}(hi:i<5)(hm:m≤1000):∃x,(oth m)[i]?=some x/\x≠m/\x<4294967296:=by
 match i,hi with
 |0,_=>exact⟨_,rfl,by omega,by omega⟩
 |1,_=>exact⟨_,rfl,by omega,by omega⟩
 |2,_=>exact⟨_,rfl,by omega,by omega⟩
 |3,_=>exact⟨_,rfl,by split<;>omega,by split<;>omega⟩
 |4,_=>exact⟨_,rfl,by omega,by omega⟩
def rp (K:Frag):TT:=ju (tOp rEq (tOp (rI (λ _ j=>0<j) λ i j=>.int (i%j)) (tOp (rIxL K) (tVar 1) (tOp (uB K) (tVar 0) (tC (.int 0)))) (tC (.int 64))) (tC (.int 63)))
section
variable {P:EF}{w:EG}{K:Frag}{mg:Str -> Option ED}{base:EJ}{C CHd CR cR cH cK cB cN C0 C1 C2 C3 cM cT cZ cC cG cP:EC}
structure Bl4 (H:Hp)(a lp tp:EC)(ts:List EC)(xs:List Blk)(c nb nc:Nat):Prop where
 a:H a=some (.lst ((rowB xs c).map vN))
 p:H lp=some (.lst (ts.map V.ref))
 pl:PlAt H ts 3 xs
 t:H tp=some (.tup [vN nb,vN nc])
 R:Rr xs nb nc
 c:c<65536
theorem Bl4.same {a tp:EC}{xs:List Blk}{c:Nat}(h:Bl4 H a lp tp ts xs c nb nc)(s:Same H H'):Bl4 H' a lp tp ts xs c nb nc:=⟨s _ _ h.a,s _ _ h.p,h.pl.same s,s _ _ h.t,h.R,h.c⟩
theorem Bl4.byt {a tp:EC}{xs:List Blk}{c:Nat}(h:Bl4 H a lp tp ts xs c nb nc):∀b∈rowB xs c,b<256:=lG (bV h.R.g) (cU h.c).2
theorem Bl4.len {a tp:EC}{xs:List Blk}{c:Nat}(h:Bl4 H a lp tp ts xs c nb nc):(rowB xs c).length=3+(xs.map bk).flatten.length+11/\(xs.map bk).flatten.length≤621:=⟨by unfold rowB;rw [bC,a9],fI h.R.g h.R.h9⟩
def ud:Sp:=λ vs H Q _=>∃(a lp tp:EC) (ts:List EC) (xs:List Blk) (c nb nc z:Nat),vs=[.ref a,.ref lp,.ref tp,vN z,vN (txtB xs).length]/\Bl4 H a lp tp ts xs c nb nc/\∀H',Same H H'->Q (.bl true) H'
abbrev vU:List Str:=["_law_row","_law_places","_law_pair","_law_cell","_law_many","_law_begin","_law_count","_law_some","_law_full","_law_place","_law_end"]
theorem scCounts:FnScope vU ["_law_row","_law_places","_law_pair","_law_cell","_law_many"] (ak ki):=⟨rfl,rfl,rfl,Z8,rfl,Z8,Z8⟩
theorem qL (F:Fn K mg "_law_counts_right" ki ["_law_row","_law_places","_law_pair","_law_cell","_law_many"] f fd)(Z:Lv K mg C CHd CR cR cH cK cB cN C0 C1 C2 C3 cM cT cZ cC cG cP):FnOk P w K mg base CX0 39 f fd ["_law_row","_law_places","_law_pair","_law_cell","_law_many"] ud:=by
 have X:=Z.N.P.H.N.Y.X;obtain⟨_,_,To⟩:=Z.told;obtain⟨_,_,Wo⟩:=Z.word;obtain⟨_,_,Se⟩:=Z.sealed;have GT:=dw (P:=P) (w:=w) (base:=base) Wo To Z.N Z.Y;have GS:=jF (P:=P) (w:=w) (base:=base) Se Z.Z Z.dm;refine F.F.ok scCounts λ EO A outer st H vs Q E hr h=>?_
 intro _;obtain⟨a,lp,tp,ts,xs,c,nb,nc,z,rfl,hB,k⟩:=h;have hr7:Room 7 _:=hr.mono Z9;have hu:=hr.units;have hn:=hr.hd Z9;refine⟨_,ad (cV (pv 2) (cb rfl (aM (aG (i:=5) scCounts.nd) (aM (aG (i:=6) scCounts.nd) bL))))
   (ad (ao (i:=7) scCounts.nd (aD (aa (ag aF (pv 4) ae) (aa (ag aF (pv 4) ae) (aa (ag aF (pv 4) ae) (aa (ag aF (aw (qJ hn) Z7 Z.mx PyProof.Rows.boot_max (aa ae (aa (ag aU (pv 4) ae) ac))) (ag bE ae (bD eZ Z7 X.int BM (aa (bz bP (pv 4) ae (az _)) ac)))) (aa (ag aF ae (pv 4)) ac)))))))
   (ad (aK (PW.pt (eI (ax cI (ai GT hr Z7 Wo.m Wo.F.kp Wo.b .nil ap (aa (ai GS hr7 Z7 Se.m Se.F.kp Se.b .nil ap (aa (pv 0) (aa (ba bd (pv 7) (ag aI (pv 3) ae) (λ _ _=>rfl)) ac))) (aa (pv 5) (aa (pv 6) ac)))) aB (az _)) (dQ (ax (kG hu) (ai GS hr7 Z7 Se.m Se.F.kp Se.b .nil ap (aa (pv 0) (aa (pv 4) ac))) (pv 0) (az _))))) (ah (ar bo)) ay)
   (ad (rc (N:=["_law_place","_law_row"]) (js:=[none,some 0]) (cl:=[("_law_row",st.heap.objs.size+1)]) (g:=bM 0) (tt:=rp K) (te:=tVar 0) (i:=8) scCounts.nd rfl (Or.inl rfl) rfl ⟨rfl,Z8,Z8,Z7,λ x c h=>(by obtain⟨rfl,rfl⟩:=fz h;rfl),λ x hx=>?c1,rfl,λ i x j h1 h2=>?c2⟩
    (cy (pv 1)) (λ fp s H=>aG (i:=0) zG) (λ fp s H=>ax bP (ag aI (ba (lI (K:=K) rfl) (pv 1) (ba (vj (K:=K) rfl) (pv 0) ae (λ _ _=>rfl)) (λ _ _=>rfl)) ae) ae (az _)) (λ fp s H=>pv 0) Z7)
   (ad (aK (ax (tG hu) (pv 8) (aD ac) (az _)) (ah (ar bo)) ay)
   (ad (cV (ba bd (pv 8) (ag aI (ag aQ (pv 3) ae) (aw aq Z7 X.len As (aa (pv 8) ac))) (λ _ _=>rfl)) (cb rfl (aM (aG (i:=9) scCounts.nd) (aM (aG (i:=10) scCounts.nd) bL))))
   (ad (aK (ax cI (ai GT hr Z7 Wo.m Wo.F.kp Wo.b .nil ap (aa (ag aJ (aC aL (pv 0) aY (aA (pv 9))) (aC aL (pv 0) (aA (pv 10)) aY)) (aa (pv 5) (aa (pv 6) ac)))) aB (az _)) (ah (ar bo)) ay)
   (ah (ar (bz bP (ai GT hr Z7 Wo.m Wo.F.kp Wo.b .nil ap (aa (ag aJ (aC aL (pv 0) aY (aA (pv 10))) (aC aL (pv 0) (aA (pv 9)) aY)) (aa (pv 5) (aa (pv 6) ac)))) aB (az _)))))))))),?_⟩
 case c1=>
  rcases hx with hx|hx
  ·have m':(x,NameKind.cell)∈([(".0",.local),("_law_place",.local),("_law_row",.cell)]:List (Str×NameKind)):=AU hx;have e:x="_law_row":=by simpa using m'
   subst e;exact⟨_,rfl⟩
  ·have m':(x,NameKind.free)∈([(".0",.local),("_law_place",.local),("_law_row",.cell)]:List (Str×NameKind)):=AU hx;simp at m'
 case c2=>obtain⟨rfl,rfl⟩:=on h1 h2;exact⟨rfl,rfl,rfl,λ c h=>h⟩
 have hm:=dM hB.R;have hF:=hB.len.2;have hlen:=hB.len.1;have hbyt:=hB.byt;refine am λ _ g=>dG (Ev.pair rfl hB.t) λ H1 s1=>g _ _ ?_
 clear g;have hB1:=hB.same s1;have e4:V.int ((if(((txtB xs).length:Nat):Int)-1>0 then(((txtB xs).length:Nat):Int)-1 else 0)+2*(if decide (vN (txtB xs).length=V.int 0) then 1 else 0))=vN (if(txtB xs).length=0 then 2 else(txtB xs).length-1):=by
  generalize (txtB xs).length=m;by_cases h0:m=0
  ·subst h0;rfl
  ·rw [AL (λ z=>h0 (by have:=V.int.inj z;omega)),AO h0];show V.int _=V.int _;congr 1
   split<;>simp<;>omega
 refine am λ _ g=>dR (A:=oth (txtB xs).length) (Ls.lst (Ta.cons (Vl.op0 (Vl.var rfl) Vl.c rfl) (Ta.cons (Vl.op0 (Vl.var rfl) Vl.c rfl) (Ta.cons (Vl.op0 (Vl.var rfl) Vl.c rfl) (Ta.cons (Vl.op0 (Vl.max Vl.c (Vl.op0 (Vl.var rfl) Vl.c rfl) rfl) (Vl.op Vl.c (Vl.intB (Vl.eqv (Vl.var rfl) Vl.c rfl rfl) rfl) (.inl ⟨Z9,Z9⟩) rfl) e4) (Ta.cons (Vl.op0 Vl.c (Vl.var rfl) rfl) Ta.nil))))) (by show 5≤2000;decide)) λ l2 H2 s2 h2=>g _ _ ?_
 clear g;have hB2:=hB1.same s2;obtain⟨x5,e5,n5,l5⟩:=yj (m:=(txtB xs).length) (i:=z%5) (AK _ (by decide)) (by omega);have lS:∀n,(mk3++((xs.map bk).flatten++tl n c)).length≤1000:=λ n=>by rw [bC,a9];omega
 have bS:∀n,∀b∈mk3++((xs.map bk).flatten++tl n c),b<256:=λ n=>lG (bV hB.R.g) (cU hB.c).2
 have L2:Ls (tVar 0) [some (.ref a),some (.ref lp),some (.ref tp),some (vN z),some (vN (txtB xs).length),some (vN nb),some (vN nc),some (.ref l2),none,none,none] H2 (mk3++((xs.map bk).flatten++tl (txtB xs).length c)):=Ls.var rfl hB2.a;refine am λ _ g=>dC (Ts.or (Ts.fits (Vl.word (o:=.inl 3) (Ls.sealed L2 (Vl.ix (n:=z%5) (Ls.var rfl h2) (Vl.op (Vl.var rfl) Vl.c (by show(0:Int)<5;decide) (AB V.int (AN z 5).symm)) e5) (by omega) hB.c l5) (Vl.var rfl) (Vl.var rfl) (bS _) (lS _) (qp hB.R l5 n5)) Vl.c) (Ts.neL (Ls.sealed L2 (Vl.var rfl) (by omega) hB.c (by omega)) L2)) λ H3 s3=>g _ _ ?_
 clear g L2;have hB3:=hB2.same s3;refine am λ _ g=>⟨_,rfl,lp,rfl,⟨_,SqL.of hB3.p⟩,λ l4 n4=>?_⟩
 refine qO (K:=K) (a:=lp) (l:=l4) (xs:=ts.map V.ref) (g:=bM 0) (tt:=rp K) (te:=tVar 0) (λ i ys σ H4=>∃(v0:Option V) (js:List Nat),σ=[v0,some (.ref a)]/\ys=js.map (λ j=>V.ref (ts.getD j 0))/\js.length≤i/\(∀j∈js,∃x,xs[j]?=some x/\x.2.1.length=64)/\H4 l4=some (.lst ys)/\Same H3 H4)
  ⟨none,[],rfl,rfl,Al _,(λ _ h=>nomatch h),af,aj n4⟩ (λ i ys σ H4 _ z9=>by obtain⟨_,_,_,_,_,_,_,s⟩:=z9;exact SqL.of (s _ _ hB3.p)) ?_ ?_ (λ x σ H A B h z=>h _ _ z) ?_ ?_
 ·rintro i x ys σ H4 hx ⟨v0,js,rfl,rfl,hl,hj,h4,s4⟩;rw [Au] at hx;obtain⟨t,ht,rfl⟩:=Bq.mp hx;obtain⟨y,ey,hty⟩:=hB3.pl.get ht;have gy:=hB.R.g.g ey;have hit:i<ts.length:=(Ak.mp ht).1;have h9:ts.length≤9:=by rw [hB3.pl.len];exact hB.R.h9
  have hgd:ts.getD i 0=t:=by rw [A7,ht];rfl
  rw [eV] at hty;have h1:=gy.t1;have h64:=gy.t64;refine⟨_,rfl,_,rfl,t,_,_,vN (pos (xs.map bk) i),rfl,rfl,SqT.of (s4 _ _ hty),rfl,a,_,_,vN (64*y.1+y.2.1.length-1),rfl,rfl,SqL.of (s4 _ _ hB3.a),aT ?_,_,_,rfl,rfl,(by show(0:Int)<64;decide),rfl,_,rfl,?_⟩
  ·rw [Au];show Option.map vN ((mk3++((xs.map bk).flatten++tl (txtB xs).length c))[pos (xs.map bk) i]?)=_;rw [lO ey];rfl
  ·refine bi (λ hq=>?_) (λ _=>⟨_,js,rfl,rfl,by omega,hj,h4,s4⟩);have hq:(((64*y.1+y.2.1.length-1:Nat):Int)%64)=63:=V.int.inj (Aq hq);refine⟨_,rfl,h4,by rw [z7];exact C8 hl (Ap (show i<9 by omega) (by decide)),_,js++[i],rfl,?_,by rw [z0];show _+1≤_;omega,λ j hj'=>?_,af,λ d o e=>by rw [av (au e n4)];exact s4 _ _ e⟩
   ·rw [At,List.map_singleton,hgd]
   ·rcases Ar.mp hj' with q|q
    ·exact hj j q
    ·rw [AD.mp q];exact⟨y,ey,by omega⟩
 ·rintro ys σ H4 ⟨v0,js,rfl,rfl,hl,hj,h4,s4⟩;refine g _ _ ?_;clear g;have hB4:=hB3.same s4;have s14:=s1.trans (s2.trans (s3.trans s4));refine am λ _ g=>⟨_,rfl,AZ _,λ le ne=>?_⟩
  have s5:=aj (o:=.lst []) ne;refine⟨l4,le,_,rfl,rfl,SqL.of (s5 _ _ h4),SqL.of af,_,rfl,?_⟩;have h45:=s5 _ _ h4;have hB5:=hB4.same s5;have s15:=s14.trans s5;generalize upd H4 le (.lst [])=H5 at*;cases js with
  |nil=>exact bR (k _ s15)
  |cons j0 js0=>
  refine bq (g _ _ ?_);clear g;generalize hjs:j0::js0=js at*;have hpos:0<js.length:=by rw [<-hjs];exact Nat.succ_pos _
  have hi:=AK (z/5) hpos;obtain⟨x,ex,hx64⟩:=hj (js[z/5%js.length]) (CY _);generalize hjj:js[z/5%js.length]=j at*;have hjt:j<ts.length:=by rw [hB5.pl.len];exact(Ak.mp ex).1
  obtain⟨y,ey,hty⟩:=hB5.pl.get (i:=j) (t:=ts[j]) (Af hjt);rw [ex] at ey;cases ey;rw [eV] at hty;have ell:(js.map λ j=>V.ref (ts.getD j 0)).length=js.length:=z7 _;refine am λ _ g=>dG (wQ (n:=z/5%js.length) (t:=ts[j]) (Vl.var rfl) (Vl.op (Vl.op (Vl.var rfl) Vl.c ⟨Z9,Z9⟩ rfl) (jY (Vl.var rfl) h45) (by show(0:Int)<(((js.map λ j=>V.ref (ts.getD j 0)).length:Nat):Int);rw [ell];omega) ?_) h45 ?_ hty) λ H6 s6=>g _ _ ?_
  ·show V.int (((z:Nat):Int)/5%(((js.map λ j=>V.ref (ts.getD j 0)).length:Nat):Int))=V.int _;rw [ell,AN,BI];rfl
  ·rw [Au,Af hi,hjj];show some (V.ref (ts.getD j 0))=_;rw [A7,Af hjt];rfl
  clear g;have hB6:=hB5.same s6;have s16:=s15.trans s6;have eK:(xs.map bk)[j]?=some (bk x):=by rw [Au,ex];rfl
  rw [<-cA eK];have bk2:∀Ls':List (List Nat),(∀L∈Ls',L∈xs.map bk)->∀b∈Ls'.flatten,b<256:=λ Ls' hs b hb=>by
   obtain⟨L,hL,hb⟩:=Cv.mp hb;exact bV hB.R.g b (Cv.mpr ⟨L,hs L hL,hb⟩)
  have eT:∀i,(rowB xs c).take (pos (xs.map bk) i)=mk3++((xs.map bk).take i).flatten:=λ i=>dY _ _ i
  have eD:∀i,(rowB xs c).drop (pos (xs.map bk) i)=((xs.map bk).drop i).flatten++tl (txtB xs).length c:=λ i=>eE _ _ i
  have fl:∀i,((xs.map bk).take i).flatten.length≤621/\((xs.map bk).drop i).flatten.length≤621:=λ i=>by
   have:=AB List.length (bv (xs.map bk) i);rw [z0] at this;omega
  have two':∀(p q i i':Nat),[some (V.ref a),some (.ref lp),some (.ref tp),some (vN z),some (vN (txtB xs).length),some (vN nb),some (vN nc),some (.ref l2),some (.ref l4),some (vN (pos (xs.map bk) j)),some (vN (pos (xs.map bk) (j+1)))][i]?=some (some (vN (pos (xs.map bk) p)))->[some (V.ref a),some (.ref lp),some (.ref tp),some (vN z),some (vN (txtB xs).length),some (vN nb),some (vN nc),some (.ref l2),some (.ref l4),some (vN (pos (xs.map bk) j)),some (vN (pos (xs.map bk) (j+1)))][i']?=some (some (vN (pos (xs.map bk) q)))->∀H7,Same H6 H7->
    Ls (tOp rCat (tSl (rSlL K) (tVar 0) tNoPart (tPart (tVar i))) (tSl (rSlL K) (tVar 0) (tPart (tVar i')) tNoPart)) [some (.ref a),some (.ref lp),some (.ref tp),some (vN z),some (vN (txtB xs).length),some (vN nb),some (vN nc),some (.ref l2),some (.ref l4),some (vN (pos (xs.map bk) j)),some (vN (pos (xs.map bk) (j+1)))] H7 (mk3++(((xs.map bk).take p++(xs.map bk).drop q).flatten++tl (txtB xs).length c)):=λ p q i i' e1 e2 H7 s7=>by
   have h:=Ls.cat (Ls.upto (K:=K) (Ls.var (i:=0) rfl (s7 _ _ hB6.a)) (Vl.var (H:=H7) e1)) (Ls.from (K:=K) (Ls.var (i:=0) rfl (s7 _ _ hB6.a)) (Vl.var e2)) (by rw [eT,eD,z0,z0,a9];have:=(fl p).1;have:=(fl q).2;show 3+_+_≤2000;omega);rw [eT,eD,Ab,<-Ab (List.flatten _),<-Bv] at h;exact h
  have lenB:∀p q,(mk3++(((xs.map bk).take p++(xs.map bk).drop q).flatten++tl (txtB xs).length c)).length≤635+(((xs.map bk).take p++(xs.map bk).drop q).flatten.length-621):=λ p q=>by rw [bC,a9];omega
  have bytB:∀p q,∀b∈mk3++(((xs.map bk).take p++(xs.map bk).drop q).flatten++tl (txtB xs).length c),b<256:=λ p q=>lG (bk2 _ λ L hL=>(Ar.mp hL).elim AG A0) (cU hB.c).2
  have bl:(bk x).length≤69:=by rw [gE];have:=(hB.R.g.g ex).r64;omega
  have ps:=cA eK;have l1:((xs.map bk).take j++(xs.map bk).drop (j+1)).flatten.length≤700:=by
   have h1:=AB List.length (bv (xs.map bk) (j+1));rw [Bv,z0];rw [z0] at h1;unfold pos at ps;omega
  have l2':((xs.map bk).take (j+1)++(xs.map bk).drop j).flatten.length≤700:=by
   have h1:=AB List.length (bv (xs.map bk) j);rw [Bv,z0];rw [z0] at h1;unfold pos at ps;omega
  refine am λ _ g=>dC (Ts.fits (Vl.word (o:=.inl 3) (two' j (j+1) 9 10 rfl rfl H6 (Same.refl _)) (Vl.var rfl) (Vl.var rfl) (bytB _ _) (by have:=lenB j (j+1);omega) (xU hB.R ex hx64)) Vl.c) λ H7 s7=>g _ _ ?_
  clear g;exact ir (v:=.bl true) (Vl.fitsV (Vl.word (o:=.inl 3) (two' (j+1) j 10 9 rfl rfl H7 s7) (Vl.var rfl) (Vl.var rfl) (bytB _ _) (by have:=lenB (j+1) j;omega) (sk hB.R ex hx64)) Vl.c) λ H8 s8=>k H8 (s16.trans (s7.trans s8))
 ·rintro σ H A B h ⟨v1,e1,v2,e2,p1,x1,i1,w1,f1,f2,f3,f4,p2,x2,i2,w2,f5,f6,f7,f8,i3,j3,f9,f10,f11,f12,kk,f13,z⟩;exact⟨v1,e1,v2,e2,p1,x1,i1,w1,f1,f2,f3,f4,p2,x2,i2,w2,f5,f6,f7,f8,i3,j3,f9,f10,f11,f12,kk,f13,h _ _ z⟩
 ·rintro σ H A B h ⟨x,e,z⟩;exact⟨x,e,h _ _ z⟩
end
abbrev LG (te:TE)(σ:St)(H:Hp)(vs:List V):Prop:=Ev te σ H λ v H'=>∃l,v=.ref l/\H' l=some (.lst vs)
section
variable {K:Frag}{σ:St}{H:Hp}
theorem LG.var {i:Nat}{a:EC}(h:σ[i]?=some (some (.ref a)))(ha:H a=some (.lst vs)):LG (tVar i) σ H vs:=λ H1 s Q k=>⟨_,h,k _ H1 (Same.refl H1) ⟨a,rfl,s _ _ ha⟩⟩
theorem LG.lst {ta:TA}(h:Ta ta σ H vs)(hl:vs.length≤2000):LG (tLst ta) σ H vs:=λ H1 s Q k=>h H1 s _ λ H2 s2=>⟨bh hl,λ p hp=>k _ _ (s2.trans (aj hp)) ⟨p,rfl,af⟩⟩
theorem LG.cat {A B:List V}(ha:LG a σ H A)(hb:LG b σ H B)(hl:A.length+B.length≤2000):LG (tOp rCat a b) σ H (A++B):=λ H1 s Q k=>
 ha H1 s _ λ x H2 s2 z9=>by obtain⟨l,e2,h2⟩:=z9;exact hb H2 (s.trans s2) _ λ y H3 s3 ⟨m,e3,h3⟩=>⟨l,m,_,_,e2,e3,s3 _ _ h2,h3,bh hl,λ p hp=>k _ _ ((s2.trans s3).trans (aj hp)) ⟨p,rfl,af⟩⟩
theorem gp {te:TE}{i:Nat}{D:Ends}(h:LG te σ H vs)(k:∀l H',Same H H'->H' l=some (.lst vs)->D.nx (σ.set i (some (.ref l))) H'):jd te (bM i) D σ H:=h.go λ v H' s z9=>by obtain⟨l,e,hl⟩:=z9;exact by subst e;exact k l H' s hl
theorem Vl.eqG (ha:LG a σ H vs)(hb:LG b σ H vs)(f:∀x∈vs,flatV x=true):Vl (tOp (wp K) a b) σ H (.bl true):=λ H1 s Q k=>
 ha H1 s _ λ x H2 s2 z9=>by obtain⟨l,e,hl⟩:=z9;exact hb H2 (s.trans s2) _ λ y H3 s3 ⟨m,e3,hm⟩=>⟨l,m,e,e3,SameGs.flat (s3 _ _ hl) hm f,k _ H3 (s2.trans s3) rfl⟩
theorem Vl.and (ha:Vl a σ H (.bl true))(hb:Vl b σ H v):Vl (wr a b) σ H v:=λ H1 s Q k=>
 ha H1 s _ λ x H2 s2 e=>⟨true,e,by
  rw [AV rfl];exact hb H2 (s.trans s2) _ λ y H3 s3 e3=>k _ H3 (s2.trans s3) e3⟩
theorem Ls.wrong {tj tz:TE}{xs:List Blk}{x:Blk}{z:Nat}(h:Ls t σ H (mk3++((xs.map bk).flatten++r)))(hp:Vl tp σ H (.ref lp))(hj:Vl tj σ H (vN j))(hz:Vl tz σ H (vN z))(h1:H lp=some (.lst (ts.map V.ref)))(h2:PlAt H ts 3 xs)(e:xs[j]?=some x)(g:Gd xs)(h9:xs.length≤9)(hr:r.length≤20):
  Ev (tCall spWrong [] E (tCons t (tCons tp (tCons tj (tCons tz tNil))))) σ H λ v H'=>∃R,R.length=2/\(∀b∈fB x.2.1.length R,b<256)/\TxK R (win xs j) 2 x.2.1.length none/\LsV (mk3++(((xs.map bk).set j (fB x.2.1.length R)).flatten++r)) v H':=λ H1 s Q k=>
 h H1 s _ λ v1 H2 s2 z9=>by obtain⟨l,e1,hl⟩:=z9;exact hp H2 (s.trans s2) _ λ v2 H3 s3 e2=>hj H3 ((s.trans s2).trans s3) _ λ v3 H4 s4 e3=>hz H4 (((s.trans s2).trans s3).trans s4) _ λ v4 H5 s5 e4=>
  have sA:=(s.trans s2).trans ((s3.trans s4).trans s5)
  ⟨l,lp,ts,xs,x,j,z,r,by rw [e1,e2,e3,e4];rfl,((s3.trans s4).trans s5) _ _ hl,sA _ _ h1,h2.same sA,e,g,h9,hr,λ p R H6 s6 r1 r2 r3 r4=>k _ H6 ((s2.trans (s3.trans (s4.trans s5))).trans s6) ⟨R,r1,r2,r3,p,rfl,r4⟩⟩
end
theorem bY {K K':List Nat}(e:Ks[j]?=some K):(Ks.set j K').flatten.length+K.length=Ks.flatten.length+K'.length:=by
 have h:=bv Ks j;rw [dX e] at h;rw [fE e,h];simp only [z0];omega
theorem j6 (g:∀b∈Ks.flatten,b<256){K:List Nat}(hK:∀b∈K,b<256):∀b∈(Ks.set j K).flatten,b<256:=λ b hb=>by
 obtain⟨L,hL,hb'⟩:=Cv.mp hb;rcases Ee hL with q|q
 ·exact g b (Cv.mpr ⟨L,q,hb'⟩)
 ·rw [q] at hb';exact hK b hb'
section
variable {P:EF}{w:EG}{K:Frag}{mg:Str -> Option ED}{base:EJ}{C CHd CR cR cH cK cB cN C0 C1 C2 C3 cM cT cZ cC cG cP:EC}
def xj:Sp:=λ vs H Q _=>∃(a lp tp:EC) (ts:List EC) (xs:List Blk) (x:Blk) (c nb nc z j k:Nat),vs=[.ref a,vN (pos (xs.map bk) j+k),.ref tp,vN z]/\Bl4 H a lp tp ts xs c nb nc/\xs[j]?=some x/\3≤k/\k<(bk x).length/\∀H',Same H H'->Q (.bl true) H'
abbrev yy:List Str:=["_law_row","_law_at","_law_pair","_law_cell","_law_bit","_law_begin","_law_count","_law_bent_here","_law_words"]
theorem scTwoW:FnScope yy ["_law_row","_law_at","_law_pair","_law_cell"] (ak pK):=⟨rfl,rfl,rfl,Z8,rfl,Z8,Z8⟩
theorem vD (F:Fn K mg "_law_two_wrong" pK ["_law_row","_law_at","_law_pair","_law_cell"] f fd)(Z:Lv K mg C CHd CR cR cH cK cB cN C0 C1 C2 C3 cM cT cZ cC cG cP):FnOk P w K mg base CX0 39 f fd ["_law_row","_law_at","_law_pair","_law_cell"] xj:=by
 have X:=Z.N.P.H.N.Y.X;obtain⟨_,_,To⟩:=Z.told;obtain⟨_,_,Wo⟩:=Z.word;obtain⟨_,_,Be⟩:=Z.bent;have GT:=dw (P:=P) (w:=w) (base:=base) Wo To Z.N Z.Y;have GE:=jZ (P:=P) (w:=w) (base:=base) Be;refine F.F.ok scTwoW λ EO A outer st H vs Q E hr h=>?_
 intro _;obtain⟨a,lp,tp,ts,xs,x,c,nb,nc,z,j,kk,rfl,hB,ex,h3,hk,k⟩:=h;have hr1:Room 1 _:=hr.mono Z9;have hu:=hr.units;refine⟨_,ad (ao (i:=4) scTwoW.nd (ag aI (pv 3) ae))
   (ad (cV (pv 2) (cb rfl (aM (aG (i:=5) scTwoW.nd) (aM (aG (i:=6) scTwoW.nd) bL))))
   (ad (ao (i:=7) scTwoW.nd (ai GE hr1 Z7 Be.m Be.F.kp Be.b .nil ap (aa (pv 0) (aa (pv 1) (aa (pv 4) ac)))))
   (ad (ao (i:=8) scTwoW.nd (aD (aa (ai GT hr Z7 Wo.m Wo.F.kp Wo.b .nil ap (aa (ag aJ (pv 7) (aD (aa (ag aI (pv 3) ae) ac))) (aa (pv 5) (aa (pv 6) ac)))) ac)))
   (ad (ao (i:=8) scTwoW.nd (ag aJ (pv 8) (aD (aa (ai GT hr Z7 Wo.m Wo.F.kp Wo.b .nil ap (aa (ag aJ (ai GE hr1 Z7 Be.m Be.F.kp Be.b .nil ap (aa (pv 0) (aa (ag aU (aw aq Z7 X.len As (aa (pv 0) ac)) ae) (aa (pv 4) ac)))) (aD (aa ae ac))) (aa (pv 5) (aa (pv 6) ac)))) ac))))
   (ad (ao (i:=8) scTwoW.nd (ag aJ (pv 8) (aD (aa (ai GT hr Z7 Wo.m Wo.F.kp Wo.b .nil ap (aa (ai GE hr1 Z7 Be.m Be.F.kp Be.b .nil ap (aa (pv 7) (aa (ag aU (aw aq Z7 X.len As (aa (pv 0) ac)) ae) (aa (pv 4) ac)))) (aa (pv 5) (aa (pv 6) ac)))) ac))))
   (ad (ao (i:=8) scTwoW.nd (ag aJ (pv 8) (aD (aa (ai GT hr Z7 Wo.m Wo.F.kp Wo.b .nil ap (aa (ai GE hr1 Z7 Be.m Be.F.kp Be.b .nil ap (aa (pv 7) (aa (ag aU (aw aq Z7 X.len As (aa (pv 0) ac)) ae) (aa (pv 4) ac)))) (aa (pv 5) (aa (pv 6) ac)))) ac))))
   (ah (ar (dH (bz (uC hu) (pv 8) (aD (aa aB (aa aB (aa aB (aa aB ac))))) (az _)) (dP (bz bP (ai GT hr Z7 Wo.m Wo.F.kp Wo.b .nil ap (aa (ai GE hr1 Z7 Be.m Be.F.kp Be.b .nil ap (aa (pv 7) (aa ae (aa (pv 4) ac)))) (aa (pv 5) (aa (pv 6) ac)))) aB (az _)))))))))))),?_⟩
 have hF:=hB.len.2;have hlen:=hB.len.1;have hbyt:=hB.byt;have hm:=dM hB.R;have htot:=cj hB.R;have eK:(xs.map bk)[j]?=some (bk x):=by rw [Au,ex];rfl
 have b8:z%8<8:=AK _ (by decide);have hks:=kS hB.R ex (b:=z%8) h3 hk;have flen:=bY (K':=bent (bk x) kk (z%8)) eK;rw [aZ hk] at flen;have ps:pos (xs.map bk) j+kk<(rowB xs c).length:=by
  have h1:=cA eK;have h2:=AB List.length (bv (xs.map bk) (j+1));rw [z0] at h2;unfold pos at h1 ⊢;omega
 have eb:bent (rowB xs c) (pos (xs.map bk) j+kk) (z%8)=mk3++(((xs.map bk).set j (bent (bk x) kk (z%8))).flatten++tl (txtB xs).length c):=eJ eK hk rfl;refine am λ _ g=>eM (v:=vN (z%8)) (Vl.op (Vl.var rfl) Vl.c (by show(0:Int)<8;decide) (AB V.int (AN z 8).symm)) λ H1 s1=>g _ _ ?_
 clear g;refine am λ _ g=>dG (Ev.pair rfl (s1 _ _ hB.t)) λ H2 s2=>g _ _ ?_
 clear g;have hB2:=hB.same (s1.trans s2);refine am λ _ g=>dR (A:=bent (rowB xs c) (pos (xs.map bk) j+kk) (z%8)) (Ls.bent (Ls.var rfl hB2.a) (Vl.var rfl) (Vl.var rfl) ps (by omega) b8) λ l3 H3 s3 h3'=>g _ _ ?_
 clear g;have hb3:∀b∈bent (rowB xs c) (pos (xs.map bk) j+kk) (z%8),b<256:=bB ps b8 hbyt;have hl3:(bent (rowB xs c) (pos (xs.map bk) j+kk) (z%8)).length=3+(xs.map bk).flatten.length+11:=by rw [aZ ps,hlen]
 rw [eb] at h3' hb3 hl3;have hB3:=hB2.same s3;have ht:(tl (txtB xs).length c).length=11:=a9 _ _;rw [<-htot] at ht;have e1:mk3++(((xs.map bk).set j (bent (bk x) kk (z%8))).flatten++tl (txtB xs).length c)=mk3++(((xs.map bk).set j (bent (bk x) kk (z%8))).flatten++(tl (tot (xs.map hdB)) c++[])):=by rw [AQ,htot]
 have e0:rowB xs c=mk3++((xs.map bk).flatten++(tl (tot (xs.map hdB)) c++[])):=by rw [AQ,htot];rfl
 have hy:z%256<256:=AK _ (by decide);have hT:tot (xs.map hdB)<65536:=by omega
 refine am λ _ g=>gp (vs:=[V.str (wd 4)]) (LG.lst (Ta.cons (Vl.word (o:=.inl 4) (Ls.cat (Ls.var rfl h3') (Ls.lst (A:=[z%256]) (Ta.cons (Vl.op (Vl.var rfl) Vl.c (by show(0:Int)<256;decide) (AB V.int (AN z 256).symm)) Ta.nil) (by show 1≤2000;decide)) (by rw [hl3];show _+1≤2000;omega)) (Vl.var rfl) (Vl.var rfl) (fG hb3 λ b hb=>by rw [AD.mp hb];exact hy) (by rw [z0,hl3];show _+1≤1000;omega) (by rw [<-htot];exact gz hks)) Ta.nil) (by show 1≤2000;decide)) λ l4 H4 s4 h4=>g _ _ ?_
 clear g;have hB4:=hB3.same s4;have h34:=s4 _ _ h3';have p10:(((rowB xs c).length:Nat):Int)-1=((3+(xs.map bk).flatten.length+10:Nat):Int):=by omega
 have t5:bent (rowB xs c) (3+(xs.map bk).flatten.length+10) (z%8)=mk3++((xs.map bk).flatten++(bent (tl (tot (xs.map hdB)) c) 10 (z%8)++[])):=by rw [e0];exact dv (by rw [ht];decide) rfl
 have t5':bent (rowB xs c) (3+(xs.map bk).flatten.length+10) (z%8)++[5]=mk3++((xs.map bk).flatten++(bent (tl (tot (xs.map hdB)) c) 10 (z%8)++[5])):=by rw [t5];simp [Ab]
 refine am λ _ g=>gp (LG.cat (LG.var rfl h4) (LG.lst (vs:=[V.str (wd 3)]) (Ta.cons (Vl.word (o:=.inl 3) (Ls.cat (Ls.bent (j:=3+(xs.map bk).flatten.length+10) (Ls.var rfl hB4.a) (Vl.op0 (Vl.len (Ls.var rfl hB4.a) rfl) Vl.c (AB V.int p10)) (Vl.var rfl) (by omega) (by omega) b8) (Ls.lst (A:=[5]) (Ta.cons Vl.c Ta.nil) (by show 1≤2000;decide)) (by rw [aZ (by omega),hlen];show _+1≤2000;omega)) (Vl.var rfl) (Vl.var rfl) (fG (bB (by omega) b8 hbyt) λ b hb=>by rw [AD.mp hb];decide) (by rw [z0,aZ (by omega),hlen];show _+1≤1000;omega) (by rw [t5'];exact uz hB.R.g.bks hB.c hT b8 (by decide) (by decide))) Ta.nil) (by show 1≤2000;decide)) (by show 1+1≤2000;decide)) λ l5 H5 s5 h5=>g _ _ ?_
 clear g;have hB5:=hB4.same s5;have h35:=s5 _ _ h34;have p0:(((rowB xs c).length:Nat):Int)-11=((3+((xs.map bk).set j (bent (bk x) kk (z%8))).flatten.length+0:Nat):Int):=by omega
 have t6:bent (mk3++(((xs.map bk).set j (bent (bk x) kk (z%8))).flatten++tl (txtB xs).length c)) (3+((xs.map bk).set j (bent (bk x) kk (z%8))).flatten.length+0) (z%8)=mk3++(((xs.map bk).set j (bent (bk x) kk (z%8))).flatten++(bent (tl (tot (xs.map hdB)) c) 0 (z%8)++[])):=by rw [e1];exact dv (by rw [ht];decide) rfl
 refine am λ _ g=>gp (LG.cat (LG.var rfl h5) (LG.lst (vs:=[V.str (wd 1)]) (Ta.cons (Vl.word (o:=.inl 1) (Ls.bent (j:=3+((xs.map bk).set j (bent (bk x) kk (z%8))).flatten.length+0) (Ls.var rfl h35) (Vl.op0 (Vl.len (Ls.var rfl hB5.a) rfl) Vl.c (AB V.int p0)) (Vl.var rfl) (by rw [hl3];omega) (by rw [hl3];omega) b8) (Vl.var rfl) (Vl.var rfl) (bB (by rw [hl3];omega) b8 hb3) (by rw [aZ (by rw [hl3];omega),hl3];omega) (by rw [t6];exact sH hks b8 (by decide))) Ta.nil) (by show 1≤2000;decide)) (by show 2+1≤2000;decide)) λ l6 H6 s6 h6=>g _ _ ?_
 clear g;have hB6:=hB5.same s6;have h36:=s6 _ _ h35;have p6:(((rowB xs c).length:Nat):Int)-5=((3+((xs.map bk).set j (bent (bk x) kk (z%8))).flatten.length+6:Nat):Int):=by omega
 have t7:bent (mk3++(((xs.map bk).set j (bent (bk x) kk (z%8))).flatten++tl (txtB xs).length c)) (3+((xs.map bk).set j (bent (bk x) kk (z%8))).flatten.length+6) (z%8)=mk3++(((xs.map bk).set j (bent (bk x) kk (z%8))).flatten++(bent (tl (tot (xs.map hdB)) c) 6 (z%8)++[])):=by rw [e1];exact dv (by rw [ht];decide) rfl
 refine am λ _ g=>gp (LG.cat (LG.var rfl h6) (LG.lst (vs:=[V.str (wd 3)]) (Ta.cons (Vl.word (o:=.inl 3) (Ls.bent (j:=3+((xs.map bk).set j (bent (bk x) kk (z%8))).flatten.length+6) (Ls.var rfl h36) (Vl.op0 (Vl.len (Ls.var rfl hB6.a) rfl) Vl.c (AB V.int p6)) (Vl.var rfl) (by rw [hl3];omega) (by rw [hl3];omega) b8) (Vl.var rfl) (Vl.var rfl) (bB (by rw [hl3];omega) b8 hb3) (by rw [aZ (by rw [hl3];omega),hl3];omega) (by rw [t7];exact uz hks hB.c hT b8 (by decide) (by decide))) Ta.nil) (by show 1≤2000;decide)) (by show 3+1≤2000;decide)) λ l7 H7 s7 h7=>g _ _ ?_
 clear g;have h37:=s7 _ _ h36;refine ir (v:=.bl true) (Vl.and (Vl.eqG (LG.var rfl h7) (LG.lst (Ta.cons Vl.c (Ta.cons Vl.c (Ta.cons Vl.c (Ta.cons Vl.c Ta.nil)))) (by show 4≤2000;decide)) ?_) (Vl.fitsV (Vl.word (o:=.inl 0) (Ls.bent (j:=1) (Ls.var rfl h37) Vl.c (Vl.var rfl) (by rw [hl3];omega) (by rw [hl3];omega) b8) (Vl.var rfl) (Vl.var rfl) (bB (by rw [hl3];omega) b8 hb3) (by rw [aZ (by rw [hl3];omega),hl3];omega) (pQ (by decide))) Vl.c)) λ H8 s8=>k H8 ((s1.trans s2).trans ((s3.trans s4).trans ((s5.trans s6).trans (s7.trans s8))))
 intro v hv;simp only [Ar,AD] at hv;rcases hv with((rfl|rfl)|rfl)|rfl<;>rfl
end
def rdL (nb nc:Nat):List Nat:=if nc=0 then [] else List.range' (gF nb) (gL nb nc-gF nb)
theorem pw:(rdL nb nc).contains j=rdB nb nc j:=by
 unfold rdL rdB;by_cases h:nc=0
 ·rw [AV h,AL (λ z=>by omega)];rfl
 ·rw [AO h];have:(List.range' (gF nb) (gL nb nc-gF nb)).contains j=decide (j∈List.range' (gF nb) (gL nb nc-gF nb)):=by simp
  rw [this];congr 1;rw [List.mem_range'_1];apply propext;constructor
  ·intro⟨h1,h2⟩;exact⟨by omega,h1,by omega⟩
  ·intro⟨h0,h1,h2⟩;exact⟨h1,by omega⟩
theorem vL (h:2≤(rdL nb nc).length):0<nc/\gF nb+1<gL nb nc/\(rdL nb nc)[0]?=some (gF nb)/\(rdL nb nc)[(rdL nb nc).length-1]?=some (gL nb nc-1):=by
 unfold rdL at h ⊢;by_cases h0:nc=0
 ·rw [AV h0] at h;exact absurd h (by decide)
 ·rw [AO h0] at h ⊢;rw [List.length_range'] at h ⊢;refine⟨by omega,by omega,?_,?_⟩
  ·rw [List.getElem?_range' (by omega)];simp
  ·rw [List.getElem?_range' (by omega)];congr 1;omega
section
variable {K:Frag}{σ:St}{H:Hp}
theorem Vl.last {x:Nat}(h:Ls t σ H A)(hi:Vl ti σ H (.int (-1)))(e:A[A.length-1]?=some x):Vl (tOp (rIxL K) t ti) σ H (vN x):=λ H1 s Q k=>by
 refine h H1 s _ λ y H2 s2 ⟨l,e2,h2⟩=>hi H2 (s.trans s2) _ λ z H3 s3 e3=>⟨l,_,_,vN x,e2,e3,SqL.of (s3 _ _ h2),?_,k _ H3 (s2.trans s3) rfl⟩
 have hpos:0<A.length:=by
  have:=(Ak.mp e).1;omega
 refine pz (b:=1) (by decide) (by rw [z7];exact hpos) ?_;rw [z7,Au,e];rfl
theorem Vl.end {t1:TE}{xs:List Blk}{x:Blk}(hp:Vl tp σ H (.ref lp))(hi:Vl ti σ H (vN j))(h1:H lp=some (.lst (ts.map V.ref)))(h2:PlAt H ts 3 xs)(e:xs[j]?=some x)(ht:Vl t1 σ H (.int 1)):Vl (tOp (uB K) (tOp (rIxL K) tp ti) t1) σ H (vN (pos (xs.map bk) (j+1))):=λ H1 s Q k=>by
 refine Ev.place hp hi h1 h2 e H1 s _ λ v H2 s2 ⟨t,e2,h3⟩=>ht H2 (s.trans s2) _ λ y H3 s3 e3=>⟨t,_,1,vN (pos (xs.map bk) (j+1)),e2,e3,SqT.of (s3 _ _ h3),?_,k _ H3 (s2.trans s3) rfl⟩
 rw [eV,cA (K:=bk x) (by rw [Au,e];rfl)];rfl
theorem rB {ta:TE}{i:Nat}{D:Ends}(ha:Vl ta σ H x)(hb:Vl tb σ H y)(k:∀H',Same H H'->D.nx ((σ.set i (some x)).set j (some y)) H'):yJ i j (tCons ta (tCons tb tNil)) D σ H:=
 (Ta.cons ha (Ta.cons hb Ta.nil)) H (Same.refl H) (λ vs H1=>∃v w,vs=[v,w]/\D.nx ((σ.set i (some v)).set j (some w)) H1) λ H1 s1=>⟨_,_,rfl,k _ s1⟩
end
section
variable {P:EF}{w:EG}{K:Frag}{mg:Str -> Option ED}{base:EJ}{C CHd CR cR cH cK cB cN C0 C1 C2 C3 cM cT cZ cC cG cP:EC}
def uM:Sp:=λ vs H Q _=>∃(a lp tp lr:EC) (ts:List EC) (xs:List Blk) (c nb nc z:Nat),vs=[.ref a,.ref lp,.ref tp,vN z,.ref lr]/\Bl4 H a lp tp ts xs c nb nc/\H lr=some (.lst ((rdL nb nc).map vN))/\∀H',Same H H'->Q (.bl true) H'
abbrev xh:List Str:=["_law_row","_law_places","_law_pair","_law_cell","_law_read","_law_begin","_law_count","_law_one","_law_other","_law_bent_here","_law_at"]
theorem scFirst:FnScope xh ["_law_row","_law_places","_law_pair","_law_cell","_law_read"] (ak og):=⟨rfl,rfl,rfl,Z8,rfl,Z8,Z8⟩
theorem tM (F:Fn K mg "_law_first_told" og ["_law_row","_law_places","_law_pair","_law_cell","_law_read"] f fd)(Z:Lv K mg C CHd CR cR cH cK cB cN C0 C1 C2 C3 cM cT cZ cC cG cP):FnOk P w K mg base CX0 39 f fd ["_law_row","_law_places","_law_pair","_law_cell","_law_read"] uM:=by
 have X:=Z.N.P.H.N.Y.X;obtain⟨_,_,To⟩:=Z.told;obtain⟨_,_,Wo⟩:=Z.word;obtain⟨_,_,Be⟩:=Z.bent;obtain⟨_,_,Wr⟩:=Z.wrong;have GT:=dw (P:=P) (w:=w) (base:=base) Wo To Z.N Z.Y;have GE:=jZ (P:=P) (w:=w) (base:=base) Be;have GR:=mh (P:=P) (w:=w) (base:=base) Wr Z.Z;refine F.F.ok scFirst λ EO A outer st H vs Q E hr h=>?_
 intro _;obtain⟨a,lp,tp,lr,ts,xs,c,nb,nc,z,rfl,hB,hrd,k⟩:=h;have hr1:Room 1 _:=hr.mono Z9;have hr7:Room 7 _:=hr.mono Z9;have hu:=hr.units;refine⟨_,ad (cV (pv 2) (cb rfl (aM (aG (i:=5) scFirst.nd) (aM (aG (i:=6) scFirst.nd) bL))))
   (ad (aK (ax cI (ai GT hr Z7 Wo.m Wo.F.kp Wo.b .nil ap (aa (aC aL (pv 0) aY (aA (ag aI (pv 3) ae))) (aa ae (aa ae ac)))) aB (az _)) (ah (ar bo)) ay)
   (ad (aK (ax cI (ai GT hr Z7 Wo.m Wo.F.kp Wo.b .nil ap (aa (ai GE hr1 Z7 Be.m Be.F.kp Be.b .nil ap (aa (aC aL (pv 0) aY (aA ae)) (aa (ag aI (pv 3) ae) (aa (ag aI (ag aQ (pv 3) ae) ae) ac)))) (aa ae (aa ae ac)))) aB (az _)) (ah (ar bo)) ay)
   (ad (aK (ax fh (aw aq Z7 X.len As (aa (pv 4) ac)) ae (az _)) (ah (ar bo)) ay)
   (ad (xD (i:=7) (j:=8) rfl scFirst.nd rfl rfl (by decide) rfl rfl (aa (ba bd (pv 4) ae (λ _ _=>rfl)) (aa (ba bd (pv 4) (cf bG ae) (λ _ _=>rfl)) ac)) Z7)
   (ad (ao (i:=9) scFirst.nd (ai GR hr7 Z7 Wr.m Wr.F.kp Wr.b .nil ap (aa (pv 0) (aa (pv 1) (aa (pv 7) (aa (pv 3) ac))))))
   (ad (ao (i:=10) scFirst.nd (ag aU (ag aU (ag aF (ba cE (ba bd (pv 1) (pv 8) (λ _ _=>rfl)) ae (λ _ _=>rfl)) (aw aq Z7 X.len As (aa (pv 9) ac))) (aw aq Z7 X.len As (aa (pv 0) ac))) ae))
   (ad (aK (ax cI (ai GT hr Z7 Wo.m Wo.F.kp Wo.b .nil ap (aa (ai GE hr1 Z7 Be.m Be.F.kp Be.b .nil ap (aa (pv 9) (aa (pv 10) (aa (ag aI (pv 3) ae) ac)))) (aa (pv 5) (aa (pv 6) ac)))) aB (az _)) (ah (ar bo)) ay)
   (ad (ao (i:=9) scFirst.nd (ai GR hr7 Z7 Wr.m Wr.F.kp Wr.b .nil ap (aa (pv 0) (aa (pv 1) (aa (pv 8) (aa (pv 3) ac))))))
   (ah (ar (bz bP (ai GT hr Z7 Wo.m Wo.F.kp Wo.b .nil ap (aa (ai GE hr1 Z7 Be.m Be.F.kp Be.b .nil ap (aa (pv 9) (aa (ag aU (ba cE (ba bd (pv 1) (pv 7) (λ _ _=>rfl)) ae (λ _ _=>rfl)) ae) (aa (ag aI (pv 3) ae) ac)))) (aa (pv 5) (aa (pv 6) ac)))) aB (az _)))))))))))),?_⟩
 have hF:=hB.len.2;have hlen:=hB.len.1;have hbyt:=hB.byt;refine am λ _ g=>dG (Ev.pair rfl hB.t) λ H1 s1=>g _ _ ?_
 clear g;have hB1:=hB.same s1;have l3:((rowB xs c).take (z%3)).length≤1000:=by rw [Aj];omega
 refine am λ _ g=>dC (Ts.fits (Vl.word (nb:=0) (nc:=0) (o:=.inl 5) (Ls.upto (n:=z%3) (Ls.var rfl hB1.a) (Vl.op (Vl.var rfl) Vl.c (by show(0:Int)<3;decide) (AB V.int (AN z 3).symm))) Vl.c Vl.c (λ b hb=>hbyt b (AG hb)) l3 (sP (AK _ (by decide)))) Vl.c) λ H2 s2=>g _ _ ?_
 clear g;have hB2:=hB1.same s2;have b2:∀b∈ [184,66],b<256:=λ b hb=>by simp at hb;omega
 have z2:z%2<2:=AK _ (by decide);have z28:z/2%8<8:=AK _ (by decide);have ez:((z:Nat):Int)/2%8=((z/2%8:Nat):Int):=by omega
 have L2:Ls (tSl (rSlL K) (tVar 0) tNoPart (tPart (tC (.int 2)))) [some (.ref a),some (.ref lp),some (.ref tp),some (vN z),some (.ref lr),some (vN nb),some (vN nc),none,none,none,none] H2 [184,66]:=Ls.upto (n:=2) (A:=rowB xs c) (Ls.var rfl hB2.a) Vl.c;refine am λ _ g=>dC (Ts.fits (Vl.word (nb:=0) (nc:=0) (o:=.inl 0) (Ls.bent (j:=z%2) (b:=z/2%8) L2 (Vl.op (Vl.var rfl) Vl.c (by show(0:Int)<2;decide) (AB V.int (AN z 2).symm)) (Vl.op (Vl.op (Vl.var rfl) Vl.c ⟨Z9,Z9⟩ rfl) Vl.c (by show(0:Int)<8;decide) (AB V.int ez)) z2 (by show 2≤1000;decide) z28) Vl.c Vl.c (bB z2 z28 b2) (by rw [aZ z2];show 2≤1000;decide) (tS z2)) Vl.c) λ H3 s3=>g _ _ ?_
 clear g L2;have hB3:=hB2.same s3;have s13:=(s1.trans s2).trans s3;have hrd3:=s13 _ _ hrd;refine am λ _ g=>⟨_,rfl,lr,_,rfl,.inl (SqL.of hrd3),_,_,rfl,rfl,_,rfl,?_⟩
 try dsimp only
 rw [z7];refine bi (λ _=>k _ s13) (λ h2=>g _ _ ?_);clear g;have h2:2≤(rdL nb nc).length:=by
  rcases A4 (rdL nb nc).length 2 with q|q
  ·exact absurd (Ai (by omega)) h2
  ·exact q
 obtain⟨h0,hgl,r0,rl⟩:=vL h2;obtain⟨g1,g2,g3⟩:=hB.R.gl h0;refine am λ _ g=>rB (Vl.ix (n:=0) (Ls.var rfl hrd3) Vl.c r0) (Vl.last (Ls.var rfl hrd3) (Vl.neg Vl.c rfl) rl) λ H4 s4=>g _ _ ?_
 clear g;have hB4:=hB3.same s4;have s14:=s13.trans s4;obtain⟨x,ex⟩:∃x,xs[gF nb]?=some x:=⟨_,Af (by omega)⟩;obtain⟨y,ey⟩:∃y,xs[gL nb nc-1]?=some y:=⟨_,Af (by omega)⟩;generalize hone:gF nb=one at*;generalize hoth:gL nb nc-1=other at*;have hoo:one<other:=by omega
 have eX:(xs.map bk)[one]?=some (bk x):=by rw [Au,ex];rfl
 have eY:(xs.map bk)[other]?=some (bk y):=by rw [Au,ey];rfl
 have b8:z%8<8:=AK _ (by decide);have v8:∀{σ:St} {H:Hp},σ[3]?=some (some (vN z))->Vl (tOp (rI (λ _ j=>0<j) λ i j=>.int (i%j)) (tVar 3) (tC (.int 8))) σ H (vN (z%8)):=λ e=>Vl.op (Vl.var e) Vl.c (by show(0:Int)<8;decide) (AB V.int (AN z 8).symm)
 have lx:(bk x).length=x.2.2.length+5:=gE;have ly:(bk y).length=y.2.2.length+5:=gE;have rx:=(hB.R.g.g ex).r64;have ry:=(hB.R.g.g ey).r64;have ht:(tl (txtB xs).length c).length=11:=a9 _ _;refine am λ _ g=>kD (Ls.wrong (Ls.var rfl (A:=mk3++((xs.map bk).flatten++tl (txtB xs).length c)) hB4.a) (Vl.var rfl) (Vl.var rfl) (Vl.var rfl) hB4.p hB4.pl ex hB.R.g hB.R.h9 (by rw [ht];decide)) λ v H5 s5 hv=>?_
 obtain⟨R,hR2,hRb,hT,l5,rfl,h5⟩:=hv;refine g _ _ ?_;clear g;have hB5:=hB4.same s5;have s15:=s14.trans s5;have lf:(fB x.2.1.length R).length=7:=by unfold fB;rw [di,z0,hR2];rfl
 have fl:=bY (K':=fB x.2.1.length R) eX;rw [lf] at fl;have eY':((xs.map bk).set one (fB x.2.1.length R))[other]?=some (bk y):=bX hB.R eY (by omega);have pp:pos ((xs.map bk).set one (fB x.2.1.length R)) other+(bk x).length=pos (xs.map bk) other+7:=by
  have h1:=bY (Ks:=(xs.map bk).take other) (K':=fB x.2.1.length R) (j:=one) (K:=bk x) (by rw [B1 hoo];exact eX);unfold pos;rw [List.take_set];omega
 have py:=cA eY;have px:=cA eX;have pl:pos (xs.map bk) (other+1)≤3+(xs.map bk).flatten.length:=by
  have:=AB List.length (bv (xs.map bk) (other+1));rw [z0] at this;unfold pos;omega
 have pl':pos (xs.map bk) (one+1)≤3+(xs.map bk).flatten.length:=by
  have:=AB List.length (bv (xs.map bk) (one+1));rw [z0] at this;unfold pos;omega
 have L5:(mk3++(((xs.map bk).set one (fB x.2.1.length R)).flatten++tl (txtB xs).length c)).length=3+((xs.map bk).set one (fB x.2.1.length R)).flatten.length+11:=by rw [bC,ht]
 have px3:3≤pos (xs.map bk) one:=by unfold pos;omega
 have pm:pos (xs.map bk) (one+1)≤pos (xs.map bk) other:=by
  have h1:((xs.map bk).take other).flatten.length=((((xs.map bk).take other).take (one+1)).flatten++(((xs.map bk).take other).drop (one+1)).flatten).length:=AB List.length (bv _ _);rw [z0,Ed,AM (by omega)] at h1;unfold pos;omega
 have ea:((pos (xs.map bk) (other+1):Nat):Int)+(((mk3++(((xs.map bk).set one (fB x.2.1.length R)).flatten++tl (txtB xs).length c)).length:Nat):Int)-(((rowB xs c).length:Nat):Int)-1=((pos ((xs.map bk).set one (fB x.2.1.length R)) other+((bk y).length-1):Nat):Int):=by omega
 refine am λ _ g=>eM (Vl.op0 (Vl.op0 (Vl.op0 (Vl.end (Vl.var rfl) (Vl.var rfl) hB5.p hB5.pl ey Vl.c) (Vl.len (Ls.var rfl h5) rfl) rfl) (Vl.len (Ls.var rfl hB5.a) rfl) rfl) Vl.c (AB V.int ea)) λ H6 s6=>g _ _ ?_
 clear g;have hB6:=hB5.same s6;have h56:=s6 _ _ h5;have hin:pos ((xs.map bk).set one (fB x.2.1.length R)) other+((bk y).length-1)<(mk3++(((xs.map bk).set one (fB x.2.1.length R)).flatten++tl (txtB xs).length c)).length:=by omega
 have hbw:∀b∈mk3++(((xs.map bk).set one (fB x.2.1.length R)).flatten++tl (txtB xs).length c),b<256:=lG (j6 (bV hB.R.g) hRb) (cU hB.c).2;refine am λ _ g=>dC (Ts.fits (Vl.word (o:=.inl 8) (Ls.bent (Ls.var rfl h56) (Vl.var rfl) (v8 rfl) hin (by omega) b8) (Vl.var rfl) (Vl.var rfl) (bB hin b8 hbw) (by rw [aZ hin];omega) (by rw [eJ eY' (show(bk y).length-1<(bk y).length by omega) rfl];exact xx hB.R h0 hone.symm hoo (by omega) ex ey hR2 hT (by omega) (by omega))) Vl.c) λ H7 s7=>g _ _ ?_
 clear g;have hB7:=hB6.same s7;have s17:=s15.trans (s6.trans s7);refine am λ _ g=>kD (Ls.wrong (Ls.var rfl (A:=mk3++((xs.map bk).flatten++tl (txtB xs).length c)) hB7.a) (Vl.var rfl) (Vl.var rfl) (Vl.var rfl) hB7.p hB7.pl ey hB.R.g hB.R.h9 (by rw [ht];decide)) λ v H8 s8 hv=>?_
 obtain⟨R',hR2',hRb',hT',l8,rfl,h8⟩:=hv;refine g _ _ ?_;clear g;have hB8:=hB7.same s8;have lf':(fB y.2.1.length R').length=7:=by unfold fB;rw [di,z0,hR2'];rfl
 have fl':=bY (K':=fB y.2.1.length R') eY;rw [lf'] at fl';have eX':((xs.map bk).set other (fB y.2.1.length R'))[one]?=some (bk x):=bX hB.R eX (by omega);have pp':pos ((xs.map bk).set other (fB y.2.1.length R')) one=pos (xs.map bk) one:=by
  unfold pos;rw [DV (by omega)]
 have L8:(mk3++(((xs.map bk).set other (fB y.2.1.length R')).flatten++tl (txtB xs).length c)).length=3+((xs.map bk).set other (fB y.2.1.length R')).flatten.length+11:=by rw [bC,ht]
 have hin':pos (xs.map bk) one+((bk x).length-1)<(mk3++(((xs.map bk).set other (fB y.2.1.length R')).flatten++tl (txtB xs).length c)).length:=by omega
 have hbw':∀b∈mk3++(((xs.map bk).set other (fB y.2.1.length R')).flatten++tl (txtB xs).length c),b<256:=lG (j6 (bV hB.R.g) hRb') (cU hB.c).2;have ea':((pos (xs.map bk) (one+1):Nat):Int)-1=((pos (xs.map bk) one+((bk x).length-1):Nat):Int):=by omega
 exact ir (v:=.bl true) (Vl.fitsV (Vl.word (o:=.inl 2) (Ls.bent (Ls.var rfl h8) (Vl.op0 (Vl.end (Vl.var rfl) (Vl.var rfl) hB8.p hB8.pl ex Vl.c) Vl.c (AB V.int ea')) (v8 rfl) hin' (by omega) b8) (Vl.var rfl) (Vl.var rfl) (bB hin' b8 hbw') (by rw [aZ hin'];omega) (by rw [eJ eX' (show(bk x).length-1<(bk x).length by omega) (by rw [pp'])];exact xW hB.R h0 hone.symm hoo (by omega) ex ey hR2' b8 (by omega) (by omega))) Vl.c) λ H9 s9=>k H9 ((s17.trans s8).trans s9)
end
theorem so:∀i<9,∀j<9,wd i=wd j->i=j:=by decide+kernel
def kvE (es:List (Nat×EC)):List (Key×V):=es.map λ e=>(Sum.inr (wd e.1),V.ref e.2)
theorem kL:∀{es:List (Nat×EC)} {i:Nat},i<9->(∀e∈es,e.1<9/\e.1≠i)->valV (kvE es) (.inr (wd i))=none
 | [],_,_,_=>rfl
 |e::es,i,hi,h=>by
  have h1:=h e A6;show valV ((Sum.inr (wd e.1),V.ref e.2)::kvE es) (.inr (wd i))=none;rw [eA (λ z=>h1.2 (so _ h1.1 _ hi (Sum.inr.inj z)))];exact kL hi λ e' he=>h e' (AC _ he)
theorem oN:∀{es:List (Nat×EC)} {i:Nat} {l:EC},(∀e∈es,e.1<9)->(es.map (·.1)).Nodup->(i,l)∈es->valV (kvE es) (.inr (wd i))=some (.ref l)
 | [],_,_,_,_,h=>nomatch h
 |e::es,i,l,h9,hn,h=>by
  rw [AJ,Dh] at hn;show valV ((Sum.inr (wd e.1),V.ref e.2)::kvE es) (.inr (wd i))=_;rcases Bc.mp h with q|q
  ·subst q;exact gk rfl
  ·have hi:i<9:=h9 _ (AC _ q);rw [eA (λ z=>hn.1 (by rw [so _ (h9 e A6) _ hi (Sum.inr.inj z)];exact C6.mpr ⟨_,q,rfl⟩))];exact oN (λ e' he=>h9 e' (AC _ he)) hn.2 q
def Spl (H:Hp)(l:EC)(nb nc i:Nat):Prop:=∃B:List Nat,H l=some (.lst (B.map vN))/\(∀b∈B,b<256)/\B.length≤1000/\TrK B nb nc (.inl i)
theorem Spl.mk {i:Nat}{B:List Nat}(h:H l=some (.lst (B.map vN)))(hb:∀b∈B,b<256)(hl:B.length≤1000)(ht:TrK B nb nc (.inl i)):Spl H l nb nc i:=⟨B,h,hb,hl,ht⟩
theorem Spl.same {i:Nat}(h:Spl H l nb nc i)(s:Same H H'):Spl H' l nb nc i:=let⟨B,h1,r⟩:=h;⟨B,s _ _ h1,r⟩
theorem Spl.upd {i:Nat}{o kvs}(h:Spl H l nb nc i)(hd:H d=some (.dK kvs)):Spl (upd H d o) l nb nc i:=by
 obtain⟨B,h1,r⟩:=h;exact⟨B,by rw [av (λ z=>by rw [z,hd] at h1;cases h1)];exact h1,r⟩
structure Dc (H:Hp)(d:EC)(es:List (Nat×EC))(nb nc:Nat):Prop where
 h:H d=some (.dK (kvE es))
 n:(es.map (·.1)).Nodup
 e:∀e∈es,e.1<9/\Spl H e.2 nb nc e.1
theorem Dc.same (D:Dc H d es nb nc)(s:Same H H'):Dc H' d es nb nc:=⟨s _ _ D.h,D.n,λ e he=>⟨(D.e e he).1,(D.e e he).2.same s⟩⟩
theorem Dc.put {i:Nat}(D:Dc H d es nb nc)(hi:i<9)(hn:i∉es.map (·.1))(hl:es.length≤9)(hs:Spl H l nb nc i):DPut H d (.str (wd i)) (.ref l) (upd H d (.dK (kvE (es++[(i,l)]))))/\Dc (upd H d (.dK (kvE (es++[(i,l)])))) d (es++[(i,l)]) nb nc:=by
 have e1:putK (kvE es) (.inr (wd i)) (.ref l)=kvE (es++[(i,l)]):=by
  rw [iB _ (kL hi λ e he=>⟨(D.e e he).1,λ z=>hn (C6.mpr ⟨e,he,z⟩)⟩)];unfold kvE;rw [At];rfl
 refine⟨?_,af,?_,λ e he=>?_⟩
 ·rw [<-e1];exact DPut.k (k:=.inr (wd i)) D.h (by unfold kvE;rw [z7];exact C8 hl (by decide))
 ·rw [At,List.nodup_append];refine⟨D.n,by simp,λ a ha b hb=>?_⟩;have hb:b=i:=by simpa using hb
  subst hb;exact λ z=>hn (z▸ha)
 ·rcases Ar.mp he with q|q
  ·exact⟨(D.e e q).1,(D.e e q).2.upd D.h⟩
  ·rw [AD.mp q];exact⟨hi,hs.upd D.h⟩
section
variable {K:Frag}{σ:St}{H:Hp}
theorem Vl.pick {tr:TE}{R:List Nat}{y u:Str}(hi:Vl ti σ H (vN j))(hr:Ls tr σ H R)(e:u=if R.contains j=true then y else z):
  Vl (tOp (rIxL K) (tLst (tCons (tC (.str z)) (tCons (tC (.str y)) tNil))) (tCB (λ xs H Q=>(∃i,xs=[.int i]/\Q (.int i) H)\/∃k,xs=[.bl k]/\Q (.int (if k then 1 else 0)) H) (tCons (tOp (rIn K false) ti tr) tNil))) σ H (.str u):=λ H1 s Q k=>by
 subst e;refine LG.lst (vs:=[V.str z,V.str y]) (Ta.cons Vl.c (Ta.cons Vl.c Ta.nil)) (by show 2≤2000;decide) H1 s _ λ v H2 s2 ⟨l,e2,h2⟩=>hi H2 (s.trans s2) _ λ w H3 s3 e3=>hr H3 ((s.trans s2).trans s3) _ λ x H4 s4 ⟨m,e4,h4⟩=>⟨m,_,e4,.inl (SqL.of h4),by rw [e3];rfl,?_,?_⟩
 ·rw [List.all_map];exact CW.mpr λ _ _=>rfl
 ·have hin:inV w (R.map vN)=R.contains j:=by
   rw [e3];unfold inV;rw [List.any_map,<-List.any_beq'];congr 1;funext b;show((b:Int)==(j:Int))=(b==j);rw [Cj];simp;omega
  rw [AO Av,hin];refine .inr ⟨R.contains j,rfl,l,_,_,V.str (if R.contains j=true then y else z),e2,rfl,SqL.of (s4 _ _ (s3 _ _ h2)),?_,k _ H4 (s2.trans (s3.trans s4)) rfl⟩;cases R.contains j with
  |true=>rfl
  |false=>rfl
end
section
variable {P:EF}{w:EG}{K:Frag}{mg:Str -> Option ED}{base:EJ}{C CHd CR cR cH cK cB cN C0 C1 C2 C3 cM cT cZ cC cG cP:EC}
theorem wy {b:Bool}{xs:List Blk}{i:Nat}{o:Nat ⊕ (List Nat×Nat)}(e:o=if b=true then .inl i else .inr (due xs nb nc)):wdO o=if b=true then wd i else Str.ofString "told":=by
 subst e;cases b<;>rfl
def rm:Sp:=λ vs H Q _=>∃(a lp tp lr:EC) (ts:List EC) (xs:List Blk) (c nb nc z:Nat),vs=[.ref a,.ref lp,.ref tp,vN z,.ref lr]/\Bl4 H a lp tp ts xs c nb nc/\H lr=some (.lst ((rdL nb nc).map vN))/\∀H',Same H H'->Q (.bl true) H'
abbrev vn:List Str:=["_law_row","_law_places","_law_pair","_law_cell","_law_read","_law_begin","_law_count","_law_bit","_law_due","_law_word_here","_law_number","_law_place","_law_end","_law_at","_law_other"]
theorem scSpoilt:FnScope vn ["_law_row","_law_places","_law_pair","_law_cell","_law_read"] (ak kK):=⟨rfl,rfl,rfl,Z8,rfl,Z8,Z8⟩
theorem ql {f2:EC}{fd2:EH}(F:Fn K mg "_law_spoilt_right" kK ["_law_row","_law_places","_law_pair","_law_cell","_law_read"] f fd)(Tt:Fn K mg "_law_two_wrong" pK ["_law_row","_law_at","_law_pair","_law_cell"] f2 fd2)(Z:Lv K mg C CHd CR cR cH cK cB cN C0 C1 C2 C3 cM cT cZ cC cG cP):FnOk P w K mg base CX0 40 f fd ["_law_row","_law_places","_law_pair","_law_cell","_law_read"] rm:=by
 have X:=Z.N.P.H.N.Y.X;obtain⟨_,_,To⟩:=Z.told;obtain⟨_,_,Wo⟩:=Z.word;obtain⟨_,_,Be⟩:=Z.bent;obtain⟨_,_,Wr⟩:=Z.wrong;have GT:=dw (P:=P) (w:=w) (base:=base) Wo To Z.N Z.Y;have GE:=jZ (P:=P) (w:=w) (base:=base) Be;have GR:=mh (P:=P) (w:=w) (base:=base) Wr Z.Z;have G2:=vD (P:=P) (w:=w) (base:=base) Tt Z;refine F.F.ok scSpoilt λ EO A outer st H vs Q E hr h=>?_
 intro _;obtain⟨a,lp,tp,lr,ts,xs,c,nb,nc,z,rfl,hB,hrd,k⟩:=h;have hr1:Room 1 _:=hr.mono Z9;have hr7:Room 7 _:=hr.mono Z9;have hr38:Room 38 _:=hr.mono Z9;have hu:=hr.units;have hu1:_+1<cLine:=C8 (Nat.add_le_add_left (show 1≤64 by decide) _) hu;refine⟨_,ad (cV (pv 2) (cb rfl (aM (aG (i:=5) scSpoilt.nd) (aM (aG (i:=6) scSpoilt.nd) bL))))
   (ad (ao (i:=7) scSpoilt.nd (ag aI (ag aQ (pv 3) ae) ae))
   (ad (ao (i:=8) scSpoilt.nd (uq aB (ag aJ (pv 0) (aD (aa (ag aI (pv 3) ae) ac))) aB (aC aL (pv 0) aY (aA (ag aU (cf bG ae) (ag aI (pv 3) ae))))))
   (ad (j7 hu1 (pv 8) aB (ai GE hr1 Z7 Be.m Be.F.kp Be.b .nil ap (aa (pv 0) (aa (ag aI (pv 3) ae) (aa (pv 7) ac)))) rfl)
   (ad (j7 hu1 (pv 8) aB (ai GE hr1 Z7 Be.m Be.F.kp Be.b .nil ap (aa (pv 0) (aa (ag aU (ag aU (aw aq Z7 X.len As (aa (pv 0) ac)) ae) (ag aI (pv 3) ae)) (aa (pv 7) ac)))) rfl)
   (ad (j7 hu1 (pv 8) aB (ai GE hr1 Z7 Be.m Be.F.kp Be.b .nil ap (aa (pv 0) (aa (ag aF (ag aU (aw aq Z7 X.len As (aa (pv 0) ac)) ae) (ag aI (pv 3) ae)) (aa (pv 7) ac)))) rfl)
   (ad (cr Bj rfl (vK (pv 8)) (aG (i:=9) scSpoilt.nd) (ah (aK (ax cI (ai GT hr38 Z7 Wo.m Wo.F.kp Wo.b .nil ap (aa (uA hu1 (pv 8) (pv 9) (λ _ _=>rfl)) (aa (pv 5) (aa (pv 6) ac)))) (pv 9) (az _)) (ah (ar bo)) ay)))
   (ad (aK (ax (tG hu) (pv 1) (aD ac) (az _)) (ah (ar bo)) ay)
   (ad (ao (i:=10) scSpoilt.nd (ag aI (ag aQ (pv 3) ae) (aw aq Z7 X.len As (aa (pv 1) ac))))
   (ad (cV (ba bd (pv 1) (pv 10) (λ _ _=>rfl)) (cb rfl (aM (aG (i:=11) scSpoilt.nd) (aM (aG (i:=12) scSpoilt.nd) bL))))
   (ad (aK (ax cI (ai GT hr38 Z7 Wo.m Wo.F.kp Wo.b .nil ap (aa (ai GE hr1 Z7 Be.m Be.F.kp Be.b .nil ap (aa (pv 0) (aa (ag aF (pv 11) (ag aI (pv 3) ae)) (aa (pv 7) ac)))) (aa (pv 5) (aa (pv 6) ac)))) aB (az _)) (ah (ar bo)) ay)
   (ad (ao (i:=13) scSpoilt.nd (ag aF (ag aF (pv 11) ae) (ag aI (ag aQ (pv 3) ae) (ag aU (ag aU (pv 12) (pv 11)) ae))))
   (ad (aK (ax cI (ai GT hr38 Z7 Wo.m Wo.F.kp Wo.b .nil ap (aa (ai GE hr1 Z7 Be.m Be.F.kp Be.b .nil ap (aa (pv 0) (aa (pv 13) (aa (pv 7) ac)))) (aa (pv 5) (aa (pv 6) ac)))) (ba bd (aD (aa aB (aa aB ac))) (bD eZ Z7 X.int BM (aa (bz jI (pv 10) (pv 4) Z7) ac)) (λ _ _=>rfl)) (az _)) (ah (ar bo)) ay)
   (ad (aK (bp (bj (ai G2 hr Z7 Tt.m Tt.F.kp Tt.b .nil ap (aa (pv 0) (aa (pv 13) (aa (pv 2) (aa (ag aQ (pv 3) ae) ac))))))) (ah (ar bo)) ay)
   (ad (ao (i:=14) scSpoilt.nd (ag aI (ag aQ (pv 3) ae) (aw aq Z7 X.len As (aa (pv 1) ac))))
   (ad (aK (ax cI (ai GT hr38 Z7 Wo.m Wo.F.kp Wo.b .nil ap (aa (ai GR hr7 Z7 Wr.m Wr.F.kp Wr.b .nil ap (aa (pv 0) (aa (pv 1) (aa (pv 14) (aa (pv 3) ac))))) (aa (pv 5) (aa (pv 6) ac)))) (ba bd (aD (aa aB (aa aB ac))) (bD eZ Z7 X.int BM (aa (bz jI (pv 14) (pv 4) Z7) ac)) (λ _ _=>rfl)) (az _)) (ah (ar bo)) ay)
   (ah (ar (bz bP (ai GT hr38 Z7 Wo.m Wo.F.kp Wo.b .nil ap (aa (aC aL (pv 0) aY (aA (pv 13))) (aa (pv 5) (aa (pv 6) ac)))) aB (az _))))))))))))))))))),?_⟩
 have hF:=hB.len.2;have hlen:=hB.len.1;have hbyt:=hB.byt;have hm:=dM hB.R;have htot:=cj hB.R;have b8:z/7%8<8:=AK _ (by decide);have e8:((z:Nat):Int)/7%8=((z/7%8:Nat):Int):=by omega
 have ht:(tl (tot (xs.map hdB)) c).length=11:=a9 _ _;have e0:rowB xs c=mk3++((xs.map bk).flatten++(tl (tot (xs.map hdB)) c++[])):=by rw [AQ,htot];rfl
 have hT:tot (xs.map hdB)<65536:=by omega
 have hy:z%256<256:=AK _ (by decide);refine am λ _ g=>dG (Ev.pair rfl hB.t) λ H1 s1=>g _ _ ?_
 clear g;refine am λ _ g=>eM (v:=vN (z/7%8)) (Vl.op (Vl.op (Vl.var rfl) Vl.c ⟨Z9,Z9⟩ rfl) Vl.c (by show(0:Int)<8;decide) (AB V.int e8)) λ H2 s2=>g _ _ ?_
 clear g;have hB2:=hB.same (s1.trans s2);refine am λ _ g=>λ d nd=>?_
 have s3:=aj (o:=.dK []) nd;have hd3:(upd H2 d (.dK [])) d=some (.dK []):=af;have nd0:H d=none:=none_of (s1.trans s2) nd;have hB3:=hB2.same s3;have s13:=(s1.trans s2).trans s3;generalize upd H2 d (.dK [])=H3 at*;refine Ls.go (Ls.cat (Ls.var rfl hB3.a) (Ls.lst (A:=[z%256]) (Ta.cons (Vl.op (Vl.var rfl) Vl.c (by show(0:Int)<256;decide) (AB V.int (AN z 256).symm)) Ta.nil) (by show 1≤2000;decide)) (by rw [hlen];show _+1≤2000;omega)) λ l4 H4 s4 h4=>?_
 have hB4:=hB3.same s4;have q4:Spl H4 l4 nb nc 4:=.mk h4 (fG hbyt λ b hb=>by rw [AD.mp hb];exact hy) (by rw [z0,hlen];show _+1≤1000;omega) (by
  have:=gz hB.R.g.bks (c:=c) (nb:=nb) (nc:=nc) (y:=z%256);rw [htot] at this;exact this)
 have z11:z%11<11:=AK _ (by decide);have e11:(-1:Int)-((z:Nat):Int)%11=-((1+z%11:Nat):Int):=by omega
 refine Ls.go (Ls.uptoE (l:=1+z%11) (Ls.var rfl hB4.a) (Vl.op0 (Vl.neg Vl.c rfl) (Vl.op (Vl.var rfl) Vl.c (by show(0:Int)<11;decide) rfl) rfl) e11 (by omega) (by omega) rfl) λ l5 H5 s5 h5=>⟨s5 _ _ (s4 _ _ hd3),g _ _ ?_⟩
 clear g;have q5:Spl H5 l5 nb nc 5:=.mk h5 (λ b hb=>hbyt b (AG hb)) (by rw [Aj];omega) (by
  have:(rowB xs c).take ((rowB xs c).length-(1+z%11))=mk3++((xs.map bk).flatten++(tl (tot (xs.map hdB)) c).take (11-(1+z%11))):=by
   rw [htot];exact gP (a9 _ _) (by omega)
  rw [this];exact pN hB.R.g.bks (by omega))
 have hd5:=s5 _ _ (s4 _ _ hd3);have s15:=s13.trans (s4.trans s5);have D0:Dc H5 d [] nb nc:=⟨hd5,List.nodup_nil,λ _ h=>nomatch h⟩;obtain⟨_,D1⟩:=D0.put (i:=4) (l:=l4) (by decide) (by simp) (by simp) (q4.same s5);have q5':Spl (upd H5 d (.dK (kvE ([]++[(4,l4)])))) l5 nb nc 5:=q5.upd hd5;have u1:∀{G G':Hp} {x y:HO},Same H G->(∀b,b≠d->G' b=G b)->Same H G':=λ sG e b o h=>by rw [e b (λ z=>by rw [z,nd0] at h;cases h)];exact sG _ _ h
 obtain⟨_,D2⟩:=D1.put (i:=5) (l:=l5) (by decide) (by simp) (by simp) q5';have hu2:upd (upd H5 d (.dK (kvE ([]++[(4,l4)])))) d (.dK (kvE ([]++[(4,l4)]++[(5,l5)])))=upd H5 d (.dK (putK (putK [] (.inr (Str.ofString "behind")) (.ref l4)) (.inr (Str.ofString "cut")) (.ref l5))):=by
  have e1:putK (putK [] (.inr (Str.ofString "behind")) (.ref l4)) (.inr (Str.ofString "cut")) (.ref l5)=kvE ([]++[(4,l4)]++[(5,l5)]):=by
   rw [iB (kvs:=[]) _ rfl,iB]
   ·rfl
   ·exact kL (es:=[(4,l4)]) (i:=5) (by decide) (λ e he=>by rw [AD.mp he];exact⟨by show 4<9;decide,by show 4≠5;decide⟩)
  rw [e1];funext b;by_cases hb:b=d
  ·rw [hb,af,af]
  ·rw [av hb,av hb,av hb]
 rw [hu2] at D2;have sD:Same H (upd H5 d (.dK (putK (putK [] (.inr (Str.ofString "behind")) (.ref l4)) (.inr (Str.ofString "cut")) (.ref l5)))):=λ b o h=>by rw [av (λ z=>by rw [z,nd0] at h;cases h)];exact s15 _ _ h
 clear u1 hu2 D1 D0 q5' q4 q5 hd5 h4 h5 hd3 hB4 hB3;generalize upd H5 d (.dK (putK (putK [] (.inr (Str.ofString "behind")) (.ref l4)) (.inr (Str.ofString "cut")) (.ref l5)))=H6 at*;have z3:z%3<3:=AK _ (by decide);have hB6:=hB.same sD;refine am λ _ g=>Ls.go (Ls.bent (j:=z%3) (Ls.var rfl hB6.a) (Vl.op (Vl.var rfl) Vl.c (by show(0:Int)<3;decide) (AB V.int (AN z 3).symm)) (Vl.var rfl) (by omega) (by omega) b8) λ l7 H7 s7 h7=>?_
 have q7:Spl H7 l7 nb nc 0:=.mk h7 (bB (by omega) b8 hbyt) (by rw [aZ (by omega)];omega) (pQ z3);obtain⟨p7,D3⟩:=(D2.same s7).put (i:=0) (by decide) (by simp) (by show 2≤9;decide) q7;refine⟨_,rfl,d,_,rfl,p7,g _ _ ?_⟩;clear g;have sE:Same H (upd H7 d (.dK (kvE ([]++[(4,l4)]++[(5,l5)]++[(0,l7)])))):=λ b o h=>by rw [av (λ z=>by rw [z,nd0] at h;cases h)];exact s7 _ _ (sD _ _ h)
 clear p7 q7 h7;generalize upd H7 d (.dK (kvE ([]++[(4,l4)]++[(5,l5)]++[(0,l7)])))=H8 at*;have hB8:=hB.same sE;have z8:z%8<8:=AK _ (by decide);have ea:(((rowB xs c).length:Nat):Int)-1-((z:Nat):Int)%8=((3+(xs.map bk).flatten.length+(10-z%8):Nat):Int):=by omega
 have t9:bent (rowB xs c) (3+(xs.map bk).flatten.length+(10-z%8)) (z/7%8)=mk3++((xs.map bk).flatten++(bent (tl (tot (xs.map hdB)) c) (10-z%8) (z/7%8)++[])):=by rw [e0];exact dv (by rw [ht];omega) rfl
 refine am λ _ g=>Ls.go (Ls.bent (j:=3+(xs.map bk).flatten.length+(10-z%8)) (Ls.var rfl hB8.a) (Vl.op0 (Vl.op0 (Vl.len (Ls.var rfl hB8.a) rfl) Vl.c rfl) (Vl.op (Vl.var rfl) Vl.c (by show(0:Int)<8;decide) rfl) (AB V.int ea)) (Vl.var rfl) (by omega) (by omega) b8) λ l9 H9 s9 h9=>?_
 have q9:Spl H9 l9 nb nc 3:=.mk h9 (bB (by omega) b8 hbyt) (by rw [aZ (by omega)];omega) (by rw [t9];exact uz hB.R.g.bks hB.c hT b8 (by omega) (by omega));obtain⟨p9,D4⟩:=(D3.same s9).put (i:=3) (by decide) (by simp) (by show 3≤9;decide) q9;refine⟨_,rfl,d,_,rfl,p9,g _ _ ?_⟩;clear g;have sF:Same H (upd H9 d (.dK (kvE ([]++[(4,l4)]++[(5,l5)]++[(0,l7)]++[(3,l9)])))):=λ b o h=>by rw [av (λ z=>by rw [z,nd0] at h;cases h)];exact s9 _ _ (sE _ _ h)
 clear p9 q9 h9;generalize upd H9 d (.dK (kvE ([]++[(4,l4)]++[(5,l5)]++[(0,l7)]++[(3,l9)])))=H10 at*;have hB10:=hB.same sF;have eb:(((rowB xs c).length:Nat):Int)-11+((z:Nat):Int)%3=((3+(xs.map bk).flatten.length+z%3:Nat):Int):=by omega
 have t11:bent (rowB xs c) (3+(xs.map bk).flatten.length+z%3) (z/7%8)=mk3++((xs.map bk).flatten++(bent (tl (tot (xs.map hdB)) c) (z%3) (z/7%8)++[])):=by rw [e0];exact dv (by rw [ht];omega) rfl
 refine am λ _ g=>Ls.go (Ls.bent (j:=3+(xs.map bk).flatten.length+z%3) (Ls.var rfl hB10.a) (Vl.op0 (Vl.op0 (Vl.len (Ls.var rfl hB10.a) rfl) Vl.c rfl) (Vl.op (Vl.var rfl) Vl.c (by show(0:Int)<3;decide) rfl) (AB V.int eb)) (Vl.var rfl) (by omega) (by omega) b8) λ l11 H11 s11 h11=>?_
 have q11:Spl H11 l11 nb nc 1:=.mk h11 (bB (by omega) b8 hbyt) (by rw [aZ (by omega)];omega) (by rw [t11];exact sH hB.R.g.bks b8 z3);obtain⟨p11,D5⟩:=(D4.same s11).put (i:=1) (by decide) (by simp) (by show 4≤9;decide) q11;refine⟨_,rfl,d,_,rfl,p11,g _ _ ?_⟩;clear g;have sG:Same H (upd H11 d (.dK (kvE ([]++[(4,l4)]++[(5,l5)]++[(0,l7)]++[(3,l9)]++[(1,l11)])))):=λ b o h=>by rw [av (λ z=>by rw [z,nd0] at h;cases h)];exact s11 _ _ (sF _ _ h)
 clear p11 q11 h11;generalize upd H11 d (.dK (kvE ([]++[(4,l4)]++[(5,l5)]++[(0,l7)]++[(3,l9)]++[(1,l11)])))=H12 at*;generalize []++[(4,l4)]++[(5,l5)]++[(0,l7)]++[(3,l9)]++[(1,l11)]=es at*;clear D2 D3 D4 s1 s2 s3 s4 s5 s7 s9 s11 s13 s15 sD sE sF hB2 hB6 hB8 hB10 nd;refine am λ R g=>⟨_,rfl,d,_,rfl,D5.h,λ ob=>?_⟩
 refine sw (D:=⟨_,_,λ _ _=>False,λ _ _=>False⟩) (kvs:=kvE es) (λ i σ H13=>∃v9:Option V,σ=[some (.ref a),some (.ref lp),some (.ref tp),some (vN z),some (.ref lr),some (vN nb),some (vN nc),some (vN (z/7%8)),some (.ref d),v9,none,none,none,none,none]/\H13 d=some (.frz ob (.dK (kvE es)))/\(∀e∈es,Spl H13 e.2 nb nc e.1)/\Same H H13)
  ⟨none,rfl,af,λ e he=>(D5.e e he).2.upd D5.h,λ b o h=>by rw [av (λ z=>by rw [z,nd0] at h;cases h)];exact sG _ _ h⟩ (λ i σ H13 z9=>by obtain⟨_,_,h,_⟩:=z9;exact h) ?_ ?_
 ·clear g;rintro i p σ H13 hp ⟨v9,rfl,hd13,hS,s13⟩;obtain⟨e,he,rfl⟩:∃e,es[i]?=some e/\p=(Sum.inr (wd e.1),V.ref e.2):=by
   unfold kvE at hp;rw [Au] at hp;obtain⟨e,h1,h2⟩:=Bq.mp hp;exact⟨e,h1,h2.symm⟩
  have hem:e∈es:=BC he;obtain⟨B,hBl,hBb,hBL,hBT⟩:=hS e hem;have hval:valV (kvE es) (.inr (wd e.1))=some (.ref e.2):=oN (λ e' h'=>(D5.e e' h').1) D5.n hem;refine dC (σ:=[some (.ref a),some (.ref lp),some (.ref tp),some (vN z),some (.ref lr),some (vN nb),some (vN nc),some (vN (z/7%8)),some (.ref d),some (.str (wd e.1)),none,none,none,none,none]) (Ts.fits (Vl.word (o:=.inl e.1) (A:=B) ?_ (Vl.var rfl) (Vl.var rfl) hBb hBL hBT) (Vl.var rfl)) λ H14 s14=>⟨_,rfl,s14 _ _ hd13,λ e' h'=>(hS e' h').same s14,s13.trans s14⟩
  exact λ G sg Q q=>⟨_,rfl,_,rfl,d,.ref e.2,rfl,.inl ⟨kvE es,.inr (wd e.1),.inr ⟨ob,sg _ _ hd13⟩,rfl,hval.symm⟩,q _ G (Same.refl G) ⟨e.2,rfl,sg _ _ hBl⟩⟩
 rintro σ H13 ⟨v9,rfl,hd13,hS,s13⟩;refine g _ _ ?_;clear g hS hd13 D5;have hB13:=hB.same s13;refine am λ _ g=>⟨_,rfl,AZ _,λ le ne=>?_⟩
 have s14:=aj (o:=.lst []) ne;refine⟨lp,le,_,rfl,rfl,SqL.of (s14 _ _ hB13.p),SqL.of af,_,rfl,?_⟩;have hB14:=hB13.same s14;have s114:=s13.trans s14;generalize upd H13 le (.lst [])=H14 at*;cases hts:ts with
 |nil=>exact bR (k _ s114)
 |cons t0 ts0=>
 refine bq (g _ _ ?_);clear g;have hpos:0<ts.length:=by rw [hts];exact Nat.succ_pos _
 clear hts;have htx:=hB.pl.len;have ell:(ts.map V.ref).length=xs.length:=by rw [z7];exact htx
 have hpx:0<xs.length:=by omega
 have en:∀q:Nat,((z:Nat):Int)/((q:Nat):Int)%(((ts.map V.ref).length:Nat):Int)=((z/q%xs.length:Nat):Int):=λ q=>by rw [ell,AN,BI]
 have hj:=AK (z/56) hpx;have ho:=AK (z/200) hpx;refine am λ _ g=>eM (Vl.op (Vl.op (Vl.var rfl) Vl.c ⟨Z9,Z9⟩ rfl) (jY (Vl.var rfl) hB14.p) (by show(0:Int)<(((ts.map V.ref).length:Nat):Int);rw [ell];omega) (AB V.int (en 56))) λ H15 s15=>g _ _ ?_
 clear g;have hB15:=hB14.same s15;generalize hjj:z/56%xs.length=j at*;generalize hoo:z/200%xs.length=o at*;obtain⟨x,ex⟩:∃x,xs[j]?=some x:=⟨_,Af hj⟩;obtain⟨y,ey⟩:∃y,xs[o]?=some y:=⟨_,Af ho⟩;have eX:(xs.map bk)[j]?=some (bk x):=by rw [Au,ex];rfl
 have px:=cA eX;have pl:pos (xs.map bk) (j+1)≤3+(xs.map bk).flatten.length:=by
  have:=AB List.length (bv (xs.map bk) (j+1));rw [z0] at this;unfold pos;omega
 have lx:(bk x).length=x.2.2.length+5:=gE;refine am λ _ g=>dG (Ev.place (Vl.var rfl) (Vl.var rfl) hB15.p hB15.pl ex) λ H16 s16=>g _ _ ?_
 clear g;rw [eV];have hB16:=hB15.same s16;have s116:=s114.trans (s15.trans s16);have ec:((pos (xs.map bk) j:Nat):Int)+((z:Nat):Int)%3=((pos (xs.map bk) j+z%3:Nat):Int):=by omega
 have t16:bent (rowB xs c) (pos (xs.map bk) j+z%3) (z/7%8)=mk3++(((xs.map bk).set j (bent (bk x) (z%3) (z/7%8))).flatten++tl (txtB xs).length c):=eJ eX (by omega) rfl;refine am λ _ g=>dC (Ts.fits (Vl.word (o:=.inl 1) (Ls.bent (j:=pos (xs.map bk) j+z%3) (Ls.var rfl hB16.a) (Vl.op0 (Vl.var rfl) (Vl.op (Vl.var rfl) Vl.c (by show(0:Int)<3;decide) rfl) (AB V.int ec)) (Vl.var rfl) (by omega) (by omega) b8) (Vl.var rfl) (Vl.var rfl) (bB (by omega) b8 hbyt) (by rw [aZ (by omega)];omega) (by rw [t16];exact yE hB.R ex b8 z3)) Vl.c) λ H17 s17=>g _ _ ?_
 clear g;have hB17:=hB16.same s17;have hkk:=AK (z/3) (show 0<(bk x).length-3 by omega);have ed:((pos (xs.map bk) j:Nat):Int)+3+((z:Nat):Int)/3%(((pos (xs.map bk) j+(bk x).length:Nat):Int)-((pos (xs.map bk) j:Nat):Int)-3)=((pos (xs.map bk) j+(3+z/3%((bk x).length-3)):Nat):Int):=by
  have e1:((pos (xs.map bk) j+(bk x).length:Nat):Int)-((pos (xs.map bk) j:Nat):Int)-3=(((bk x).length-3:Nat):Int):=by omega
  rw [e1,<-show((z/3:Nat):Int)=((z:Nat):Int)/3 from rfl,<-AN];omega
 refine am λ _ g=>eM (Vl.op0 (Vl.op0 (Vl.var rfl) Vl.c rfl) (Vl.op (Vl.op (Vl.var rfl) Vl.c ⟨Z9,Z9⟩ rfl) (Vl.op0 (Vl.op0 (Vl.var rfl) (Vl.var rfl) rfl) Vl.c rfl) (by show(0:Int)<((pos (xs.map bk) j+(bk x).length:Nat):Int)-((pos (xs.map bk) j:Nat):Int)-3;omega) rfl) (AB V.int ed)) λ H18 s18=>g _ _ ?_
 clear g;have hB18:=hB17.same s18;have s118:=s116.trans (s17.trans s18);have hrd18:=s118 _ _ hrd;generalize hkq:3+z/3%((bk x).length-3)=q at*;have hq3:3≤q:=by omega
 have hqk:q<(bk x).length:=by omega
 have t18:bent (rowB xs c) (pos (xs.map bk) j+q) (z/7%8)=mk3++(((xs.map bk).set j (bent (bk x) q (z/7%8))).flatten++tl (txtB xs).length c):=eJ eX hqk rfl;have w18:=wy (b:=rdB nb nc j) (xs:=xs) (nb:=nb) (nc:=nc) (i:=2) rfl;refine am λ _ g=>dC (Ts.fits (Vl.word (Ls.bent (j:=pos (xs.map bk) j+q) (Ls.var rfl hB18.a) (Vl.var rfl) (Vl.var rfl) (by omega) (by omega) b8) (Vl.var rfl) (Vl.var rfl) (bB (by omega) b8 hbyt) (by rw [aZ (by omega)];omega) (by rw [t18];exact zg hB.R ex b8 hq3 hqk)) (Vl.pick (j:=j) (Vl.var rfl) (Ls.var rfl hrd18) (by rw [pw];exact w18))) λ H19 s19=>g _ _ ?_
 clear g;have hB19:=hB18.same s19;have e3:((z:Nat):Int)/3=((z/3:Nat):Int):=rfl;refine am λ _ g=>⟨_,rfl,_,rfl,_,rfl,_,rfl,_,_,rfl,rfl,⟨Z9,Z9⟩,a,lp,tp,ts,xs,x,c,nb,nc,z/3,j,q,rfl,hB19,ex,hq3,hqk,λ H20 s20=>⟨_,rfl,bq (g _ _ ?_)⟩⟩
 clear g;have hB20:=hB19.same s20;refine am λ _ g=>eM (Vl.op (Vl.op (Vl.var rfl) Vl.c ⟨Z9,Z9⟩ rfl) (jY (Vl.var rfl) hB20.p) (by show(0:Int)<(((ts.map V.ref).length:Nat):Int);rw [ell];omega) (AB V.int ((en 200).trans (by rw [hoo])))) λ H21 s21=>g _ _ ?_
 clear g;have hB21:=hB20.same s21;have s121:=s118.trans ((s19.trans s20).trans s21);have hrd21:=s121 _ _ hrd;have w21:=wy (b:=rdB nb nc o) (xs:=xs) (nb:=nb) (nc:=nc) (i:=8) rfl;have htl:(tl (txtB xs).length c).length=11:=a9 _ _;have W21:Vl (tCall (spLWord K) [] E0 (tCons (tCall spWrong [] E0 (tCons (tVar 0) (tCons (tVar 1) (tCons (tVar 14) (tCons (tVar 3) tNil))))) (tCons (tVar 5) (tCons (tVar 6) tNil)))) [some (.ref a),some (.ref lp),some (.ref tp),some (vN z),some (.ref lr),some (vN nb),some (vN nc),some (vN (z/7%8)),some (.ref d),v9,some (vN j),some (vN (pos (xs.map bk) j)),some (vN (pos (xs.map bk) j+(bk x).length)),some (vN (pos (xs.map bk) j+q)),some (vN o)] H21 (.str (wdO (if rdB nb nc o=true then .inl 8 else .inr (due xs nb nc)))):=λ G sg Q qq=>by
  refine Ls.wrong (Ls.var rfl (A:=mk3++((xs.map bk).flatten++tl (txtB xs).length c)) hB21.a) (Vl.var rfl) (Vl.var rfl) (Vl.var rfl) hB21.p hB21.pl ey hB.R.g hB.R.h9 (by rw [htl];decide) G sg _ λ v G1 t1 hv=>?_
  obtain⟨R',hR2,hRb,hTx,l22,rfl,h22⟩:=hv;have lf:(fB y.2.1.length R').length=7:=by unfold fB;rw [di,z0,hR2];rfl
  have fl:=bY (K':=fB y.2.1.length R') (show(xs.map bk)[o]?=some (bk y) by rw [Au,ey];rfl);refine⟨_,rfl,_,rfl,.ref l22,vN nb,vN nc,_,rfl,.inr ⟨_,⟨l22,rfl,h22,lG (j6 (bV hB.R.g) hRb) (cU hB.c).2⟩,by rw [bC,htl];omega,.inr ⟨nb,nc,rfl,rfl,yH hB.R ey hR2 hTx⟩⟩,λ G2 t2=>qq _ G2 (t1.trans t2) rfl⟩
 refine am λ _ g=>dC (Ts.fits W21 (Vl.pick (j:=o) (Vl.var rfl) (Ls.var rfl hrd21) (by rw [pw];exact w21))) λ H22 s22=>g _ _ ?_
 clear g W21;have hB22:=hB21.same s22;exact ir (v:=.bl true) (Vl.fitsV (Vl.word (o:=.inl 5) (Ls.upto (n:=pos (xs.map bk) j+q) (A:=rowB xs c) (Ls.var rfl hB22.a) (Vl.var rfl)) (Vl.var rfl) (Vl.var rfl) (λ b hb=>hbyt b (AG hb)) (by rw [Aj];omega) (yw hB.R ex hqk)) Vl.c) λ H23 s23=>k H23 (s121.trans (s22.trans s23))
end
section
variable {K:Frag}{σ:St}{H:Hp}
theorem Vl.wordN {tc:TE}{b c:V}(h:Ls t σ H A)(hb:Vl tb σ H b)(hc:Vl tc σ H c)(hA:∀b∈A,b<256)(hl:A.length≤1000)(hN:NoCt K H b\/(∃n:Nat,b=vN n)/\NoCt K H c):Vl (tCall (spLWord K) [] E (tCons t (tCons tb (tCons tc tNil)))) σ H (.str (wd 7)):=λ H1 s Q k=>
 h H1 s _ λ x H2 s2 z9=>by obtain⟨l,e,hx⟩:=z9;exact hb H2 (s.trans s2) _ λ y H3 s3 e3=>hc H3 ((s.trans s2).trans s3) _ λ z H4 s4 e4=>
  have sA:=(s.trans s2).trans (s3.trans s4)
  ⟨x,y,z,.inl 7,rfl,.inr ⟨A,⟨l,e,s4 _ _ (s3 _ _ hx),hA⟩,hl,.inl ⟨by rw [e3,e4];exact hN.elim (λ h=>.inl (h.same sA)) (λ h=>.inr ⟨h.1,h.2.same sA⟩),rfl⟩⟩,λ H5 s5=>k _ H5 ((s2.trans s3).trans (s4.trans s5)) rfl⟩
theorem Ts.neG (ha:LG a σ H vs)(hb:LG b σ H vs)(f:∀x∈vs,flatV x=true):Ts (ju (tOp (wm K) a b)) σ H false:=λ H1 s Q k=>
 ha H1 s _ λ x H2 s2 z9=>by obtain⟨l,e,hl⟩:=z9;exact hb H2 (s.trans s2) _ λ y H3 s3 ⟨m,e3,hm⟩=>⟨l,m,e,e3,SameGs.flat (s3 _ _ hl) hm f,_,rfl,k H3 (s2.trans s3)⟩
theorem LG.rep {ws:List V}(ha:LG a σ H vs)(hb:Vl b σ H (vN n))(hn:n≤100)(hl:vs.length≤10)(e:(List.replicate n vs).flatten=ws):LG (tOp yR a b) σ H ws:=λ H1 s Q k=>by
 refine ha H1 s _ λ x H2 s2 ⟨l,e2,h2⟩=>hb H2 (s.trans s2) _ λ y H3 s3 e3=>⟨l,_,vs,e2,e3,s3 _ _ h2,by omega,by omega,?_,λ p hp=>k _ _ ((s2.trans s3).trans (aj hp)) ⟨p,rfl,?_⟩⟩
 ·rw [Ay];exact bh (AT (Nat.mul_le_mul hl hn) (by decide))
 ·rw [af,Ay,e]
end
theorem oy {xs:List Blk}{c mb mc:Nat}(R:Rr xs nb nc)(hn:n<4294967296)(h:n≠(txtB xs).length):TrK (mk3++((xs.map bk).flatten++tl n c)) mb mc (.inl 3):=by
 have hs:=dM R;rw [<-AQ (tl n c)];refine bZ (i:=2) (de R.g.bks (a9 _ _) (kP _ _) λ hz=>?_);have:=fJ hn (by rw [cj R];omega) (tl_ok.mp hz);rw [cj R] at this;exact h this
section
variable {P:EF}{w:EG}{K:Frag}{mg:Str -> Option ED}{base:EJ}{C CHd CR cR cH cK cB cN C0 C1 C2 C3 cM cT cZ cC cG cP:EC}
def yM:Sp:=λ vs H Q _=>∃(a lp tp:EC) (ts:List EC) (xs:List Blk) (c nb nc z:Nat),vs=[.ref a,vN (txtB xs).length,vN z]/\Bl4 H a lp tp ts xs c nb nc/\∀H',Same H H'->Q (.bl true) H'
abbrev zP:List Str:=["_law_row","_law_many","_law_cell","_law_odd_here","_law_words"]
theorem scOdd:FnScope zP ["_law_row","_law_many","_law_cell"] (ak xF):=⟨rfl,rfl,rfl,Z8,rfl,Z8,Z8⟩
theorem yi (F:Fn K mg "_law_odd" xF ["_law_row","_law_many","_law_cell"] f fd)(tu:mg "tuple"=none)(Z:Lv K mg C CHd CR cR cH cK cB cN C0 C1 C2 C3 cM cT cZ cC cG cP):FnOk P w K mg base CX0 39 f fd ["_law_row","_law_many","_law_cell"] yM:=by
 have X:=Z.N.P.H.N.Y.X;obtain⟨_,_,To⟩:=Z.told;obtain⟨_,_,Wo⟩:=Z.word;obtain⟨_,_,Se⟩:=Z.sealed;have GT:=dw (P:=P) (w:=w) (base:=base) Wo To Z.N Z.Y;have GS:=jF (P:=P) (w:=w) (base:=base) Se Z.Z Z.dm;refine F.F.ok scOdd λ EO A outer st H vs Q E hr h=>?_
 intro _;obtain⟨a,lp,tp,ts,xs,c,nb,nc,z,rfl,hB,k⟩:=h;have hr7:Room 7 _:=hr.mono Z9;have hu:=hr.units;refine⟨_,ad (ao (i:=3) scOdd.nd (ba bd (aD (aa (cf bG ae) (aa bo (aa cF (aa aB (aa (aD (aa ae ac)) (aa (bK (aa ae ac)) ac))))))) (ag aI (pv 2) ae) (λ _ _=>rfl)))
   (ad (ao (i:=4) scOdd.nd (aD (aa (ai GT hr Z7 Wo.m Wo.F.kp Wo.b .nil ap (aa (aC aL (pv 0) aY (aA (cf bG ae))) (aa (pv 3) (aa ae ac)))) (aa (ai GT hr Z7 Wo.m Wo.F.kp Wo.b .nil ap (aa (pv 0) (aa ae (aa (pv 3) ac)))) (aa (ai GT hr Z7 Wo.m Wo.F.kp Wo.b .nil ap (aa (ag aJ (pv 0) (aD (aa ae ac))) (aa (pv 3) (aa (pv 3) ac)))) ac)))))
   (ad (ao (i:=4) scOdd.nd (ag aJ (pv 4) (aD (aa (ai GT hr Z7 Wo.m Wo.F.kp Wo.b .nil ap (aa (pv 0) (aa (pv 1) (aa ae ac)))) (aa (ai GT hr Z7 Wo.m Wo.F.kp Wo.b .nil ap (aa (pv 0) (aa (ag aF (ag aF (pv 1) ae) (ag aI (ag aQ (pv 2) ae) ae)) (aa ae ac)))) ac)))))
   (ad (aK (ax (uX hu) (ag aJ (pv 4) (aD (aa (ai GT hr Z7 Wo.m Wo.F.kp Wo.b .nil ap (aa (pv 0) (aa ae (aa (ag aF (pv 1) ae) ac)))) ac))) (ag ke (aD (aa aB ac)) ae) (az _)) (ah (ar bo)) ay)
   (ad (aK (PW.pt (eI (ax cI (ai GT hr Z7 Wo.m Wo.F.kp Wo.b .nil ap (aa (ag aJ (pv 0) (aD (aa ae ac))) (aa (pv 1) (aa ae ac)))) aB (az _)) (dQ (ax cI (ai GT hr Z7 Wo.m Wo.F.kp Wo.b .nil ap (aa (aC aL (pv 0) aY (aA (cf bG ae))) (aa (pv 1) (aa ae ac)))) aB (az _))))) (ah (ar bo)) ay)
   (ad (aK (ax cI (ai GT hr Z7 Wo.m Wo.F.kp Wo.b .nil ap (aa (ai GS hr7 Z7 Se.m Se.F.kp Se.b .nil ap (aa (pv 0) (aa (ag aF (pv 1) ae) ac))) (aa (pv 1) (aa ae ac)))) aB (az _)) (ah (ar bo)) ay)
   (ah (ar (bz bP (ai GT hr Z7 Wo.m Wo.F.kp Wo.b .nil ap (aa (ba bd (aD (aa cF (aa (ag aJ (pv 0) (aD (aa ae ac))) (aa (ag aJ (pv 0) (aD (aa bo ac))) (aa (bD fg Z7 tu Dd (aa (pv 0) ac)) ac))))) (ag aI (pv 2) ae) (λ _ _=>rfl)) (aa (pv 3) (aa (pv 3) ac)))) aB (az _))))))))),?_⟩
 have hF:=hB.len.2;have hlen:=hB.len.1;have hbyt:=hB.byt;have hm:=dM hB.R;have htot:=cj hB.R;refine am λ R g=>?_
 refine(λ(J:∀(v:V) (H1:Hp),Same H H1->NoCt K H1 v->R [some (.ref a),some (vN (txtB xs).length),some (vN z),some v,none] H1)=>?_) (λ v H1 s1 hv=>g _ _ ?_)
 ·clear g;refine⟨_,rfl,(by show 1≤sizeLine;decide),λ l0 n0=>⟨(by show 1≤sizeLine;decide),λ t0 nt=>⟨(by show 6≤sizeLine;decide),λ l1 n1=>⟨_,rfl,_,_,rfl,rfl,(by show(0:Int)<6;decide),?_⟩⟩⟩⟩;have s0:=aj (o:=.lst [.int 0]) n0;have s1:=aj (o:=.tup [.int 0]) nt;have s2:=aj (o:=.lst [.int (-1),.bl true,.non,.str (Str.ofString "0"),.ref l0,.ref t0]) n1;have h0:=s2 _ _ (s1 _ _ (show(upd H l0 (.lst [.int 0])) l0=some (.lst [.int 0]) from af));have h1:=s2 _ _ (show(upd (upd H l0 (.lst [.int 0])) t0 (.tup [.int 0])) t0=some (.tup [.int 0]) from af);have sA:=(s0.trans s1).trans s2;have hl:(upd (upd (upd H l0 (.lst [.int 0])) t0 (.tup [.int 0])) l1 (.lst [.int (-1),.bl true,.non,.str (Str.ofString "0"),.ref l0,.ref t0])) l1=some (.lst [.int (-1),.bl true,.non,.str (Str.ofString "0"),.ref l0,.ref t0]):=af;change rIxL K (.ref l1) _ (upd (upd (upd H l0 (.lst [.int 0])) t0 (.tup [.int 0])) l1 (.lst [.int (-1),.bl true,.non,.str (Str.ofString "0"),.ref l0,.ref t0])) _;generalize upd (upd (upd H l0 (.lst [.int 0])) t0 (.tup [.int 0])) l1 (.lst [.int (-1),.bl true,.non,.str (Str.ofString "0"),.ref l0,.ref t0])=H1 at*;have e6:((z:Nat):Int)%6=((z%6:Nat):Int):=by omega
  try dsimp only
  rw [e6];have h6:z%6<6:=AK _ (by decide);generalize z%6=i at*
  match i,h6 with
  |0,_=>exact⟨l1,_,_,_,rfl,rfl,SqL.of hl,aT (j:=0) rfl,J _ _ sA (.inr ⟨-1,rfl,by decide⟩)⟩
  |1,_=>exact⟨l1,_,_,_,rfl,rfl,SqL.of hl,aT (j:=1) rfl,J _ _ sA (.inl (.bl true))⟩
  |2,_=>exact⟨l1,_,_,_,rfl,rfl,SqL.of hl,aT (j:=2) rfl,J _ _ sA (.inl .non)⟩
  |3,_=>exact⟨l1,_,_,_,rfl,rfl,SqL.of hl,aT (j:=3) rfl,J _ _ sA (.inl (.str _))⟩
  |4,_=>exact⟨l1,_,_,_,rfl,rfl,SqL.of hl,aT (j:=4) rfl,J _ _ sA (.inl (.of (.lst h0) Z9))⟩
  |5,_=>exact⟨l1,_,_,_,rfl,rfl,SqL.of hl,aT (j:=5) rfl,J _ _ sA (.inl (.of (.tup h1) Z9))⟩
 clear g;have hB1:=hB.same s1;have b0:∀b∈ [0],b<256:=λ b hb=>by rw [AD.mp hb];decide
 have l0:(rowB xs c++[0]).length≤1000:=by rw [z0,hlen];show _+1≤1000;omega
 have l1:((rowB xs c).take ((rowB xs c).length-1)).length≤1000:=by rw [Aj];omega
 have bt:∀b∈(rowB xs c).take ((rowB xs c).length-1),b<256:=λ b hb=>hbyt b (AG hb)
 have Rl:∀{σ:St} {G:Hp},σ[0]?=some (some (.ref a))->Same H1 G->Ls (tSl (rSlL K) (tVar 0) tNoPart (tPart (tUn (rU λ i=>.int (-i)) (tC (.int 1))))) σ G ((rowB xs c).take ((rowB xs c).length-1)):=λ e s=>Ls.uptoE (l:=1) (Ls.var e (s _ _ hB1.a)) (Vl.neg Vl.c rfl) rfl (by decide) (by omega) rfl
 have R0:∀{σ:St} {G:Hp},σ[0]?=some (some (.ref a))->Same H1 G->Ls (tOp rCat (tVar 0) (tLst (tCons (tC (.int 0)) tNil))) σ G (rowB xs c++[0]):=λ e s=>Ls.cat (Ls.var e (s _ _ hB1.a)) (Ls.lst (A:=[0]) (Ta.cons Vl.c Ta.nil) (by show 1≤2000;decide)) (by rw [hlen];show _+1≤2000;omega)
 have sr:=Same.refl H1;refine am λ _ g=>gp (vs:=[V.str (wd 7),V.str (wd 7),V.str (wd 7)]) (LG.lst (Ta.cons (Vl.wordN (Rl rfl sr) (Vl.var rfl) Vl.c bt l1 (.inl hv)) (Ta.cons (Vl.wordN (b:=vN 0) (Ls.var rfl hB1.a) Vl.c (Vl.var rfl) hbyt (by omega) (.inr ⟨⟨0,rfl⟩,hv⟩)) (Ta.cons (Vl.wordN (R0 rfl sr) (Vl.var rfl) (Vl.var rfl) (fG hbyt b0) l0 (.inl hv)) Ta.nil))) (by show 3≤2000;decide)) λ l2 H2 s2 h2=>g _ _ ?_
 clear g;have hB2:=hB1.same s2;have sc:=jQ hB.R.g.bks (c:=c);rw [htot] at sc;have tr:∀{mb mc:Nat},(txtB xs).length<mb+mc->TrK (rowB xs c) mb mc (.inl 7):=λ h=>rO sc (by rw [htot];exact h)
 have e99:(((txtB xs).length:Nat):Int)+1+((z:Nat):Int)/6%99=(((txtB xs).length+1+z/6%99:Nat):Int):=by omega
 refine am λ _ g=>gp (LG.cat (LG.var rfl h2) (LG.lst (vs:=[V.str (wd 7),V.str (wd 7)]) (Ta.cons (Vl.word (nc:=1) (o:=.inl 7) (Ls.var rfl hB2.a) (Vl.var rfl) Vl.c hbyt (by omega) (tr (by omega))) (Ta.cons (Vl.word (nb:=(txtB xs).length+1+z/6%99) (nc:=0) (o:=.inl 7) (Ls.var rfl hB2.a) (Vl.op0 (Vl.op0 (Vl.var rfl) Vl.c rfl) (Vl.op (Vl.op (Vl.var rfl) Vl.c ⟨Z9,Z9⟩ rfl) Vl.c (by show(0:Int)<99;decide) rfl) (AB V.int e99)) Vl.c hbyt (by omega) (tr (by omega))) Ta.nil)) (by show 2≤2000;decide)) (by show 3+2≤2000;decide)) λ l3 H3 s3 h3=>g _ _ ?_
 clear g;have hB3:=hB2.same s3;refine am λ _ g=>dC (Ts.neG (LG.cat (LG.var rfl h3) (LG.lst (vs:=[V.str (wd 7)]) (Ta.cons (Vl.word (nb:=0) (nc:=(txtB xs).length+1) (o:=.inl 7) (Ls.var rfl hB3.a) Vl.c (Vl.op0 (Vl.var rfl) Vl.c rfl) hbyt (by omega) (tr (by omega))) Ta.nil) (by show 1≤2000;decide)) (by show 5+1≤2000;decide)) (LG.rep (n:=6) (LG.lst (vs:=[V.str (wd 7)]) (Ta.cons Vl.c Ta.nil) (by show 1≤2000;decide)) Vl.c (by decide) (by show 1≤10;decide) rfl) ?_) λ H4 s4=>g _ _ ?_
 ·intro v hv;have:v=V.str (wd 7):=by simpa using hv
  rw [this];rfl
 clear g;have s34:=s3.trans s4;have s24:=s2.trans s34;have trb:∀{mb mc:Nat},TrK (rowB xs c++[0]) mb mc (.inl 4):=λ {mb mc}=>by
  have:=gz hB.R.g.bks (c:=c) (nb:=mb) (nc:=mc) (y:=0);rw [htot] at this;exact this
 have trc:∀{mb mc:Nat},TrK ((rowB xs c).take ((rowB xs c).length-1)) mb mc (.inl 5):=λ {mb mc}=>by
  have:(rowB xs c).take ((rowB xs c).length-1)=mk3++((xs.map bk).flatten++(tl (tot (xs.map hdB)) c).take (11-1)):=by
   rw [htot];exact gP (a9 _ _) (by omega)
  rw [this];exact pN hB.R.g.bks (by decide)
 refine am λ _ g=>dC (Ts.or (Ts.fits (Vl.word (nc:=1) (o:=.inl 4) (R0 rfl s24) (Vl.var rfl) Vl.c (fG hbyt b0) l0 trb) Vl.c) (Ts.fits (Vl.word (nc:=1) (o:=.inl 5) (Rl rfl s24) (Vl.var rfl) Vl.c bt l1 trc) Vl.c)) λ H5 s5=>g _ _ ?_
 clear g;have hB5:=hB3.same (s4.trans s5);have lS:(mk3++((xs.map bk).flatten++tl ((txtB xs).length+1) c)).length≤1000:=by rw [bC,a9];omega
 refine am λ _ g=>dC (Ts.fits (Vl.word (nb:=(txtB xs).length) (nc:=1) (o:=.inl 3) (Ls.sealed (m:=(txtB xs).length+1) (Ls.var rfl (A:=mk3++((xs.map bk).flatten++tl (txtB xs).length c)) hB5.a) (Vl.op0 (Vl.var rfl) Vl.c rfl) (by omega) hB.c (by omega)) (Vl.var rfl) Vl.c (lG (bV hB.R.g) (cU hB.c).2) lS ?_) Vl.c) λ H6 s6=>g _ _ ?_
 ·exact oy hB.R (by omega) (by omega)
 clear g;have hB6:=hB5.same s6;have s16:=s24.trans (s5.trans s6);have hv6:=hv.same s16;have W:Ev (tOp (rIxL K) (tLst (tCons (tC .non) (tCons (tOp rCat (tVar 0) (tLst (tCons (tC (.int 256)) tNil))) (tCons (tOp rCat (tVar 0) (tLst (tCons (tC (.bl true)) tNil))) (tCons (tCB (λ xs H Q=>∃p ys,xs=[.ref p]/\((SqL K H p ys/\∀l,H l=none->Q (.ref l) (upd H l (.tup ys)))\/(SqT K H p ys/\Q (.ref p) H))) (tCons (tVar 0) tNil)) tNil))))) (tOp (rI (λ _ j=>0<j) λ i j=>.int (i%j)) (tVar 2) (tC (.int 4)))) [some (.ref a),some (vN (txtB xs).length),some (vN z),some v,some (.ref l3)] H6 (λ x H'=>Rf.NoRow K H' x):=λ G sg Q q=>by
  refine LG.cat (LG.var (i:=0) rfl (sg _ _ hB6.a)) (LG.lst (vs:=[V.int 256]) (Ta.cons Vl.c Ta.nil) (by show 1≤2000;decide)) (by rw [z7,hlen];show _+1≤2000;omega) G (Same.refl G) _ λ v1 G1 t1 hv1=>?_
  obtain⟨p1,rfl,h1⟩:=hv1;refine LG.cat (LG.var (i:=0) rfl (t1 _ _ (sg _ _ hB6.a))) (LG.lst (vs:=[V.bl true]) (Ta.cons Vl.c Ta.nil) (by show 1≤2000;decide)) (by rw [z7,hlen];show _+1≤2000;omega) G1 (Same.refl G1) _ λ v2 G2 t2 hv2=>?_
  obtain⟨p2,rfl,h2⟩:=hv2;refine⟨_,rfl,a,_,rfl,.inl ⟨SqL.of (t2 _ _ (t1 _ _ (sg _ _ hB6.a))),λ p3 n3=>⟨(by show 4≤sizeLine;decide),λ p4 n4=>⟨_,rfl,_,_,rfl,rfl,(by show(0:Int)<4;decide),?_⟩⟩⟩⟩;have t3:=aj (o:=.tup ((rowB xs c).map vN)) n3;have t4:=aj (o:=.lst [V.non,.ref p1,.ref p2,.ref p3]) n4;have k1:=t4 _ _ (t3 _ _ (t2 _ _ h1));have k2:=t4 _ _ (t3 _ _ h2);have k3:=t4 _ _ (show(upd G2 p3 (.tup ((rowB xs c).map vN))) p3=some (.tup ((rowB xs c).map vN)) from af);have k4:(upd (upd G2 p3 (.tup ((rowB xs c).map vN))) p4 (.lst [V.non,.ref p1,.ref p2,.ref p3])) p4=some (.lst [V.non,.ref p1,.ref p2,.ref p3]):=af;have tA:=(t1.trans t2).trans (t3.trans t4);change rIxL K (.ref p4) _ (upd (upd G2 p3 (.tup ((rowB xs c).map vN))) p4 (.lst [V.non,.ref p1,.ref p2,.ref p3])) _;generalize upd (upd G2 p3 (.tup ((rowB xs c).map vN))) p4 (.lst [V.non,.ref p1,.ref p2,.ref p3])=G4 at*;have e4:((z:Nat):Int)%4=((z%4:Nat):Int):=by omega
  try dsimp only
  rw [e4];have z4:z%4<4:=AK _ (by decide);have bad:∀(p:EC) (y:V),G4 p=some (.lst ((rowB xs c).map vN++[y]))->Rf.WhV K G4 y 0 255 false->Rf.NoRow K G4 (.ref p):=λ p y hp hy=>by
   refine .inr ⟨p,_,(rowB xs c).length,y,rfl,hp,λ i hi=>?_,?_,hy⟩
   ·refine⟨(rowB xs c)[i],hbyt _ (CY hi),?_⟩;rw [BX (by rw [z7];exact hi),Au,Af hi];rfl
   ·rw [CQ (by rw [z7];exact Al _),z7,D9];rfl
  generalize z%4=i at*
  match i,z4 with
  |0,_=>exact⟨p4,_,_,_,rfl,rfl,SqL.of k4,aT (j:=0) rfl,q _ _ tA (.inl ⟨_,.non,Rf.kit_nl K (t:="NoneType") Z9⟩)⟩
  |1,_=>exact⟨p4,_,_,_,rfl,rfl,SqL.of k4,aT (j:=1) rfl,q _ _ tA (bad p1 _ k1 (.inl ⟨256,rfl,by decide⟩))⟩
  |2,_=>exact⟨p4,_,_,_,rfl,rfl,SqL.of k4,aT (j:=2) rfl,q _ _ tA (bad p2 _ k2 (.inr ⟨.bl true,rfl⟩))⟩
  |3,_=>exact⟨p4,_,_,_,rfl,rfl,SqL.of k4,aT (j:=3) rfl,q _ _ tA (.inl ⟨_,.tup k3,Rf.kit_nl K (t:="tuple") Z9⟩)⟩
 refine ir (v:=.bl true) (Vl.fitsV (z:=wd 6) (λ G sg Q q=>?_) Vl.c) λ H8 s8=>k H8 (s1.trans (s16.trans s8))
 refine W G sg _ λ x G1 t1 hx=>⟨_,rfl,_,rfl,x,v,v,.inl 6,rfl,.inl ⟨hx,rfl⟩,λ G2 t2=>q _ G2 (t1.trans t2) rfl⟩
end
end K28.Ck
set_option maxHeartbeats 4000000
namespace L2
open PySem PySem.Spec PyProof.Rows QQ
def xY (ta:TA):TE:=λ σ H Q=>ta σ H λ vs H1=>∃(lo:Int) (n:Nat),vs=[.int lo,.int (lo+n)]/\0≤lo/\lo≤1000000/\n≤1000000/\∀l,H1 l=none->Q (.ref l) (upd H1 l (.lst ((List.range n).map λ i=>.int (lo+((i:Nat):Int)))))
theorem vA {f:Nat->Int}{n:Nat}{acc:Array ED}(h:ItemsOf (λ i v=>∃t,v=.int (f i) t) acc n):Vals ((List.range n).map λ i=>V.int (f i)) acc.toList:=by
 obtain⟨h1,h2⟩:=h;have key:∀(l:List ED) (s:Nat),(∀(j:Nat) (v:ED),l[j]?=some v->∃t,v=Value.int (f (s+j)) t)->Vals ((List.range' s l.length).map λ i=>V.int (f i)) l:=by
  intro l
  induction l with
  |nil=>intro s _;exact .nil
  |cons v l ih=>
   intro s h;rw [Az,Er,AJ];refine .cons ?_ (ih (s+1) λ j w e=>?_)
   ·obtain⟨t,e⟩:=h 0 v rfl;exact⟨t,e⟩
   ·obtain⟨t,e'⟩:=h (j+1) w e;exact⟨t,by rw [e',show s+1+j=s+(j+1) by omega]⟩
 have:=key acc.toList 0 λ j v e=>by
  rw [BK];exact h2 j v (by rw [<-Array.getElem?_toList];exact e)
 rw [CZ,h1,<-DJ] at this;exact this
section
variable {X:Cx}
theorem rn {a b:EK}{ta:TA}{p p2 pos pos2:Pos}(hh:X.A.handled=none)(hg:Gl X "list")(hm:X.mg "list"=none)(hg2:Gl X "range")(hm2:X.mg "range"=none)(ha:PA X [a,b] ta)(hs:autoParam (starEach [a,b] X.env=[(false,eval a X.env),(false,eval b X.env)]) Z0)(hs2:autoParam (starEach [b] X.env=[(false,eval b X.env)]) Z0)
  (he:autoParam (starEach [.Call (.Name "range" p2) [a,b] [] pos2] X.env=[(false,eval (.Call (.Name "range" p2) [a,b] [] pos2) X.env)]) Z0):
  PE X (.Call (.Name "list" p) [.Call (.Name "range" p2) [a,b] [] pos2] [] pos) (xY ta):=by
 intro EN s σ H Q I h;refine BR (ld_blt I hg hm Bp (BQ ?_ he rfl) (by decide) (by decide));rw [he];show wpAny _ _ (spliced [(false,eval (.Call (.Name "range" p2) [a,b] [] pos2) X.env)]) _ _ s;refine Eb (Call_ (ld_blt I hg2 hm2 boot_range (BQ (thn (ha pos2 EN s σ H _ I h) λ us s1 z9=>?_) (by rw [hs,hs2]) (by rw [hs2];rfl))));obtain⟨vs,H1,I1,r1,q1⟩:=z9;obtain⟨lo,n,e,q1,q2,q3,q⟩:=q1;subst e;cases r1 with
 |cons r rr=>
  cases rr with
  |cons r' rr=>
   cases rr;obtain⟨t,rfl⟩:=r;obtain⟨t',rfl⟩:=r';refine call_range_2 (Eh ?_);have I2:Inv X EN σ H1 {s1 with heap:=s1.heap.push {cls:=.type "range",data:=.fields #[.int lo t,.int (lo+n) t',.int 1 s1.toks]},toks:=s1.toks+1}:=I1.kept λ b o e=>Ag _ e
   refine call_list_range (n:=n) hh (IsRange.new ..) (small_one (by omega) (by omega) (by omega) (by omega)) ?_ (by omega) λ h' tk acc' c' hk hS hacc=>?_
   ·rw [rangeSize_one]
    split<;>omega
   ·refine⟨.ref _,_,I2.laid (t':=tk) hk (Al _) (show ObjOk X.prog X.w _ h' _ (.lst ((List.range n).map λ i=>.int (lo+((i:Nat):Int)))) from⟨?_,acc'.toList,c',?_,?_⟩),rfl,q _ (I2.hok.fresh (Al _))⟩
    ·rw [z7,List.length_range];exact AT q3 (by decide)
    ·have hv:=vA (f:=λ i=>lo+((i:Nat):Int)*1) hacc;simpa using hv
    ·simpa using hS
end
end L2
set_option maxHeartbeats 4000000
namespace K28.Ck
open PySem L2 QQ W17 W16 BP
seal PE PA PS PSs PT PW PG PI
variable {nb nc:Nat}
abbrev jV:EM:=top 151
structure All (K:Frag)(mg:Str->Option ED)(C CHd CR cR cH cK cB cN C0 C1 C2 C3 cM cT cZ cC cG cP:EC):Prop where
 V:Lv K mg C CHd CR cR cH cK cB cN C0 C1 C2 C3 cM cT cZ cC cG cP
 tu:mg "tuple"=none
 bale:∃f fd,Fn K mg "_law_bale" rh ["_law_script"] f fd
 range:∃f fd,Fn K mg "_law_range" kH ["_law_cell","_law_many"] f fd
 numb:∃f fd,Fn K mg "_law_is_number" oq ["_law_thing"] f fd
 twow:∃f fd,Fn K mg "_law_two_wrong" pK ["_law_row","_law_at","_law_pair","_law_cell"] f fd
 first:∃f fd,Fn K mg "_law_first_told" og ["_law_row","_law_places","_law_pair","_law_cell","_law_read"] f fd
 spoilt:∃f fd,Fn K mg "_law_spoilt_right" kK ["_law_row","_law_places","_law_pair","_law_cell","_law_read"] f fd
 counts:∃f fd,Fn K mg "_law_counts_right" ki ["_law_row","_law_places","_law_pair","_law_cell","_law_many"] f fd
 odd:∃f fd,Fn K mg "_law_odd" xF ["_law_row","_law_many","_law_cell"] f fd
theorem ua {σ:St}{H:Hp}{te t2:TE}{i:Nat}{D:Ends}{A:List Nat}{y:V}(h:Ls te σ H A)(h2:Vl t2 σ H y)(k:∀l p H',Same H H'->H' l=some (.lst (A.map vN))->H' p=none->D.nx (σ.set i (some (.ref p))) (upd H' p (.tup [.ref l,y]))):jd (y3 (tCons te (tCons t2 tNil))) (bM i) D σ H:=
 h H (Same.refl H) _ λ v H1 s1 ⟨l,e,hl⟩=>h2 H1 s1 _ λ u H2 s2 e2=>⟨(by show 2≤sizeLine;decide),λ p hp=>by
  subst e e2;exact k l p H2 (s1.trans s2) (s2 _ _ hl) hp⟩
theorem wt {xs:List Blk}{c:Nat}(R:Rr xs nb nc):TrK (rowB xs c) nb nc (.inr (due xs nb nc)):=by
 have h:=jW R.g.bks R (cj R) (z7 _) (c:=c) λ {i x} e _ _ _=>bw R e
 rw [cj R] at h;exact h
theorem vd {xs:List Blk}:(rdL nb nc).length=(due xs nb nc).2:=by
 unfold rdL due;by_cases h:nc=0
 ·rw [AV h,AV h];rfl
 ·rw [AO h,AO h,List.length_range']
theorem uP (h:0<nc):((List.range (gL nb nc-gF nb)).map λ i=>V.int (((gF nb:Nat):Int)+((i:Nat):Int)))=(rdL nb nc).map vN:=by
 unfold rdL;rw [AO (by omega),List.range'_eq_map_range,Dw];refine List.map_congr_left λ i _=>?_
 show V.int _=V.int _;congr 1
section
variable {C CHd CR cR cH cK cB cN C0 C1 C2 C3 cM cT cZ cC cG cP:EC}
def pH (K:Frag):Sp:=λ vs H Q _=>∃(a:EC) (ns:List Int),vs=[.ref a]/\SqL K H a (ns.map V.int)/\∀H',Q (.bl true) H'
abbrev zN:List Str:=["_law_script","_law_row","_law_text","_law_places","_law_many","_law_kept","_law_begin","_law_count","_law_read","_law_due","_law_told","_law_cell","_law_place","_law_end"]
theorem scLaw:FnScope zN ["_law_script"] (ak jV):=⟨rfl,rfl,rfl,Z8,rfl,Z8,Z8⟩
theorem xb {f:EC}{fd:EH}(F:Fun K "law" "law" jV f fd)(Y:All K mg C CHd CR cR cH cK cB cN C0 C1 C2 C3 cM cT cZ cC cG cP):FnOk P w K mg base CX0 41 f fd ["_law_script"] (pH K):=by
 have X:=Y.V.N.P.H.N.Y.X;obtain⟨_,_,Ce⟩:=Y.V.Z.cell;obtain⟨_,_,Mi⟩:=Y.V.Z.mixed;obtain⟨_,_,Ba⟩:=Y.bale;obtain⟨_,_,Rg⟩:=Y.range;obtain⟨_,_,Nu⟩:=Y.numb;obtain⟨_,_,Tt⟩:=Y.twow;obtain⟨_,_,Fi⟩:=Y.first;obtain⟨_,_,Sp⟩:=Y.spoilt;obtain⟨_,_,Cn⟩:=Y.counts;obtain⟨_,_,Od⟩:=Y.odd;obtain⟨_,_,To⟩:=Y.V.told;obtain⟨_,_,Wo⟩:=Y.V.word;obtain⟨_,_,Sh⟩:=Y.V.short;have GC:=oQ (P:=P) (w:=w) (base:=base) Ce X;have GM:=mn (P:=P) (w:=w) (base:=base) Mi;have GB:=vY (P:=P) (w:=w) (base:=base) Ba Y.V.Z;have GR:=qo (P:=P) (w:=w) (base:=base) Rg;have GN:=tJ (P:=P) (w:=w) (base:=base) Nu X;have GF:=tM (P:=P) (w:=w) (base:=base) Fi Y.V;have GS:=ql (P:=P) (w:=w) (base:=base) Sp Tt Y.V;have GU:=qL (P:=P) (w:=w) (base:=base) Cn Y.V;have GO:=yi (P:=P) (w:=w) (base:=base) Od Y.tu Y.V;have GT:=oY (P:=P) (w:=w) (base:=base) To Y.V.N;have GW:=dw (P:=P) (w:=w) (base:=base) Wo To Y.V.N Y.V.Y;have GH:=uw (P:=P) (w:=w) (base:=base) Sh Y.V.Z;refine F.ok scLaw λ EO A outer st H vs Q E hr h=>?_
 intro _;obtain⟨a,ns,rfl,hS,k⟩:=h;have hu:=hr.units;have hn:=hr.hd Z9;have hr1:Room 1 _:=hr.mono Z9;have hr7:Room 7 _:=hr.mono Z9;have hr37:Room 37 _:=hr.mono Z9;have hr38:Room 38 _:=hr.mono Z9;have hr39:Room 39 _:=hr.mono Z9;refine⟨_,ad (cV (ai GB hr7 Z7 Ba.m Ba.F.kp Ba.b .nil ap (aa (pv 0) ac)) (cb rfl (aM (aG (i:=1) scLaw.nd) (aM (aG (i:=2) scLaw.nd) (aM (aG (i:=3) scLaw.nd) bL)))))
   (ad (ao (i:=4) scLaw.nd (aw aq Z7 X.len As (aa (pv 2) ac)))
   (ad (ao (i:=5) scLaw.nd (bD cL Z7 X.list Bp (aa (pv 1) ac)))
   (ad (cV (ai GR hr1 Z7 Rg.m Rg.F.kp Rg.b .nil ap (aa (ai GM hr1 Z7 Mi.m Mi.F.kp Mi.b .nil ap (aa (ai GC hr1 Z7 Ce.m Ce.F.kp Ce.b .nil ap (aa (pv 0) (aa ae ac))) (aa ae ac))) (aa (pv 4) ac))) (cb rfl (aM (aG (i:=6) scLaw.nd) (aM (aG (i:=7) scLaw.nd) bL))))
   (ad (ao (i:=8) scLaw.nd (aD ac))
   (ad (aK (ax ek (pv 7) ae (az _)) (ah (ao (i:=8) scLaw.nd (rn hn Z7 X.list Z7 X.range (aa (ag bE (ag aQ (pv 6) ae) ae) (aa (ag aF (ag aQ (ag aU (ag aF (pv 6) (pv 7)) ae) ae) ae) ac))))) ay)
   (ad (ao (i:=9) scLaw.nd (bK (aa (aC aL (pv 2) (aA (pv 6)) (aA (ag aF (pv 6) (pv 7)))) (aa (aw aq Z7 X.len As (aa (pv 8) ac)) ac))))
   (ad (ao (i:=10) scLaw.nd (ai GT hr37 Z7 To.m To.F.kp To.b .nil fK (aa (pv 1) (aa (pv 6) (aa (pv 7) ac)))))
   (ad (aK (PW.pt (eI (bp (bj (aw bU Z7 X.isi AH (aa (pv 10) (aa (b7 (v:=.ty "tuple") Z7 Y.tu Dd rfl) ac))))) (eI (ax (we hu) (pv 10) (pv 9) (az _)) (eI (bp (bj (aw bU Z7 X.isi AH (aa (ba cE (pv 10) ae (λ _ _=>rfl)) (aa (b7 (v:=.ty "list") Z7 X.list Bp rfl) ac))))) (dQ (bp (bj (ai GN hr1 Z7 Nu.m Nu.F.kp Nu.b .nil ap (aa (ba cE (pv 10) ae (λ _ _=>rfl)) ac))))))))) (ah (ar bo)) ay)
   (ad (ao (i:=11) scLaw.nd (ai GM hr1 Z7 Mi.m Mi.F.kp Mi.b .nil ap (aa (ai GC hr1 Z7 Ce.m Ce.F.kp Ce.b .nil ap (aa (pv 0) (aa ae ac))) (aa ae ac))))
   (ad (aK (PW.pt (eI (bp (bj (ai GS hr Z7 Sp.m Sp.F.kp Sp.b .nil ap (aa (pv 5) (aa (pv 3) (aa (bK (aa (pv 6) (aa (pv 7) ac))) (aa (pv 11) (aa (pv 8) ac)))))))) (dQ (bp (bj (ai GO hr39 Z7 Od.m Od.F.kp Od.b .nil ap (aa (pv 5) (aa (pv 4) (aa (ag aQ (pv 11) ae) ac))))))))) (ah (ar bo)) ay)
   (ad (cr Bj rfl (cy (pv 3)) (cb rfl (aM (aG (i:=12) scLaw.nd) (aM (aG (i:=13) scLaw.nd) bL))) (ah (aK (ax cI (ai GW hr38 Z7 Wo.m Wo.F.kp Wo.b .nil ap (aa (ai GH hr7 Z7 Sh.m Sh.F.kp Sh.b .nil ap (aa (pv 5) (aa (pv 12) (aa (pv 4) ac)))) (aa (pv 6) (aa (pv 7) ac)))) aB (az _)) (ah (ar bo)) ay)))
   (ad (aK (bp (bj (ai GF hr39 Z7 Fi.m Fi.F.kp Fi.b .nil ap (aa (pv 5) (aa (pv 3) (aa (bK (aa (pv 6) (aa (pv 7) ac))) (aa (ag aQ (pv 11) ae) (aa (pv 8) ac)))))))) (ah (ar bo)) ay)
   (ad (aK (bp (bj (ai GU hr39 Z7 Cn.m Cn.F.kp Cn.b .nil ap (aa (pv 5) (aa (pv 3) (aa (bK (aa (pv 6) (aa (pv 7) ac))) (aa (ag aQ (pv 11) ae) (aa (pv 4) ac)))))))) (ah (ar bo)) ay)
   (ad (bf (xf A5 PySem.F.slot_list_clear PySem.F.type_list_clear rf (ba cE (pv 10) ae (λ _ _=>rfl))))
   (ah (ar (dH (bz (uH hu) (ai GT hr37 Z7 To.m To.F.kp To.b .nil fK (aa (pv 1) (aa (pv 6) (aa (pv 7) ac)))) (pv 9) (az _)) (dP (bz (uj hu) (pv 1) (pv 5) (az _)))))))))))))))))))),?_⟩
 have sq:∀H',Same H H'->SqL K H' a (ns.map V.int):=λ H' s=>by
  rcases hS with(e|⟨o,e⟩)|h
  ·exact .inl (.inl (s _ _ e))
  ·exact .inl (.inr ⟨o,s _ _ e⟩)
  ·exact .inr h
 refine am λ _ g=>⟨_,rfl,a,ns,rfl,hS,λ t lr lt lp ts xs c H1 s1 ht hlr EQ hlp hpl hg h9 hc=>⟨t,_,rfl,SqT.of ht,rfl,_,_,rfl,_,_,rfl,_,_,rfl,rfl,g _ _ ?_⟩⟩
 clear g ht;refine am λ _ g=>eM (v:=vN (txtB xs).length) (Vl.len (Ls.var rfl EQ) rfl) λ H2 s2=>g _ _ ?_
 clear g;refine am λ _ g=>⟨_,rfl,lr,_,rfl,.inl (SqL.of (s2 _ _ hlr)),λ lk nk=>g _ _ ?_⟩
 clear g;have s3:=aj (o:=.lst ((rowB xs c).map vN)) nk;have hk3:(upd H2 lk (.lst ((rowB xs c).map vN))) lk=some (.lst ((rowB xs c).map vN)):=af;have s23:=s2.trans s3;have s13:=s1.trans s23;have hlr3:=s23 _ _ hlr;have hlt3:=s23 _ _ EQ;have hlp3:=s23 _ _ hlp;have hpl3:=hpl.same s23;have nkr:lr≠lk:=au (s2 _ _ hlr) nk;generalize upd H2 lk (.lst ((rowB xs c).map vN))=H3 at*;clear hlr EQ hlp hpl s1 s2 s3 s23 nk;refine am λ _ g=>⟨_,rfl,a,ns,1,rfl,sq _ s13,_,_,rfl,Z9,Z9,_,rfl,_,_,rfl,λ t nb nc nt hbn=>?_⟩
 have s4:=aj (o:=.tup [vN nb,vN nc]) nt;have h4:(upd H3 t (.tup [vN nb,vN nc])) t=some (.tup [vN nb,vN nc]):=af;have s14:=s13.trans s4;have hlr4:=s4 _ _ hlr3;have hlt4:=s4 _ _ hlt3;have hlp4:=s4 _ _ hlp3;have hpl4:=hpl3.same s4;have hk4:=s4 _ _ hk3;change tN K 2 _ _ _ (upd H3 t (.tup [vN nb,vN nc])) _;generalize upd H3 t (.tup [vN nb,vN nc])=H4 at*;refine⟨t,_,rfl,SqT.of h4,rfl,_,_,rfl,_,_,rfl,rfl,g _ _ ?_⟩;clear g hlr3 hlt3 hlp3 hpl3 hk3 s13 s4 nt;have R:Rr xs nb nc:=⟨hg,h9,hbn⟩;have hm:=dM R;refine am λ _ g=>dR (A:=[]) (Ls.lst Ta.nil (AZ _)) λ le H5 s5 h5=>g _ _ ?_
 clear g;refine am λ R' g=>?_
 refine(λ(J:∀(ld:EC) (H6:Hp),Same H4 H6->H6 ld=some (.lst ((rdL nb nc).map vN))->R' [some (.ref a),some (.ref lr),some (.ref lt),some (.ref lp),some (vN (txtB xs).length),some (.ref lk),some (vN nb),some (vN nc),some (.ref ld),none,none,none,none,none] H6)=>?_) (λ ld H6 s6 h6=>g _ _ ?_)
 ·clear g;refine⟨_,rfl,_,_,rfl,rfl,_,rfl,bi (λ h0=>?_) (λ h0=>?_)⟩
  ·have h0:0<nc:=by have:=Aq h0;omega
   have hgF:gF nb=nb/64/4*4:=rfl;have hgL:gL nb nc=(nb+nc-1)/64+1:=rfl;have e1:((nb:Nat):Int)/256*4=((gF nb:Nat):Int):=by omega
   have e2:(((nb:Nat):Int)+((nc:Nat):Int)-1)/64+1=((gF nb:Nat):Int)+((gL nb nc-gF nb:Nat):Int):=by omega
   refine⟨_,rfl,_,_,rfl,rfl,⟨Z9,Z9⟩,_,_,rfl,rfl,.inr ⟨Z9,Z9⟩,_,rfl,_,rfl,_,_,rfl,rfl,_,_,rfl,rfl,_,_,rfl,rfl,⟨Z9,Z9⟩,_,_,rfl,rfl,((gF nb:Nat):Int),gL nb nc-gF nb,?_,by omega,by omega,by omega,λ ld nd=>?_⟩
   ·show [V.int (((nb:Nat):Int)/256*4),V.int ((((nb:Nat):Int)+((nc:Nat):Int)-1)/64+1)]=_;rw [e1,e2]
   ·rw [uP h0];exact J ld _ (s5.trans (aj nd)) af
  ·have h0:nc=0:=by
    rcases Nat.eq_zero_or_pos nc with q|q
    ·exact q
    ·exact absurd (Ai (show((nc:Nat):Int)>0 by omega)) h0
   subst h0;exact J le H5 s5 h5
 clear g h5 s5;have s16:=s14.trans s6;have hlr6:=s6 _ _ hlr4;have hlt6:=s6 _ _ hlt4;have hlp6:=s6 _ _ hlp4;have hpl6:=hpl4.same s6;have hk6:=s6 _ _ hk4;clear hlr4 hlt4 hlp4 hpl4 hk4 s14 s6 h4;have eb:((nb:Nat):Int)+((nc:Nat):Int)=((nb+nc:Nat):Int):=rfl;refine am λ _ g=>ua (A:=(due xs nb nc).1) (y:=vN (due xs nb nc).2) (Ls.sl (o:=some ((nb:Nat):Int)) (p:=some ((nb+nc:Nat):Int)) (Ls.var rfl hlt6) (Po.at (Vl.var rfl)) (Po.at (Vl.op0 (Vl.var rfl) (Vl.var rfl) (AB V.int eb))) (by rw [oS _ (by omega) (by rw [z7];exact hbn),Df,<-BB,<-Bh];rfl)) (Vl.len (A:=rdL nb nc) (Ls.var rfl h6) (by rw [vd (xs:=xs)])) λ ld1 td H7 s7 h7 ntd=>g _ _ ?_
 clear g;have s8:=aj (o:=.tup [.ref ld1,vN (due xs nb nc).2]) ntd;have h8:(upd H7 td (.tup [.ref ld1,vN (due xs nb nc).2])) td=some (.tup [.ref ld1,vN (due xs nb nc).2]):=af;have h78:=s8 _ _ h7;have s68:=s7.trans s8;have hlr8:=s68 _ _ hlr6;have hlp8:=s68 _ _ hlp6;have hpl8:=hpl6.same s68;have hk8:=s68 _ _ hk6;have hrd8:=s68 _ _ h6;have s18:=s16.trans s68;change rN _ _ _ _ (upd H7 td (.tup [.ref ld1,vN (due xs nb nc).2]));generalize upd H7 td (.tup [.ref ld1,vN (due xs nb nc).2])=H8 at*;clear hlr6 hlt6 hlp6 hpl6 hk6 h6 s16 s68 s7 s8 h7 ntd;have hbyt:∀b∈rowB xs c,b<256:=lG (bV hg) (cU hc).2;have hL:=fI hg h9;have hlen:(rowB xs c).length≤1000:=by unfold rowB;rw [bC,a9];omega
 have flat:∀x∈(due xs nb nc).1.map vN,flatV x=true:=λ x hx=>by
  obtain⟨b,_,rfl⟩:=C6.mp hx;rfl
 refine am λ _ g=>⟨_,rfl,_,rfl,_,rfl,.ref lr,vN nb,vN nc,.inr (due xs nb nc),rfl,.inr ⟨rowB xs c,⟨lr,rfl,hlr8,hbyt⟩,hlen,.inr ⟨nb,nc,rfl,rfl,wt R⟩⟩,λ tt lt2 H9 ntt nl2 s9 htt hl2=>g _ _ ?_⟩
 clear g;have h89:=s9 _ _ h8;have h79:=s9 _ _ h78;refine am λ _ g=>⟨_,rfl,_,_,_,_,rfl,.tup htt,xV K,_,rfl,bq ⟨_,rfl,_,rfl,tt,td,rfl,rfl,⟨_,lt2,ld1,SqT.of htt,SqT.of h89,SameGs.flat hl2 h79 flat⟩,_,rfl,bq ⟨_,rfl,tt,_,_,_,rfl,rfl,SqT.of htt,rfl,_,_,_,_,rfl,.lst hl2,jT K,_,rfl,bq ⟨_,rfl,tt,_,_,_,rfl,rfl,SqT.of htt,rfl,_,rfl,_,rfl,bq (g _ _ ?_)⟩⟩⟩⟩
 clear g;have s19:=s18.trans s9;refine am λ _ g=>⟨_,rfl,a,ns,2,rfl,sq _ s19,_,_,rfl,Z9,Z9,g _ _ ?_⟩
 clear g;generalize mixN (ns.getD 2 0) 2=z;have hlp9:=s9 _ _ hlp8;have hpl9:=hpl8.same s9;have hk9:=s9 _ _ hk8;have hrd9:=s9 _ _ hrd8;have hlr9:=s9 _ _ hlr8;have bl:∀{G:Hp} {tp:EC},Same H9 G->G tp=some (.tup [vN nb,vN nc])->Bl4 G lk lp tp ts xs c nb nc:=λ s ht=>⟨s _ _ hk9,s _ _ hlp9,hpl9.same s,ht,R,hc⟩
 have ez:∀q:Nat,((z:Nat):Int)/((q:Nat):Int)=((z/q:Nat):Int):=λ q=>rfl
 refine am λ _ g=>⟨_,rfl,_,rfl,_,rfl,_,rfl,(by show 2≤sizeLine;decide),λ tp np=>?_⟩
 have t1:=aj (o:=.tup [vN nb,vN nc]) np;have B10:=bl t1 (show(upd H9 tp (.tup [vN nb,vN nc])) tp=some (.tup [vN nb,vN nc]) from af);refine⟨_,rfl,_,rfl,lk,lp,tp,ld,ts,xs,c,nb,nc,z,rfl,B10,t1 _ _ hrd9,λ H11 s11=>⟨_,rfl,bq ⟨_,rfl,_,rfl,_,rfl,_,_,rfl,rfl,⟨Z9,Z9⟩,lk,lp,tp,ts,xs,c,nb,nc,z/5,rfl,B10.same s11,λ H12 s12=>⟨_,rfl,bq (g _ _ ?_)⟩⟩⟩⟩;clear g;have t12:=(t1.trans s11).trans s12;refine am λ R'' g=>⟨_,rfl,lp,rfl,⟨_,SqL.of (t12 _ _ hlp9)⟩,?_⟩
 refine cX (D:=⟨_,_,λ _ _=>False,λ _ _=>False⟩) (K:=K) (a:=lp) (xs:=ts.map V.ref) (λ i σ G=>∃v12 v13:Option V,σ=[some (.ref a),some (.ref lr),some (.ref lt),some (.ref lp),some (vN (txtB xs).length),some (.ref lk),some (vN nb),some (vN nc),some (.ref ld),some (.ref td),some (.ref tt),some (vN z),v12,v13]/\Same H9 G)
  ⟨none,none,rfl,t12⟩ (λ i σ G _ z9=>by obtain⟨_,_,_,s⟩:=z9;exact SqL.of (s _ _ hlp9)) ?_ ?_
 ·clear g;rintro i x σ G hx ⟨v12,v13,rfl,sg⟩;rw [Au] at hx;obtain⟨t,hti,rfl⟩:=Bq.mp hx;obtain⟨y,ey,hty⟩:=hpl9.get hti;rw [eV] at hty;refine⟨t,_,rfl,SqT.of (sg _ _ hty),rfl,_,_,rfl,_,_,rfl,rfl,?_⟩;have W:Vl (tCall (spLWord K) [] E0 (tCons (tCall spShort [] E0 (tCons (tVar 5) (tCons (tVar 12) (tCons (tVar 4) tNil)))) (tCons (tVar 6) (tCons (tVar 7) tNil)))) [some (.ref a),some (.ref lr),some (.ref lt),some (.ref lp),some (vN (txtB xs).length),some (.ref lk),some (vN nb),some (vN nc),some (.ref ld),some (.ref td),some (.ref tt),some (vN z),some (vN (pos (xs.map bk) i)),some (vN (pos (xs.map bk) i+(bk y).length))] G (.str (wd 1)):=λ G1 sg1 Q q=>by
   refine⟨_,rfl,_,rfl,_,rfl,lk,xs,y,i,(txtB xs).length,c,rfl,sg1 _ _ (sg _ _ hk9),ey,hg,h9,by omega,hc,λ l5 R5 r5 G2 t2 hR5 hb5 hr5 h5=>?_⟩;refine⟨_,rfl,_,rfl,.ref l5,vN nb,vN nc,.inl 1,rfl,.inr ⟨_,⟨l5,rfl,h5,hb5⟩,?_,.inr ⟨nb,nc,rfl,rfl,vG R ey hR5⟩⟩,λ G3 t3=>q _ G3 (t2.trans t3) rfl⟩;have hfl:(((xs.map bk).take i).flatten).length+(((xs.map bk).drop i).flatten).length=(xs.map bk).flatten.length:=by rw [<-z0,<-bv]
   have hsl:(sld (hrow 68 2++R5)).length=7:=by rw [di,z0,hR5];rfl
   simp only [z0,hsl];show 3+_+7+_≤1000;omega
  exact dC (Ts.fits W Vl.c) λ G3 s3=>⟨_,_,rfl,sg.trans s3⟩
 rintro σ H13 ⟨v12,v13,rfl,s13⟩;refine g _ _ ?_;clear g;refine am λ _ g=>⟨_,rfl,_,rfl,_,rfl,_,rfl,(by show 2≤sizeLine;decide),λ tp2 np2=>?_⟩
 have u1:=aj (o:=.tup [vN nb,vN nc]) np2;have B14:=bl (s13.trans u1) (show(upd H13 tp2 (.tup [vN nb,vN nc])) tp2=some (.tup [vN nb,vN nc]) from af);refine⟨_,rfl,_,_,rfl,rfl,⟨Z9,Z9⟩,_,rfl,lk,lp,tp2,ld,ts,xs,c,nb,nc,z/11,rfl,B14,u1 _ _ (s13 _ _ hrd9),λ H15 s15=>⟨_,rfl,bq (g _ _ ?_)⟩⟩;clear g;have s915:=(s13.trans u1).trans s15;refine am λ _ g=>⟨_,rfl,_,rfl,_,rfl,_,rfl,(by show 2≤sizeLine;decide),λ tp3 np3=>?_⟩
 have u2:=aj (o:=.tup [vN nb,vN nc]) np3;have B16:=bl (s915.trans u2) (show(upd H15 tp3 (.tup [vN nb,vN nc])) tp3=some (.tup [vN nb,vN nc]) from af);refine⟨_,rfl,_,_,rfl,rfl,⟨Z9,Z9⟩,_,rfl,lk,lp,tp3,ts,xs,c,nb,nc,z/13,rfl,B16,λ H17 s17=>⟨_,rfl,bq (g _ _ ?_)⟩⟩;clear g;have s917:=(s915.trans u2).trans s17;have htt17:=s917 _ _ htt;have hl17:=s917 _ _ hl2;refine am λ _ g=>⟨_,rfl,tt,_,_,_,rfl,rfl,SqT.of htt17,rfl,.inl ⟨rfl,_,SqL.of hl17⟩,lt2,_,rfl,rfl,hl17,g _ _ ?_⟩
 clear g;have nx:∀b o,H8 b=some o->(upd H17 lt2 (.lst [])) b=some o:=λ b o e=>by
  rw [av (λ q=>by rw [q,nl2] at e;cases e)];exact s917 _ _ (s9 _ _ e)
 have hlr18:=nx _ _ hlr8;have hk18:=nx _ _ hk8;have h818:=nx _ _ h8;have h718:=nx _ _ h78;generalize upd H17 lt2 (.lst [])=H18 at*;refine⟨_,rfl,_,rfl,_,rfl,.ref lr,vN nb,vN nc,.inr (due xs nb nc),rfl,.inr ⟨rowB xs c,⟨lr,rfl,hlr18,hbyt⟩,hlen,.inr ⟨nb,nc,rfl,rfl,wt R⟩⟩,λ t3 l3 H19 _ _ s19' ht3 hl3=>?_⟩;refine⟨_,rfl,t3,td,rfl,rfl,⟨_,l3,ld1,SqT.of ht3,SqT.of (s19' _ _ h818),SameGs.flat hl3 (s19' _ _ h718) flat⟩,true,rfl,?_⟩;rw [AV rfl];refine⟨_,rfl,_,rfl,lr,lk,(rowB xs c).map (λ b=>((b:Nat):Int)),(rowB xs c).map (λ b=>((b:Nat):Int)),rfl,rfl,by rw [<-Rf.mapI];exact SqL.of (s19' _ _ hlr18),by rw [<-Rf.mapI];exact SqL.of (s19' _ _ hk18),?_⟩;rw [Ai rfl];exact k _
end
end K28.Ck
set_option maxHeartbeats 8000000
namespace K28.Ck
open PySem L2 QQ
variable {t t1 t2 t3:Tok}{cd ct dV dc oc pm:ED}{fd:EH}{d e0 e1 e3 e5 e6 e7 e8 f:EC}{p q x:Str}{n:Nat}{st:EM}{an od:Option EC}{us:List ED}{P:List ED->Prop}
section
variable {K:Frag}{mg:Str -> Option ED}{h:EJ}
theorem FunD.i {qu:Str}{sl:Array (Option ED)}{kV:ED}(l:K.lookup f=some ⟨oc,od,.func (fnOf x qu (bx st) (bc st) (ak st) dV kV dc pm an cd ct),sl⟩)(c:codeIn K cd qu=true)(k:keepIn K (.ref f)=true):FunD K x qu st dV f (fnOf x qu (bx st) (bc st) (ak st) dV kV dc pm an cd ct):=⟨⟨oc,od,kV,dc,pm,an,cd,ct,sl,rfl,l,c⟩,k⟩
theorem nI {n:Int}(X:K.In h)(G:h.Ns mainGlobals mg)(a:nsIn K mainGlobals x=some (some (.int n t))):∃t,mg x=some (.int n t):=⟨t,C9 X G a⟩
theorem tabI {p q:Int}{t4:Tok}{ep:Nat}(X:K.In h)(G:h.Ns mainGlobals mg)(a:nsIn K mainGlobals x=some (some (.ref d)))(l:K.lookup d=some ⟨.type "dict",none,.dict #[⟨8,.int 8 t1,.int p t2⟩,⟨16,.int 16 t3,.int q t4⟩] ep,#[]⟩)(s:(d==sysModules)=false):∃d,mg x=some (.ref d)/\TabK K d p q:=⟨d,C9 X G a,s,t1,t2,t3,t4,ep,l⟩
section
variable {x qu:Str}{st:EM}{ps:List Str}{f C:EC}{oc dV:ED}{od an:Option EC}{sl:Array (Option ED)}{kV dc pm cd ct:ED}(l9:K.lookup f = some ⟨oc, od, .func (fnOf x qu (bx st) (bc st) (ak st) dV kV dc pm an cd ct), sl⟩)(c9:codeIn K cd qu = true)(k9:keepIn K (.ref f) = true)
include l9 c9 k9
theorem inI (e:dV=.none)(b:Binds K (fnOf x qu (bx st) (bc st) (ak st) dV kV dc pm an cd ct) ps [])(m:makesIn K C=true)(a:findIn K (.ref C) "__init__"=some (some (.ref f)))(i:isFn K (.ref f)=true)(q:keepIn K (.ref C)=true):∃f fd,Fun K x qu st f fd/\Binds K fd ps []/\Mk K C f:=by
 subst e;exact⟨_,_,fun_mk l9 c9 k9,b,⟨m,a,i,q⟩⟩
theorem ciI (b:Binds K (fnOf x qu (bx st) (bc st) (ak st) dV kV dc pm an cd ct) ps [])(m:makesIn K C=true)(a:findIn K (.ref C) "__init__"=some (some (.ref f)))(i:isFn K (.ref f)=true)(q:keepIn K (.ref C)=true):∃f fd dV,FunD K x qu st dV f fd/\Binds K fd ps []/\Mk K C f:=⟨_,_,_,FunD.i l9 c9 k9,b,⟨m,a,i,q⟩⟩
end
section
variable {x:Str}{st:EM}{ps:List Str}{f:EC}{oc dV:ED}{od an:Option EC}{sl:Array (Option ED)}{kV dc pm cd ct:ED}(X:K.In h)(G:h.Ns mainGlobals mg)(a:nsIn K mainGlobals x = some (some (.ref f)))(l9:K.lookup f = some ⟨oc, od, .func (fnOf x x (bx st) (bc st) (ak st) dV kV dc pm an cd ct), sl⟩)(c9:codeIn K cd x = true)(k9:keepIn K (.ref f) = true)(b:Binds K (fnOf x x (bx st) (bc st) (ak st) dV kV dc pm an cd ct) ps [])
include X G a l9 c9 k9 b
theorem fkI (d:Binds K (fnOf x x (bx st) (bc st) (ak st) dV kV dc pm an cd ct) ps [.int 16 t]):∃f fd,FnK K mg x st ps f fd:=⟨_,_,⟨_,FunD.i l9 c9 k9⟩,C9 X G a,b,_,d⟩
end
theorem mkI {oc:Option EC}{sl:Array (Option ED)}(X:K.In h)(G:h.Ns mainGlobals mg)(a:nsIn K mainGlobals x=some (some (.ref d)))(l:K.lookup d=some ⟨.type "tuple",oc,.seq #[.int 184 t1,.int 66 t2,.int 1 t3] n,sl⟩):∃d,mg x=some (.ref d)/\∀H,SqT K H d [vN 184,vN 66,vN 1]:=⟨d,C9 X G a,λ H=>.inr ⟨_,_,_,l,rfl,rfl,(by show 3≤sizeLine;decide),.cons ⟨_,rfl⟩ (.cons ⟨_,rfl⟩ (.cons ⟨_,rfl⟩ .nil))⟩⟩
theorem ftI {ps:List Str}{sl:Array (Option ED)}{kV:ED}(X:K.In h)(G:h.Ns mainGlobals mg)(a:nsIn K mainGlobals x=some (some (.ref f)))(l9:K.lookup f=some ⟨oc,od,.func (fnOf x x (bx st) (bc st) (ak st) dV kV dc pm an cd ct),sl⟩)(c9:codeIn K cd x=true)(k9:keepIn K (.ref f)=true)(b:Binds K (fnOf x x (bx st) (bc st) (ak st) dV kV dc pm an cd ct) ps []):∃f fd dV,FunD K x x st dV f fd/\mg x=some (.ref f)/\Binds K fd ps []:=⟨_,_,_,FunD.i l9 c9 k9,C9 X G a,b⟩
theorem m0 (h:P []):∀us:List ED,us.length=0->P us:=λ us hl=>by
 cases us with
 |nil=>exact h
 |cons a us=>cases hl
theorem mS (h:∀a (us:List ED),us.length=n->P (a::us)):∀us:List ED,us.length=n+1->P us:=λ us hl=>by
 cases us with
 |nil=>cases hl
 |cons a us=>exact h a us (Nat.succ.inj hl)
theorem ue1 (h:us.length=1):∃a,us=[a]:=mS (P:=λ us=>∃a,us=[a]) (λ a=>m0 ⟨a,rfl⟩) us h
theorem ue2 (h:us.length=2):∃a b,us=[a,b]:=mS (P:=λ us=>∃a b,us=[a,b]) (λ a=>mS λ b=>m0 ⟨a,b,rfl⟩) us h
theorem b2 (h:∀(s:EE) (a b:ED),K.In s.heap->BindsTo s fd ⟨[a,b],[]⟩ [(p,a),(q,b)]):Binds K fd [p,q] []:=λ s us hX hl=>by
 obtain⟨a,b,rfl⟩:=ue2 (show us.length=2 by simpa using hl);exact h s a b hX
theorem b1 {v:ED}(h:∀(s:EE) (a:ED),K.In s.heap->BindsTo s fd ⟨[a],[]⟩ [(p,a),(q,v)]):Binds K fd [p,q] [v]:=λ s us hX hl=>by
 obtain⟨a,rfl⟩:=ue1 (show us.length=1 by simpa using hl);exact h s a hX
theorem ku {f:EC->Option Bool}{cs:List EC}{k:Nat}(h:cs.map f=(List.range n).map λ j=>some (decide (j=k))):∀(i:Nat) (c:EC),cs[i]?=some c->f c=some (decide (i=k)):=λ i c e=>by
 have z:=AB (λ l:List (Option Bool)=>l[i]?) h;simp only [Au,e,Option.map_some] at z;have hi:i<n:=by
  rcases A4 i n with q|q
  ·exact q
  ·rw [BY (by rw [List.length_range];exact q)] at z;cases z
 rw [List.getElem?_range hi] at z;exact AY z
theorem ff {e2 e4:EC}{j:Nat}(h:j<9): [e0,e1,e2,e3,e4,e5,e6,e7,e8][j]?=some (e9 e0 e1 e2 e3 e4 e5 e6 e7 e8 j):=lt9 (p:=λ j=>[e0,e1,e2,e3,e4,e5,e6,e7,e8][j]?=some (e9 e0 e1 e2 e3 e4 e5 e6 e7 e8 j)) rfl rfl rfl rfl rfl rfl rfl rfl rfl h
theorem j9 {f:EC->Option Bool}{ds:List EC}(h:(ds.all λ d=>f d==some false)=true):∀d∈ds,f d=some false:=λ d hd=>by
 have:=CW.mp h d hd;simpa using this
theorem ers {p e2 e4 d0 d1 d2 d3 d4 d5 d6 d7 d8:EC}(q0:mg "BadMark"=some (.ref e0))(q1:mg "BadHead"=some (.ref e1))(q2:mg "BadCheck"=some (.ref e2))(q3:mg "BadTail"=some (.ref e3))(q4:mg "Behind"=some (.ref e4))(q5:mg "Cut"=some (.ref e5))(q6:mg "BadRow"=some (.ref e6))(q7:mg "NoRange"=some (.ref e7))(q8:mg "BadBody"=some (.ref e8))(o0:mg "BadBits"=some (.ref d0))(o1:mg "BadCode"=some (.ref d1))(o2:mg "BadLengths"=some (.ref d2))(o3:mg "Over"=some (.ref d3))(o4:mg "BadLetters"=some (.ref d4))(o5:mg "BadPieces"=some (.ref d5))(o6:mg "BadShares"=some (.ref d6))(o7:mg "BadTable"=some (.ref d7))(o8:mg "NoBits"=some (.ref d8))(m:mg "PressError"=some (.ref p))(x:ExC K p)(v:mg "ValueError"=none)(a0:Exc1 K mg p e0)(c0:ExI K e0)(f0:kitOne K (.ref e0) (.type "ValueError")=some true)(i0:([e0,e1,e2,e3,e4,e5,e6,e7,e8].map λ c=>kitOne K (.ref e0) (.ref c))=(List.range 9).map λ j=>some (decide (j=0)))(n0:([d0,d1,d2,d3,d4,d5,d6,d7,d8].all λ d=>kitOne K (.ref e0) (.ref d)==some false)=true)(a1:Exc1 K mg p e1)(c1:ExI K e1)(f1:kitOne K (.ref e1) (.type "ValueError")=some true)(i1:([e0,e1,e2,e3,e4,e5,e6,e7,e8].map λ c=>kitOne K (.ref e1) (.ref c))=(List.range 9).map λ j=>some (decide (j=1)))(n1:([d0,d1,d2,d3,d4,d5,d6,d7,d8].all λ d=>kitOne K (.ref e1) (.ref d)==some false)=true)(a2:Exc1 K mg p e2)(c2:ExI K e2)(f2:kitOne K (.ref e2) (.type "ValueError")=some true)(i2:([e0,e1,e2,e3,e4,e5,e6,e7,e8].map λ c=>kitOne K (.ref e2) (.ref c))=(List.range 9).map λ j=>some (decide (j=2)))(n2:([d0,d1,d2,d3,d4,d5,d6,d7,d8].all λ d=>kitOne K (.ref e2) (.ref d)==some false)=true)(a3:Exc1 K mg p e3)(c3:ExI K e3)(f3:kitOne K (.ref e3) (.type "ValueError")=some true)(i3:([e0,e1,e2,e3,e4,e5,e6,e7,e8].map λ c=>kitOne K (.ref e3) (.ref c))=(List.range 9).map λ j=>some (decide (j=3)))(n3:([d0,d1,d2,d3,d4,d5,d6,d7,d8].all λ d=>kitOne K (.ref e3) (.ref d)==some false)=true)(a4:Exc1 K mg p e4)(c4:ExI K e4)(f4:kitOne K (.ref e4) (.type "ValueError")=some true)(i4:([e0,e1,e2,e3,e4,e5,e6,e7,e8].map λ c=>kitOne K (.ref e4) (.ref c))=(List.range 9).map λ j=>some (decide (j=4)))(n4:([d0,d1,d2,d3,d4,d5,d6,d7,d8].all λ d=>kitOne K (.ref e4) (.ref d)==some false)=true)(a5:Exc1 K mg p e5)(c5:ExI K e5)(f5:kitOne K (.ref e5) (.type "ValueError")=some true)(i5:([e0,e1,e2,e3,e4,e5,e6,e7,e8].map λ c=>kitOne K (.ref e5) (.ref c))=(List.range 9).map λ j=>some (decide (j=5)))(n5:([d0,d1,d2,d3,d4,d5,d6,d7,d8].all λ d=>kitOne K (.ref e5) (.ref d)==some false)=true)(a6:Exc1 K mg p e6)(c6:ExI K e6)(f6:kitOne K (.ref e6) (.type "ValueError")=some true)(i6:([e0,e1,e2,e3,e4,e5,e6,e7,e8].map λ c=>kitOne K (.ref e6) (.ref c))=(List.range 9).map λ j=>some (decide (j=6)))(n6:([d0,d1,d2,d3,d4,d5,d6,d7,d8].all λ d=>kitOne K (.ref e6) (.ref d)==some false)=true)(a7:Exc1 K mg p e7)(c7:ExI K e7)(f7:kitOne K (.ref e7) (.type "ValueError")=some true)(i7:([e0,e1,e2,e3,e4,e5,e6,e7,e8].map λ c=>kitOne K (.ref e7) (.ref c))=(List.range 9).map λ j=>some (decide (j=7)))(n7:([d0,d1,d2,d3,d4,d5,d6,d7,d8].all λ d=>kitOne K (.ref e7) (.ref d)==some false)=true)(a8:Exc1 K mg p e8)(c8:ExI K e8)(f8:kitOne K (.ref e8) (.type "ValueError")=some true)(i8:([e0,e1,e2,e3,e4,e5,e6,e7,e8].map λ c=>kitOne K (.ref e8) (.ref c))=(List.range 9).map λ j=>some (decide (j=8)))(n8:([d0,d1,d2,d3,d4,d5,d6,d7,d8].all λ d=>kitOne K (.ref e8) (.ref d)==some false)=true):Ers K mg p (e9 e0 e1 e2 e3 e4 e5 e6 e7 e8):=by
 have kk:∀i:Nat,i<9->∀e,[e0,e1,e2,e3,e4,e5,e6,e7,e8][i]?=some e->Exc1 K mg p e/\ExI K e/\kitOne K (.ref e) (.type "ValueError")=some true/\(∀j<9,kitOne K (.ref e) (.ref (e9 e0 e1 e2 e3 e4 e5 e6 e7 e8 j))=some (decide (j=i)))/\∀d∈ [d0,d1,d2,d3,d4,d5,d6,d7,d8],kitOne K (.ref e) (.ref d)=some false:=by
  intro i hi e he
  revert e
  revert i
  refine λ i hi=>lt9 (p:=λ i=>∀e,[e0,e1,e2,e3,e4,e5,e6,e7,e8][i]?=some e->Exc1 K mg p e/\ExI K e/\kitOne K (.ref e) (.type "ValueError")=some true/\(∀j<9,kitOne K (.ref e) (.ref (e9 e0 e1 e2 e3 e4 e5 e6 e7 e8 j))=some (decide (j=i)))/\∀d∈ [d0,d1,d2,d3,d4,d5,d6,d7,d8],kitOne K (.ref e) (.ref d)=some false) (λ e he=>by cases he;exact⟨a0,c0,f0,λ j hj=>ku i0 j _ (ff hj),j9 n0⟩) (λ e he=>by cases he;exact⟨a1,c1,f1,λ j hj=>ku i1 j _ (ff hj),j9 n1⟩) (λ e he=>by cases he;exact⟨a2,c2,f2,λ j hj=>ku i2 j _ (ff hj),j9 n2⟩) (λ e he=>by cases he;exact⟨a3,c3,f3,λ j hj=>ku i3 j _ (ff hj),j9 n3⟩) (λ e he=>by cases he;exact⟨a4,c4,f4,λ j hj=>ku i4 j _ (ff hj),j9 n4⟩) (λ e he=>by cases he;exact⟨a5,c5,f5,λ j hj=>ku i5 j _ (ff hj),j9 n5⟩) (λ e he=>by cases he;exact⟨a6,c6,f6,λ j hj=>ku i6 j _ (ff hj),j9 n6⟩) (λ e he=>by cases he;exact⟨a7,c7,f7,λ j hj=>ku i7 j _ (ff hj),j9 n7⟩) (λ e he=>by cases he;exact⟨a8,c8,f8,λ j hj=>ku i8 j _ (ff hj),j9 n8⟩) hi
 have all:∀i,Exc1 K mg p (e9 e0 e1 e2 e3 e4 e5 e6 e7 e8 i)/\ExI K (e9 e0 e1 e2 e3 e4 e5 e6 e7 e8 i)/\kitOne K (.ref (e9 e0 e1 e2 e3 e4 e5 e6 e7 e8 i)) (.type "ValueError")=some true/\(∀j<9,kitOne K (.ref (e9 e0 e1 e2 e3 e4 e5 e6 e7 e8 i)) (.ref (e9 e0 e1 e2 e3 e4 e5 e6 e7 e8 j))=some (decide (j=min i 8)))/\∀d∈ [d0,d1,d2,d3,d4,d5,d6,d7,d8],kitOne K (.ref (e9 e0 e1 e2 e3 e4 e5 e6 e7 e8 i)) (.ref d)=some false:=λ i=>by
  rcases A4 i 8 with q|q
  ·have h:=kk i (Ap q (by decide)) _ (ff (Ap q (by decide)));rw [AM (B8 q)];exact h
  ·obtain⟨n,rfl⟩:∃n,i=n+8:=⟨i-8,by omega⟩;rw [BS (BG 8 n)];exact kk 8 (by decide) _ rfl
 exact⟨v,m,x,q0,q1,q2,q3,q4,q5,q6,q7,q8,⟨d0,d1,d2,d3,d4,d5,d6,d7,d8,o0,o1,o2,o3,o4,o5,o6,o7,o8,λ i d hd=>(all i).2.2.2.2 d hd⟩,λ i=>⟨(all i).1,(all i).2.1,(all i).2.2.1,(all i).2.2.2.1⟩⟩
end
theorem hd {l:PySem.W.OpenLaw}{w:EG}{K:Frag}{h:EJ}{mg:Str->Option ED}{fa C CHd CR cR cH cK cB cN C0 C1 C2 C3 cM cT cZ cC cG cP:EC}{sl:Array (Option ED)}{kV:ED}(X:K.In h)(G:h.Ns mainGlobals mg)(hfa:mg "law"=some (.ref fa))
  (a:nsIn K mainGlobals "law"=some (some (.ref f))) (lk:K.lookup f=some ⟨oc,od,.func (fnOf "law" "law" (bx jV) (bc jV) (ak jV) .none kV dc pm an cd ct),sl⟩) (cc:codeIn K cd "law"=true) (kk:keepIn K (.ref f)=true) (R0':K28.Txt K mg) (R1':K28.Txt K mg->K28.Rows K mg) (R2':K28.Rows K mg->K28.Ck.Txt K mg) (R3':K28.Ck.CC K mg C) (R4':K28.Ck.Txt K mg->K28.Ck.CC K mg C->K28.Ck.Chk K mg C) (R5':K28.Ck.Chk K mg C->K28.Ck.Cks K mg C) (R6':K28.Ck.Cks K mg C->K28.Ck.Lw K mg C) (R7':K28.Ck.CH K mg CHd) (R8':K28.Rows K mg->K28.Rf.Nr K mg cR) (R9':K28.Ck.Cks K mg C->K28.Ck.CH K mg CHd->K28.Rf.Nr K mg cR->K28.Ck.Hds K mg C CHd cR cH) (R10':K28.CRd K mg CR) (R11':K28.Rows K mg->K28.CRd K mg CR->K28.Ck.Rdr K mg CR cN) (R12':K28.Ck.Wal K mg C0 C1 C2 C3) (R13':K28.Txt K mg->K28.Ck.Rds K mg cB) (R14':K28.Ck.Hds K mg C CHd cR cH->K28.Ck.Rdr K mg CR cN->K28.Ck.Wal K mg C0 C1 C2 C3->K28.Ck.Rds K mg cB->K28.Ck.Tbk K mg C CHd CR cR cH cK cB cN C0 C1 C2 C3) (R15':K28.Ck.Hds K mg C CHd cR cH->K28.Ck.Prt K mg C CHd cR cH cM cT cZ cC cG) (R16':K28.Ck.Tbk K mg C CHd CR cR cH cK cB cN C0 C1 C2 C3->K28.Ck.Prt K mg C CHd cR cH cM cT cZ cC cG->K28.Ck.Rng K mg C CHd CR cR cH cK cB cN C0 C1 C2 C3 cM cT cZ cC cG) (R17':K28.Ck.Lw K mg C->K28.Ck.Rng K mg C CHd CR cR cH cK cB cN C0 C1 C2 C3 cM cT cZ cC cG->K28.Ck.Lv K mg C CHd CR cR cH cK cB cN C0 C1 C2 C3 cM cT cZ cC cG cP) (R18':K28.Ck.Lv K mg C CHd CR cR cH cK cB cN C0 C1 C2 C3 cM cT cZ cC cG cP->K28.Ck.All K mg C CHd CR cR cH cK cB cN C0 C1 C2 C3 cM cT cZ cC cG cP):
  ∃fd:EH,(∀(s:EE) (v:ED),BindsTo s fd ⟨[v],[]⟩ [("_law_script",v)])/\∀base:EJ,K.In base->base.Ns mainGlobals mg->FnOk l.prog w K mg base CX0 41 fa fd ["_law_script"] (pH K):=by
 have e:=hfa.symm.trans (C9 X G a);cases e;have R0:=R0';have R1:=R1' R0;have R2:=R2' R1;have R3:=R3';have R4:=R4' R2 R3;have R5:=R5' R4;have R6:=R6' R5;have R7:=R7';have R8:=R8' R1;have R9:=R9' R5 R7 R8;have R10:=R10';have R11:=R11' R1 R10;have R12:=R12';have R13:=R13' R0;have R14:=R14' R9 R11 R12 R13;have R15:=R15' R9;have R16:=R16' R14 R15;have R17:=R17' R6 R16;have R18:=R18' R17;exact⟨fnOf "law" "law" (bx jV) (bc jV) (ak jV) .none kV dc pm an cd ct,λ s v=>.of_eq rfl,λ base _ _=>xb (fun_mk (st:=jV) lk cc kk) R18⟩
theorem walk {l:PySem.W.OpenLaw}{q:EF}{loose:List Str}{XP:(Str->Option ED)->EJ->Prop}{YP:EG->EJ->Prop}{d:DefRec}{K:Params->Frag}(hn:l.most=some 63)(hdf:d.params.defaults=[])
  (hY:∀(w:EG) (h:EJ),YP w h->(K w.params).In h)
  (F:∀(w:EG) (mg:Str->Option ED) (fa:EC) (h:EJ),(K w.params).In h->h.Ns mainGlobals mg->mg d.name=some (.ref fa)->
   ∃fd:EH,(∀(s:EE) (u:ED),BindsTo s fd ⟨[u],[]⟩ [("_law_script",u)])/\∀base:EJ,(K w.params).In base->base.Ns mainGlobals mg->FnOk l.prog w (K w.params) mg base CX0 41 fa fd ["_law_script"] (pH (K w.params))):
  PySem.W.WalkO q loose XP YP l.row.toRowW d [] (λ f vs=>PySem.call f vs):=
 L2.walk_of (n:=63) (k:=41) (x:="_law_script") (CX:=λ _=>CX0) (sp:=λ w=>pH (K w.params)) hn (by decide) hdf ⟨λ _=>rfl,by decide,by decide,rfl⟩ hY F (λ _ _ a ns hl _ hS=>⟨a,ns,rfl,hS,λ _=>rfl⟩) λ _ _ _ _ _ z=>z
end K28.Ck
open PySem PySem.W PyProof.Rows
structure PySem.W.Fast:Prop where(tw4823038371894277625 tw11522641936918927568 tw11125266027183613471 tw3530168677362217759 tw1045036287941635307 tw9723808407083973777 tw16848033296851662135 tw2955836088710767508 tw17739306796126811459 tw7517560525736391369 tw4300596926443972787 tw4358915384679235871 tw18136286909745583508 tw5107416049067180646 tw13543924555193341949 tw10567141667977850572 tw9407402317497739410 tw17321063810619694065 tw10730725733352577130 tw10872286845887892380 tw12394599364964945965 tw18067491040271754047 tw7123234996391726936 tw8178720385156915390 tw4617920153798665432 tw17651921582092276412 tw5032441021121747267 tw6614233388749231 tw1097838254350195544 tw13163414178102161022 tw7401411857318405222 tw9940195517307044360 tw182680653034691392 tw7157999869734699196 tw2252620213676867648 tw7589114590447935783 tw3376490021233782310 tw4428201405654560594 tw187431677048680772 tw4818339291715129167 tw17922441115386768786 tw13243227756359674739 tw11602481304624444652 tw7004404105776084011 tw3293333896632257659 tw3282857467115177903 tw9741444154349597149 tw2879716174739837447 tw14023514276734824399 tw17205125215736490911 tw3639374436158361425 tw15569209449692509936 tw5014042167203628901 tw6640417994762141044 tw9360368723567513103 tw9763184275540458418 tw17472913662585826502 tw13014373787966749658 tw15100070492997447856 tw2440950658433476000 tw15160649567745112272 tw7490512954748339506 tw15589790915093206371 tw6585060241358139414 tw10418330374913860861 tw727957120409994454 tw7683765622578980934 tw3007365526640287 tw15440933113361746445 tw10356436707956243708 tw6389201001033911643 tw6508085450064380194 tw13219285308834782562 tw5081751965923286744 tw18094256544169380535 tw2458095322668857332 tw17564909254686577610 tw18418205841802526785 tw13666547409139026774 tw17280007674458851361 tw2688178332961021088 tw5648847202161608807 tw1758317316533647361 tw8155172099588126282 tw1318024477797701494 tw5438300210045423657 tw843942636309738204 tw2177165295788450532 tw3060563892889592391 tw6010482538207380442 tw15561454339051385280 tw9524986761402597327 tw2251539623443037666 tw13245693212740976857 tw1913837170615205934 tw6578765625780872348 tw1617952809868515785 tw16244976035892893105 tw4715048533630120128 tw59947882100264219 tw15268926633523417220 tw6510555188250399619 tw8408140897046478723 tw18141155263336782829 tw581348780916435483 tw3588732600576382263 tw9254832542078110923 tw8568218106498781558 tw11495693925948436715 tw16666654586333122865 tw17412336007986982533 tw17742357213569778671 tw10229123601246536743 tw7321274071366945257 tw15189798274144666926 tw16147467988329999293 tw9156612062341549122 tw14626948730506620031 tw1311174558265359359 tw4676043473942310448 tw11650928432562480797 tw15549661373280793667 tw18374361817139609144 tw16303903532744791405 tw2266245648071306452 tw9320604168540121912 tw12486339028562287976 tw14556413273443311628 tw13715352105935580866 tw1540998370874557265 tw2536948368999624630 tw3099552791927543804 tw6401165088229647210 tw11297725655781807877 tw18382488504954654759 tw16091987098834724520 tw12507613054266789948 tw16808974956982023981 tw3673247902861360488 tw7603507986092391928 tw16871640676680321654 tw8252830927605097518 tw11801100385137579457 tw2585373664497960498 tw5708206717834347450 tw16638764307642836921 tw16548500755828719264 tw6799017058060653938 tw6966035691123032589 tw6661204439993525210 tw4302137689947968793 tw4780868442231705527 tw12116045269469242273 tw2960053085690009514 tw5109636195911620655 tw13409254819752632693 tw5704653171072019138 tw7872082826421743521 tw16070363064056797563 tw17550254760438436259 tw11472800140447852529 tw2619346428907740544 tw11486420984344682575 tw8560992866629016355 tw2458546849823876454 tw2180652825829257892 tw11395692479882153368 tw12312136283697602388 tw4672766049810733885 tw15123381289550451370 tw8504288588350323361 tw10545199392368801671 tw1871312466026567739 tw16305074295273664283 tw10119727189468901010 tw10360283051938424377 tw12789529027522421980 tw7070391565937181205 tw819586971896373204 tw4236660550444363302 tw6390207316925898282 tw2550583906929712037 tw13267114757878871551 tw11912524181770993919 tw10580255576761986074 tw10087454155888783701 tw3532011795281288303 tw5433612412429495188 tw1098845550709226198 tw6668017175274276644 tw1466010284041907480 tw12270859815830941235 tw18355688198150607305 tw13195517726795696309 tw2406368336690502533 tw5187785602044787234 tw11898334653284526859 tw4325185264805530431 tw735937617076218472 tw5641804268824780701 tw5398325179202064502 tw1848082238180798279 tw16117880876040441744 tw9822193922222823895 tw8295010798401492677 tw4091547446772222048 tw10095028516345281118 tw1204984113840594516 tw887963369484504471 tw8552993164462830349 tw3323916474155408416 tw348108384268501131 tw15586310515356286346 tw6833935689469487926 tw16817503941015088519 tw493119070031528178 tw13932913040352642134 tw9299788396955043360 tw4096054793844988020 tw3168187379184962781 tw14593333442241033550 tw11368258097960099338 tw2850596075267231093 tw6190507322076800411 tw11588126544553781447 tw11981425676916319704 tw5263527074659130327 tw5271420493788106603 tw9042810924905214588 tw2498589928325394032 tw9486988071648640070 tw10762054981606726731 tw613463295711032674 tw18161081917121866160 tw9981079642415352603 tw3086365936094332030 tw17254709091544508217 tw2657751190389071657 tw13062303048516656375 tw8631891008096111055 tw17502017265715718638 tw11625938560118982282 tw7378033786463417329 tw3147432076877573075 tw3760648989931782931 tw1321043596623841833 tw3513104174778847625 tw13631784760321563929 tw15181364256844584654 tw10953125184413478169 tw9070898692145093 tw9829448713480105282 tw12547084978213753357 tw10795052058484009230 tw5525168033789224792 tw7584193340591893617 tw11026702477255405004 tw16449149857544901364 tw3674423119538847702 tw15601037967010312478 tw7439603177321984814 tw1648181810686325260 tw5662486915594249012 tw448013511734254724 tw6777558327802967789 tw15350111479841100098 tw4958483438661692064 tw11504155554347241258 tw11683813065179380240 tw5757987752248673113 tw766767865416911637 tw10360350068595715673 tw4384267638963518600 tw9744990870480545878 tw9287646257138446789 tw4281525962937156938 tw6419265898762206390 tw14105688482637568207 tw10480782666694620044 tw11310444953958186406 tw12671106590398466257 tw10151852936966698787 tw8107538316657586498 tw16110309593782702784 tw8935234367539154945 tw470531682526617467 tw1916926023114785051 tw7705696917337451762 tw1626372657012623725 tw12763212539823931324 tw11201116478859554210 tw12115997176907884024 tw17067063921868381710 tw15071828240309546661 tw13186125094097331833 tw15530622900294976049 tw11856208453775661295 tw9955028664324892881 tw5507327728049953228 tw1487781513922836328 tw11787415498472059128 tw14715858702485473264 tw2193533053049089273 tw2763216026094835929 tw8580267586229005516 tw9740298134521525361 tw11964507266199841162 tw145929028480314790 tw1427469180592965254 tw12529841893714423413 tw4217275148968102243 tw9967340751977520042 tw6224663584343624639 tw10718157842399699506 tw8872088816455641820 tw6027231429360484652 tw8432876429471977515 tw18244656061544908883 tw7365063468368657233 tw5181725496944536907 tw6474652966958752567 tw6215405109693962479 tw3337087373367653890 tw14401768263052913291 tw9830303375515654662 tw13004285286964900470 tw9592358084701641410 tw15196570898660816862 tw12686740298933267202 tw15857217711236681624 tw15041380504854248118 tw4607372858052140624 tw1530603458273800319 tw5154174211020886722 tw4155286159393849010 tw2573603591050059397 tw3461035259530364070 tw540512475381944616 tw17358526543398590027 tw10940404999847810360 tw9265616328249329254 tw13890689044286426244 tw2328915295584059163 tw14261223292987695407 tw13979335723926479612 tw15143855277878475979 tw94672960862787701 tw12461010504280485580 tw10981864792181782478 tw7598890573769204691 tw15588513368494629118 tw8964263628803705673 tw6748290381378564286 tw9651431057822601312 tw14803645049575961217 tw8784143225660293000 tw17535069425999869169 tw2164144176261119661 tw4064815475981421107 tw2147990949685666262 tw1202599964414742025 tw3719607087586895473 tw10859164345050688692 tw16957186862204153552 tw941108536639349583 tw9276849644333510343 tw6984430936376423842 tw6183987033057568917 tw4611428464173547064 tw4314214800028686704 tw2753621497764990448 tw2261834999892004546 tw18078920607317455390 tw1631088851373537902 tw16108951244886916704 tw14559131650309835391 tw13948313532725651382 tw13531928090764321795 tw12852237263653564009 tw1277446037232519530 tw12594070359399488840 tw11688943584358174512 tw10196418819791314755 tw8308430216995059734 tw5611273423433526618 tw12795036925185564613 tw3910898455073762749 tw15468497171076517316 tw16145846521219959232 tw11583734419131330685 tw16002461316718293792 tw16393886301560618107 tw10050154061270898485 tw6373089727167140131 tw11821637786181654109 tw14509577166041901727 tw734364615404095290 tw133215961379953093 tw15483146465366538074 tw6217283381064118899 tw3117715709198188924 tw16130814257793059331 tw18077614541932793277 tw15194490524645178848 tw11857730192924597931 tw18047274386007840313 tw15705884829771191631 tw12884473489784833308 tw2218022267783630102 tw822207039454425978 tw13905546038250055648 tw1055760923149063463 tw11043929284216698073 tw8938280323230670497 tw2038031470089563222 tw1932910105320596381 tw13186738503381649847 tw18318687299037885591 tw13690839032223418351 tw10432020548433165245 tw12095469656096743756 tw1125099985899095462 tw6790223364560297527 tw6981078278074721674 tw6121971167547881582 tw1580187713141720678 tw584021209644011118 tw17269915502372212044 tw12775952570342454653 tw2871349693551095363 tw1417122739567345544 tw17174271405633233498 tw13908248458345229421 tw12686510961602677406 tw2044576338828860924 tw16225686373822066569 tw17940538709184989981 tw4812878311418594178 tw9769370092626972547 tw4116380121099508933 tw9691428121691618498 tw6300484584894067243 tw12634223070229545031 tw6826337081799782238 tw13932458775043823149 tw15635178069376750283 tw6658928497825784219 tw4635750733682096838 tw399683857898509696 tw10807061651800840331 tw5970875907851668886 tw4813264831226425817 tw16100960213622053433 tw11849492815885535207 tw4548564232673392653 tw15571933471011749175 tw11946020274788655764 tw18286743415543975778 tw2175860205335133616 tw10514387486740920504 tw4776719323926347928 tw13673561162456685181 tw1149636290983804779 tw1339475532985388779 tw18225849294461561312 tw15379114048785014050 tw15346535218885088036 tw7593759449123241499 tw16576548163857408091 tw16267387692942825334 tw8124387480957878894 tw4676073211503793761 tw13822575025702534483 tw3521736606556168248 tw10770375310228823123 tw17701523151526751696 tw17068467278342137961 tw2761586534863760111 tw17398909661542959267 tw16399771652589711391 tw16035502496520842143 tw3468670761794250860 tw10392828742415170283 tw1969977127966532476 tw14527758874395247349 tw4502373144863652517 tw17428102110957898949 tw11424412282481243198 tw15392731744855544797 tw291735997463647519 tw17988348075212791586 tw4426412413391381111 tw2154038655300557508 tw6003688213609403938 tw4399060793295355778 tw4140277411578090002 tw10232161892799823976 tw9762302442860457687 tw9823438616770044105 tw3500426362307195599 tw17373802067701200089 tw17082473643242558675 tw6400786498476401676 tw6305640056104726229 tw229574377973000948 tw1550964193224446141 tw11029677914766623907 tw10530831515963303555 tw6312338782765204919 tw3392411620003111368 tw15734311553644506119 tw14099538988968713747 tw11704155136037542864 tw11158720900276605114 tw13046655076837714608 tw782583975651920181 tw7052654892967671728 tw6648578531494156911 tw5267895644112320836 tw5211015613966874101 tw5068695863586862084 tw3365707936994563103 tw15506170936170608168 tw1331598294808075299 tw12006183328749873969 tw11521391247526137467 tw6069706543073664304 tw16560279473439248859 tw16138693514731873047 tw15674172239281063149 tw1327412558905268074 tw10269480556823177145 tw3589957022807189209 tw7968377489356439970 tw7960702092522220966 tw7249178825654937926 tw18277870700154952952 tw5676238774971680861 tw1630457366480291359 tw12733783943021299290 tw8089288189745367111 tw5645565241299142352 tw2520107662763091644 tw1837802625635994903 tw17044417218059024481 tw1374660584826765804 tw11170792934089334882 tw838077391744932207 tw15581744194063215696 tw11863785015138038925 tw7363555649338906643 tw18390794868347111339 tw1351614111131695255 tw7964196892996545110 tw4752407393131687017 tw11906742522936808271 tw9523036748989129286 tw3884784775042574728 tw15862774015574093080 tw2885279188654545032 tw3193880139900112095 tw18223951451629621283 tw1563545176953948347 tw12854908528973545443 tw5833465548372620601 tw13958253632147942768 tw11516774395875003077 tw7953391666679035870 tw11720966552511640886 tw11151105264322547658 tw10712304904554524382 tw9356329845868137022 tw3714206200759324634 tw16630308904616408331 tw637710125430083678 tw5561562975552613297 tw5407974077075197113 tw2928094126501994660 tw16875237941459152684 tw11756607529902301037 tw17432596353782981140 tw2312102819431553681 tw17684524865935675175 tw10725459783744666393 tw12133743248872012891 tw4551296491624367079 tw4231268529550094042 tw3448856983174985471 tw16721222797077715330 tw10765190534392748857 tw5516572779370138292 tw13475498511024170516 tw5683832493430374103 tw2354164151005566583 tw16802229092946047440 tw1063161721533948633 tw579317680283505547 tw16200812495027817800 tw2719858216469559288 tw6421266191942817076 tw17029853497889996863 tw4758268260449652921 tw4729326701662018094 tw280738351144489268 tw11384084259955926032 tw5582546495085668943 tw426487373457371025 tw2630576561032670051 tw2500788251683234469 tw1163092379153580492 tw685110937562375368 tw9673246450124153000 tw6670269964341070070 tw5603053400564987408 tw3290884029115940617 tw6855370493388250474 tw1524443261597335583 tw16899464745710453364 tw5402055627929765764 tw806470318941759047 tw10775279811345169186 tw15866769646131705136 tw10763089804512742562 tw2319958801486306009 tw1155795868959339802 tw1864021656042904 tw13711248841958967299 tw7466485662559845958 tw15093151589910431150 tw15126923312887574808 tw1343844469160926934 tw12555738452904397638 tw8996808798418509255 tw6702376869326035884 tw6023667035098302107 tw5194169923334006740 tw700175233538639061 tw10865825125539345031 tw6179448988723201557 tw3572153354719245302 tw15236760619646568238 tw1461602382410890816 tw14601924290688984936 tw12457987866800134950 tw9438199945975690396 tw6557584975557815527 tw17701885594863334913 tw17642199757664693776 tw16501910039200206771 tw409563641793480831 tw17058973302432341896 tw6516254346714560266 tw12471181669400503230 tw2579153057977867478 tw4833808419362088674 tw622773208598066979 tw13187521103419167062 tw8762409128185601525 tw8611478228186050846 tw7316672686857345082 tw711381118402809796 tw2142351810558239817 tw1632855341532824996 tw2967738331151330323 tw14965038856432361398 tw14649695057647157776 tw13717132097498711496 tw12447923303598236963 tw6543942725193709753 tw16522623795388976009 tw10416156655769394965 tw3902588658525562553 tw2502734017267385077 tw11464744310378726122 tw8943426757508641772 tw8871693987765810783 tw8688488233087180218 tw8585687028245869256 tw7306100011460657226 tw6983688504373400443 tw556247660180663389 tw5125655349413337182 tw4176479300471304645 tw4100434553424243534 tw18339480995778980215 tw17652553962970690255 tw16044562185336053896 tw16009653751097712175 tw15490861953131286527 tw14947595499150783443 tw14834509099192191021 tw14744562249306264905 tw14603358563436069471 tw14317881229455608994 tw12457462337159894269 tw10656562503713804505 tw1026556169424313538 tw9322738437351132969 tw14211805161970203373 tw8544932869666980745 tw333844696582006339 tw2749883015536168992 tw2452919983467390560 tw1985013980924323382 tw15645788882726757701 tw13533750271549508003 tw10699016914848593735 tw9715274904000487920 tw14096479978431736110 tw15174309864651108062 tw2146000600901671529 tw2917583883271095323 tw8263081782380056509 tw4575959340428285890 tw16391620663412243179 tw1455557904240604842 tw10109232017956440161 tw6470366750293794096 tw4522490157647364096 tw9244597011641432986 tw16977134480719777064 tw14411955832913023116 tw5375316883040499201 tw4208818593173507607 tw6422423443855238122 tw6357990490337262143 tw15861891189540748719 tw10266441933693750237 tw4162187884895213173 tw4985152738609313878 tw9572281625338020149 tw7511118806694459425 tw6307359543475656755 tw5611297414076704844 tw4952248166699548523 tw448654831905826065 tw4475260244325153079 tw3861541656039262314 tw2727767868395232746 tw2673565680431663448 tw2383883598238771031 tw16925646132687301146 tw15012884660643376896 tw9902571778563971160 tw18318671202110720462 tw15019316965739979799 tw9919221409785271425 tw8930777585820484359 tw8444999272384837025 tw7319689512419785800 tw6248844132217290871 tw5098918786424824764 tw4487192579331447290 tw4289582521069600494 tw3644095536901337768 tw17685287326319712950 tw16553367280747919983 tw16440434345883364305 tw16028296180865572393 tw16018746275697913352 tw15701062550351279121 tw15486661830054531964 tw15467168487901158154 tw15435168212928958838 tw1527240992897992187 tw14877065054000073409 tw13183561454438646256 tw13142573045737587406 tw13061379019186452886 tw11800771298814359686 tw11766253365942781033 tw11529391675588686681 tw11338104088895728431 tw10031647147656405851 tw12731398755853636389 tw9142727798578984720 tw14438700037714880293 tw17950071372523123636 tw9767615885514472995 tw928061685619201677 tw8677198867113818950 tw8226179406058842069 tw7772467117577459756 tw7093105187471424477 tw5402349317892680516 tw5178532670861801339 tw4320238204167269132 tw4166089720242166314 tw3570026934766463650 tw3373880932114657714 tw2119863375842515496 tw1962120736468518150 tw18092422639672008735 tw17218778489556026465 tw15553544928186333885 tw1547607397751367547 tw1466326966850840700 tw14568595442943885778 tw14503631238427660630 tw1370338657443458927 tw13417303817295934934 tw12705751291186338861 tw12427473852772972460 tw11986525637970401782 tw11186680558511525521 tw1056872735960671732 tw2956487160483088491 tw7148308678920805281 tw15810291701155493328 tw14977563643136057124 tw9125379169380126503 tw827635256701232912 tw6194586098389050613 tw5768410228198255657 tw5236895015183182647 tw5232644897721423624 tw4586324581325506926 tw3898248804280226247 tw3686559944667572131 tw3667959784860642678 tw3179367898123950815 tw3064433106337403518 tw2891007496592184162 tw17289624210512691331 tw16435492491653056046 tw1635669709230259470 tw16286184992104797046 tw15791872547635032371 tw15401081207649259783 tw13331766696470499659 tw12121935243857544090 tw1082161720407297623 tw9627950022150207797 tw9387481470732114087 tw8888586698054616328 tw853227268077556017 tw74459030307419576 tw742121953168937603 tw6948809872922048371 tw6495221406997517596 tw5725844245649378755 tw5555113722019182846 tw4995335655800152849 tw332042498892148002 tw17737613457446413163 tw17733185338046139268 tw17676402930485696997 tw17137764137825958241 tw17062113841318828968 tw16884871383559275758 tw16297906880445883556 tw15925565461969324888 tw15661708119353794733 tw15095766973874463828 tw14944065213688468360 tw14708595058458591195 tw1217344374753069243 tw10615963968820992374 tw10566724553961057878 tw10303447929359035896 tw2750172777697559782 tw13076139440513453520 tw9928346935847811195 tw979354128519284468 tw9715085032200969155 tw9633196086332439825 tw9508110330641864217 tw9474766457107385204 tw9374284549165657670 tw9287343584155554976 tw9244896344084598284 tw9217117029821955887 tw9179141415578989235 tw9176550005916476245 tw9102821789030935031 tw9095741658143885905 tw9056658729687769203 tw9056655643236948214 tw890491081442903971 tw8894930753912172557 tw8842483513766670721 tw8841778702376812105 tw8815629621114879281 tw8801113967255378479 tw8657934826493058794 tw8644827714260039730 tw8531541574251835668 tw8505864353590862164 tw8501701297002368507 tw8501600901313495519 tw8358618454637074317 tw8317143978503160130 tw831136164452542591 tw8306778032803898925 tw8254024404317187633 tw810628426020281976 tw8102831803830046767 tw8092907800354517468 tw8057034934817960366 tw8019923645751244521 tw7991640394953276009 tw7893233946634440815 tw7871275848516936873 tw7767173259774886830 tw7705358611992743660 tw7646423143196984107 tw7607691515885515698 tw7562842017805963575 tw7555467571515920525 tw7549446510897559321 tw751845144630383325 tw7452434483060960799 tw7368048263638130056 tw7283948557954401674 tw7242889485992949163 tw720135408905530426 tw704259302206937996 tw6813381796879999706 tw6788617811332999381 tw6775419888722810536 tw6723174648738857160 tw6690163392296860191 tw659670641047998183 tw6578498097632797021 tw6475218667152071283 tw6422575388539431701 tw6396607652965125164 tw6284011674241282974 tw6267710231682841128 tw6060127032747327192 tw5876415428385849814 tw5865528636254414525 tw5838032044442364704 tw5796981630315216231 tw5754350967410678652 tw5681734357058673265 tw5595263088397053185 tw5544941581990241052 tw5516343721489142571 tw5482133593920067530 tw545392159855471630 tw5351733209350022776 tw5348901530507183680 tw5287198871619634235 tw5229780060133691466 tw516797605381365437 tw5150394985658303638 tw5116331917509846975 tw5096110508079381679 tw5095266637415052047 tw5076053123771475820 tw4977626584463783447 tw486821355073060672 tw4862063638609933782 tw478715887575720046 tw4785495573521824054 tw477027359287871345 tw4604591184526808654 tw4571403339563641319 tw4535785524072829483 tw4510065761088979710 tw4416425766233489932 tw439939253661326539 tw4357840816500744043 tw4344442968104795635 tw4265754747858024124 tw4221418283926852102 tw4208927344924235148 tw4099447434164724340 tw4087675915779806761 tw4076549040995958600 tw3973386029941019292 tw3917648740078424703 tw3908896803372678261 tw3848699142227596922 tw380111810914667008 tw3754575738826793517 tw3606466490841130758 tw3520956963106385739 tw3481441893813831352 tw3441580609528252148 tw3335950164955671093 tw3273069825276820978 tw3147411335304899944 tw3114634430598920565 tw2973555647148233333 tw2871577610326871686 tw2862634166194649942 tw2837186658125944627 tw2769393380994028645 tw2741448247595131850 tw2601795054750366813 tw2567463408013213534 tw2494233598046045134 tw2438151878856161911 tw2418082370016673105 tw2391232850071409462 tw2346476804014294350 tw2194750593976788105 tw2174293707419277702 tw2069962601625832261 tw2056863855435148895 tw2033778222317847141 tw1971161305186780676 tw1909320642125387728 tw18183164510511527482 tw18132483430566676666 tw18031856996373135378 tw18009021650368999195 tw18000712239242571616 tw17938535458405286232 tw17852359270164778148 tw1784190365311883519 tw17680901255396330683 tw17618301550054954727 tw1759276401095416514 tw17571741469144711572 tw17511754950057885186 tw17476932817294206680 tw17406713237029282279 tw17396766918312019297 tw17384920863787563670 tw17247165782545072239 tw17233965668415327700 tw17222204662951822541 tw17216189967668625287 tw17153870795822324172 tw17136731599014731 tw16974497833894587659 tw1696438399630856329 tw1685906945964284849 tw16806569744283637759 tw16753951130480517188 tw16535377408366769640 tw16400531750504742618 tw16384324266863605646 tw16318351292747756545 tw1630011211513166027 tw16287805927221957527 tw16271358636613712226 tw16260237043296906552 tw16129319538581795995 tw16078118230344841547 tw15903644627248575756 tw15862944980391758864 tw15857019648870747851 tw15777008616585217757 tw15479532822723334993 tw15444355630942052845 tw15411210120834458302 tw15236379147680617176 tw15234362862471373373 tw15057328434618316795 tw14981167776353253255 tw14924905645864212340 tw14794996236661237408 tw14767537670783387670 tw14740629766487029464 tw1466918406834608377 tw14611576398907008977 tw14448425823934714058 tw14419036958357500248 tw14376956403039178884 tw14352404304525211251 tw14348904528648595492 tw14333183928480227699 tw14302412450619491041 tw14246885552742629782 tw14223654523051637184 tw14062749121989695767 tw14056484300639507925 tw14050494064197847398 tw13970745288540723158 tw13964857749836648798 tw1373717893380595032 tw13696874454341762796 tw13662079125918114351 tw13660392307219729352 tw13645162452353494773 tw13630803918938785044 tw13621371482582922545 tw13552800538922954089 tw13449818509675840361 tw13342349910848999101 tw13284339752946064476 tw13180114008744613616 tw13129131168436230232 tw13085603771261875207 tw13035877137440414038 tw13029437663396822496 tw13005365691886995531 tw12997531992698335668 tw12890043511170767346 tw12852810616037908745 tw12837050754749377407 tw12827578806001722304 tw12784830769116766471 tw12726753337761388448 tw12716290557871738916 tw1271443117286532657 tw12672098879671170434 tw12661895430726424455 tw12496978009321751293 tw12337543924687908040 tw12280754035795202465 tw12263628029713572317 tw12169067345707801354 tw12145468336827381834 tw11886780341644989782 tw11793514735748497398 tw11742477650907052286 tw11670365145738593549 tw11622397094240669369 tw11360074952835816781 tw11295017691231729467 tw11290627643921058069 tw11267850567847425382 tw11241343366079767167 tw11234523402666607801 tw11175342820320623825 tw11101154254916833367 tw11082473320361172041 tw10949120252856210685 tw10930140563058249752 tw10842539752883671522 tw10836235090038072735 tw10792034678551704975 tw10755271800833156574 tw10626612066026937781 tw10616441487550583326 tw10577304483120655778 tw1044744364695428089 tw1030277704494253895 tw10280171070252337694 tw10265722178879766803 tw1024516867513715449 tw10242934682057326439 tw10117858405927640880 tw10048081315391903060 tw10031714693390883595 tw10020694455914129920:True)
theorem Hk4.cut {α β γ:Type}{f:α->γ}{g:β->γ}(k:Nat){a:List α}{b:List β}(x:(List.take k a).map f=(List.take k b).map g)(y:(List.drop k a).map f=(List.drop k b).map g):a.map f=b.map g:=by
 rw[← List.take_append_drop k a,← List.take_append_drop k b,List.map_append,List.map_append,x,y]
theorem Hk4.of {K:PySem.Params->PySem.W.Frag}{as:List PySem.Addr}(e:∀P,as=(K P).map (·.1))(w:PySem.World)(s:PySem.Shared)(z:((List.take 171 as).map s.heap.get?,(List.take 171 (List.drop 171 as)).map s.heap.get?,(List.take 171 (List.drop 171 (List.drop 171 as))).map s.heap.get?,(List.drop 171 (List.drop 171 (List.drop 171 as))).map s.heap.get?)=((List.take 171 (K w.params)).map (fun p=>some p.2),(List.take 171 (List.drop 171 (K w.params))).map (fun p=>some p.2),(List.take 171 (List.drop 171 (List.drop 171 (K w.params)))).map (fun p=>some p.2),(List.drop 171 (List.drop 171 (List.drop 171 (K w.params)))).map (fun p=>some p.2))):PySem.W.InK K w s.heap:=by
 simp only[Prod.mk.injEq] at z
 exact .of e w s (Hk4.cut 171 z.1 (Hk4.cut 171 z.2.1 (Hk4.cut 171 z.2.2.1 z.2.2.2)))
local macro_rules|`(tactic|refine $f:ident $a1 $a2 $a3 $a4 $y $v $yp $n $hl ($o:ident ($h:ident $k $a $p)) $t*)=>`(tactic|refine' $f $a1 $a2 $a3 $a4 (Yf:=fun s=>((List.take 171 $a).map s.heap.get?,(List.take 171 (List.drop 171 $a)).map s.heap.get?,(List.take 171 (List.drop 171 (List.drop 171 $a))).map s.heap.get?,(List.drop 171 (List.drop 171 (List.drop 171 $a))).map s.heap.get?)) (Ya:=fun w=>((List.take 171 ($k w.params)).map (fun p=>some p.2),(List.take 171 (List.drop 171 ($k w.params))).map (fun p=>some p.2),(List.take 171 (List.drop 171 (List.drop 171 ($k w.params)))).map (fun p=>some p.2),(List.drop 171 (List.drop 171 (List.drop 171 ($k w.params)))).map (fun p=>some p.2))) $yp $n $hl (Hk4.of $p) $t*)
set_option maxRecDepth 100000 in
set_option maxHeartbeats 0 in
theorem PySem.Challenge.cw_balepress_k28_ranges_holds : PySem.Challenge.rw_balepress_k28_ranges.Holds := by
 w_on;o_law;k_head;(case hw=>w_witness2)
 k_fill
 refine' K28.Ck.walk (l:=PySem.Challenge.rw_balepress_k28_ranges) rfl rfl ?hY ?F
 case hY=>first|exact(λ w h Y=>kIn_of Y)|exact(λ w h Y=>PySem.W.km_in_of Y)
 case F=>
  intro w mg fa h KX G hmg
  refine' K28.Ck.hd KX G hmg ?a ?l ?c ?k ⟨?_,?_,?_,?_,?_,?_,?_,?_,?_,?_,?_,?_,?_,?_,?_,?_,?_,?_,?_,?_,?_,?_,?_,?_,?_,?_,?_,?_⟩ (λ R0=>⟨R0,?_,?_,?_⟩) (λ R1=>⟨R1,?_,?_⟩) ⟨?_,?_,?_,?_⟩ (λ R2 R3=>⟨R2,R3,?_,?_,?_,?_,?_,?_,?_⟩) (λ R4=>⟨R4,?_,?_,?_,?_⟩) (λ R5=>⟨R5,?_,?_,?_,?_,?_,?_,?_,?_⟩) ⟨?_,?_,?_,?_,?_,?_,?_⟩ (λ R1=>⟨R1,?_,?_,?_⟩) (λ R5 R7 R8=>⟨R5,R7,R8,?_,?_,?_,?_,?_,?_⟩) ⟨?_,?_,?_⟩ (λ R1 R10=>⟨R1,R10,?_,?_,?_,?_,?_,?_,?_,?_,?_,?_,?_⟩) ⟨?_,?_,?_,?_,?_,?_,?_,?_,?_,?_,?_,?_,?_,?_,?_⟩ (λ R0=>⟨R0,?_,?_,?_,?_,?_,?_⟩) (λ R9 R11 R12 R13=>⟨R9,R11,R12,R13,?_,?_,?_,?_,?_,?_,?_,?_,?_,?_,?_,?_⟩) (λ R9=>⟨R9,?_,?_,?_,?_,?_,?_,?_,?_,?_,?_,?_,?_,?_,?_,?_,?_,?_,?_,?_,?_,?_,?_,?_,?_,?_,?_,?_,?_⟩) (λ R14 R15=>⟨R14,R15,?_,?_,?_,?_,?_⟩) (λ R6 R16=>⟨R6,R16,?_,?_,?_,?_,?_,?_,?_,?_,?_⟩) (λ R17=>⟨R17,?_,?_,?_,?_,?_,?_,?_,?_,?_⟩)
  (case a=>k_is);(case l=>k_is);(case c=>k_is);(case k=>k_is)
  all_goals try (refine' K28.Ck.ers ?_ ?_ ?_ ?_ ?_ ?_ ?_ ?_ ?_ ?_ ?_ ?_ ?_ ?_ ?_ ?_ ?_ ?_ ?_ ?_ ?_ ?_ ?_ ?_ ?_ ?_ ?_ ?_ ?_ ?_ ?_ ?_ ?_ ?_ ?_ ?_ ?_ ?_ ?_ ?_ ?_ ?_ ?_ ?_ ?_ ?_ ?_ ?_ ?_ ?_ ?_ ?_ ?_ ?_ ?_ ?_ ?_ ?_ ?_ ?_ ?_ ?_ ?_ ?_ ?_ ?_)
  all_goals try (refine' mg_of KX G ?_;k_is)
  all_goals try (refine' PySem.W.mg_none_of KX G ?_;k_is)
  all_goals try (refine' K28.Ck.nI KX G ?a;case a=>k_is)
  all_goals try ((first|(refine' ⟨_,_,L2.fun_mk ?l ?c ?k,mg_of KX G ?a,.all ?b⟩;case a=>k_is)|(refine' ⟨_,_,L2.fun_mk ?l ?c ?k,⟨?a,?i,?k⟩,.all ?b⟩;(case a=>k_is);case i=>k_is));(case l=>k_is);(case c=>k_is);(case k=>k_is);(case b=>first|exact K28.Ck.m0 rfl|exact K28.Ck.mS λ _=>K28.Ck.m0 rfl|exact K28.Ck.mS λ _=>K28.Ck.mS λ _=>K28.Ck.m0 rfl|exact K28.Ck.mS λ _=>K28.Ck.mS λ _=>K28.Ck.mS λ _=>K28.Ck.m0 rfl|exact K28.Ck.mS λ _=>K28.Ck.mS λ _=>K28.Ck.mS λ _=>K28.Ck.mS λ _=>K28.Ck.m0 rfl|exact K28.Ck.mS λ _=>K28.Ck.mS λ _=>K28.Ck.mS λ _=>K28.Ck.mS λ _=>K28.Ck.mS λ _=>K28.Ck.m0 rfl))
  all_goals try (refine' K28.Ck.inI ?l1 ?c1 ?k1 ?e1 (.all ?b1) ?m1 ?a1 ?i1 ?q1;(case a1=>k_is);(case l1=>k_is);(case c1=>k_is);(case k1=>k_is);(case m1=>k_is);(case i1=>k_is);(case q1=>k_is);(case e1=>rfl);(case b1=>first|exact K28.Ck.m0 rfl|exact K28.Ck.mS λ _=>K28.Ck.m0 rfl|exact K28.Ck.mS λ _=>K28.Ck.mS λ _=>K28.Ck.m0 rfl|exact K28.Ck.mS λ _=>K28.Ck.mS λ _=>K28.Ck.mS λ _=>K28.Ck.m0 rfl|exact K28.Ck.mS λ _=>K28.Ck.mS λ _=>K28.Ck.mS λ _=>K28.Ck.mS λ _=>K28.Ck.m0 rfl|exact K28.Ck.mS λ _=>K28.Ck.mS λ _=>K28.Ck.mS λ _=>K28.Ck.mS λ _=>K28.Ck.mS λ _=>K28.Ck.m0 rfl))
  all_goals try ((refine' K28.Ck.ftI KX G ?a ?l ?c ?k ?b);(case a=>k_is);(case l=>k_is);(case c=>k_is);(case k=>k_is);(case b=>refine' K28.Ck.b2 λ s _ _ hX=>binds_K hX ?x ?t ?y ?z ?w;(case x=>rfl);(case t=>k_is);(case y=>rfl);(case z=>rfl);case w=>rfl))
  all_goals try (refine' K28.Ck.fkI KX G ?a ?l ?c ?k ?b ?d;(case a=>k_is);(case l=>k_is);(case c=>k_is);(case k=>k_is);(case b=>refine' K28.Ck.b2 λ s _ _ hX=>binds_K hX ?x ?t ?y ?z ?w;(case x=>rfl);(case t=>k_is);(case y=>rfl);(case z=>rfl);case w=>rfl);(case d=>refine' K28.Ck.b1 λ s _ hX=>binds_K hX ?x ?t ?y ?z ?w;(case x=>rfl);(case t=>k_is);(case y=>rfl);(case z=>rfl);case w=>rfl))
  all_goals try (refine' K28.Ck.ciI ?l2 ?c2 ?k2 ?d2 ?m2 ?a2 ?i2 ?q2;(case a2=>k_is);(case l2=>k_is);(case c2=>k_is);(case k2=>k_is);(case m2=>k_is);(case i2=>k_is);(case q2=>k_is);(case d2=>refine' K28.Ck.b2 λ s _ _ hX=>binds_K hX ?x ?t ?y ?z ?w;(case x=>rfl);(case t=>k_is);(case y=>rfl);(case z=>rfl);case w=>rfl))
  all_goals try k_is
  all_goals try (refine' K28.Ck.mkI KX G ?a ?l;(case a=>k_is);case l=>k_is)
  all_goals try (refine' K28.Ck.tabI KX G ?a ?l ?s;(case a=>k_is);(case l=>k_is);case s=>rfl)
  all_goals try (first|refine' K28.Ck.Exc1.mk ?_ ?_ ?_|refine' L2.Cls.mk ?_ ?_ ?_ ?_|refine' L2.MkB.mk ?_ ?_ ?_|refine' L2.ExI.mk ?_ ?_ ?_ ?_ ?_ ?_ ?_ ?_|unfold L2.NoAttr)
  all_goals try k_is
  all_goals try ((first|refine' K28.Ck.b2 λ s _ _ hX=>binds_K hX ?x ?t ?y ?z ?w|refine' K28.Ck.b1 λ s _ hX=>binds_K hX ?x ?t ?y ?z ?w);(case x=>rfl);(case t=>k_is);(case y=>rfl);(case z=>rfl);case w=>rfl)
  all_goals try (first|exact K28.Ck.m0 rfl|exact K28.Ck.mS λ _=>K28.Ck.m0 rfl|exact K28.Ck.mS λ _=>K28.Ck.mS λ _=>K28.Ck.m0 rfl|exact K28.Ck.mS λ _=>K28.Ck.mS λ _=>K28.Ck.mS λ _=>K28.Ck.m0 rfl|exact K28.Ck.mS λ _=>K28.Ck.mS λ _=>K28.Ck.mS λ _=>K28.Ck.mS λ _=>K28.Ck.m0 rfl|exact K28.Ck.mS λ _=>K28.Ck.mS λ _=>K28.Ck.mS λ _=>K28.Ck.mS λ _=>K28.Ck.mS λ _=>K28.Ck.m0 rfl)
  all_goals try unfold L2.ExC
  all_goals try kernel_rfl
  all_goals decide
